/- The walk of what takes a reader's panic in tell.Decode. -/
import Derived.Test.YtokmpfkmkhnopaaTlB
namespace Go.Proofs.Ytokmpfkmkhnopaa
open Go.RowKit

theorem tcatch_idle (p q : Value) (w : World) :
    CallsD Try.prog 31 #[p, q] .returning w fun e u' w' => e = .returned (.tuple #[]) ∧ u' = .returning ∧ w' = w := by
  refine callsD_of_wpS Try.func31 rfl fun c₀ cs hu => ?_
  apply wpS_seq
  apply wpS_region
  simp [wpOpsS, go_sem, recoverD, hu, Try.ntmps31, Exit.thenS]
  refine (gaveup_nil w).mono ?_
  rintro e w' ⟨rfl, rfl⟩
  refine wpS_cond (t := false) (by simp [Act.eval, Array.replicate]) ?_
  simp only [Bool.false_eq_true, if_false]
  refine wpS_of_wp (wp_skip ?_)
  cases c₀
  simp_all [bodyPostS, results, Try.results31]

/-- What a call that gave up leaves of its results. -/
def noTell : Array Value := #[.int .i64 0, .int .i64 0, .bool false, .slice none 0 0, .slice none 0 0]
theorem tcatch_panicking (p q : Nat) (x0 x1 x2 x3 x4 y : Value) (w : World) (hs : Str w p 25 #[x0, x1, x2, x3, x4]) (hc : Str w q 29 #[y]) :
    CallsD Try.prog 31 #[.pointer (some ⟨p, 0, none⟩), .pointer (some ⟨q, 0, none⟩)] (.panicking gaveUp) w fun e u' w' =>
      e = .returned (.tuple #[]) ∧ u' = .panicking tookIt ∧ Str w' p 25 noTell ∧ Str w' q 29 #[.int .i64 2] ∧ Kb w w' (some p) (some q) := by
  obtain ⟨c0, c1, c2, c3, c4⟩ := hs.cells5
  obtain ⟨f0, f1, f2, f3, f4⟩ := hs.frozen5
  have g0 := hc.frozen 0
  have hpq : p ≠ q := hs.apart_str hc (by decide)
  have e0 : (w.setCell ⟨p, 0, none⟩ (.int .i64 0)).cell? ⟨q, 0, none⟩ = some y := ((hc.kb (Kb.set w p 0 (.int .i64 0) none) (by simpa using fun h => hpq h.symm) (by simp)).cell 0)
  refine callsD_of_wpS Try.func31 rfl fun c₀ cs hu => ?_
  apply wpS_seq
  apply wpS_region
  simp [wpOpsS, go_sem, recoverD, hu, gaveUp, Try.ntmps31, Exit.thenS]
  refine (gaveup_yes w).mono ?_
  rintro e w' ⟨rfl, rfl⟩
  refine wpS_cond (t := true) (by simp [Act.eval, Array.replicate]) ?_
  simp only [if_true]
  apply wpS_region
  simp [wpOpsS, go_sem, c0, c1, c2, c3, c4, f0, f1, f2, f3, f4, g0, e0, bodyPostS, results, Try.results31]
  have k1 := hs.five (.int .i64 0) (.int .i64 0) (.bool false) (.slice none 0 0) (.slice none 0 0)
  have kb := Kb.five w' p (.int .i64 0) (.int .i64 0) (.bool false) (.slice none 0 0) (.slice none 0 0) (some q)
  have k2 : Str _ q _ _ := hc.kb (Kb.five w' p (.int .i64 0) (.int .i64 0) (.bool false) (.slice none 0 0) (.slice none 0 0) none) (by simpa using fun h => hpq h.symm) (by simp)
  have kc := Kb.set (five w' p (.int .i64 0) (.int .i64 0) (.bool false) (.slice none 0 0) (.slice none 0 0)) q 0 (.int .i64 2) none
  refine ⟨rfl, k1.kb kc (by simpa using hpq) (by simp), k2.one _, ?_⟩
  exact kb.trans ⟨kc.os, kc.tape, kc.output, kc.size, fun k hk _ h2 => kc.block k hk h2 (by simp)⟩
end Go.Proofs.Ytokmpfkmkhnopaa
