/- Walks of what gives up by a panic, and of what takes it. -/
import Derived.Test.YthbmmnjpiflgdaaDsA
import Derived.Test.YthbmmnjpiflgdaaStr
import Derived.Recover
namespace Go.Proofs.Ythbmmnjpiflgdaa
open Go.RowKit

/-- A reader's own panic, on its way. -/
def gaveUp : List PanicEntry := [{ v := .iface 67 (.agg #[]), recovered := false }]
def tookIt : List PanicEntry := [{ v := .iface 67 (.agg #[]), recovered := true }]
set_option maxHeartbeats 400000 in
theorem must_true (p : Value) (w : World) :
    Calls Try.prog 36 #[p, .bool true] w fun e w' => e = .returned (.tuple #[]) ∧ w' = w := by
  go_enter Try.func36, Try.ntmps36
  go_wp2
  go_end0
  exact ⟨rfl, rfl⟩
set_option maxHeartbeats 400000 in
theorem must_false (p : Value) (w : World) :
    Calls Try.prog 36 #[p, .bool false] w fun e w' => e = .panicked gaveUp ∧ w' = w := by
  go_enter Try.func36, Try.ntmps36
  go_wp2
  exact ⟨rfl, rfl, rfl⟩
theorem must_any (p : Value) (b : Bool) (w : World) :
    Calls Try.prog 36 #[p, .bool b] w fun e w' => e = (if b then .returned (.tuple #[]) else .panicked gaveUp) ∧ w' = w := by
  cases b
  · exact must_false p w
  · exact must_true p w
set_option maxHeartbeats 400000 in
theorem gaveup_nil (w : World) :
    Calls Try.prog 32 #[.nilIface] w fun e w' => e = .returned (.bool false) ∧ w' = w := by
  go_enter Try.func32, Try.ntmps32
  go_wp2
  go_ret
  exact ⟨rfl, rfl⟩
theorem assert_yes (w : World) : (Instr.typeAssert (.iface 67 (.agg #[])) 20 67 true).run Try.prog w = .ok (.tuple #[.agg #[], .bool true]) w := by kernel_rfl
set_option maxHeartbeats 400000 in
theorem gaveup_yes (w : World) :
    Calls Try.prog 32 #[.iface 67 (.agg #[])] w fun e w' => e = .returned (.bool true) ∧ w' = w := by
  have ha := assert_yes w
  go_enter Try.func32, Try.ntmps32
  go_wp2
  go_ret
  exact ⟨rfl, rfl⟩

theorem catch_idle (p q : Value) (w : World) :
    CallsD Try.prog 31 #[p, q] .returning w fun e u' w' => e = .returned (.tuple #[]) ∧ u' = .returning ∧ w' = w := by
  refine callsD_of_wpS Try.func31 rfl fun c₀ cs hu => ?_
  apply wpS_seq
  apply wpS_region
  simp [wpOpsS, go_sem, recoverD, hu, Try.ntmps31, Exit.thenS]
  refine (gaveup_nil w).mono ?_
  rintro e w' ⟨rfl, rfl⟩
  refine wpS_cond (t := false) (by simp [Act.eval, Array.replicate]) ?_
  simp only [Bool.false_eq_true, if_false]
  refine wpS_of_wp (wp_skip ?_)
  cases c₀
  simp_all [bodyPostS, results, Try.results31]

/-- What a call that gave up leaves of its results. -/
def noAsk : Array Value := #[.int .i64 0, .string ⟨#[]⟩, .int .i64 0, .slice none 0 0]
theorem catch_panicking (p q : Nat) (x0 x1 x2 x3 y : Value) (w : World) (hs : Str w p 24 #[x0, x1, x2, x3]) (hc : Str w q 28 #[y]) :
    CallsD Try.prog 31 #[.pointer (some ⟨p, 0, none⟩), .pointer (some ⟨q, 0, none⟩)] (.panicking gaveUp) w fun e u' w' =>
      e = .returned (.tuple #[]) ∧ u' = .panicking tookIt ∧ Str w' p 24 noAsk ∧ Str w' q 28 #[.int .i64 2] ∧ Kb w w' (some p) (some q) := by
  have c0 := hs.cell 0
  have c1 := hs.cell 1
  have c2 := hs.cell 2
  have c3 := hs.cell 3
  have f0 := hs.frozen 0
  have f1 := hs.frozen 1
  have f2 := hs.frozen 2
  have f3 := hs.frozen 3
  have g0 := hc.frozen 0
  simp only [List.getElem?_toArray, List.getElem?_cons_zero, List.getElem?_cons_succ] at c0 c1 c2 c3
  have hpq : p ≠ q := hs.apart_str hc (by decide)
  have e0 : (w.setCell ⟨p, 0, none⟩ (.int .i64 0)).cell? ⟨q, 0, none⟩ = some y := ((hc.kb (Kb.set w p 0 (.int .i64 0) none) (by simpa using fun h => hpq h.symm) (by simp)).cell 0)
  refine callsD_of_wpS Try.func31 rfl fun c₀ cs hu => ?_
  apply wpS_seq
  apply wpS_region
  simp [wpOpsS, go_sem, recoverD, hu, gaveUp, Try.ntmps31, Exit.thenS]
  refine (gaveup_yes w).mono ?_
  rintro e w' ⟨rfl, rfl⟩
  refine wpS_cond (t := true) (by simp [Act.eval, Array.replicate]) ?_
  simp only [if_true]
  apply wpS_region
  simp [wpOpsS, go_sem, c0, c1, c2, c3, f0, f1, f2, f3, g0, e0, bodyPostS, results, Try.results31]
  have k1 := ((hs.set 0 (.int .i64 0)).set 1 (.string ⟨#[]⟩)).set 2 (.int .i64 0) |>.set 3 (.slice none 0 0)
  have kb := (((Kb.set w' p 0 (.int .i64 0) (some q)).trans (Kb.set _ p 1 (.string ⟨#[]⟩) (some q))).trans (Kb.set _ p 2 (.int .i64 0) (some q))).trans (Kb.set _ p 3 (.slice none 0 0) (some q))
  have k2 : Str _ q _ _ := hc.kb ((((Kb.set w' p 0 (.int .i64 0) none).trans (Kb.set _ p 1 (.string ⟨#[]⟩) none)).trans (Kb.set _ p 2 (.int .i64 0) none)).trans (Kb.set _ p 3 (.slice none 0 0) none)) (by simpa using fun h => hpq h.symm) (by simp)
  have kc := Kb.set ((((w'.setCell ⟨p, 0, none⟩ (.int .i64 0)).setCell ⟨p, 1, none⟩ (.string ⟨#[]⟩)).setCell ⟨p, 2, none⟩ (.int .i64 0)).setCell ⟨p, 3, none⟩ (.slice none 0 0)) q 0 (.int .i64 2) none
  refine ⟨rfl, k1.kb kc (by simpa using hpq) (by simp), by simpa using k2.set 0 (.int .i64 2), ?_⟩
  exact kb.trans ⟨kc.os, kc.tape, kc.output, kc.size, fun k hk _ h2 => kc.block k hk h2 (by simp)⟩
end Go.Proofs.Ythbmmnjpiflgdaa
