/- Walks of what takes a reader's panic in decode. -/
import Derived.Test.YtfpdcljeepjogaaAdF
namespace Go.Proofs.Ytfpdcljeepjogaa
open Go.RowKit

theorem catch_idle_query (p q : Value) (w : World) :
    CallsD Try.prog 44 #[p, q] .returning w fun e u' w' => e = .returned (.tuple #[]) ∧ u' = .returning ∧ w' = w := by
  refine callsD_of_wpS Try.func44 rfl fun c₀ cs hu => ?_
  apply wpS_seq
  apply wpS_region
  simp [wpOpsS, go_sem, recoverD, hu, Try.ntmps44, Exit.thenS]
  refine (gaveup_nil w).mono ?_
  rintro e w' ⟨rfl, rfl⟩
  refine wpS_cond (t := false) (by simp [Act.eval, Array.replicate]) ?_
  simp only [Bool.false_eq_true, if_false]
  refine wpS_of_wp (wp_skip ?_)
  cases c₀
  simp_all [bodyPostS, results, Try.results44]
theorem catch_idle_report (p q : Value) (w : World) :
    CallsD Try.prog 52 #[p, q] .returning w fun e u' w' => e = .returned (.tuple #[]) ∧ u' = .returning ∧ w' = w := by
  refine callsD_of_wpS Try.func52 rfl fun c₀ cs hu => ?_
  apply wpS_seq
  apply wpS_region
  simp [wpOpsS, go_sem, recoverD, hu, Try.ntmps52, Exit.thenS]
  refine (gaveup_nil w).mono ?_
  rintro e w' ⟨rfl, rfl⟩
  refine wpS_cond (t := false) (by simp [Act.eval, Array.replicate]) ?_
  simp only [Bool.false_eq_true, if_false]
  refine wpS_of_wp (wp_skip ?_)
  cases c₀
  simp_all [bodyPostS, results, Try.results52]
theorem catch_idle_oops (p q : Value) (w : World) :
    CallsD Try.prog 55 #[p, q] .returning w fun e u' w' => e = .returned (.tuple #[]) ∧ u' = .returning ∧ w' = w := by
  refine callsD_of_wpS Try.func55 rfl fun c₀ cs hu => ?_
  apply wpS_seq
  apply wpS_region
  simp [wpOpsS, go_sem, recoverD, hu, Try.ntmps55, Exit.thenS]
  refine (gaveup_nil w).mono ?_
  rintro e w' ⟨rfl, rfl⟩
  refine wpS_cond (t := false) (by simp [Act.eval, Array.replicate]) ?_
  simp only [Bool.false_eq_true, if_false]
  refine wpS_of_wp (wp_skip ?_)
  cases c₀
  simp_all [bodyPostS, results, Try.results55]
def zeroN : Array Value := #[.int .i64 0, .int .i64 0, .string ⟨#[]⟩]
def zeroO : Array Value := #[.int .i64 0, .int .i64 0, .int .i64 0, .int .i64 0]
theorem catch_panicking_query (p q : Nat) (x0 x1 x2 y : Value) (w : World) (hs : Str w p 23 #[x0, x1, x2]) (hc : Str w q 26 #[y]) :
    CallsD Try.prog 44 #[.pointer (some ⟨p, 0, none⟩), .pointer (some ⟨q, 0, none⟩)] (.panicking gaveUp) w fun e u' w' =>
      e = .returned (.tuple #[]) ∧ u' = .panicking tookIt ∧ Str w' p 23 zeroN ∧ Str w' q 26 #[.int .i64 2] ∧ Kb w w' (some p) (some q) := by
  have hb := below_alloc w (.cells #[.int .i64 0, .int .i64 0, .string ⟨#[]⟩] 23)
  have hs' := hs.below hb
  have hc' := hc.below hb
  have hn' := Str.new w 23 #[.int .i64 0, .int .i64 0, .string ⟨#[]⟩]
  have hpq : p ≠ q := hs.apart_str hc (by decide)
  refine callsD_of_wpS Try.func44 rfl fun c₀ cs hu => ?_
  apply wpS_seq
  apply wpS_region
  simp [wpOpsS, go_sem, recoverD, hu, gaveUp, Try.ntmps44, Exit.thenS]
  refine (gaveup_yes w).mono ?_
  rintro e w' ⟨rfl, rfl⟩
  refine wpS_cond (t := true) (by simp [Act.eval, Array.replicate]) ?_
  simp only [if_true]
  apply wpS_seq
  apply wpS_region
  simp [wpOpsS, go_sem, Exit.thenS]
  have KB0 := Kb.of_below hb (some p) (some q)
  generalize w'.alloc (.cells #[.int .i64 0, .int .i64 0, .string ⟨#[]⟩] 23) = W at *
  generalize w'.heap.size = g at *
  clear hb
  obtain ⟨c0, c1, c2⟩ := hs'.cells3
  obtain ⟨f0, f1, f2, -⟩ := hs'.frozen4
  obtain ⟨n0, n1, n2⟩ := hn'.cells3
  have g0 := hc'.frozen 0
  have e0 : (W.setCell ⟨p, 0, none⟩ (.int .i64 0)).cell? ⟨q, 0, none⟩ = some y := ((hc'.kb (Kb.set W p 0 (.int .i64 0) none) (by simpa using fun h => hpq h.symm) (by simp)).cell 0)
  apply wpS_region
  simp [wpOpsS, go_sem, c0, c1, c2, n0, n1, n2, f0, f1, f2, g0, e0, bodyPostS, results, Try.results44]
  have k1 := hs'.three (.int .i64 0) (.int .i64 0) (.string ⟨#[]⟩)
  have kb := Kb.three W p (.int .i64 0) (.int .i64 0) (.string ⟨#[]⟩) (some q)
  have k2 : Str _ q _ _ := hc'.kb (Kb.three W p (.int .i64 0) (.int .i64 0) (.string ⟨#[]⟩) none) (by simpa using fun h => hpq h.symm) (by simp)
  have kc := Kb.set (three W p (.int .i64 0) (.int .i64 0) (.string ⟨#[]⟩)) q 0 (.int .i64 2) none
  refine ⟨rfl, k1.kb kc (by simpa using hpq) (by simp), k2.one _, ?_⟩
  exact (KB0.trans kb).trans ⟨kc.os, kc.tape, kc.output, kc.size, fun k hk _ h2 => kc.block k hk h2 (by simp)⟩
theorem catch_panicking_report (p q : Nat) (x0 x1 x2 y : Value) (w : World) (hs : Str w p 33 #[x0, x1, x2]) (hc : Str w q 26 #[y]) :
    CallsD Try.prog 52 #[.pointer (some ⟨p, 0, none⟩), .pointer (some ⟨q, 0, none⟩)] (.panicking gaveUp) w fun e u' w' =>
      e = .returned (.tuple #[]) ∧ u' = .panicking tookIt ∧ Str w' p 33 zeroN ∧ Str w' q 26 #[.int .i64 2] ∧ Kb w w' (some p) (some q) := by
  have hb := below_alloc w (.cells #[.int .i64 0, .int .i64 0, .string ⟨#[]⟩] 33)
  have hs' := hs.below hb
  have hc' := hc.below hb
  have hn' := Str.new w 33 #[.int .i64 0, .int .i64 0, .string ⟨#[]⟩]
  have hpq : p ≠ q := hs.apart_str hc (by decide)
  refine callsD_of_wpS Try.func52 rfl fun c₀ cs hu => ?_
  apply wpS_seq
  apply wpS_region
  simp [wpOpsS, go_sem, recoverD, hu, gaveUp, Try.ntmps52, Exit.thenS]
  refine (gaveup_yes w).mono ?_
  rintro e w' ⟨rfl, rfl⟩
  refine wpS_cond (t := true) (by simp [Act.eval, Array.replicate]) ?_
  simp only [if_true]
  apply wpS_seq
  apply wpS_region
  simp [wpOpsS, go_sem, Exit.thenS]
  have KB0 := Kb.of_below hb (some p) (some q)
  generalize w'.alloc (.cells #[.int .i64 0, .int .i64 0, .string ⟨#[]⟩] 33) = W at *
  generalize w'.heap.size = g at *
  clear hb
  obtain ⟨c0, c1, c2⟩ := hs'.cells3
  obtain ⟨f0, f1, f2, -⟩ := hs'.frozen4
  obtain ⟨n0, n1, n2⟩ := hn'.cells3
  have g0 := hc'.frozen 0
  have e0 : (W.setCell ⟨p, 0, none⟩ (.int .i64 0)).cell? ⟨q, 0, none⟩ = some y := ((hc'.kb (Kb.set W p 0 (.int .i64 0) none) (by simpa using fun h => hpq h.symm) (by simp)).cell 0)
  apply wpS_region
  simp [wpOpsS, go_sem, c0, c1, c2, n0, n1, n2, f0, f1, f2, g0, e0, bodyPostS, results, Try.results52]
  have k1 := hs'.three (.int .i64 0) (.int .i64 0) (.string ⟨#[]⟩)
  have kb := Kb.three W p (.int .i64 0) (.int .i64 0) (.string ⟨#[]⟩) (some q)
  have k2 : Str _ q _ _ := hc'.kb (Kb.three W p (.int .i64 0) (.int .i64 0) (.string ⟨#[]⟩) none) (by simpa using fun h => hpq h.symm) (by simp)
  have kc := Kb.set (three W p (.int .i64 0) (.int .i64 0) (.string ⟨#[]⟩)) q 0 (.int .i64 2) none
  refine ⟨rfl, k1.kb kc (by simpa using hpq) (by simp), k2.one _, ?_⟩
  exact (KB0.trans kb).trans ⟨kc.os, kc.tape, kc.output, kc.size, fun k hk _ h2 => kc.block k hk h2 (by simp)⟩
theorem catch_panicking_oops (p q : Nat) (x0 x1 x2 x3 y : Value) (w : World) (hs : Str w p 39 #[x0, x1, x2, x3]) (hc : Str w q 26 #[y]) :
    CallsD Try.prog 55 #[.pointer (some ⟨p, 0, none⟩), .pointer (some ⟨q, 0, none⟩)] (.panicking gaveUp) w fun e u' w' =>
      e = .returned (.tuple #[]) ∧ u' = .panicking tookIt ∧ Str w' p 39 zeroO ∧ Str w' q 26 #[.int .i64 2] ∧ Kb w w' (some p) (some q) := by
  have hb := below_alloc w (.cells #[.int .i64 0, .int .i64 0, .int .i64 0, .int .i64 0] 39)
  have hs' := hs.below hb
  have hc' := hc.below hb
  have hn' := Str.new w 39 #[.int .i64 0, .int .i64 0, .int .i64 0, .int .i64 0]
  have hpq : p ≠ q := hs.apart_str hc (by decide)
  refine callsD_of_wpS Try.func55 rfl fun c₀ cs hu => ?_
  apply wpS_seq
  apply wpS_region
  simp [wpOpsS, go_sem, recoverD, hu, gaveUp, Try.ntmps55, Exit.thenS]
  refine (gaveup_yes w).mono ?_
  rintro e w' ⟨rfl, rfl⟩
  refine wpS_cond (t := true) (by simp [Act.eval, Array.replicate]) ?_
  simp only [if_true]
  apply wpS_seq
  apply wpS_region
  simp [wpOpsS, go_sem, Exit.thenS]
  have KB0 := Kb.of_below hb (some p) (some q)
  generalize w'.alloc (.cells #[.int .i64 0, .int .i64 0, .int .i64 0, .int .i64 0] 39) = W at *
  generalize w'.heap.size = g at *
  clear hb
  obtain ⟨c0, c1, c2, c3⟩ := hs'.cells4
  obtain ⟨f0, f1, f2, f3⟩ := hs'.frozen4
  obtain ⟨n0, n1, n2, n3⟩ := hn'.cells4
  have g0 := hc'.frozen 0
  have e0 : (W.setCell ⟨p, 0, none⟩ (.int .i64 0)).cell? ⟨q, 0, none⟩ = some y := ((hc'.kb (Kb.set W p 0 (.int .i64 0) none) (by simpa using fun h => hpq h.symm) (by simp)).cell 0)
  apply wpS_region
  simp [wpOpsS, go_sem, c0, c1, c2, c3, n0, n1, n2, n3, f0, f1, f2, f3, g0, e0, bodyPostS, results, Try.results55]
  have k1 := hs'.four (.int .i64 0) (.int .i64 0) (.int .i64 0) (.int .i64 0)
  have kb := Kb.four W p (.int .i64 0) (.int .i64 0) (.int .i64 0) (.int .i64 0) (some q)
  have k2 : Str _ q _ _ := hc'.kb (Kb.four W p (.int .i64 0) (.int .i64 0) (.int .i64 0) (.int .i64 0) none) (by simpa using fun h => hpq h.symm) (by simp)
  have kc := Kb.set (four W p (.int .i64 0) (.int .i64 0) (.int .i64 0) (.int .i64 0)) q 0 (.int .i64 2) none
  refine ⟨rfl, k1.kb kc (by simpa using hpq) (by simp), k2.one _, ?_⟩
  exact (KB0.trans kb).trans ⟨kc.os, kc.tape, kc.output, kc.size, fun k hk _ h2 => kc.block k hk h2 (by simp)⟩
end Go.Proofs.Ytfpdcljeepjogaa
