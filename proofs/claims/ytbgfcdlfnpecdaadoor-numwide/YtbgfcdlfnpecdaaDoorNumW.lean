/- Walks of package num's calls of numbers, and of the document's own twins. -/
import Derived.Test.YtbgfcdlfnpecdaaDoorRows
import Derived.Test.YtbgfcdlfnpecdaaDoorNumMath
import Derived.WalkKit
import Derived.Lib.Hide
import Derived.WalkSpells
import Derived.WalkLawsBesides
namespace Go.Proofs.YtbgfcdlfnpecdaaDoor
open Go.RowKit

theorem ret_int {k : IntKind} {a b : Int} (h : a = b) : Ending.returned (.int k a) = .returned (.int k b) := by rw [h]

set_option maxHeartbeats 400000 in
theorem hold_any (a : Int) (w : World) :
    Calls Tryd.prog 9 #[.int .i64 a] w fun e w' => e = .returned (.int .i64 (M.hold a)) ∧ w = w' := by
  go_enter Tryd.func9, Tryd.ntmps9
  go_wp2
  all_goals go_ret
  all_goals refine ⟨ret_int ?_, rfl⟩
  all_goals (unfold M.hold M.top; split <;> (try split) <;> omega)

set_option maxHeartbeats 400000 in
theorem rhold_any (a : Int) (w : World) :
    Calls Tryd.prog 10 #[.int .i64 a] w fun e w' => e = .returned (.int .i64 (M.hold a)) ∧ w = w' := by
  go_enter Tryd.func10, Tryd.ntmps10
  go_wp2
  all_goals go_ret
  all_goals refine ⟨ret_int ?_, rfl⟩
  all_goals (unfold M.hold M.top; split <;> (try split) <;> omega)

set_option maxHeartbeats 400000 in
theorem add_any (a b : Int) (w : World) :
    Calls Tryd.prog 11 #[.int .i64 a, .int .i64 b] w fun e w' => e = .returned (.int .i64 (M.add a b)) ∧ w = w' := by
  have a0 := M.hold_lo a; have a1 := M.hold_hi a; have b0 := M.hold_lo b; have b1 := M.hold_hi b
  go_enter Tryd.func11, Tryd.ntmps11
  go_wp2_with (go_at_call 9; refine (hold_any _ _).mono ?_; rintro e w' ⟨rfl, rfl⟩)
  all_goals go_ret
  all_goals refine ⟨ret_int ?_, rfl⟩
  all_goals (unfold M.add M.top; split <;> omega)

set_option maxHeartbeats 400000 in
theorem radd_any (a b : Int) (w : World) :
    Calls Tryd.prog 12 #[.int .i64 a, .int .i64 b] w fun e w' => e = .returned (.int .i64 (M.add a b)) ∧ w = w' := by
  have a0 := M.hold_lo a; have a1 := M.hold_hi a; have b0 := M.hold_lo b; have b1 := M.hold_hi b
  go_enter Tryd.func12, Tryd.ntmps12
  go_wp2_with (go_at_call 10; refine (rhold_any _ _).mono ?_; rintro e w' ⟨rfl, rfl⟩)
  all_goals go_ret
  all_goals refine ⟨ret_int ?_, rfl⟩
  all_goals (unfold M.add M.top; split <;> omega)

set_option maxHeartbeats 400000 in
theorem sub_any (a b : Int) (w : World) :
    Calls Tryd.prog 13 #[.int .i64 a, .int .i64 b] w fun e w' => e = .returned (.int .i64 (M.sub a b)) ∧ w = w' := by
  have a0 := M.hold_lo a; have a1 := M.hold_hi a; have b0 := M.hold_lo b; have b1 := M.hold_hi b
  go_enter Tryd.func13, Tryd.ntmps13
  go_wp2_with (go_at_call 9; refine (hold_any _ _).mono ?_; rintro e w' ⟨rfl, rfl⟩)
  go_ret
  exact ⟨rfl, rfl⟩

set_option maxHeartbeats 400000 in
theorem rsub_any (a b : Int) (w : World) :
    Calls Tryd.prog 14 #[.int .i64 a, .int .i64 b] w fun e w' => e = .returned (.int .i64 (M.sub a b)) ∧ w = w' := by
  have a0 := M.hold_lo a; have a1 := M.hold_hi a; have b0 := M.hold_lo b; have b1 := M.hold_hi b
  go_enter Tryd.func14, Tryd.ntmps14
  go_wp2_with (go_at_call 10; refine (rhold_any _ _).mono ?_; rintro e w' ⟨rfl, rfl⟩)
  go_ret
  exact ⟨rfl, rfl⟩

set_option maxHeartbeats 400000 in
theorem mul_any (a b : Int) (w : World) :
    Calls Tryd.prog 15 #[.int .i64 a, .int .i64 b] w fun e w' => e = .returned (.int .i64 (M.mul a b)) ∧ w = w' := by
  have a0 := M.hold_lo a; have a1 := M.hold_hi a; have b0 := M.hold_lo b; have b1 := M.hold_hi b
  go_enter Tryd.func15, Tryd.ntmps15
  go_wp2_with (go_at_call 9; refine (hold_any _ _).mono ?_; rintro e w' ⟨rfl, rfl⟩)
  · go_ret
    exact ⟨ret_int (by rw [M.mul_zero_right ‹_›]), rfl⟩
  · go_ret
    rename_i h0 h1
    exact ⟨ret_int (by rw [M.mul_over h0 h1.2]), rfl⟩
  · rename_i h0 h1
    have h2 : M.hold a ≤ 4611686018427387904 / M.hold b := by
      rcases h1 with h1 | h1
      · exact absurd (by simpa using h1) h0
      · exact h1
    go_ret
    exact ⟨ret_int (by rw [M.mul_fits h0 h2]), rfl⟩

set_option maxHeartbeats 400000 in
theorem rmul_any (a b : Int) (w : World) :
    Calls Tryd.prog 16 #[.int .i64 a, .int .i64 b] w fun e w' => e = .returned (.int .i64 (M.mul a b)) ∧ w = w' := by
  have a0 := M.hold_lo a; have a1 := M.hold_hi a; have b0 := M.hold_lo b; have b1 := M.hold_hi b
  by_cases ha : M.hold a = 0
  · have e1 : M.mul a b = 0 := M.mul_zero_left ha
    have E1 := Lib.hid e1
    have HA := Lib.hid ha
    have ha' : (M.hold a == 0) = true := beq_iff_eq.2 ha
    clear e1 ha
    go_enter Tryd.func16, Tryd.ntmps16
    go_wp2_with (go_at_call 10; refine (rhold_any _ _).mono ?_; rintro e w' ⟨rfl, rfl⟩)
    go_ret
    exact ⟨ret_int (by rw [E1.out]), rfl⟩
  · have ha' : (M.hold a == 0) = false := beq_eq_false_iff_ne.2 ha
    by_cases hb : M.hold b = 0
    · have e1 : M.mul a b = 0 := M.mul_zero_right hb
      have E1 := Lib.hid e1
      have hb' : (M.hold b == 0) = true := beq_iff_eq.2 hb
      clear e1 hb
      go_enter Tryd.func16, Tryd.ntmps16
      go_wp2_with (go_at_call 10; refine (rhold_any _ _).mono ?_; rintro e w' ⟨rfl, rfl⟩)
      go_ret
      exact ⟨ret_int (by rw [E1.out]), rfl⟩
    · have hb' : (M.hold b == 0) = false := beq_eq_false_iff_ne.2 hb
      go_enter Tryd.func16, Tryd.ntmps16
      go_wp2_with (go_at_call 10; refine (rhold_any _ _).mono ?_; rintro e w' ⟨rfl, rfl⟩)
      all_goals go_ret
      · exact ⟨ret_int (by rw [M.mul_over hb ‹_›]), rfl⟩
      · exact ⟨ret_int (by rw [M.mul_fits hb ‹_›]), rfl⟩

set_option maxHeartbeats 400000 in
theorem div_any (a b : Int) (w : World) :
    Calls Tryd.prog 7 #[.int .i64 a, .int .i64 b] w fun e w' => e = .returned (.tuple #[.int .i64 (M.divN a b), .int .i64 (M.divE b)]) ∧ w = w' := by
  have a0 := M.hold_lo a; have a1 := M.hold_hi a; have b0 := M.hold_lo b; have b1 := M.hold_hi b
  by_cases hb : M.hold b = 0
  · have E1 := Lib.hid (show M.divN a b = 0 ∧ M.divE b = 1 by unfold M.divN M.divE; rw [if_pos hb, if_pos hb]; exact ⟨rfl, rfl⟩)
    have hb' : (M.hold b == 0) = true := beq_iff_eq.2 hb
    clear hb
    go_enter Tryd.func7, Tryd.ntmps7
    go_wp2_with (go_at_call 9; refine (hold_any _ _).mono ?_; rintro e w' ⟨rfl, rfl⟩)
    go_ret2
    rw [E1.out.1, E1.out.2]
    exact ⟨rfl, rfl⟩
  · have E1 := Lib.hid (show M.divN a b = M.hold a / M.hold b ∧ M.divE b = 0 by unfold M.divN M.divE; rw [if_neg hb, if_neg hb]; exact ⟨rfl, rfl⟩)
    have hb' : (M.hold b == 0) = false := beq_eq_false_iff_ne.2 hb
    go_enter Tryd.func7, Tryd.ntmps7
    go_wp2_with (go_at_call 9; refine (hold_any _ _).mono ?_; rintro e w' ⟨rfl, rfl⟩)
    go_ret2
    rw [E1.out.1, E1.out.2]
    exact ⟨rfl, rfl⟩

set_option maxHeartbeats 400000 in
theorem rdiv_any (a b : Int) (w : World) :
    Calls Tryd.prog 8 #[.int .i64 a, .int .i64 b] w fun e w' => e = .returned (.tuple #[.int .i64 (M.divN a b), .int .i64 (M.divE b)]) ∧ w = w' := by
  have a0 := M.hold_lo a; have a1 := M.hold_hi a; have b0 := M.hold_lo b; have b1 := M.hold_hi b
  by_cases hb : M.hold b = 0
  · have E1 := Lib.hid (show M.divN a b = 0 ∧ M.divE b = 1 by unfold M.divN M.divE; rw [if_pos hb, if_pos hb]; exact ⟨rfl, rfl⟩)
    have hb' : (M.hold b == 0) = true := beq_iff_eq.2 hb
    clear hb
    go_enter Tryd.func8, Tryd.ntmps8
    go_wp2_with (go_at_call 10; refine (rhold_any _ _).mono ?_; rintro e w' ⟨rfl, rfl⟩)
    go_ret2
    rw [E1.out.1, E1.out.2]
    exact ⟨rfl, rfl⟩
  · have E1 := Lib.hid (show M.divN a b = M.hold a / M.hold b ∧ M.divE b = 0 by unfold M.divN M.divE; rw [if_neg hb, if_neg hb]; exact ⟨rfl, rfl⟩)
    have hb' : (M.hold b == 0) = false := beq_eq_false_iff_ne.2 hb
    go_enter Tryd.func8, Tryd.ntmps8
    go_wp2_with (go_at_call 10; refine (rhold_any _ _).mono ?_; rintro e w' ⟨rfl, rfl⟩)
    go_ret2
    rw [E1.out.1, E1.out.2]
    exact ⟨rfl, rfl⟩
end Go.Proofs.YtbgfcdlfnpecdaaDoor
