/- The walk of turncocklaw1.NumWide. -/
import Derived.Test.YtbgfcdlfnpecdaaDoorAwakeW
namespace Go.Proofs.YtbgfcdlfnpecdaaDoor
open Go.RowKit

namespace M
def hiOf (x y : Int) : Int := x * y / 18446744073709551616
def loOf (x y : Int) : Int := x * y % 18446744073709551616
theorem sub_add (a b : Int) : add (sub a b) (if hold a ≤ hold b then hold a else hold b) = hold a := by
  have a0 := hold_lo a; have a1 := hold_hi a; have b0 := hold_lo b; have b1 := hold_hi b
  by_cases h : hold a ≤ hold b
  · rw [if_pos h]
    have e : sub a b = 0 := by
      unfold sub
      by_cases h2 : hold a - hold b < 0
      · exact hold_neg h2
      · rw [hold_in (by omega) (by omega)]; omega
    rw [e]
    unfold add top
    rw [hold_in a0 a1, hold_in (a := 0) (by omega) (by omega)]
    rw [if_neg (by omega)]; omega
  · rw [if_neg h]
    have e : sub a b = hold a - hold b := by
      unfold sub
      exact hold_in (by omega) (by omega)
    rw [e]
    unfold add top
    rw [hold_in b0 b1, hold_in (a := hold a - hold b) (by omega) (by omega)]
    rw [if_neg (by omega)]; omega
theorem add_min (a b : Int) : (if hold a + hold b ≤ 4611686018427387904 then hold a + hold b else 4611686018427387904) = add a b := by
  unfold add top
  by_cases h : hold a + hold b ≤ 4611686018427387904
  · rw [if_pos h, if_neg (by omega)]
  · rw [if_neg h, if_pos (by omega)]
end M

set_option maxHeartbeats 400000 in
theorem mul64_int (x y : Int) (hx : 0 ≤ x) (hx1 : x ≤ 4611686018427387904) (hy : 0 ≤ y) (hy1 : y ≤ 4611686018427387904) (w : World) :
    Calls Tryd.prog 18 #[.int .u64 x, .int .u64 y] w fun e w' => e = .returned (.tuple #[.int .u64 (M.hiOf x y), .int .u64 (M.loOf x y)]) ∧ w = w' := by
  obtain ⟨m, rfl⟩ := Int.eq_ofNat_of_zero_le hx
  obtain ⟨n, rfl⟩ := Int.eq_ofNat_of_zero_le hy
  refine (Tryd.bits_Mul64 m n (by omega) (by omega) w).mono ?_
  rintro e w' ⟨rfl, rfl⟩
  refine ⟨?_, rfl⟩
  have e1 : ((m * n / 18446744073709551616 : Nat) : Int) = M.hiOf m n := by unfold M.hiOf; simp
  have e2 : ((m * n % 18446744073709551616 : Nat) : Int) = M.loOf m n := by unfold M.loOf; simp
  rw [e1, e2]

theorem sub_add_le {a b : Int} (h : M.hold a ≤ M.hold b) : M.add (M.sub a b) (M.hold a) = M.hold a := by
  have := M.sub_add a b
  rw [if_pos h] at this
  exact this
theorem sub_add_gt {a b : Int} (h : ¬ M.hold a ≤ M.hold b) : M.add (M.sub a b) (M.hold b) = M.hold a := by
  have := M.sub_add a b
  rw [if_neg h] at this
  exact this
theorem add_le {a b : Int} (h : M.hold a + M.hold b ≤ 4611686018427387904) : M.add a b = M.hold a + M.hold b := by rw [← M.add_min, if_pos h]
theorem add_gt {a b : Int} (h : ¬ M.hold a + M.hold b ≤ 4611686018427387904) : M.add a b = 4611686018427387904 := by rw [← M.add_min, if_neg h]


theorem min_l {x y : Int} (h : x ≤ y) : min x y = x := by omega
theorem min_r {x y : Int} (h : ¬ x ≤ y) : min x y = y := by omega

set_option maxRecDepth 100000 in
set_option maxHeartbeats 2000000 in
theorem wide_small (a b : Int) (w : World) (ht : PowIs w) (h : M.hold a * M.hold b < 4611686018427387904) :
    Calls Tryd.prog 4 #[.int .i64 a, .int .i64 b] w fun e w' => e = .returned (.bool true) ∧ Below w.heap.size w w' := by
  have HT := Lib.hid ht
  clear ht
  have a0 := M.hold_lo a; have a1 := M.hold_hi a; have b0 := M.hold_lo b; have b1 := M.hold_hi b
  have m0 := M.mul_lo a b; have m1 := M.mul_hi a b
  have hp := Int.mul_nonneg a0 b0
  have e1 : (M.hiOf (M.hold a) (M.hold b) == 0) = true := by unfold M.hiOf; rw [beq_iff_eq]; omega
  have e2 : decide (M.loOf (M.hold a) (M.hold b) < 4611686018427387904) = true := by unfold M.loOf; simp; omega
  have e3 : M.loOf (M.hold a) (M.hold b) = M.mul a b := by unfold M.loOf M.mul M.top; rw [if_neg (by omega)]; omega
  rw [e3] at e2
  clear hp h
  by_cases h1 : M.hold a + M.hold b ≤ 4611686018427387904
  · have q2 := add_le h1
    have hw : IntKind.u64.wrap (M.hold a + M.hold b) = M.add a b := by rw [q2, IntKind.wrap_u64]; omega
    have s0 := M.add_lo a b
    have s1 := M.add_hi a b
    have q5 := min_l s1
    clear q2 h1
    by_cases h2 : M.hold a ≤ M.hold b
    · have q3 := sub_add_le h2
      have q4 := min_l h2
      go_enter Tryd.func4, Tryd.ntmps4
      go_wp2_with (first | (go_at_call 9; refine (hold_any _ _).mono ?_; rintro e w' ⟨rfl, rfl⟩) | (go_at_call 18; refine (mul64_int _ _ a0 a1 b0 b1 _).mono ?_; rintro e w' ⟨rfl, rfl⟩) | (go_at_call 15; refine (mul_any _ _ _).mono ?_; rintro e w' ⟨rfl, rfl⟩) | (go_at_call 11; refine (add_any _ _ _).mono ?_; rintro e w' ⟨rfl, rfl⟩) | (go_at_call 13; refine (sub_any _ _ _).mono ?_; rintro e w' ⟨rfl, rfl⟩) | (go_at_call 17; refine (awake_any _ HT.out).mono ?_; rintro e w1 ⟨rfl, q1⟩))
      go_ret
      exact ⟨rfl, q1⟩
    · have q3 := sub_add_gt h2
      have q4 := min_r h2
      go_enter Tryd.func4, Tryd.ntmps4
      go_wp2_with (first | (go_at_call 9; refine (hold_any _ _).mono ?_; rintro e w' ⟨rfl, rfl⟩) | (go_at_call 18; refine (mul64_int _ _ a0 a1 b0 b1 _).mono ?_; rintro e w' ⟨rfl, rfl⟩) | (go_at_call 15; refine (mul_any _ _ _).mono ?_; rintro e w' ⟨rfl, rfl⟩) | (go_at_call 11; refine (add_any _ _ _).mono ?_; rintro e w' ⟨rfl, rfl⟩) | (go_at_call 13; refine (sub_any _ _ _).mono ?_; rintro e w' ⟨rfl, rfl⟩) | (go_at_call 17; refine (awake_any _ HT.out).mono ?_; rintro e w1 ⟨rfl, q1⟩))
      go_ret
      exact ⟨rfl, q1⟩
  · have q2 := add_gt h1
    have q5 := min_r h1
    have hw : IntKind.u64.wrap (M.hold a + M.hold b) = M.hold a + M.hold b := by rw [IntKind.wrap_u64]; omega
    by_cases h2 : M.hold a ≤ M.hold b
    · have q3 := sub_add_le h2
      have q4 := min_l h2
      go_enter Tryd.func4, Tryd.ntmps4
      go_wp2_with (first | (go_at_call 9; refine (hold_any _ _).mono ?_; rintro e w' ⟨rfl, rfl⟩) | (go_at_call 18; refine (mul64_int _ _ a0 a1 b0 b1 _).mono ?_; rintro e w' ⟨rfl, rfl⟩) | (go_at_call 15; refine (mul_any _ _ _).mono ?_; rintro e w' ⟨rfl, rfl⟩) | (go_at_call 11; refine (add_any _ _ _).mono ?_; rintro e w' ⟨rfl, rfl⟩) | (go_at_call 13; refine (sub_any _ _ _).mono ?_; rintro e w' ⟨rfl, rfl⟩) | (go_at_call 17; refine (awake_any _ HT.out).mono ?_; rintro e w1 ⟨rfl, q1⟩))
      go_ret
      exact ⟨rfl, q1⟩
    · have q3 := sub_add_gt h2
      have q4 := min_r h2
      go_enter Tryd.func4, Tryd.ntmps4
      go_wp2_with (first | (go_at_call 9; refine (hold_any _ _).mono ?_; rintro e w' ⟨rfl, rfl⟩) | (go_at_call 18; refine (mul64_int _ _ a0 a1 b0 b1 _).mono ?_; rintro e w' ⟨rfl, rfl⟩) | (go_at_call 15; refine (mul_any _ _ _).mono ?_; rintro e w' ⟨rfl, rfl⟩) | (go_at_call 11; refine (add_any _ _ _).mono ?_; rintro e w' ⟨rfl, rfl⟩) | (go_at_call 13; refine (sub_any _ _ _).mono ?_; rintro e w' ⟨rfl, rfl⟩) | (go_at_call 17; refine (awake_any _ HT.out).mono ?_; rintro e w1 ⟨rfl, q1⟩))
      go_ret
      exact ⟨rfl, q1⟩

theorem big_not {x y : Int} (hx0 : 0 ≤ x) (hy0 : 0 ≤ y) (h : ¬ x * y < 4611686018427387904) (h2 : (M.hiOf x y == 0) = true) : decide (M.loOf x y < 4611686018427387904) = false := by
  have hp := Int.mul_nonneg hx0 hy0
  rw [beq_iff_eq] at h2
  unfold M.hiOf at h2
  unfold M.loOf
  simp
  omega

set_option maxRecDepth 100000 in
set_option maxHeartbeats 2000000 in
theorem wide_big (a b : Int) (w : World) (ht : PowIs w) (h : ¬ M.hold a * M.hold b < 4611686018427387904) :
    Calls Tryd.prog 4 #[.int .i64 a, .int .i64 b] w fun e w' => e = .returned (.bool true) ∧ Below w.heap.size w w' := by
  have HT := Lib.hid ht
  clear ht
  have a0 := M.hold_lo a; have a1 := M.hold_hi a; have b0 := M.hold_lo b; have b1 := M.hold_hi b
  have m2 : M.mul a b = 4611686018427387904 := by unfold M.mul M.top; split <;> omega
  have Q : ∀ (q : Bool), (M.hiOf (M.hold a) (M.hold b) == 0) = q → q = false ∨ (q = true ∧ decide (M.loOf (M.hold a) (M.hold b) < 4611686018427387904) = false) := by
    intro q hq
    cases q with
    | false => exact .inl rfl
    | true => exact .inr ⟨rfl, big_not a0 b0 h hq⟩
  have Q2 := Q _ rfl
  clear Q h
  by_cases h1 : M.hold a + M.hold b ≤ 4611686018427387904
  · have q2 := add_le h1
    have hw : IntKind.u64.wrap (M.hold a + M.hold b) = M.add a b := by rw [q2, IntKind.wrap_u64]; omega
    have s0 := M.add_lo a b
    have s1 := M.add_hi a b
    have q5 := min_l s1
    clear q2 h1
    by_cases h2 : M.hold a ≤ M.hold b
    · have q3 := sub_add_le h2
      have q4 := min_l h2
      rcases Q2 with e1 | ⟨e1, e2⟩
      all_goals
        go_enter Tryd.func4, Tryd.ntmps4
        go_wp2_with (first | (go_at_call 9; refine (hold_any _ _).mono ?_; rintro e w' ⟨rfl, rfl⟩) | (go_at_call 18; refine (mul64_int _ _ a0 a1 b0 b1 _).mono ?_; rintro e w' ⟨rfl, rfl⟩) | (go_at_call 15; refine (mul_any _ _ _).mono ?_; rintro e w' ⟨rfl, rfl⟩) | (go_at_call 11; refine (add_any _ _ _).mono ?_; rintro e w' ⟨rfl, rfl⟩) | (go_at_call 13; refine (sub_any _ _ _).mono ?_; rintro e w' ⟨rfl, rfl⟩) | (go_at_call 17; refine (awake_any _ HT.out).mono ?_; rintro e w1 ⟨rfl, q1⟩))
        go_ret
        exact ⟨rfl, q1⟩
    · have q3 := sub_add_gt h2
      have q4 := min_r h2
      rcases Q2 with e1 | ⟨e1, e2⟩
      all_goals
        go_enter Tryd.func4, Tryd.ntmps4
        go_wp2_with (first | (go_at_call 9; refine (hold_any _ _).mono ?_; rintro e w' ⟨rfl, rfl⟩) | (go_at_call 18; refine (mul64_int _ _ a0 a1 b0 b1 _).mono ?_; rintro e w' ⟨rfl, rfl⟩) | (go_at_call 15; refine (mul_any _ _ _).mono ?_; rintro e w' ⟨rfl, rfl⟩) | (go_at_call 11; refine (add_any _ _ _).mono ?_; rintro e w' ⟨rfl, rfl⟩) | (go_at_call 13; refine (sub_any _ _ _).mono ?_; rintro e w' ⟨rfl, rfl⟩) | (go_at_call 17; refine (awake_any _ HT.out).mono ?_; rintro e w1 ⟨rfl, q1⟩))
        go_ret
        exact ⟨rfl, q1⟩
  · have q2 := add_gt h1
    have q5 := min_r h1
    have hw : IntKind.u64.wrap (M.hold a + M.hold b) = M.hold a + M.hold b := by rw [IntKind.wrap_u64]; omega
    by_cases h2 : M.hold a ≤ M.hold b
    · have q3 := sub_add_le h2
      have q4 := min_l h2
      rcases Q2 with e1 | ⟨e1, e2⟩
      all_goals
        go_enter Tryd.func4, Tryd.ntmps4
        go_wp2_with (first | (go_at_call 9; refine (hold_any _ _).mono ?_; rintro e w' ⟨rfl, rfl⟩) | (go_at_call 18; refine (mul64_int _ _ a0 a1 b0 b1 _).mono ?_; rintro e w' ⟨rfl, rfl⟩) | (go_at_call 15; refine (mul_any _ _ _).mono ?_; rintro e w' ⟨rfl, rfl⟩) | (go_at_call 11; refine (add_any _ _ _).mono ?_; rintro e w' ⟨rfl, rfl⟩) | (go_at_call 13; refine (sub_any _ _ _).mono ?_; rintro e w' ⟨rfl, rfl⟩) | (go_at_call 17; refine (awake_any _ HT.out).mono ?_; rintro e w1 ⟨rfl, q1⟩))
        go_ret
        exact ⟨rfl, q1⟩
    · have q3 := sub_add_gt h2
      have q4 := min_r h2
      rcases Q2 with e1 | ⟨e1, e2⟩
      all_goals
        go_enter Tryd.func4, Tryd.ntmps4
        go_wp2_with (first | (go_at_call 9; refine (hold_any _ _).mono ?_; rintro e w' ⟨rfl, rfl⟩) | (go_at_call 18; refine (mul64_int _ _ a0 a1 b0 b1 _).mono ?_; rintro e w' ⟨rfl, rfl⟩) | (go_at_call 15; refine (mul_any _ _ _).mono ?_; rintro e w' ⟨rfl, rfl⟩) | (go_at_call 11; refine (add_any _ _ _).mono ?_; rintro e w' ⟨rfl, rfl⟩) | (go_at_call 13; refine (sub_any _ _ _).mono ?_; rintro e w' ⟨rfl, rfl⟩) | (go_at_call 17; refine (awake_any _ HT.out).mono ?_; rintro e w1 ⟨rfl, q1⟩))
        go_ret
        exact ⟨rfl, q1⟩

theorem numWide_walk (a b : Int) (w : World) (ht : PowIs w) :
    Calls Tryd.prog 4 #[.int .i64 a, .int .i64 b] w fun e w' => e = .returned (.bool true) ∧ Below w.heap.size w w' := by
  by_cases h : M.hold a * M.hold b < 4611686018427387904
  · exact wide_small a b w ht h
  · exact wide_big a b w ht h
end Go.Proofs.YtbgfcdlfnpecdaaDoor
