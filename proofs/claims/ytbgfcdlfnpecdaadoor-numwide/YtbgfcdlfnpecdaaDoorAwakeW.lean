/- The walk of turncocklaw1's awake, and what worlds keep. -/
import Derived.Test.YtbgfcdlfnpecdaaDoorDigW
namespace Go.Proofs.YtbgfcdlfnpecdaaDoor
open Go.RowKit

theorem gPow : Tryd.prog.globalNamed "internal/strconv.uint64pow10" = some 0 := by kernel_rfl
theorem PowIs.lt {w : World} (h : PowIs w) : 0 < w.heap.size := by
  have hc := Lib.TabIs.cell h gPow 0 (by decide)
  rcases Nat.lt_or_ge 0 w.heap.size with h' | h'
  · exact h'
  · simp [World.cell?, Array.getElem?_eq_none h'] at hc
theorem PowIs.below {w w' : World} (h : PowIs w) (hb : Below w.heap.size w w') : PowIs w' := var?_below hb gPow h.lt h
theorem below_trans {a b c : World} (h : Below a.heap.size a b) (k : Below b.heap.size b c) : Below a.heap.size a c := h.trans (k.mono h.size)

theorem k_divE0 : M.divE 0 = 1 := by decide
theorem k_divN72 : M.divN 7 2 = 3 := by decide
theorem k_divE2 : M.divE 2 = 0 := by decide
theorem k_pN120 : M.pN [49, 50, 48] = 120 := by decide +kernel
theorem k_pB120 : M.pB [49, 50, 48] = true := by decide +kernel
theorem k_pB007 : M.pB [48, 48, 55] = false := by decide +kernel
theorem k_hold : M.hold (-1) = 0 := by decide
theorem k_add : M.add 4611686018427387904 1 = 4611686018427387904 := by decide
theorem k_sub : M.sub 3 5 = 0 := by decide
theorem k_mul : M.mul 1099511627776 1099511627776 = 4611686018427387904 := by decide +kernel
theorem k_d0 : Lib.decDigits (M.hold 0).toNat = [48] := Lib.decDigits_one (by decide)
theorem k_d120 : Lib.decDigits (M.hold 120).toNat = [49, 50, 48] := by
  have : (M.hold 120).toNat = 120 := by decide
  rw [this]
  unfold Lib.decDigits
  rw [dif_neg (by decide), Lib.decDigits_two (by decide) (by decide)]
  rfl

set_option maxHeartbeats 1000000 in
theorem awake_any (w : World) (ht : PowIs w) :
    Calls Tryd.prog 17 #[] w fun e w' => e = .returned (.bool true) ∧ Below w.heap.size w w' := by
  have q1 := k_divE0; have q2 := k_divN72; have q3 := k_divE2; have q4 := k_pN120; have q5 := k_pB120; have q6 := k_pB007
  have q7 := k_hold; have q8 := k_add; have q9 := k_sub; have q10 := k_mul; have q11 := k_d0; have q12 := k_d120
  have HT := Lib.hid ht
  clear ht
  go_enter Tryd.func17, Tryd.ntmps17
  go_wp2_with (go_at_call 7; refine (div_any _ _ _).mono ?_; rintro e w' ⟨rfl, rfl⟩)
  refine (parse_any _ _ (by decide)).mono ?_
  rintro e w1 ⟨rfl, b1⟩
  go_wp2_with fail
  refine (parse_any _ _ (by decide)).mono ?_
  rintro e w2 ⟨rfl, b2⟩
  have b12 := below_trans b1 b2
  have HT2 := Lib.hid (HT.out.below b12)
  have B12 := Lib.hid b12
  clear b1 b2 b12
  go_wp2_with (first
    | (go_at_call 9; refine (hold_any _ _).mono ?_; rintro e w' ⟨rfl, rfl⟩)
    | (go_at_call 11; refine (add_any _ _ _).mono ?_; rintro e w' ⟨rfl, rfl⟩)
    | (go_at_call 13; refine (sub_any _ _ _).mono ?_; rintro e w' ⟨rfl, rfl⟩)
    | (go_at_call 15; refine (mul_any _ _ _).mono ?_; rintro e w' ⟨rfl, rfl⟩))
  refine (digits_any _ _ HT2.out).mono ?_
  rintro e w3 ⟨rfl, b3⟩
  have HT3 := Lib.hid (HT2.out.below b3)
  have B13 := Lib.hid (below_trans B12.out b3)
  clear b3
  go_wp2_with fail
  refine (digits_any _ _ HT3.out).mono ?_
  rintro e w4 ⟨rfl, b4⟩
  have B14 := Lib.hid (below_trans B13.out b4)
  clear b4
  go_wp2
  go_ret
  exact ⟨rfl, B14.out⟩
end Go.Proofs.YtbgfcdlfnpecdaaDoor
