/- The walk of turncocklaw5's awake. -/
import Derived.Test.YtbinhlnekhglkaaDoorRatU
namespace Go.Proofs.YtbinhlnekhglkaaDoor
open Go.RowKit

theorem k_par1 : parF [45, 48] = 9223372036854775808 := by decide +kernel
theorem k_par2 : parOk [45, 48] = true := by decide +kernel
theorem k_par3 : parOk [48, 49] = false := by decide +kernel
theorem k_near : nearI 10 4605380978949069210 = 8 := by decide +kernel
theorem k_ord : ordI 9223372036854775808 0 = -1 := by decide +kernel
theorem k_ord2 : (ordI 9223372036854775808 0 == 0) = false := by rw [k_ord]; rfl
theorem k_ord3 : (ordI 9221120237041090561 9221120237041090561 == 0) = true := by decide +kernel
theorem k_eq : FloatKind.f64.format.order 9223372036854775808 0 = some .eq := by decide +kernel
theorem k_sgn : FM.sgn 9223372036854775808 = true := by decide
theorem k_text : TX.text 9223372036854775808 = [45, 48, 46, 48, 48, 48] := by
  have h1 : FM.nan 9223372036854775808 = false := by decide
  have h2 : FM.rg 9223372036854775808 = 0 := by decide
  have h3 : FM.val 0 / FM.U = 0 := by rw [FM.val_zero, Nat.zero_div]
  have h4 : FM.val (TX.txP 0) / FM.U = 0 := by decide +kernel
  unfold TX.text TX.mns
  rw [h1, h2, k_sgn, h3, h4]
  unfold TX.pnt TX.pad
  rw [Lib.decDigits_one (by decide)]
  rfl
theorem k_wk0 : wk 4602678819172646912 0 = none := by
  have h1 : FM.rg 4602678819172646912 = 4602678819172646912 := by decide
  have h2 : TX.allOf 4602678819172646912 0 = 1 := by decide +kernel
  have h3 : TX.qw 1 0 = 4607182418800017408 := by decide +kernel
  unfold wk
  rw [h1, h2, h3]; simp
theorem k_wk1 : wk 4602678819172646912 1 = some [48, 46, 53] := by
  have h1 : FM.rg 4602678819172646912 = 4602678819172646912 := by decide
  have h2 : TX.allOf 4602678819172646912 1 = 5 := by decide +kernel
  have h3 : TX.qw 5 1 = 4602678819172646912 := by decide +kernel
  have h4 : FM.sgn 4602678819172646912 = false := by decide
  unfold wk
  rw [h1, h2, h3, if_pos (by decide)]
  unfold TX.mns TX.pnt TX.pad
  rw [h4]
  have e1 : 5 / 10 ^ 1 = 0 := by decide
  have e2 : 5 % 10 ^ 1 = 5 := by decide
  rw [e1, e2, Lib.decDigits_one (by decide), Lib.decDigits_one (by decide)]
  rfl
theorem k_write : wrS 4602678819172646912 = [48, 46, 53] ∧ wrOk 4602678819172646912 = true := by
  refine wr_at (k := 1) (by decide) (by decide +kernel) (by decide) ?_ k_wk1
  intro j hj
  have : j = 0 := by omega
  rw [this]; exact k_wk0
theorem text_nan {r : Nat} (h : isNaNWord r) : TX.text r = [110, 97, 110] := by unfold TX.text; rw [h.1]; rfl

set_option maxHeartbeats 2000000 in
theorem awake5 (w : World) (ht : PowIs w) :
    Calls Tryd.prog 17 #[] w fun e w' => e = .returned (.bool true) ∧ Below w.heap.size w w' := by
  have HT := Lib.hid ht
  clear ht
  have HP1 := fun w => parse_any [45, 48] (by decide) w
  rw [k_par1, k_par2] at HP1
  have HP1 := Lib.hid HP1
  have HP2 := fun w => parse_any [48, 49] (by decide) w
  rw [k_par3] at HP2
  have HP2 := Lib.hid HP2
  have HWR := fun w ht => write_any 4602678819172646912 (by decide) w ht
  rw [k_write.1, k_write.2] at HWR
  have HWR := Lib.hid HWR
  have HNR := fun w => near_any 10 4605380978949069210 (by decide) w
  rw [k_near] at HNR
  have HNR := Lib.hid HNR
  have HOR := fun w => order_any 9223372036854775808 0 (by decide) (by decide) w
  rw [k_ord] at HOR
  have HOR := Lib.hid HOR
  have HS1 := fun w => same_any 9223372036854775808 0 (by decide) (by decide) w
  rw [k_ord2] at HS1
  have HS1 := Lib.hid HS1
  have HS2 := fun w => same_any 9221120237041090561 9221120237041090561 (by decide) (by decide) w
  rw [k_ord3] at HS2
  have HS2 := Lib.hid HS2
  have HSG := fun w => signbit_any 9223372036854775808 (by decide) w
  rw [k_sgn] at HSG
  have HSG := Lib.hid HSG
  have HTX := fun w ht => text_any 9223372036854775808 (by decide) w ht
  rw [k_text] at HTX
  have HTX := Lib.hid HTX
  have keq := k_eq
  obtain ⟨F2, hF2⟩ : ∃ F2, F2 = parF [48, 49] := ⟨_, rfl⟩
  rw [← hF2] at HP2
  clear hF2
  go_enter Tryd.func17, Tryd.ntmps17
  go_wp2_with fail
  refine (HP1.out _).mono ?_
  rintro e w1 ⟨rfl, b1⟩
  have B1 := Lib.hid b1
  have T1 := Lib.hid (HT.out.below b1)
  clear b1
  go_wp2_with fail
  refine (HWR.out _ T1.out).mono ?_
  rintro e w2 ⟨rfl, b2⟩
  have B2 := Lib.hid (below_trans B1.out b2)
  clear b2 B1 T1
  go_wp2_with fail
  refine (HP2.out _).mono ?_
  rintro e w3 ⟨rfl, b3⟩
  have B3 := Lib.hid (below_trans B2.out b3)
  clear b3 B2
  go_wp2_with fail
  refine (of_zero _).mono ?_
  rintro e w4 ⟨⟨r1, hr1, rfl⟩, hw4⟩
  have B4 := Lib.hid (below_trans B3.out (show Below w3.heap.size w3 w4 by rw [hw4]; exact below_drew _))
  clear hw4 B3
  have n1 := hr1.1
  clear hr1
  go_wp2_with fail
  refine (isnan_any _ _).mono ?_
  rintro e w' ⟨rfl, rfl⟩
  go_wp2_with fail
  refine (of_zero _).mono ?_
  rintro e w5 ⟨⟨r2, hr2, rfl⟩, hw5⟩
  have B5 := Lib.hid (below_trans B4.out (show Below w4.heap.size w4 w5 by rw [hw5]; exact below_drew _))
  have T5 := Lib.hid (HT.out.below B5.out)
  clear hw5 B4
  have htx := fun w ht => text_any r2 hr2.2 w ht
  rw [text_nan hr2] at htx
  have HTN := Lib.hid htx
  clear htx hr2
  go_wp2_with fail
  refine (HTN.out _ T5.out).mono ?_
  rintro e w6 ⟨rfl, b6⟩
  have B6 := Lib.hid (below_trans B5.out b6)
  have T6 := Lib.hid (HT.out.below B6.out)
  clear b6 B5 T5
  go_wp2_with fail
  refine (HNR.out _).mono ?_
  rintro e w' ⟨rfl, rfl⟩
  go_wp2_with fail
  refine (HSG.out _).mono ?_
  rintro e w' ⟨rfl, rfl⟩
  go_wp2_with fail
  refine (HTX.out _ T6.out).mono ?_
  rintro e w7 ⟨rfl, b7⟩
  have B7 := Lib.hid (below_trans B6.out b7)
  clear b7 B6 T6
  go_wp2_with fail
  refine (HOR.out _).mono ?_
  rintro e w' ⟨rfl, rfl⟩
  go_wp2_with fail
  refine (HS1.out _).mono ?_
  rintro e w' ⟨rfl, rfl⟩
  go_wp2_with (go_at_call 27; refine (mnan_any _).mono ?_; rintro e w' ⟨rfl, rfl⟩)
  refine (HS2.out _).mono ?_
  rintro e w' ⟨rfl, rfl⟩
  go_wp2
  go_ret
  exact ⟨rfl, B7.out⟩
end Go.Proofs.YtbinhlnekhglkaaDoor
