/- The walks of turncocklaw1's four laws. -/
import Derived.Test.YtbgfcdlfnpecdaaDoorAwakeW
namespace Go.Proofs.YtbgfcdlfnpecdaaDoor
open Go.RowKit

set_option maxHeartbeats 1000000 in
theorem numSums_walk (a b : Int) (w : World) (ht : PowIs w) :
    Calls Tryd.prog 3 #[.int .i64 a, .int .i64 b] w fun e w' => e = .returned (.bool true) ∧ Below w.heap.size w w' := by
  have HT := Lib.hid ht
  clear ht
  go_enter Tryd.func3, Tryd.ntmps3
  go_wp2_with (first
    | (go_at_call 7; refine (div_any _ _ _).mono ?_; rintro e w' ⟨rfl, rfl⟩)
    | (go_at_call 8; refine (rdiv_any _ _ _).mono ?_; rintro e w' ⟨rfl, rfl⟩)
    | (go_at_call 9; refine (hold_any _ _).mono ?_; rintro e w' ⟨rfl, rfl⟩)
    | (go_at_call 10; refine (rhold_any _ _).mono ?_; rintro e w' ⟨rfl, rfl⟩)
    | (go_at_call 11; refine (add_any _ _ _).mono ?_; rintro e w' ⟨rfl, rfl⟩)
    | (go_at_call 12; refine (radd_any _ _ _).mono ?_; rintro e w' ⟨rfl, rfl⟩)
    | (go_at_call 13; refine (sub_any _ _ _).mono ?_; rintro e w' ⟨rfl, rfl⟩)
    | (go_at_call 14; refine (rsub_any _ _ _).mono ?_; rintro e w' ⟨rfl, rfl⟩)
    | (go_at_call 15; refine (mul_any _ _ _).mono ?_; rintro e w' ⟨rfl, rfl⟩)
    | (go_at_call 16; refine (rmul_any _ _ _).mono ?_; rintro e w' ⟨rfl, rfl⟩)
    | (go_at_call 17; refine (awake_any _ HT.out).mono ?_; rintro e w1 ⟨rfl, b1⟩))
  go_ret
  exact ⟨rfl, b1⟩

set_option maxHeartbeats 1000000 in
theorem numBack_walk (a : Int) (w : World) (ht : PowIs w) :
    Calls Tryd.prog 6 #[.int .i64 a] w fun e w' => e = .returned (.bool true) ∧ Below w.heap.size w w' := by
  have HT := Lib.hid ht
  clear ht
  have a0 := M.hold_lo a; have a1 := M.hold_hi a
  have hp : M.parse (Lib.decDigits (M.hold a).toNat) = some (M.hold a) := by
    have := M.parse_decDigits (M.hold a).toNat (by omega)
    rw [this]; congr 1; omega
  have q1 := pN_some hp
  have q2 := pB_some hp
  have hlen : (⟨(Lib.decDigits (M.hold a).toNat).toArray⟩ : ByteArray).size ≤ maxLen := by
    show (Lib.decDigits (M.hold a).toNat).toArray.size ≤ _
    rw [List.size_toArray, Lib.decDigits_length]
    have := Lib.nDigits_le20 (M.hold a).toNat (by omega)
    unfold maxLen; omega
  clear hp
  obtain ⟨D, hD⟩ : ∃ D, D = Lib.decDigits (M.hold a).toNat := ⟨_, rfl⟩
  rw [← hD] at q1 q2 hlen
  have d1 := fun w h => digits_any a w h
  have d2 := fun w => rdigits_any a w
  rw [← hD] at d1 d2
  have D1 := Lib.hid d1
  have D2 := Lib.hid d2
  clear d1 d2 hD
  go_enter Tryd.func6, Tryd.ntmps6
  go_wp2_with fail
  refine (D1.out _ HT.out).mono ?_
  rintro e w1 ⟨rfl, b1⟩
  have HT1 := Lib.hid (HT.out.below b1)
  go_wp2_with fail
  refine (parse_any _ _ hlen).mono ?_
  rintro e w2 ⟨rfl, b2⟩
  have b12 := below_trans b1 b2
  have HT2 := Lib.hid (HT.out.below b12)
  clear b1 b2
  go_wp2_with (go_at_call 10; refine (rhold_any _ _).mono ?_; rintro e w' ⟨rfl, rfl⟩)
  refine (D1.out _ HT2.out).mono ?_
  rintro e w3 ⟨rfl, b3⟩
  have b13 := below_trans b12 b3
  clear b12 b3
  go_wp2_with fail
  refine (D2.out _).mono ?_
  rintro e w4 ⟨rfl, b4⟩
  have b14 := below_trans b13 b4
  have HT4 := Lib.hid (HT.out.below b14)
  clear b13 b4
  go_wp2_with fail
  refine (awake_any _ HT4.out).mono ?_
  rintro e w5 ⟨rfl, b5⟩
  have b15 := below_trans b14 b5
  go_wp2
  go_ret
  exact ⟨rfl, b15⟩

set_option maxHeartbeats 1000000 in
theorem numReads_walk (s : ByteArray) (w : World) (hs : s.size ≤ maxLen) (ht : PowIs w) :
    Calls Tryd.prog 5 #[.string s] w fun e w' => e = .returned (.bool true) ∧ Below w.heap.size w w' := by
  have HT := Lib.hid ht
  clear ht
  have hs' := hs
  unfold maxLen at hs'
  by_cases hl : 200 < s.size
  · go_enter Tryd.func5, Tryd.ntmps5
    go_wp2_with (go_at_call 17; refine (awake_any _ HT.out).mono ?_; rintro e w1 ⟨rfl, b1⟩)
    go_ret
    exact ⟨rfl, b1⟩
  · cases hp : M.parse s.data.toList with
    | none =>
      have q2 := pB_none hp
      clear hp
      go_enter Tryd.func5, Tryd.ntmps5
      go_wp2_with fail
      refine (parse_any _ _ hs).mono ?_
      rintro e w1 ⟨rfl, b1⟩
      have HT1 := Lib.hid (HT.out.below b1)
      go_wp2_with (go_at_call 20; refine (rparse_any _ _ hs).mono ?_; rintro e w' ⟨rfl, rfl⟩)
      refine (awake_any _ HT1.out).mono ?_
      rintro e w2 ⟨rfl, b2⟩
      have b12 := below_trans b1 b2
      go_wp2
      go_ret
      exact ⟨rfl, b12⟩
    | some m =>
      have q1 := Lib.hid (pN_some hp)
      have q2 := pB_some hp
      have hbd := M.parse_bound hp
      have hdd := M.parse_digits hp
      have d1 := fun w h => digits_any (M.pN s.data.toList) w h
      rw [q1.out, M.hold_in hbd.1 hbd.2, hdd, ← q1.out] at d1
      have D1 := Lib.hid d1
      clear d1 hdd hbd hp
      go_enter Tryd.func5, Tryd.ntmps5
      go_wp2_with fail
      refine (parse_any _ _ hs).mono ?_
      rintro e w1 ⟨rfl, b1⟩
      have HT1 := Lib.hid (HT.out.below b1)
      go_wp2_with (go_at_call 20; refine (rparse_any _ _ hs).mono ?_; rintro e w' ⟨rfl, rfl⟩)
      refine (D1.out _ HT1.out).mono ?_
      rintro e w2 ⟨rfl, b2⟩
      have b12 := below_trans b1 b2
      have HT2 := Lib.hid (HT.out.below b12)
      clear b1 b2
      go_wp2_with fail
      refine (awake_any _ HT2.out).mono ?_
      rintro e w3 ⟨rfl, b3⟩
      have b13 := below_trans b12 b3
      go_wp2
      go_ret
      exact ⟨rfl, b13⟩
end Go.Proofs.YtbgfcdlfnpecdaaDoor
