/- Walks of package ratio's texts, and of the document's own twins: signs, names, digits, Text. -/
import Derived.Test.YtbinhlnekhglkaaDoorRatW
import Derived.Test.YtbinhlnekhglkaaDoorTxFlt
import Derived.Lib.ItoaLen
namespace Go.Proofs.YtbinhlnekhglkaaDoor
open Go.RowKit

def PowIs (w : World) : Prop := Lib.TabIs Tryd.prog w "internal/strconv.uint64pow10" .u64 Lib.pow10Tab
theorem gPow : Tryd.prog.globalNamed "internal/strconv.uint64pow10" = some 2 := by kernel_rfl
theorem PowIs.lt {w : World} (h : PowIs w) : 2 < w.heap.size := by
  have hc := Lib.TabIs.cell h gPow 0 (by decide)
  rcases Nat.lt_or_ge 2 w.heap.size with h' | h'
  · exact h'
  · simp [World.cell?, Array.getElem?_eq_none h'] at hc
theorem PowIs.below {w w' : World} (h : PowIs w) (hb : Below w.heap.size w w') : PowIs w' := var?_below hb gPow h.lt h
theorem below_trans {a b c : World} (h : Below a.heap.size a b) (k : Below b.heap.size b c) : Below a.heap.size a c := h.trans (k.mono h.size)

def bstr (l : List UInt8) : Value := .string ⟨l.toArray⟩
theorem str_app (a b : List UInt8) : (⟨a.toArray⟩ : ByteArray) ++ ⟨b.toArray⟩ = ⟨(a ++ b).toArray⟩ := ByteArray.mk_append_mk a b
theorem str_size (l : List UInt8) : (⟨l.toArray⟩ : ByteArray).size = l.length := by simp [ByteArray.size]
theorem ret_s {a b : List UInt8} {P : Prop} (h : a = b) (hp : P) : Ending.returned (.string ⟨a.toArray⟩) = .returned (.string ⟨b.toArray⟩) ∧ P := ⟨by rw [h], hp⟩

set_option maxHeartbeats 400000 in
theorem minus_any (x : Nat) (bx : x < 18446744073709551616) (w : World) :
    Calls Tryd.prog 43 #[.float .f64 x] w fun e w' => e = .returned (.string ⟨(TX.mns x).toArray⟩) ∧ w = w' := by
  have BX := Lib.hid bx
  clear bx
  cases hs : FM.sgn x
  all_goals
    have E := Lib.hid (show TX.mns x = _ by unfold TX.mns; rw [hs])
    go_enter Tryd.func43, Tryd.ntmps43
    go_wp2_with (go_at_call 19; refine (signbit_any _ BX.out _).mono ?_; rintro e w' ⟨rfl, rfl⟩)
    go_ret
    rw [E.out]
    exact ⟨rfl, rfl⟩

/-- The names of what has no digits. -/
def nam (x : Nat) : List UInt8 := if FM.nan x then [110, 97, 110] else if FM.rg x = FM.infR then TX.mns x ++ [105, 110, 102] else []
def isNam (x : Nat) : Bool := FM.nan x || (FM.rg x == FM.infR)
theorem ret_sb {a b : List UInt8} {x y : Bool} {P : Prop} (h : a = b) (h2 : x = y) (hp : P) : Ending.returned (.tuple #[.string ⟨a.toArray⟩, .bool x]) = .returned (.tuple #[.string ⟨b.toArray⟩, .bool y]) ∧ P := ⟨by rw [h, h2], hp⟩
set_option maxHeartbeats 800000 in
theorem named_any (x : Nat) (bx : x < 18446744073709551616) (w : World) :
    Calls Tryd.prog 42 #[.float .f64 x] w fun e w' => e = .returned (.tuple #[.string ⟨(nam x).toArray⟩, .bool (isNam x)]) ∧ w = w' := by
  have BX := Lib.hid bx
  clear bx
  cases hx : FM.nan x
  · by_cases hi : FM.rg x = FM.infR
    · cases hs : FM.sgn x
      · have E := Lib.hid (show nam x = [105, 110, 102] by unfold nam TX.mns; rw [hx, if_pos hi, hs]; rfl)
        have E2 := Lib.hid (show isNam x = true by unfold isNam; rw [hi]; simp)
        have q1 : isInf x 1 = true := by unfold isInf; rw [hi, hs]; decide
        clear hi
        go_enter Tryd.func42, Tryd.ntmps42
        go_wp2_with (first | (go_at_call 16; refine (isnan_any _ _).mono ?_; rintro e w' ⟨rfl, rfl⟩) | (go_at_call 18; refine (isinf_any _ _ BX.out _).mono ?_; rintro e w' ⟨rfl, rfl⟩))
        go_ret2
        exact ret_sb E.out.symm E2.out.symm rfl
      · have E := Lib.hid (show nam x = [45, 105, 110, 102] by unfold nam TX.mns; rw [hx, if_pos hi, hs]; rfl)
        have E2 := Lib.hid (show isNam x = true by unfold isNam; rw [hi]; simp)
        have q1 : isInf x 1 = false := by unfold isInf; rw [hi, hs]; decide
        have q2 : isInf x (-1) = true := by unfold isInf; rw [hi, hs]; decide
        clear hi
        go_enter Tryd.func42, Tryd.ntmps42
        go_wp2_with (first | (go_at_call 16; refine (isnan_any _ _).mono ?_; rintro e w' ⟨rfl, rfl⟩) | (go_at_call 18; refine (isinf_any _ _ BX.out _).mono ?_; rintro e w' ⟨rfl, rfl⟩))
        go_ret2
        exact ret_sb E.out.symm E2.out.symm rfl
    · have E := Lib.hid (show nam x = _ by unfold nam; rw [hx, if_neg hi])
      have hb : (FM.rg x == FM.infR) = false := by simpa using hi
      have E2 := Lib.hid (show isNam x = false by unfold isNam; rw [hb, hx]; rfl)
      have q1 : isInf x 1 = false := by unfold isInf; rw [hb]; rfl
      have q2 : isInf x (-1) = false := by unfold isInf; rw [hb]; rfl
      clear hi hb
      go_enter Tryd.func42, Tryd.ntmps42
      go_wp2_with (first | (go_at_call 16; refine (isnan_any _ _).mono ?_; rintro e w' ⟨rfl, rfl⟩) | (go_at_call 18; refine (isinf_any _ _ BX.out _).mono ?_; rintro e w' ⟨rfl, rfl⟩))
      go_ret2
      exact ret_sb E.out.symm E2.out.symm rfl
  · have E := Lib.hid (show nam x = _ by unfold nam; rw [hx])
    have E2 := Lib.hid (show isNam x = true by unfold isNam; rw [hx]; rfl)
    go_enter Tryd.func42, Tryd.ntmps42
    go_wp2_with (go_at_call 16; refine (isnan_any _ _).mono ?_; rintro e w' ⟨rfl, rfl⟩)
    go_ret2
    exact ret_sb E.out.symm E2.out.symm rfl

theorem itoa_nat (n : Nat) : Lib.itoa (n : Int) = Lib.decDigits n := by unfold Lib.itoa; rw [if_neg (by omega)]; rfl
/-- strconv.Itoa of a number that is not below 0. -/
theorem itoa_any (n : Nat) (hn : n ≤ 9223372036854775807) (w : World) (ht : PowIs w) :
    Calls Tryd.prog 55 #[.int .i64 (n : Int)] w fun e w' => e = .returned (.string ⟨(Lib.decDigits n).toArray⟩) ∧ Below w.heap.size w w' := by
  refine (Tryd.strconv_Itoa (n : Int) (by omega) (by omega) w ht).mono ?_
  rintro e w' ⟨rfl, k, os, rfl⟩
  rw [itoa_nat]
  exact ⟨rfl, rfl, rfl, rfl, by simp, fun j hj => Go.Sort.heap_grow_old _ _ (by simpa using hj)⟩
theorem dig_le {n : Nat} (hn : n ≤ 9223372036854775807) : (Lib.decDigits n).length ≤ 20 := by
  rw [Lib.decDigits_length]; exact Lib.nDigits_le20 _ (by omega)

theorem repeat_any (c : Nat) (hc : c ≤ 6) (w : World) :
    Calls Tryd.prog 56 #[.string ⟨#[48]⟩, .int .i64 (c : Int)] w fun e w' => e = .returned (.string ⟨(Lib.repeatL [48] c).toArray⟩) ∧ Below w.heap.size w w' :=
  Tryd.strings_Repeat ⟨#[48]⟩ c w (by omega) (by
    have : (⟨#[48]⟩ : ByteArray).size = 1 := rfl
    rw [this]; omega)
theorem str_four (A R B : List UInt8) : (⟨A.toArray⟩ : ByteArray) ++ ⟨#[46]⟩ ++ ⟨R.toArray⟩ ++ ⟨B.toArray⟩ = ⟨(A ++ 46 :: (R ++ B)).toArray⟩ := by
  have e : (⟨#[46]⟩ : ByteArray) = ⟨[46].toArray⟩ := rfl
  rw [e, str_app, str_app, str_app]; simp
set_option maxHeartbeats 800000 in
theorem pointed_any (whole part places : Nat) (hw : whole ≤ 9223372036854775807) (hp : part ≤ 9223372036854775807) (hk : places ≤ 6) (hd : places = 0 ∨ Lib.nDigits part ≤ places) (w : World) (ht : PowIs w) :
    Calls Tryd.prog 44 #[.int .i64 (whole : Int), .int .i64 (part : Int), .int .i64 (places : Int)] w fun e w' => e = .returned (.string ⟨(TX.pnt whole part places).toArray⟩) ∧ Below w.heap.size w w' := by
  have HT := Lib.hid ht
  clear ht
  by_cases h0 : places = 0
  · subst h0
    have E := Lib.hid (show TX.pnt whole part 0 = Lib.decDigits whole from rfl)
    have HW := Lib.hid hw
    clear hw hp hd
    go_enter Tryd.func44, Tryd.ntmps44
    go_wp2_with fail
    refine (itoa_any _ HW.out _ HT.out).mono ?_
    rintro e w1 ⟨rfl, b1⟩
    have B1 := Lib.hid b1
    clear b1
    go_wp2
    go_ret
    exact ret_s E.out.symm B1.out
  · have hb : ((places : Int) == 0) = false := by simpa using h0
    have hd' := hd.resolve_left h0
    have E := Lib.hid (show TX.pnt whole part places = Lib.decDigits whole ++ 46 :: (Lib.repeatL [48] (places - (Lib.decDigits part).length) ++ Lib.decDigits part) by
      unfold TX.pnt TX.pad; rw [if_neg h0]
      have := Lib.repeatL_replicate 48 1 (places - (Lib.decDigits part).length)
      rw [Nat.mul_one] at this
      rw [← this]; rfl)
    have hl1 := dig_le hw
    have hl2 : (Lib.decDigits part).length ≤ places := by rw [Lib.decDigits_length]; exact hd'
    have HW := Lib.hid hw; have HP := Lib.hid hp
    clear hw hp hd hd' h0
    have HI1 := Lib.hid (fun w ht => itoa_any whole HW.out w ht)
    have HI2 := Lib.hid (fun w ht => itoa_any part HP.out w ht)
    obtain ⟨A, hA⟩ : ∃ A, A = Lib.decDigits whole := ⟨_, rfl⟩
    obtain ⟨B, hB⟩ : ∃ B, B = Lib.decDigits part := ⟨_, rfl⟩
    rw [← hA] at hl1 HI1 E
    rw [← hB] at hl2 HI2 E
    clear hA hB
    have hsA := str_size A; have hsB := str_size B
    obtain ⟨c, hc⟩ : ∃ c : Nat, (places : Int) - (B.length : Int) = (c : Int) := ⟨places - B.length, by omega⟩
    have ec : places - B.length = c := by omega
    have hc6 : c ≤ 6 := by omega
    rw [ec] at E
    obtain ⟨R, hR⟩ : ∃ R, R = Lib.repeatL [48] c := ⟨_, rfl⟩
    rw [← hR] at E
    have hRl : R.length ≤ 6 := by rw [hR, Lib.repeatL_length]; simpa using hc6
    have hrep := fun w => repeat_any c hc6 w
    rw [← hR] at hrep
    have HREP := Lib.hid hrep
    clear hR ec hrep
    have hsR := str_size R
    go_enter Tryd.func44, Tryd.ntmps44
    go_wp2_with fail
    refine (HI2.out _ HT.out).mono ?_
    rintro e w1 ⟨rfl, b1⟩
    have B1 := Lib.hid b1
    have HT1 := Lib.hid (HT.out.below b1)
    clear b1
    go_wp2_with fail
    refine (HI1.out _ HT1.out).mono ?_
    rintro e w2 ⟨rfl, b2⟩
    have B2 := Lib.hid (below_trans B1.out b2)
    clear b2
    go_wp2_with fail
    refine (HREP.out _).mono ?_
    rintro e w3 ⟨rfl, b3⟩
    have B3 := Lib.hid (below_trans B2.out b3)
    clear b3
    go_wp2
    go_ret
    refine ⟨?_, B3.out⟩
    rw [E.out, ← str_four]; rfl
end Go.Proofs.YtbinhlnekhglkaaDoor
