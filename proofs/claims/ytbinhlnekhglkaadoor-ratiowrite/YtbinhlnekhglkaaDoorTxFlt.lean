/- Plain facts: which float a text is read as, which text a float has; no program. -/
import Derived.Test.YtbinhlnekhglkaaDoorTxMath
namespace Go.Proofs.YtbinhlnekhglkaaDoor.TX
open Go.Lib

theorem ten_pos (k : Nat) : 0 < 10 ^ k := Nat.pow_pos (by decide)
theorem ten_le {k : Nat} (h : k ≤ 6) : 10 ^ k ≤ 1000000 := by
  have : 10 ^ k ≤ 10 ^ 6 := Nat.pow_le_pow_right (by decide) h
  omega
/-- n by ten to the k, by one division. -/
def qw (n k : Nat) : Nat := (Ieee.double.div (floatOfInt .f64 (n : Int)) (floatOfInt .f64 ((10 ^ k : Nat) : Int))).getD 0
theorem qdiv {n k : Nat} (hn : n ≤ 1000000000000000) (hk : k ≤ 6) : Ieee.double.div (floatOfInt .f64 (n : Int)) (floatOfInt .f64 ((10 ^ k : Nat) : Int)) = some (qw n k) ∧ qw n k < FM.infR ∧ FM.Rd (n * FM.U * FM.U) (10 ^ k * FM.U) (qw n k) := by
  have hp := ten_pos k; have ht := ten_le hk; have hU := FM.U_pos; have hb := FM.infR_lt
  obtain ⟨X, hX, hXi, hXv⟩ := FM.ofInt_small (n : Int) (by omega) (by omega)
  obtain ⟨Y, hY, hYi, hYv⟩ := FM.ofInt_small ((10 ^ k : Nat) : Int) (by omega) (by omega)
  rw [Int.toNat_natCast] at hXv hYv
  have rX : FM.rg X = X := by unfold FM.rg; omega
  have rY : FM.rg Y = Y := by unfold FM.rg; omega
  have sX : FM.sgn X = false := by unfold FM.sgn; simp; omega
  have sY : FM.sgn Y = false := by unfold FM.sgn; simp; omega
  have hYU : 0 < 10 ^ k * FM.U := Nat.mul_pos hp hU
  have hY0 : Y ≠ 0 := by rintro rfl; rw [FM.val_zero] at hYv; omega
  obtain ⟨R, h1, h2⟩ := FM.div_num (x := X) (y := Y) (by omega) (by omega) (by omega)
  rw [rX, rY, hXv, hYv] at h2
  rw [sX, sY] at h1
  have hR : R ≤ X := h2.le hYU (by
    rw [hXv, Nat.mul_comm (10 ^ k * FM.U), ← Nat.mul_assoc]
    apply Nat.mul_le_mul_right
    exact Nat.le_mul_of_pos_right _ hp)
  have e : Ieee.double.div (floatOfInt .f64 (n : Int)) (floatOfInt .f64 ((10 ^ k : Nat) : Int)) = some R := by
    rw [hX, hY, h1, Nat.min_eq_left (by omega)]; rfl
  have eq : qw n k = R := by unfold qw; rw [e]; rfl
  rw [eq]
  exact ⟨e, by omega, h2⟩
/-- A lesser quotient has no greater float. -/
theorem qw_lt {n k : Nat} (hn : n < 1000000000000000) (hk : k ≤ 6) (h : n / 10 ^ k ≤ 999999999) : FM.val (qw n k) < 1000000000 * FM.U := by
  obtain ⟨_, _, h3⟩ := qdiv (n := n) (k := k) (by omega) hk
  obtain ⟨_, _, h4⟩ := qdiv (n := 999999999999999) (k := 6) (by decide) (by decide)
  have hU := FM.U_pos
  have hp := ten_pos k
  have hle : qw n k ≤ qw 999999999999999 6 := h3.mono h4 (Nat.mul_pos hp hU) (Nat.mul_pos (by decide) hU) (by
    have h5 : n * 1000000 ≤ 999999999999999 * 10 ^ k := by
      have h6 := Nat.div_add_mod n (10 ^ k)
      have h7 := Nat.mod_lt n hp
      have h8 : 10 ^ k * (n / 10 ^ k) ≤ 10 ^ k * 999999999 := Nat.mul_le_mul_left _ h
      have h9 : 10 ^ k ≤ 1000000 := ten_le hk
      generalize 10 ^ k * (n / 10 ^ k) = z at *
      generalize 10 ^ k = T at *
      omega
    have e1 : n * FM.U * FM.U * (10 ^ 6 * FM.U) = (n * 1000000) * (FM.U * FM.U * FM.U) := by grind
    have e2 : 999999999999999 * FM.U * FM.U * (10 ^ k * FM.U) = (999999999999999 * 10 ^ k) * (FM.U * FM.U * FM.U) := by grind
    rw [e1, e2]
    exact Nat.mul_le_mul_right _ h5)
  have hv := FM.val_le hle
  have hc : FM.val (qw 999999999999999 6) < 1000000000 * FM.U := by decide +kernel
  omega

/-- A product with ten to the k. -/
def mw (r k : Nat) : Nat := (Ieee.double.mul r (floatOfInt .f64 ((10 ^ k : Nat) : Int))).getD 0
theorem mmul {r k : Nat} (hk : k ≤ 6) (hr : FM.val r < 1000000000 * FM.U) (hi : r < FM.infR) : Ieee.double.mul r (floatOfInt .f64 ((10 ^ k : Nat) : Int)) = some (mw r k) ∧ mw r k < FM.infR ∧ FM.Rd (FM.val r * (10 ^ k * FM.U)) FM.U (mw r k) ∧ FM.val (mw r k) ≤ 1000000000 * 10 ^ k * FM.U := by
  have hp := ten_pos k; have ht := ten_le hk; have hU := FM.U_pos; have hb := FM.infR_lt
  obtain ⟨Y, hY, hYi, hYv⟩ := FM.ofInt_small ((10 ^ k : Nat) : Int) (by omega) (by omega)
  rw [Int.toNat_natCast] at hYv
  have rX : FM.rg r = r := by unfold FM.rg; omega
  have rY : FM.rg Y = Y := by unfold FM.rg; omega
  have sX : FM.sgn r = false := by unfold FM.sgn; simp; omega
  have sY : FM.sgn Y = false := by unfold FM.sgn; simp; omega
  obtain ⟨R, h1, h2⟩ := FM.mul_num (x := r) (y := Y) (by omega) (by omega)
  rw [rX, rY, hYv] at h2
  rw [sX, sY] at h1
  obtain ⟨Z, hZ, hZi, hZv⟩ := FM.ofInt_small ((1000000000 * 10 ^ k : Nat) : Int) (by omega) (by omega)
  rw [Int.toNat_natCast] at hZv
  have hR : R ≤ Z := h2.le hU (by
    rw [hZv]
    have e : FM.U * (1000000000 * 10 ^ k * FM.U) = 1000000000 * FM.U * (10 ^ k * FM.U) := by grind
    rw [e]
    exact Nat.mul_le_mul_right _ (by omega))
  have e : Ieee.double.mul r (floatOfInt .f64 ((10 ^ k : Nat) : Int)) = some R := by
    rw [hY, h1, Nat.min_eq_left (by omega)]; rfl
  have eq : mw r k = R := by unfold mw; rw [e]; rfl
  rw [eq]
  exact ⟨e, by omega, h2, by rw [← hZv]; exact FM.val_le hR⟩
/-- The nearest whole number to a size with so many places. -/
def allOf (r k : Nat) : Nat := (FM.val (mw r k) + FM.H) / FM.U
theorem allOf_le {r k : Nat} (hk : k ≤ 6) (hr : FM.val r < 1000000000 * FM.U) (hi : r < FM.infR) : allOf r k ≤ 1000000000 * 10 ^ k := by
  obtain ⟨_, _, _, h4⟩ := mmul hk hr hi
  have hU := FM.U_pos; have hH := FM.U_half
  unfold allOf
  apply Nat.le_of_lt_succ
  rw [Nat.div_lt_iff_lt_mul hU, Nat.succ_mul]
  omega
theorem allOf_about {r k : Nat} : allOf r k = FM.val (mw r k) / FM.U ∨ allOf r k = FM.val (mw r k) / FM.U + 1 := by
  have hU := FM.U_pos; have hH := FM.U_half; have hHp := FM.H_pos
  unfold allOf
  have h1 := Nat.div_add_mod (FM.val (mw r k)) FM.U
  have h2 := Nat.mod_lt (FM.val (mw r k)) hU
  generalize FM.val (mw r k) / FM.U = q at *
  generalize FM.val (mw r k) % FM.U = s at *
  rw [← h1]
  by_cases h : s < FM.H
  · left
    apply Nat.div_eq_of_lt_le
    · rw [Nat.mul_comm]; omega
    · rw [Nat.add_mul, Nat.mul_comm q]; omega
  · right
    apply Nat.div_eq_of_lt_le
    · rw [Nat.add_mul, Nat.mul_comm q]; omega
    · rw [Nat.add_mul, Nat.add_mul, Nat.mul_comm q]; omega
/-- What is read as a size is the nearest whole number to it. -/
theorem allOf_qw {n k r : Nat} (hn : n ≤ 1000000000000000) (hk : k ≤ 6) (hr : FM.val r < 1000000000 * FM.U) (hi : r < FM.infR) (h : qw n k = r) : allOf r k = n := by
  obtain ⟨_, _, h3⟩ := qdiv (n := n) (k := k) hn hk
  obtain ⟨_, _, h4, _⟩ := mmul hk hr hi
  rw [h] at h3
  exact FM.round_core (by omega) (ten_pos k) (ten_le hk) h3 h4
/-- One more place, one more nought: the same float. -/
theorem qw_more {n k j : Nat} (hn : n * 10 ^ j ≤ 1000000000000000) (hk : k + j ≤ 6) : qw (n * 10 ^ j) (k + j) = qw n k := by
  have hj := ten_pos j
  have hn' : n ≤ 1000000000000000 := Nat.le_trans (Nat.le_mul_of_pos_right n hj) hn
  obtain ⟨_, _, h3⟩ := qdiv (n := n) (k := k) hn' (by omega)
  obtain ⟨_, _, h4⟩ := qdiv (n := n * 10 ^ j) (k := k + j) hn hk
  have hU := FM.U_pos
  refine h4.unique h3 (Nat.mul_pos (ten_pos _) hU) (Nat.mul_pos (ten_pos _) hU) ?_
  rw [Nat.pow_add]; grind

/-- The rung of a float's whole part. -/
def flW (r : Nat) : Nat := FloatKind.f64.encode ((FloatKind.f64.decode r).integral .down)
def txP (r : Nat) : Nat := (Ieee.double.mul ((Ieee.double.sub r (flW r)).getD 0) 4652007308841189376).getD 0
theorem val_2p53 : FM.val 4845873199050653696 = 9007199254740992 * FM.U := by decide +kernel
theorem val_1000 : FM.val 4652007308841189376 = 1000 * FM.U := by decide +kernel
theorem thou : 2000 * FM.val 4607182418800017407 < FM.val 4652007308841189375 + FM.val 4652007308841189376 := by decide +kernel
/-- What stands behind the point, in thousandths. -/
theorem text_math {r : Nat} (h : r < 4845873199050653696) : ∃ L, flW r < FM.infR ∧ FM.val (flW r) = FM.val r / FM.U * FM.U ∧ FM.val r / FM.U < 9007199254740992 ∧ Ieee.double.sub r (flW r) = some L ∧ Ieee.double.mul L 4652007308841189376 = some (txP r) ∧ txP r < FM.infR ∧ FM.val (txP r) / FM.U ≤ 999 := by
  have hU := FM.U_pos; have hb := FM.infR_lt; have hu := FM.uE_is
  have hi : r < FM.infR := by unfold FM.infR; omega
  have hq : FM.val r / FM.U < 9007199254740992 := by
    rw [Nat.div_lt_iff_lt_mul hU, ← val_2p53]; exact FM.val_lt h
  obtain ⟨F, f1, f2, f3⟩ := FM.floor_num hi hq
  have hF : flW r = F := f1
  have hle : FM.val F ≤ FM.val r := by rw [f3]; exact Nat.div_mul_le_self _ _
  obtain ⟨L, l1, l2⟩ := FM.sub_num hi f2 hle
  have hL : L < 4607182418800017408 := by
    by_cases hs : r < 4607182418800017408
    · have h0 : FM.val r / FM.U = 0 := Nat.div_eq_of_lt (by rw [← FM.val_one]; exact FM.val_lt hs)
      rw [f3, h0, Nat.zero_mul, Nat.sub_zero] at l2
      have : L = r := l2.eq (by decide) (by rw [Nat.one_mul])
      omega
    · have hex : FM.ex r = r / 4503599627370496 - 1 := rfl
      obtain ⟨kE, hkE⟩ : ∃ kE : Nat, kE = 1022 := ⟨_, rfl⟩
      have eU : FM.U = 4503599627370496 * 2 ^ kE := by
        have e52 : (4503599627370496 : Nat) = 2 ^ 52 := by decide
        unfold FM.U; rw [show FM.uE = 52 + kE by omega, Nat.pow_add, e52]
      have eV : FM.val r = (FM.mg r * 2 ^ (FM.ex r - kE)) * 2 ^ kE := by
        unfold FM.val; rw [Nat.mul_assoc, ← Nat.pow_add, Nat.sub_add_cancel (by omega)]
      have hK : 0 < 2 ^ kE := Nat.two_pow_pos _
      have eD : FM.val r - FM.val F = FM.val r % FM.U := by
        rw [f3]
        have := Nat.div_add_mod (FM.val r) FM.U
        rw [Nat.mul_comm] at this; omega
      obtain ⟨R0, hR0⟩ := FM.ex_val 4503599627370495 kE (by decide)
      have hlt : R0 < 4607182418800017408 := by
        rw [← FM.val_lt_iff, FM.val_one, hR0, eU]
        exact Nat.mul_lt_mul_of_pos_right (by decide) hK
      have hmod : FM.val r % FM.U ≤ FM.val R0 := by
        rw [hR0, eV, eU, Nat.mul_mod_mul_right]
        apply Nat.mul_le_mul_right
        have := Nat.mod_lt (FM.mg r * 2 ^ (FM.ex r - kE)) (show 0 < 4503599627370496 by decide)
        omega
      rw [eD] at l2
      have := l2.le (R0 := R0) (by decide) (by rw [Nat.one_mul]; exact hmod)
      omega
  have hLi : L < FM.infR := by unfold FM.infR; omega
  rw [Nat.min_eq_left (by omega)] at l1
  have rX : FM.rg L = L := by unfold FM.rg; omega
  have sX : FM.sgn L = false := by unfold FM.sgn; simp; omega
  obtain ⟨P, p1, p2⟩ := FM.mul_num (x := L) (y := 4652007308841189376) (by omega) (by decide)
  have rY : FM.rg 4652007308841189376 = 4652007308841189376 := by decide
  have sY : FM.sgn 4652007308841189376 = false := by decide
  rw [rX, rY, val_1000] at p2
  rw [sX, sY] at p1
  have hP : P < 4652007308841189376 := by
    apply Nat.lt_of_not_le; intro hge
    obtain ⟨q1, _⟩ := p2.1 (by omega)
    have e : 2 * (FM.val L * (1000 * FM.U)) = FM.U * (2000 * FM.val L) := by grind
    rw [e] at q1
    have q2 := Nat.le_of_mul_le_mul_left q1 hU
    have v1 : FM.val 4652007308841189375 ≤ FM.val (P - 1) := FM.val_le (by omega)
    have v2 : FM.val 4652007308841189376 ≤ FM.val P := FM.val_le hge
    have v3 : FM.val L ≤ FM.val 4607182418800017407 := FM.val_le (by omega)
    have := thou
    omega
  have hPi : P < FM.infR := by unfold FM.infR; omega
  rw [Nat.min_eq_left (by omega)] at p1
  have p1' : Ieee.double.mul L 4652007308841189376 = some P := p1
  have eP : txP r = P := by unfold txP; rw [hF, l1, Option.getD_some, p1', Option.getD_some]
  rw [hF, eP]
  refine ⟨L, f2, f3, hq, l1, p1', hPi, ?_⟩
  apply Nat.le_of_lt_succ
  rw [Nat.div_lt_iff_lt_mul hU]
  have := FM.val_lt hP
  rw [val_1000] at this
  omega

def mns (x : Nat) : List UInt8 := if FM.sgn x then [45] else []
/-- The text of a float with three places. -/
def text (x : Nat) : List UInt8 :=
  if FM.nan x then [110, 97, 110] else if FM.rg x = FM.infR then mns x ++ [105, 110, 102] else if 4845873199050653696 ≤ FM.rg x then mns x ++ [98, 105, 103]
  else mns x ++ pnt (FM.val (FM.rg x) / FM.U) (FM.val (txP (FM.rg x)) / FM.U) 3
/-- The float that a text is read as. -/
def parse (l : List UInt8) : Option Nat :=
  if l = [110, 97, 110] then some 9221120237041090561 else if l = [105, 110, 102] then some 9218868437227405312 else if l = [45, 105, 110, 102] then some 18442240474082181120 else
  match l with
  | 45 :: t => (psz t).map fun p => Ieee.double.word true (qw p.1 p.2)
  | _ => (psz l).map fun p => qw p.1 p.2
end Go.Proofs.YtbinhlnekhglkaaDoor.TX
