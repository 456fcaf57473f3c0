/- Walks of package ratio's Of, Order, Same, Near, and of the document's own twins. -/
import Derived.Test.YtbinhlnekhglkaaDoorFltW
namespace Go.Proofs.YtbinhlnekhglkaaDoor
open Go.RowKit

theorem ord3 {x y : Nat} (hx : FM.nan x = false) (hy : FM.nan y = false) :
    (FloatKind.f64.format.order x y = some .lt ∧ FM.sv x < FM.sv y) ∨ (FloatKind.f64.format.order x y = some .gt ∧ FM.sv y < FM.sv x) ∨ (FloatKind.f64.format.order x y = some .eq ∧ FM.sv x = FM.sv y) := by
  have h := FM.order_num hx hy
  have e : FloatKind.f64.format.order x y = Ieee.double.order x y := rfl
  rw [e, h]
  by_cases h1 : FM.sv x < FM.sv y
  · exact .inl ⟨by rw [if_pos h1], h1⟩
  · by_cases h2 : FM.sv y < FM.sv x
    · exact .inr (.inl ⟨by rw [if_neg h1, if_pos h2], h2⟩)
    · exact .inr (.inr ⟨by rw [if_neg h1, if_neg h2], by omega⟩)

/-- Where a float stands in the order: a greater key, behind. -/
def key (x : Nat) : Int := if FM.nan x then 2 * (FM.val FM.infR : Int) + 2 else 2 * FM.sv x + (if FM.sgn x then 0 else 1)
def ordI (x y : Nat) : Int := if key x < key y then -1 else if key y < key x then 1 else 0

theorem sv_le {x : Nat} (hx : FM.nan x = false) : FM.sv x ≤ (FM.val FM.infR : Int) := by
  have h := of_decide_eq_false hx
  have : FM.val (FM.rg x) ≤ FM.val FM.infR := FM.val_le (by omega)
  unfold FM.sv; split <;> omega
theorem key_num {x : Nat} (hx : FM.nan x = false) : key x = 2 * FM.sv x + (if FM.sgn x then 0 else 1) ∧ key x < 2 * (FM.val FM.infR : Int) + 2 := by
  have h := sv_le hx
  unfold key
  rw [hx]
  simp only [Bool.false_eq_true, if_false]
  refine ⟨trivial, ?_⟩
  split <;> omega
theorem key_nan {x : Nat} (hx : FM.nan x = true) : key x = 2 * (FM.val FM.infR : Int) + 2 := by unfold key; rw [hx]; rfl
theorem ordI_nn {x y : Nat} (hx : FM.nan x = true) (hy : FM.nan y = true) : ordI x y = 0 := by
  unfold ordI; rw [key_nan hx, key_nan hy]; simp
theorem ordI_ny {x y : Nat} (hx : FM.nan x = true) (hy : FM.nan y = false) : ordI x y = 1 := by
  have := (key_num hy).2
  unfold ordI; rw [key_nan hx, if_neg (by omega), if_pos (by omega)]
theorem ordI_yn {x y : Nat} (hx : FM.nan x = false) (hy : FM.nan y = true) : ordI x y = -1 := by
  have := (key_num hx).2
  unfold ordI; rw [key_nan hy, if_pos (by omega)]
theorem ordI_lt {x y : Nat} (hx : FM.nan x = false) (hy : FM.nan y = false) (h : FM.sv x < FM.sv y) : ordI x y = -1 := by
  have h1 := (key_num hx).1; have h2 := (key_num hy).1
  unfold ordI
  rw [if_pos]
  rw [h1, h2]; split <;> split <;> omega
theorem ordI_gt {x y : Nat} (hx : FM.nan x = false) (hy : FM.nan y = false) (h : FM.sv y < FM.sv x) : ordI x y = 1 := by
  have h1 := (key_num hx).1; have h2 := (key_num hy).1
  have : key y < key x := by rw [h1, h2]; split <;> split <;> omega
  unfold ordI
  rw [if_neg (by omega), if_pos this]
theorem ordI_eq {x y : Nat} (hx : FM.nan x = false) (hy : FM.nan y = false) (h : FM.sv x = FM.sv y) : ordI x y = if FM.sgn x = FM.sgn y then 0 else if FM.sgn x then -1 else 1 := by
  have h1 := (key_num hx).1; have h2 := (key_num hy).1
  unfold ordI
  rw [h1, h2, h]
  cases FM.sgn x <;> cases FM.sgn y <;> simp
  all_goals omega

def laterI (a b : Bool) : Int := if a = b then 0 else if a then 1 else -1
set_option maxHeartbeats 400000 in
theorem later_any (a b : Bool) (w : World) :
    Calls Tryd.prog 38 #[.bool a, .bool b] w fun e w' => e = .returned (.int .i64 (laterI a b)) ∧ w = w' := by
  cases a <;> cases b
  all_goals
    go_enter Tryd.func38, Tryd.ntmps38
    go_wp2
    go_ret
    exact ⟨rfl, rfl⟩

theorem ret_i {a b : Int} {P : Prop} (h : a = b) (hp : P) : Ending.returned (.int .i64 a) = .returned (.int .i64 b) ∧ P := ⟨by rw [h], hp⟩
set_option maxHeartbeats 800000 in
theorem order_any (x y : Nat) (bx : x < 18446744073709551616) (by_ : y < 18446744073709551616) (w : World) :
    Calls Tryd.prog 21 #[.float .f64 x, .float .f64 y] w fun e w' => e = .returned (.int .i64 (ordI x y)) ∧ w = w' := by
  have BX := Lib.hid bx; have BY := Lib.hid by_
  clear bx by_
  cases hx : FM.nan x <;> cases hy : FM.nan y
  · rcases ord3 hx hy with ⟨ho, hs⟩ | ⟨ho, hs⟩ | ⟨ho, hs⟩
    · have E := Lib.hid (ordI_lt hx hy hs)
      clear hs
      go_enter Tryd.func21, Tryd.ntmps21
      go_wp2_with (go_at_call 16; refine (isnan_any _ _).mono ?_; rintro e w' ⟨rfl, rfl⟩)
      go_ret
      exact ret_i E.out.symm rfl
    · have E := Lib.hid (ordI_gt hx hy hs)
      clear hs
      go_enter Tryd.func21, Tryd.ntmps21
      go_wp2_with (go_at_call 16; refine (isnan_any _ _).mono ?_; rintro e w' ⟨rfl, rfl⟩)
      go_ret
      exact ret_i E.out.symm rfl
    · have E := Lib.hid (ordI_eq hx hy hs)
      clear hs
      go_enter Tryd.func21, Tryd.ntmps21
      go_wp2_with (first | (go_at_call 16; refine (isnan_any _ _).mono ?_; rintro e w' ⟨rfl, rfl⟩) | (go_at_call 19; refine (signbit_any _ (by first | exact BX.out | exact BY.out) _).mono ?_; rintro e w' ⟨rfl, rfl⟩) | (go_at_call 38; refine (later_any _ _ _).mono ?_; rintro e w' ⟨rfl, rfl⟩))
      go_ret
      refine ret_i ?_ rfl
      rw [E.out]; unfold laterI
      cases FM.sgn x <;> cases FM.sgn y <;> rfl
  · have E := Lib.hid (ordI_yn hx hy)
    go_enter Tryd.func21, Tryd.ntmps21
    go_wp2_with (first | (go_at_call 16; refine (isnan_any _ _).mono ?_; rintro e w' ⟨rfl, rfl⟩) | (go_at_call 38; refine (later_any _ _ _).mono ?_; rintro e w' ⟨rfl, rfl⟩))
    go_ret
    exact ret_i E.out.symm rfl
  · have E := Lib.hid (ordI_ny hx hy)
    go_enter Tryd.func21, Tryd.ntmps21
    go_wp2_with (first | (go_at_call 16; refine (isnan_any _ _).mono ?_; rintro e w' ⟨rfl, rfl⟩) | (go_at_call 38; refine (later_any _ _ _).mono ?_; rintro e w' ⟨rfl, rfl⟩))
    go_ret
    exact ret_i E.out.symm rfl
  · have E := Lib.hid (ordI_nn hx hy)
    go_enter Tryd.func21, Tryd.ntmps21
    go_wp2_with (first | (go_at_call 16; refine (isnan_any _ _).mono ?_; rintro e w' ⟨rfl, rfl⟩) | (go_at_call 38; refine (later_any _ _ _).mono ?_; rintro e w' ⟨rfl, rfl⟩))
    go_ret
    exact ret_i E.out.symm rfl

set_option maxHeartbeats 800000 in
theorem rorder_any (x y : Nat) (bx : x < 18446744073709551616) (by_ : y < 18446744073709551616) (w : World) :
    Calls Tryd.prog 22 #[.float .f64 x, .float .f64 y] w fun e w' => e = .returned (.int .i64 (ordI x y)) ∧ w = w' := by
  have BX := Lib.hid bx; have BY := Lib.hid by_
  clear bx by_
  cases hx : FM.nan x <;> cases hy : FM.nan y
  · rcases ord3 hx hy with ⟨ho, hs⟩ | ⟨ho, hs⟩ | ⟨ho, hs⟩
    · have E := Lib.hid (ordI_lt hx hy hs)
      clear hs
      go_enter Tryd.func22, Tryd.ntmps22
      go_wp2_with (go_at_call 16; refine (isnan_any _ _).mono ?_; rintro e w' ⟨rfl, rfl⟩)
      go_ret
      exact ret_i E.out.symm rfl
    · have E := Lib.hid (ordI_gt hx hy hs)
      clear hs
      go_enter Tryd.func22, Tryd.ntmps22
      go_wp2_with (go_at_call 16; refine (isnan_any _ _).mono ?_; rintro e w' ⟨rfl, rfl⟩)
      go_ret
      exact ret_i E.out.symm rfl
    · have E := ordI_eq hx hy hs
      clear hs
      cases sx : FM.sgn x <;> cases sy : FM.sgn y
      all_goals
        rw [sx, sy] at E
        have E' := Lib.hid E
        clear E
        go_enter Tryd.func22, Tryd.ntmps22
        go_wp2_with (first | (go_at_call 16; refine (isnan_any _ _).mono ?_; rintro e w' ⟨rfl, rfl⟩) | (go_at_call 19; refine (signbit_any _ (by first | exact BX.out | exact BY.out) _).mono ?_; rintro e w' ⟨rfl, rfl⟩))
        go_ret
        exact ret_i E'.out.symm rfl
  · have E := Lib.hid (ordI_yn hx hy)
    go_enter Tryd.func22, Tryd.ntmps22
    go_wp2_with (go_at_call 16; refine (isnan_any _ _).mono ?_; rintro e w' ⟨rfl, rfl⟩)
    go_ret
    exact ret_i E.out.symm rfl
  · have E := Lib.hid (ordI_ny hx hy)
    go_enter Tryd.func22, Tryd.ntmps22
    go_wp2_with (go_at_call 16; refine (isnan_any _ _).mono ?_; rintro e w' ⟨rfl, rfl⟩)
    go_ret
    exact ret_i E.out.symm rfl
  · have E := Lib.hid (ordI_nn hx hy)
    go_enter Tryd.func22, Tryd.ntmps22
    go_wp2_with (go_at_call 16; refine (isnan_any _ _).mono ?_; rintro e w' ⟨rfl, rfl⟩)
    go_ret
    exact ret_i E.out.symm rfl

set_option maxHeartbeats 400000 in
theorem same_any (x y : Nat) (bx : x < 18446744073709551616) (by_ : y < 18446744073709551616) (w : World) :
    Calls Tryd.prog 23 #[.float .f64 x, .float .f64 y] w fun e w' => e = .returned (.bool (ordI x y == 0)) ∧ w = w' := by
  have BX := Lib.hid bx; have BY := Lib.hid by_
  clear bx by_
  go_enter Tryd.func23, Tryd.ntmps23
  go_wp2_with (go_at_call 21; refine (order_any _ _ BX.out BY.out _).mono ?_; rintro e w' ⟨rfl, rfl⟩)
  go_ret
  exact ⟨rfl, rfl⟩
set_option maxHeartbeats 400000 in
theorem alike_any (x y : Nat) (bx : x < 18446744073709551616) (by_ : y < 18446744073709551616) (w : World) :
    Calls Tryd.prog 14 #[.float .f64 x, .float .f64 y] w fun e w' => e = .returned (.bool (ordI x y == 0)) ∧ w = w' := by
  have BX := Lib.hid bx; have BY := Lib.hid by_
  clear bx by_
  go_enter Tryd.func14, Tryd.ntmps14
  go_wp2_with (go_at_call 22; refine (rorder_any _ _ BX.out BY.out _).mono ?_; rintro e w' ⟨rfl, rfl⟩)
  go_ret
  exact ⟨rfl, rfl⟩
set_option maxHeartbeats 400000 in
theorem of5_any (n : Int) (w : World) :
    Calls Tryd.prog 20 #[.int .u64 n] w fun e w' => e = .returned (.float .f64 n.toNat) ∧ w = w' := by
  go_enter Tryd.func20, Tryd.ntmps20
  go_wp2
  go_ret
  exact ⟨rfl, rfl⟩

/-- Of two whole numbers the quotient is this float. -/
theorem of_some (n d : Int) (r : Nat) (h : floatBits .quo .f64 (floatOfInt .f64 n) (floatOfInt .f64 d) = some r) (w : World) :
    Calls Tryd.prog 13 #[.int .i64 n, .int .i64 d] w fun e w' => e = .returned (.float .f64 r) ∧ w = w' := by
  have hd : ∀ w t, (binOp .quo t (.float .f64 (floatOfInt .f64 n)) (.float .f64 (floatOfInt .f64 d))).run Tryd.prog w = .ok (.float .f64 r) w := fun w t => run_float_arith w .quo t .f64 _ _ r h
  have H := Lib.hid h
  clear h
  go_enter Tryd.func13, Tryd.ntmps13
  go_wp2
  go_ret
  exact ⟨rfl, rfl⟩
theorem rof_some (n d : Int) (r : Nat) (h : floatBits .quo .f64 (floatOfInt .f64 n) (floatOfInt .f64 d) = some r) (w : World) :
    Calls Tryd.prog 15 #[.int .i64 n, .int .i64 d] w fun e w' => e = .returned (.float .f64 r) ∧ w = w' := by
  have hd : ∀ w t, (binOp .quo t (.float .f64 (floatOfInt .f64 n)) (.float .f64 (floatOfInt .f64 d))).run Tryd.prog w = .ok (.float .f64 r) w := fun w t => run_float_arith w .quo t .f64 _ _ r h
  have H := Lib.hid h
  clear h
  go_enter Tryd.func15, Tryd.ntmps15
  go_wp2
  go_ret
  exact ⟨rfl, rfl⟩

/-- A word that a NaN's bits were asked for. -/
def isNaNWord (r : Nat) : Prop := FM.nan r = true ∧ r < 18446744073709551616
theorem nanBits_is (x y t : Nat) : isNaNWord ((Question.nanBits .f64 x y).cut t) := by
  have e : (Question.nanBits .f64 x y).cut t = (t % 2) * 9223372036854775808 + 9218868437227405312 + 1 + (t / 2) % 4503599627370495 := rfl
  rw [e]
  unfold isNaNWord FM.nan FM.rg FM.infR
  have h1 : (t / 2) % 4503599627370495 < 4503599627370495 := Nat.mod_lt _ (by decide)
  have h2 : t % 2 < 2 := Nat.mod_lt _ (by decide)
  generalize (t / 2) % 4503599627370495 = u at *
  generalize t % 2 = b at *
  constructor
  · rw [decide_eq_true_eq]; omega
  · omega
theorem zero_zero : floatBits .quo .f64 (floatOfInt .f64 0) (floatOfInt .f64 0) = none := by decide +kernel
theorem run_zero_zero (t : TypeId) (w : World) : ∃ r, isNaNWord r ∧ (binOp .quo t (.float .f64 (floatOfInt .f64 0)) (.float .f64 (floatOfInt .f64 0))).run Tryd.prog w = .ok (.float .f64 r) w.drew := by
  refine ⟨_, nanBits_is (floatOfInt .f64 0) (floatOfInt .f64 0) (w.tape w.drawn (.nanBits .f64 (floatOfInt .f64 0) (floatOfInt .f64 0))), ?_⟩
  have h : FloatKind.f64.format.div (floatOfInt .f64 0) (floatOfInt .f64 0) = none := zero_zero
  simp [binOp, Op.floatArith, h, Question.forced]
theorem below_drew (w : World) : Below w.heap.size w w.drew := ⟨rfl, rfl, rfl, Nat.le_refl _, fun _ _ => rfl⟩
theorem of_zero (w : World) :
    Calls Tryd.prog 13 #[.int .i64 0, .int .i64 0] w fun e w' => (∃ r, isNaNWord r ∧ e = .returned (.float .f64 r)) ∧ w' = w.drew := by
  obtain ⟨r, hr, hd⟩ := run_zero_zero 22 w
  have H := Lib.hid hr
  clear hr
  go_enter Tryd.func13, Tryd.ntmps13
  go_wp2
  go_ret
  exact ⟨⟨r, H.out, rfl⟩, rfl⟩
theorem rof_zero (w : World) :
    Calls Tryd.prog 15 #[.int .i64 0, .int .i64 0] w fun e w' => (∃ r, isNaNWord r ∧ e = .returned (.float .f64 r)) ∧ w' = w.drew := by
  obtain ⟨r, hr, hd⟩ := run_zero_zero 22 w
  have H := Lib.hid hr
  clear hr
  go_enter Tryd.func15, Tryd.ntmps15
  go_wp2
  go_ret
  exact ⟨⟨r, H.out, rfl⟩, rfl⟩

/-- A limit, held. -/
def lim (n : Int) : Int := min (max n 0) 4294967295
def nearI (n : Int) (x : Nat) : Int :=
  if FM.nan x ∨ (FM.U : Int) ≤ FM.sv x then lim n else if FM.sv x ≤ 0 then 0 else ((FM.val ((Ieee.double.mul (floatOfInt .f64 (lim n)) x).getD 0) / FM.U : Nat) : Int)
theorem lim_lo (n : Int) : 0 ≤ lim n := by unfold lim; omega
theorem lim_hi (n : Int) : lim n ≤ 4294967295 := by unfold lim; omega

theorem pos_of {x : Nat} (bx : x < 18446744073709551616) (_hx : FM.nan x = false) (h0 : 0 < FM.sv x) (h1 : FM.sv x < (FM.U : Int)) : FM.rg x = x ∧ FM.sgn x = false ∧ FM.sv x = (FM.val x : Int) ∧ x < 4607182418800017408 := by
  have hs : FM.sgn x = false := by
    cases h : FM.sgn x
    · rfl
    · unfold FM.sv at h0; rw [h] at h0; simp at h0; omega
  have hr : FM.rg x = x := by
    have := FM.word_eq bx
    rw [hs] at this
    unfold Ieee.Format.word at this
    simpa using this.symm
  have hv : FM.sv x = (FM.val x : Int) := by unfold FM.sv; rw [hs, hr]; rfl
  refine ⟨hr, hs, hv, ?_⟩
  rw [← FM.val_lt_iff, FM.val_one]; omega
/-- The product of a whole number and a float between 0 and 1. -/
theorem near_mul {l : Int} {x : Nat} (h0 : 0 ≤ l) (h1 : l ≤ 4294967295) (bx : x < 18446744073709551616) (hx : FM.nan x = false) (hp : 0 < FM.sv x) (hl : FM.sv x < (FM.U : Int)) :
    ∃ P, Ieee.double.mul (floatOfInt .f64 l) x = some P ∧ P < FM.infR ∧ FM.Rd (l.toNat * FM.val x) 1 P ∧ FM.val P ≤ l.toNat * FM.U := by
  obtain ⟨hr, hs, hv, hlt⟩ := pos_of bx hx hp hl
  obtain ⟨L, hL, hLi, hLv⟩ := FM.ofInt_small l h0 (by omega)
  have hb := FM.infR_lt
  have hrL : FM.rg L = L := by unfold FM.rg; omega
  have hsL : FM.sgn L = false := by unfold FM.sgn; simp; omega
  have hi : FM.infR = 9218868437227405312 := rfl
  obtain ⟨P, hP, hR⟩ := FM.mul_num (x := L) (y := x) (by omega) (by omega)
  rw [hrL, hr, hLv] at hR
  rw [hsL, hs] at hP
  have hU := FM.U_pos
  have hx2 : FM.val x ≤ FM.U := by omega
  have hPle : P ≤ L := hR.le hU (by
    rw [hLv, Nat.mul_comm FM.U]
    exact Nat.mul_le_mul_left _ hx2)
  refine ⟨P, ?_, by omega, ?_, ?_⟩
  · rw [hL, hP, Nat.min_eq_left (by omega)]; rfl
  · obtain ⟨Q, hQ⟩ : ∃ Q, Q = l.toNat * FM.val x := ⟨_, rfl⟩
    have e : l.toNat * FM.U * FM.val x = FM.U * (l.toNat * FM.val x) := by
      rw [Nat.mul_right_comm, Nat.mul_comm]
    rw [e] at hR
    obtain ⟨a1, a2, a3⟩ := hR
    rw [← hQ] at *
    refine ⟨fun h => ?_, ?_, fun h => ?_⟩
    · obtain ⟨b1, b2⟩ := a1 h
      rw [Nat.mul_left_comm 2 FM.U] at b1
      refine ⟨by rw [Nat.one_mul]; exact Nat.le_of_mul_le_mul_left b1 hU, fun ho => ?_⟩
      have := b2 ho
      rw [Nat.mul_left_comm 2 FM.U] at this
      rw [Nat.one_mul]
      exact Nat.lt_of_mul_lt_mul_left this
    · rw [Nat.mul_left_comm 2 FM.U] at a2
      rw [Nat.one_mul]; exact Nat.le_of_mul_le_mul_left a2 hU
    · have := a3 h
      rw [Nat.mul_left_comm 2 FM.U] at this
      rw [Nat.one_mul]; exact Nat.lt_of_mul_lt_mul_left this
  · rw [← hLv]; exact FM.val_le hPle
theorem nan_one : FM.nan 4607182418800017408 = false := by decide
theorem nan_zero : FM.nan 0 = false := by decide
theorem sv_one : FM.sv 4607182418800017408 = (FM.U : Int) := by
  have : FM.sv 4607182418800017408 = (FM.val 4607182418800017408 : Int) := rfl
  rw [this, FM.val_one]
theorem sv_zero : FM.sv 0 = 0 := by decide
theorem lim_max_min (n : Int) : max (min n 4294967295) 0 = lim n := by unfold lim; omega

set_option maxHeartbeats 800000 in
theorem near_any (n : Int) (x : Nat) (bx : x < 18446744073709551616) (w : World) :
    Calls Tryd.prog 25 #[.int .i64 n, .float .f64 x] w fun e w' => e = .returned (.int .i64 (nearI n x)) ∧ w = w' := by
  have hl : min (max n 0) 4294967295 = lim n := rfl
  have l0 := lim_lo n; have l1 := lim_hi n
  have E : nearI n x = nearI n x := rfl
  conv at E => rhs; unfold nearI
  obtain ⟨l, hL⟩ : ∃ l, l = lim n := ⟨_, rfl⟩
  rw [← hL] at hl l0 l1 E
  clear hL
  cases hx : FM.nan x
  · rcases ord3 hx nan_one with ⟨ho, hs⟩ | ⟨ho, hs⟩ | ⟨ho, hs⟩
    · rw [sv_one] at hs
      rcases ord3 hx nan_zero with ⟨hz, ht⟩ | ⟨hz, ht⟩ | ⟨hz, ht⟩
      · rw [sv_zero] at ht
        rw [if_neg (by rw [hx]; simp; omega), if_pos (by omega)] at E
        have E' := Lib.hid E
        clear E hs ht
        go_enter Tryd.func25, Tryd.ntmps25
        go_wp2_with (go_at_call 16; refine (isnan_any _ _).mono ?_; rintro e w' ⟨rfl, rfl⟩)
        go_ret
        exact ret_i E'.out.symm rfl
      · rw [sv_zero] at ht
        rw [if_neg (by rw [hx]; simp; omega), if_neg (by omega)] at E
        obtain ⟨P, h1, h2, h3, h4⟩ := near_mul l0 l1 bx hx ht hs
        rw [h1] at E
        have hq : FM.val P / FM.U ≤ 4294967295 := by
          rw [Nat.div_le_iff_le_mul_add_pred FM.U_pos]
          have : l.toNat * FM.U ≤ 4294967295 * FM.U := Nat.mul_le_mul_right _ (by omega)
          rw [Nat.mul_comm FM.U]; omega
        have hm : ∀ w t, (binOp .mul t (.float .f64 (floatOfInt .f64 l)) (.float .f64 x)).run Tryd.prog w = .ok (.float .f64 P) w := fun w t => run_float_arith w .mul t .f64 _ _ P h1
        have hc : ∀ w, (convert 22 3 (.float .f64 P)).run Tryd.prog w = .ok (.int .i64 ((FM.val P / FM.U : Nat) : Int)) w := fun w => run_convert_float_int w _ _ .f64 .i64 P _ (by kernel_rfl) (by kernel_rfl) (FM.toInt_num h2 (by omega))
        rw [Option.getD_some] at E
        generalize ((FM.val P / FM.U : Nat) : Int) = q at *
        have E' := Lib.hid E
        clear E hs ht h1 h2 h3 h4
        go_enter Tryd.func25, Tryd.ntmps25
        go_wp2_with (go_at_call 16; refine (isnan_any _ _).mono ?_; rintro e w' ⟨rfl, rfl⟩)
        go_ret
        exact ret_i E'.out.symm rfl
      · rw [sv_zero] at ht
        rw [if_neg (by rw [hx]; simp; omega), if_pos (by omega)] at E
        have E' := Lib.hid E
        clear E hs ht
        go_enter Tryd.func25, Tryd.ntmps25
        go_wp2_with (go_at_call 16; refine (isnan_any _ _).mono ?_; rintro e w' ⟨rfl, rfl⟩)
        go_ret
        exact ret_i E'.out.symm rfl
    · rw [sv_one] at hs
      rw [if_pos (.inr (by omega))] at E
      have E' := Lib.hid E
      clear E hs
      go_enter Tryd.func25, Tryd.ntmps25
      go_wp2_with (go_at_call 16; refine (isnan_any _ _).mono ?_; rintro e w' ⟨rfl, rfl⟩)
      go_ret
      exact ret_i E'.out.symm rfl
    · rw [sv_one] at hs
      rw [if_pos (.inr (by omega))] at E
      have E' := Lib.hid E
      clear E hs
      go_enter Tryd.func25, Tryd.ntmps25
      go_wp2_with (go_at_call 16; refine (isnan_any _ _).mono ?_; rintro e w' ⟨rfl, rfl⟩)
      go_ret
      exact ret_i E'.out.symm rfl
  · rw [if_pos (.inl hx)] at E
    have E' := Lib.hid E
    clear E
    go_enter Tryd.func25, Tryd.ntmps25
    go_wp2_with (go_at_call 16; refine (isnan_any _ _).mono ?_; rintro e w' ⟨rfl, rfl⟩)
    go_ret
    exact ret_i E'.out.symm rfl
set_option maxHeartbeats 800000 in
theorem rnear_any (n : Int) (x : Nat) (bx : x < 18446744073709551616) (w : World) :
    Calls Tryd.prog 26 #[.int .i64 n, .float .f64 x] w fun e w' => e = .returned (.int .i64 (nearI n x)) ∧ w = w' := by
  have hl : max (min n 4294967295) 0 = lim n := lim_max_min n
  have l0 := lim_lo n; have l1 := lim_hi n
  have E : nearI n x = nearI n x := rfl
  conv at E => rhs; unfold nearI
  obtain ⟨l, hL⟩ : ∃ l, l = lim n := ⟨_, rfl⟩
  rw [← hL] at hl l0 l1 E
  clear hL
  cases hx : FM.nan x
  · rcases ord3 hx nan_one with ⟨ho, hs⟩ | ⟨ho, hs⟩ | ⟨ho, hs⟩
    · rw [sv_one] at hs
      rcases ord3 hx nan_zero with ⟨hz, ht⟩ | ⟨hz, ht⟩ | ⟨hz, ht⟩
      · rw [sv_zero] at ht
        rw [if_neg (by rw [hx]; simp; omega), if_pos (by omega)] at E
        have E' := Lib.hid E
        clear E hs ht
        go_enter Tryd.func26, Tryd.ntmps26
        go_wp2_with (go_at_call 16; refine (isnan_any _ _).mono ?_; rintro e w' ⟨rfl, rfl⟩)
        go_ret
        exact ret_i E'.out.symm rfl
      · rw [sv_zero] at ht
        rw [if_neg (by rw [hx]; simp; omega), if_neg (by omega)] at E
        obtain ⟨P, h1, h2, h3, h4⟩ := near_mul l0 l1 bx hx ht hs
        rw [h1] at E
        have hq : FM.val P / FM.U ≤ 4294967295 := by
          rw [Nat.div_le_iff_le_mul_add_pred FM.U_pos]
          have : l.toNat * FM.U ≤ 4294967295 * FM.U := Nat.mul_le_mul_right _ (by omega)
          rw [Nat.mul_comm FM.U]; omega
        have hm : ∀ w t, (binOp .mul t (.float .f64 (floatOfInt .f64 l)) (.float .f64 x)).run Tryd.prog w = .ok (.float .f64 P) w := fun w t => run_float_arith w .mul t .f64 _ _ P h1
        obtain ⟨F, f1, f2, f3⟩ := FM.floor_num h2 (by omega)
        have hF : FM.val F / FM.U = FM.val P / FM.U := by rw [f3, Nat.mul_div_cancel _ FM.U_pos]
        have hc : ∀ w, (convert 22 3 (.float .f64 F)).run Tryd.prog w = .ok (.int .i64 ((FM.val P / FM.U : Nat) : Int)) w := fun w => run_convert_float_int w _ _ .f64 .i64 F _ (by kernel_rfl) (by kernel_rfl) (by rw [← hF]; exact FM.toInt_num f2 (by omega))
        have hnP : FM.nan P = false := by
          have := FM.infR_lt
          unfold FM.nan FM.rg; rw [decide_eq_false_iff_not]; omega
        have hfl := fun w => mfloor_any P hnP w
        rw [f1] at hfl
        have HF := Lib.hid hfl
        clear hfl f1 f2 f3 hF hnP
        rw [Option.getD_some] at E
        generalize ((FM.val P / FM.U : Nat) : Int) = q at *
        have E' := Lib.hid E
        clear E hs ht h1 h2 h3 h4
        go_enter Tryd.func26, Tryd.ntmps26
        go_wp2_with (first | (go_at_call 16; refine (isnan_any _ _).mono ?_; rintro e w' ⟨rfl, rfl⟩) | (go_at_call 41; refine (HF.out _).mono ?_; rintro e w' ⟨rfl, rfl⟩))
        go_ret
        exact ret_i E'.out.symm rfl
      · rw [sv_zero] at ht
        rw [if_neg (by rw [hx]; simp; omega), if_pos (by omega)] at E
        have E' := Lib.hid E
        clear E hs ht
        go_enter Tryd.func26, Tryd.ntmps26
        go_wp2_with (go_at_call 16; refine (isnan_any _ _).mono ?_; rintro e w' ⟨rfl, rfl⟩)
        go_ret
        exact ret_i E'.out.symm rfl
    · rw [sv_one] at hs
      rw [if_pos (.inr (by omega))] at E
      have E' := Lib.hid E
      clear E hs
      go_enter Tryd.func26, Tryd.ntmps26
      go_wp2_with (go_at_call 16; refine (isnan_any _ _).mono ?_; rintro e w' ⟨rfl, rfl⟩)
      go_ret
      exact ret_i E'.out.symm rfl
    · rw [sv_one] at hs
      rw [if_pos (.inr (by omega))] at E
      have E' := Lib.hid E
      clear E hs
      go_enter Tryd.func26, Tryd.ntmps26
      go_wp2_with (go_at_call 16; refine (isnan_any _ _).mono ?_; rintro e w' ⟨rfl, rfl⟩)
      go_ret
      exact ret_i E'.out.symm rfl
  · rw [if_pos (.inl hx)] at E
    have E' := Lib.hid E
    clear E
    go_enter Tryd.func26, Tryd.ntmps26
    go_wp2_with (go_at_call 16; refine (isnan_any _ _).mono ?_; rintro e w' ⟨rfl, rfl⟩)
    go_ret
    exact ret_i E'.out.symm rfl
end Go.Proofs.YtbinhlnekhglkaaDoor
