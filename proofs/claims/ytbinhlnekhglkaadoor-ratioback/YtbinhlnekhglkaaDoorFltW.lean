/- Walks of package math's small functions upon float64. -/
import Derived.Test.YtbinhlnekhglkaaDoorRows
import Derived.Test.YtbinhlnekhglkaaDoorFltMath
import Derived.Test.YtbinhlnekhglkaaDoorShelf
import Derived.WalkKit
import Derived.WalkSpells
import Derived.WalkLawsBesides
import Derived.Lib.Hide
import Derived.Lib.OthersKept
import Derived.Laws.Externs
import Derived.Laws.BitsAllLaws
namespace Go.Proofs.YtbinhlnekhglkaaDoor
open Go.RowKit

@[go_sem] theorem call_bits (b : Nat) (w : World) : (callFunc 32 #[.float .f64 b]).run Tryd.prog w = .ok (.value (.int .u64 b)) w :=
  run_callFunc_extern Tryd.func32 (by kernel_rfl) (by kernel_rfl) (by kernel_rfl) (e := Extern.MathFloatBits.float64bits) (by kernel_rfl) #[.float .f64 b] w
@[go_sem] theorem call_frombits (n : Int) (w : World) : (callFunc 37 #[.int .u64 n]).run Tryd.prog w = .ok (.value (.float .f64 n.toNat)) w :=
  run_callFunc_extern Tryd.func37 (by kernel_rfl) (by kernel_rfl) (by kernel_rfl) (e := Extern.MathFloatBits.float64frombits) (by kernel_rfl) #[.int .u64 n] w

theorem ne_self (x : Nat) : (Ieee.double.order x x != some .eq) = FM.nan x := by
  cases h : FM.nan x
  · rw [FM.order_num h h]; simp
  · rw [FM.order_nan (.inl h)]; rfl

set_option maxHeartbeats 400000 in
theorem isnan_any (x : Nat) (w : World) :
    Calls Tryd.prog 16 #[.float .f64 x] w fun e w' => e = .returned (.bool (FM.nan x)) ∧ w = w' := by
  have E := Lib.hid (ne_self x)
  go_enter Tryd.func16, Tryd.ntmps16
  go_wp2
  go_ret
  exact ⟨by rw [← E.out]; rfl, rfl⟩

theorem sgn_wrap (x : Nat) (_hx : x < 18446744073709551616) : decide (wrap64 (x : Int) < 0) = FM.sgn x := by
  unfold wrap64 FM.sgn
  rw [Bool.eq_iff_iff]
  simp
  omega
theorem bits_abs (x : Nat) (hx : x < 18446744073709551616) : bits .andNot .u64 (x : Int) 9223372036854775808 = (FM.rg x : Int) := by
  rw [u64_andNot _ _ (by omega) (by omega) (by decide) (by decide)]
  have := Nat.and_two_pow_sub_one_eq_mod x 63
  simp only [Int.toNat_natCast]
  exact congrArg Int.ofNat this
theorem bits_sign (x : Nat) (hx : x < 18446744073709551616) : bits .and .u64 (x : Int) 9223372036854775808 = ((if FM.sgn x then 9223372036854775808 else 0 : Nat) : Int) := by
  rw [u64_and _ _ (by omega) (by omega) (by decide) (by decide)]
  have := nat_bit 63 x
  simp only [Int.toNat_natCast]
  refine congrArg Int.ofNat (this.trans ?_)
  unfold FM.sgn
  split
  · rename_i h; simp at h; omega
  · rename_i h; simp at h; omega
theorem bits_copy (x : Nat) (s : Bool) : bits .or .u64 (FM.rg x : Int) ((if s then 9223372036854775808 else 0 : Nat) : Int) = (Ieee.double.word s (FM.rg x) : Int) := by
  have hr : FM.rg x < 9223372036854775808 := by unfold FM.rg; omega
  rw [u64_or _ _ (by omega) (by omega) (by omega) (by split <;> omega)]
  simp only [Int.toNat_natCast]
  refine congrArg Int.ofNat ?_
  unfold Ieee.Format.word
  rw [FM.double_sign]
  cases s
  · simp
  · rw [if_pos rfl, if_pos rfl, Nat.or_comm]
    exact nat_join 63 9223372036854775808 (FM.rg x) (by decide) hr

set_option maxHeartbeats 400000 in
theorem signbit_any (x : Nat) (hx : x < 18446744073709551616) (w : World) :
    Calls Tryd.prog 19 #[.float .f64 x] w fun e w' => e = .returned (.bool (FM.sgn x)) ∧ w = w' := by
  have E := sgn_wrap x hx
  go_enter Tryd.func19, Tryd.ntmps19
  go_wp2
  go_ret
  exact ⟨rfl, rfl⟩

set_option maxHeartbeats 400000 in
theorem abs_any (x : Nat) (hx : x < 18446744073709551616) (w : World) :
    Calls Tryd.prog 36 #[.float .f64 x] w fun e w' => e = .returned (.float .f64 (FM.rg x)) ∧ w = w' := by
  have E := bits_abs x hx
  go_enter Tryd.func36, Tryd.ntmps36
  go_wp2
  go_ret
  exact ⟨rfl, rfl⟩

set_option maxHeartbeats 400000 in
theorem copysign_any (x y : Nat) (hx : x < 18446744073709551616) (hy : y < 18446744073709551616) (w : World) :
    Calls Tryd.prog 40 #[.float .f64 x, .float .f64 y] w fun e w' => e = .returned (.float .f64 (Ieee.double.word (FM.sgn y) (FM.rg x))) ∧ w = w' := by
  have E1 := bits_abs x hx
  have E2 := bits_sign y hy
  have E3 := bits_copy x (FM.sgn y)
  obtain ⟨q, hq⟩ : ∃ q : Nat, q = if FM.sgn y then 9223372036854775808 else 0 := ⟨_, rfl⟩
  rw [← hq] at E2 E3
  clear hq
  go_enter Tryd.func40, Tryd.ntmps40
  go_wp2
  go_ret
  exact ⟨rfl, rfl⟩

set_option maxHeartbeats 400000 in
theorem mnan_any (w : World) :
    Calls Tryd.prog 27 #[] w fun e w' => e = .returned (.float .f64 9221120237041090561) ∧ w = w' := by
  go_enter Tryd.func27, Tryd.ntmps27
  go_wp2
  go_ret
  exact ⟨rfl, rfl⟩
set_option maxHeartbeats 400000 in
theorem minf_any (s : Int) (w : World) :
    Calls Tryd.prog 39 #[.int .i64 s] w fun e w' => e = .returned (.float .f64 (if 0 ≤ s then 9218868437227405312 else 18442240474082181120)) ∧ w = w' := by
  go_enter Tryd.func39, Tryd.ntmps39
  go_wp2
  all_goals go_ret
  all_goals exact ⟨rfl, rfl⟩

theorem bits_exp (x : Nat) (hx : x < 9223372036854775808) : bits .and .u64 ((x : Int) / 4503599627370496) 2047 = ((x / 4503599627370496 : Nat) : Int) := by
  rw [u64_and _ _ (by omega) (by omega) (by decide) (by decide)]
  have := Nat.and_two_pow_sub_one_eq_mod (x / 4503599627370496) 11
  have e : ((x : Int) / 4503599627370496).toNat = x / 4503599627370496 := by omega
  rw [e]
  refine congrArg Int.ofNat (this.trans ?_)
  omega

theorem and_high (y k : Nat) (hy : y < 18446744073709551616) (hk : k ≤ 64) : y &&& (18446744073709551615 - (2 ^ k - 1)) = y / 2 ^ k * 2 ^ k := by
  have hp := Nat.two_pow_pos k
  have hkl : 2 ^ k ≤ 2 ^ 64 := Nat.pow_le_pow_right (by omega) hk
  have e : 18446744073709551615 - (2 ^ k - 1) = 2 ^ 64 - (2 ^ k - 1 + 1) := by omega
  rw [e, ← Nat.shiftRight_eq_div_pow, ← Nat.shiftLeft_eq]
  apply Nat.eq_of_testBit_eq
  intro i
  rw [Nat.testBit_and, Nat.testBit_two_pow_sub_succ (by omega), Nat.testBit_two_pow_sub_one, Nat.testBit_shiftLeft, Nat.testBit_shiftRight]
  by_cases h1 : i < k
  · have : ¬ k ≤ i := by omega
    simp [h1, this]
  · have h2 : k ≤ i := by omega
    rw [show k + (i - k) = i by omega]
    by_cases h3 : i < 64
    · simp [h1, h2, h3]
    · have : y.testBit i = false := Nat.testBit_lt_two_pow (Nat.lt_of_lt_of_le hy (by
        have : 2 ^ 64 ≤ 2 ^ i := Nat.pow_le_pow_right (by omega) (by omega)
        exact this))
      simp [this]
theorem round_mid (x : Nat) (hx : x < 9218868437227405312) (h1 : 1023 ≤ x / 4503599627370496) (h2 : x / 4503599627370496 < 1075) :
    (bits .andNot .u64 (IntKind.u64.wrap ((x : Int) + 2251799813685248 / 2 ^ ((x / 4503599627370496 : Nat) - 1023 : Int).toNat)) (4503599627370495 / 2 ^ ((x / 4503599627370496 : Nat) - 1023 : Int).toNat)).toNat = FM.rndW x := by
  have hr : FM.rndW x = (x + 2 ^ (1074 - x / 4503599627370496)) / 2 ^ (1075 - x / 4503599627370496) * 2 ^ (1075 - x / 4503599627370496) := by
    unfold FM.rndW
    rw [if_neg (by omega), if_neg (by omega), if_pos (by omega)]
  rw [hr]
  generalize hE : x / 4503599627370496 = E at *
  obtain ⟨j, hj, hj1⟩ : ∃ j, 1074 - E = j ∧ j ≤ 51 := ⟨_, rfl, by omega⟩
  rw [hj, show 1075 - E = j + 1 by omega, show ((E : Nat) - 1023 : Int).toNat = 51 - j by omega]
  have p1 : 2251799813685248 = 2 ^ j * 2 ^ (51 - j) := by rw [← Nat.pow_add, show j + (51 - j) = 51 by omega]
  have p2 : 4503599627370496 = 2 ^ (j + 1) * 2 ^ (51 - j) := by rw [← Nat.pow_add, show j + 1 + (51 - j) = 52 by omega]
  have hq := Nat.two_pow_pos (51 - j)
  have hp := Nat.two_pow_pos (j + 1)
  have d1 : 2251799813685248 / 2 ^ (51 - j) = 2 ^ j := Nat.div_eq_of_eq_mul_left hq p1
  have d2 : 4503599627370495 / 2 ^ (51 - j) = 2 ^ (j + 1) - 1 := by
    apply Nat.div_eq_of_lt_le
    · rw [Nat.sub_mul, ← p2]; omega
    · rw [Nat.add_mul, Nat.sub_mul, ← p2]; omega
  have c1 : (2251799813685248 : Int) / 2 ^ (51 - j) = ((2 ^ j : Nat) : Int) := by rw [← d1]; simp
  have c2 : (4503599627370495 : Int) / 2 ^ (51 - j) = ((2 ^ (j + 1) - 1 : Nat) : Int) := by rw [← d2]; simp
  have hjl : 2 ^ j ≤ 2 ^ 51 := Nat.pow_le_pow_right (by omega) hj1
  have hjl2 : 2 ^ (j + 1) ≤ 2 ^ 52 := Nat.pow_le_pow_right (by omega) (by omega)
  rw [c1, c2]
  have hw : IntKind.u64.wrap ((x : Int) + ((2 ^ j : Nat) : Int)) = ((x + 2 ^ j : Nat) : Int) := by
    have : IntKind.u64.wrap ((x : Int) + ((2 ^ j : Nat) : Int)) = ((x : Int) + ((2 ^ j : Nat) : Int)) % 18446744073709551616 := by simp [IntKind.wrap, IntKind.bits, IntKind.signed]
    rw [this]; omega
  rw [hw, u64_andNot _ _ (by omega) (by omega) (by omega) (by omega)]
  simp only [Int.toNat_natCast]
  exact and_high (x + 2 ^ j) (j + 1) (by omega) (by omega)

set_option maxHeartbeats 800000 in
theorem mround_any (x : Nat) (hx : x < FM.infR) (w : World) :
    Calls Tryd.prog 61 #[.float .f64 x] w fun e w' => e = .returned (.float .f64 (FM.rndW x)) ∧ w = w' := by
  unfold FM.infR at hx
  have hb := bits_exp x (by omega)
  have hs := bits_sign x (by omega)
  have hz : FM.sgn x = false := by unfold FM.sgn; simp; omega
  rw [hz] at hs
  have ho : bits .or .u64 0 4607182418800017408 = 4607182418800017408 := by decide
  clear hz
  obtain ⟨X, hX⟩ : ∃ X : Int, (x : Int) = X := ⟨_, rfl⟩
  obtain ⟨E, hE⟩ : ∃ E : Int, ((x / 4503599627370496 : Nat) : Int) = E := ⟨_, rfl⟩
  rw [hE, hX] at hb
  rw [hX] at hs
  have hs' : bits .and .u64 X 9223372036854775808 = 0 := hs
  clear hs
  have HE := Lib.hid hE
  have HX := Lib.hid hx
  have hE0 : 0 ≤ E := by omega
  clear hE hx
  by_cases h1 : E < 1023
  · go_enter Tryd.func61, Tryd.ntmps61
    go_wp2
    · go_ret
      have h3 : E = 1022 := by simpa using ‹(E == 1022) = true›
      have h4 := HE.out; have h5 := HX.out
      refine ⟨?_, rfl⟩
      have : FM.rndW x = 4607182418800017408 := by unfold FM.rndW; rw [if_neg (by omega), if_pos (by omega)]
      rw [this]; rfl
    · go_ret
      have h3 : E ≠ 1022 := by simpa using ‹(E == 1022) = false›
      have h4 := HE.out; have h5 := HX.out
      refine ⟨?_, rfl⟩
      have : FM.rndW x = 0 := by unfold FM.rndW; rw [if_pos (by omega)]
      rw [this]; rfl
  · by_cases h2 : E < 1075
    · go_enter Tryd.func61, Tryd.ntmps61
      go_wp2
      go_ret
      have h4 := HE.out; have h5 := HX.out
      have := round_mid x h5 (by omega) (by omega)
      rw [hX, h4] at this
      exact ⟨by rw [← this]; rfl, rfl⟩
    · go_enter Tryd.func61, Tryd.ntmps61
      go_wp2
      go_ret
      have h4 := HE.out; have h5 := HX.out
      have : FM.rndW x = X.toNat := by unfold FM.rndW; rw [if_neg (by omega), if_neg (by omega), if_neg (by omega)]; omega
      exact ⟨by rw [this]; rfl, rfl⟩

theorem toIntegral_by (name : String) (way : Ieee.Toward) (x : Nat) : ∃ f, Extern.MathFloor.toIntegral name way #[.float .f64 x] = Extern.MathFloor.toIntegral.match_1 (fun _ => Sem Value) (FloatKind.f64.decode x) f
    (fun d => pure (.float .f64 (FloatKind.f64.encode (d.integral way)))) := ⟨_, rfl⟩
/-- What 'math.archFloor' gives of a float that is no NaN. -/
theorem call_floor (x : Nat) (hx : FM.nan x = false) (w : World) : (callFunc 53 #[.float .f64 x]).run Tryd.prog w = .ok (.value (.float .f64 (FloatKind.f64.encode ((FloatKind.f64.decode x).integral .down)))) w := by
  rw [run_callFunc_extern Tryd.func53 (by kernel_rfl) (by kernel_rfl) (by kernel_rfl) (e := Extern.MathFloor.toIntegral "math.archFloor" .down) (by kernel_rfl) #[.float .f64 x] w]
  have h := of_decide_eq_false hx
  have hn : ∀ s t, FloatKind.f64.decode x ≠ .nan s t := by
    intro s t
    unfold FloatKind.decode FloatKind.format
    by_cases hi : FM.rg x = FM.infR
    · simp only [FM.read_inf hi]; intro e; cases e
    · simp only [FM.read_num (w := x) (by omega)]; intro e; cases e
  obtain ⟨f, hf⟩ := toIntegral_by "math.archFloor" .down x
  rw [hf]
  cases hd : FloatKind.f64.decode x with
  | nan s t => exact absurd hd (hn s t)
  | number s m i => rfl
  | infinity s => rfl
set_option maxHeartbeats 400000 in
theorem mfloor_any (x : Nat) (hx : FM.nan x = false) (w : World) :
    Calls Tryd.prog 41 #[.float .f64 x] w fun e w' => e = .returned (.float .f64 (FloatKind.f64.encode ((FloatKind.f64.decode x).integral .down))) ∧ w = w' := by
  have h := call_floor x hx
  generalize FloatKind.f64.encode ((FloatKind.f64.decode x).integral .down) = r at *
  go_enter Tryd.func41, Tryd.ntmps41
  go_wp2
  go_ret
  exact ⟨rfl, rfl⟩

theorem gt_max (x : Nat) (hx : FM.nan x = false) : (Ieee.double.order x 9218868437227405311 == some .gt) = (!FM.sgn x && (FM.rg x == FM.infR)) := by
  have h := of_decide_eq_false hx
  have c1 : FM.nan 9218868437227405311 = false := by decide
  have c2 : FM.sv 9218868437227405311 = (FM.val 9218868437227405311 : Int) := rfl
  rw [FM.order_num hx c1, c2]
  unfold FM.sv
  have hi : FM.rg x = FM.infR ∨ FM.rg x ≤ 9218868437227405311 := by unfold FM.infR at *; omega
  rw [Bool.eq_iff_iff]
  rcases hi with hi | hi
  · have : FM.val 9218868437227405311 < FM.val FM.infR := FM.val_lt (by decide)
    rw [hi]
    cases FM.sgn x
    · simp only [Bool.false_eq_true, if_false]; rw [if_neg (by omega), if_pos (by omega)]; simp
    · simp only [if_true]; rw [if_pos (by omega)]; simp
  · have h3 : FM.val (FM.rg x) ≤ FM.val 9218868437227405311 := FM.val_le hi
    have h4 : (FM.rg x == FM.infR) = false := by simp; unfold FM.infR; omega
    rw [h4]
    have h5 : ¬ (FM.val 9218868437227405311 : Int) < (if FM.sgn x then -(FM.val (FM.rg x) : Int) else (FM.val (FM.rg x) : Int)) := by split <;> omega
    generalize (if FM.sgn x then -(FM.val (FM.rg x) : Int) else (FM.val (FM.rg x) : Int)) = z at *
    rw [if_neg h5]
    by_cases hz : z < (FM.val 9218868437227405311 : Int)
    · rw [if_pos hz]; simp
    · rw [if_neg hz]; simp
theorem xor_top (r : Nat) (hr : r < 9223372036854775808) : r ^^^ 2 ^ 63 = 9223372036854775808 + r := by
  have h := nat_join 63 9223372036854775808 r (by decide) hr
  rw [← h]
  apply Nat.eq_of_testBit_eq
  intro i
  have e : (9223372036854775808 : Nat) = 2 ^ 63 := by decide
  rw [Nat.testBit_xor, Nat.testBit_or, e, Nat.testBit_two_pow]
  by_cases h63 : 63 = i
  · have : r.testBit 63 = false := Nat.testBit_lt_two_pow hr
    rw [← h63, this]; simp
  · simp [h63]
theorem neg_word (x : Nat) (hx : x < 18446744073709551616) : Op.negFloat .f64 x = Ieee.double.word (!FM.sgn x) (FM.rg x) := by
  have e : Op.negFloat .f64 x = x ^^^ 2 ^ 63 := rfl
  have hw := FM.word_eq hx
  have hr : FM.rg x < 9223372036854775808 := by unfold FM.rg; omega
  rw [e]
  conv => lhs; rw [hw]
  unfold Ieee.Format.word
  rw [FM.double_sign]
  cases FM.sgn x
  · simp only [Bool.false_eq_true, if_false, Bool.not_false, if_true]; exact xor_top _ hr
  · simp only [Bool.false_eq_true, if_false, Bool.not_true, if_true]
    rw [← xor_top _ hr, Nat.xor_assoc, Nat.xor_self, Nat.xor_zero]

/-- 'math.IsInf(x, s)'. -/
def isInf (x : Nat) (s : Int) : Bool := (FM.rg x == FM.infR) && (decide (s = 0) || (decide (s < 0) == FM.sgn x))
theorem inf_plus (x : Nat) : (Ieee.double.order x 9218868437227405311 == some .gt) = ((FM.rg x == FM.infR) && !FM.sgn x) := by
  cases hx : FM.nan x
  · rw [gt_max x hx, Bool.and_comm]
  · rw [FM.order_nan (.inl hx)]
    have h := of_decide_eq_true hx
    have : (FM.rg x == FM.infR) = false := by simp; omega
    rw [this]; rfl
theorem rg_lt (x : Nat) : FM.rg x < 9223372036854775808 := by unfold FM.rg; omega
theorem sgn_rg (x : Nat) : FM.sgn (FM.rg x) = false := by have := rg_lt x; unfold FM.sgn; simp; omega
theorem rg_rg (x : Nat) : FM.rg (FM.rg x) = FM.rg x := by
  have := rg_lt x
  show FM.rg x % 9223372036854775808 = FM.rg x
  omega
@[go_sem] theorem unary_neg_float (k : FloatKind) (b : Nat) : Op.unary .neg (.float k b) = pure (.float k (Op.negFloat k b)) := rfl
set_option maxHeartbeats 400000 in
theorem isinf_any (x : Nat) (s : Int) (hx : x < 18446744073709551616) (w : World) :
    Calls Tryd.prog 18 #[.float .f64 x, .int .i64 s] w fun e w' => e = .returned (.bool (isInf x s)) ∧ w = w' := by
  by_cases h0 : s = 0
  · subst h0
    have e : isInf x 0 = (FM.rg x == FM.infR) := by unfold isInf; simp
    have h := inf_plus (FM.rg x)
    rw [sgn_rg, rg_rg, Bool.not_false, Bool.and_true] at h
    rw [e]
    have HX := Lib.hid hx
    clear hx
    generalize (FM.rg x == FM.infR) = bb at *
    go_enter Tryd.func18, Tryd.ntmps18
    go_wp2_with (go_at_call 36; refine (abs_any _ HX.out _).mono ?_; rintro e w' ⟨rfl, rfl⟩)
    go_ret
    exact ⟨by rw [← h]; rfl, rfl⟩
  · have hb : (s == 0) = false := by simpa using h0
    by_cases h1 : s < 0
    · have e : isInf x s = (FM.rg x == FM.infR && FM.sgn x) := by unfold isInf; simp [h0, h1]
      have h := inf_plus (Ieee.double.word (!FM.sgn x) (FM.rg x))
      rw [FM.word_sgn _ (rg_lt x), FM.word_rg _ (rg_lt x), Bool.not_not] at h
      rw [e]
      have hn := neg_word x hx
      clear e h0
      generalize (FM.rg x == FM.infR && FM.sgn x) = bb at *
      generalize Ieee.double.word (!FM.sgn x) (FM.rg x) = y at *
      have HX := Lib.hid hx
      clear hx
      go_enter Tryd.func18, Tryd.ntmps18
      go_wp2
      go_ret
      exact ⟨by rw [← h]; rfl, rfl⟩
    · have e : isInf x s = (FM.rg x == FM.infR && !FM.sgn x) := by unfold isInf; simp [h0, h1]
      have h := inf_plus x
      rw [e]
      clear e h0
      generalize (FM.rg x == FM.infR && !FM.sgn x) = bb at *
      have HX := Lib.hid hx
      clear hx
      go_enter Tryd.func18, Tryd.ntmps18
      go_wp2
      go_ret
      exact ⟨by rw [← h]; rfl, rfl⟩
end Go.Proofs.YtbinhlnekhglkaaDoor
