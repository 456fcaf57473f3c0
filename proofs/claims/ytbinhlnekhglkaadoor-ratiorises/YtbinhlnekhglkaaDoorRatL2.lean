/- The walks of turncocklaw5's RatioRises and RatioRow. -/
import Derived.Test.YtbinhlnekhglkaaDoorRatL1
namespace Go.Proofs.YtbinhlnekhglkaaDoor
open Go.RowKit

theorem lim_mono {a b : Int} (h : a ≤ b) : lim a ≤ lim b := by unfold lim; omega
theorem near_mono {n1 n2 : Int} {u v : Nat} (bu : u < 18446744073709551616) (bv : v < 18446744073709551616) (hu : FM.nan u = false) (hv : FM.nan v = false) (hn : n1 ≤ n2) (hs : FM.sv u ≤ FM.sv v) : nearI n1 u ≤ nearI n2 v := by
  have hl := lim_mono hn
  have r1 := nearI_rng (n := n1) bu; have r2 := nearI_rng (n := n2) bv
  by_cases h1 : (FM.U : Int) ≤ FM.sv v
  · have : nearI n2 v = lim n2 := by unfold nearI; rw [if_pos (.inr h1)]
    omega
  · by_cases h2 : FM.sv u ≤ 0
    · have : nearI n1 u = 0 := by unfold nearI; rw [if_neg (by rw [hu]; simp; omega), if_pos h2]
      omega
    · obtain ⟨P, p1, p2, p3, _⟩ := near_mul (lim_lo n1) (lim_hi n1) bu hu (by omega) (by omega)
      obtain ⟨Q, q1, q2, q3, _⟩ := near_mul (lim_lo n2) (lim_hi n2) bv hv (by omega) (by omega)
      have e1 : nearI n1 u = ((FM.val P / FM.U : Nat) : Int) := by
        unfold nearI; rw [if_neg (by rw [hu]; simp; omega), if_neg h2, p1, Option.getD_some]
      have e2 : nearI n2 v = ((FM.val Q / FM.U : Nat) : Int) := by
        unfold nearI; rw [if_neg (by rw [hv]; simp; omega), if_neg (by omega), q1, Option.getD_some]
      have vu : FM.sv u = (FM.val u : Int) := (pos_of bu hu (by omega) (by omega)).2.2.1
      have vv : FM.sv v = (FM.val v : Int) := (pos_of bv hv (by omega) (by omega)).2.2.1
      have hle : P ≤ Q := p3.mono q3 (by decide) (by decide) (by
        rw [Nat.mul_one, Nat.mul_one]
        exact Nat.mul_le_mul (by have := lim_lo n1; omega) (by omega))
      have := Nat.div_le_div_right (c := FM.U) (FM.val_le hle)
      rw [e1, e2]
      exact Int.ofNat_le.2 this

/-- The lesser and the greater of two floats that are no NaN. -/
theorem min_max_float {x y : Nat} (hx : FM.nan x = false) (hy : FM.nan y = false) : ∃ u v, (u = x ∨ u = y) ∧ (v = x ∨ v = y) ∧ FM.sv u ≤ FM.sv v ∧
    (∀ ts t w, (Builtin.min_ ts t #[.float .f64 x, .float .f64 y]).run Tryd.prog w = .ok (.float .f64 u) w) ∧ (∀ ts t w, (Builtin.max_ ts t #[.float .f64 x, .float .f64 y]).run Tryd.prog w = .ok (.float .f64 v) w) := by
  rcases ord3 hx hy with ⟨h1, h2⟩ | ⟨h1, h2⟩ | ⟨h1, h2⟩
  · refine ⟨x, y, .inl rfl, .inr rfl, by omega, fun ts t w => ?_, fun ts t w => ?_⟩
    · simp [Builtin.min_, Builtin.min2, h1]
    · simp [Builtin.max_, Builtin.max2, h1]
  · refine ⟨y, x, .inr rfl, .inl rfl, by omega, fun ts t w => ?_, fun ts t w => ?_⟩
    · simp [Builtin.min_, Builtin.min2, h1]
    · simp [Builtin.max_, Builtin.max2, h1]
  · refine ⟨if (FloatKind.f64.decode x).neg then x else y, if (FloatKind.f64.decode x).neg then y else x, ?_, ?_, ?_, fun ts t w => ?_, fun ts t w => ?_⟩
    · split; exact .inl rfl; exact .inr rfl
    · split; exact .inr rfl; exact .inl rfl
    · split <;> omega
    · simp [Builtin.min_, Builtin.min2, h1]
    · simp [Builtin.max_, Builtin.max2, h1]

theorem near_nan (n : Int) : nearI n 9221120237041090561 = lim n := by
  have : FM.nan 9221120237041090561 = true := by decide
  unfold nearI; rw [if_pos (.inl this)]
set_option maxHeartbeats 2000000 in
theorem ratioRises_walk (n m a b : Int) (w : World) (ha : (Lit.int .u64 a).wf = true) (hb : (Lit.int .u64 b).wf = true) (ht : PowIs w) :
    Calls Tryd.prog 7 #[.int .i64 n, .int .i64 m, .int .u64 a, .int .u64 b] w fun e w' => e = .returned (.bool true) ∧ Below w.heap.size w w' := by
  have HT := Lib.hid ht
  have xa := u64_word ha; have xb := u64_word hb
  clear ht ha hb
  have HXA := Lib.hid (fun w => of5_any a w); have HXB := Lib.hid (fun w => of5_any b w)
  obtain ⟨x, hx⟩ : ∃ x, x = a.toNat := ⟨_, rfl⟩
  obtain ⟨y, hy⟩ : ∃ y, y = b.toNat := ⟨_, rfl⟩
  rw [← hx] at xa HXA
  rw [← hy] at xb HXB
  clear hx hy
  have NX := Lib.hid (fun w => isnan_any x w); have NY := Lib.hid (fun w => isnan_any y w)
  cases hnn : (FM.nan x || FM.nan y)
  · have hx : FM.nan x = false := by cases h : FM.nan x; rfl; rw [h] at hnn; simp at hnn
    have hy : FM.nan y = false := by cases h : FM.nan y; rfl; rw [h] at hnn; simp at hnn
    obtain ⟨u, v, hu, hv, hs, hmin, hmax⟩ := min_max_float hx hy
    have bu : u < 18446744073709551616 := by rcases hu with rfl | rfl <;> assumption
    have bv : v < 18446744073709551616 := by rcases hv with rfl | rfl <;> assumption
    have nu : FM.nan u = false := by rcases hu with rfl | rfl <;> assumption
    have nv : FM.nan v = false := by rcases hv with rfl | rfl <;> assumption
    have hle := near_mono (n1 := min n m) (n2 := max n m) bu bv nu nv (by omega) hs
    have N1 := Lib.hid (fun w => near_any (min n m) u bu w); have N2 := Lib.hid (fun w => near_any (max n m) v bv w)
    obtain ⟨q1, h1⟩ : ∃ q, q = nearI (min n m) u := ⟨_, rfl⟩
    obtain ⟨q2, h2⟩ : ∃ q, q = nearI (max n m) v := ⟨_, rfl⟩
    rw [← h1] at N1 hle
    rw [← h2] at N2 hle
    clear h1 h2 hs hu hv bu bv nu nv xa xb hnn
    go_enter Tryd.func7, Tryd.ntmps7
    go_wp2_with fail
    refine (HXA.out _).mono ?_
    rintro e w' ⟨rfl, rfl⟩
    go_wp2_with fail
    refine (HXB.out _).mono ?_
    rintro e w' ⟨rfl, rfl⟩
    go_wp2_with fail
    refine (NX.out _).mono ?_
    rintro e w' ⟨rfl, rfl⟩
    go_wp2_with fail
    refine (NY.out _).mono ?_
    rintro e w' ⟨rfl, rfl⟩
    go_wp2_with fail
    refine (N1.out _).mono ?_
    rintro e w' ⟨rfl, rfl⟩
    go_wp2_with fail
    refine (N2.out _).mono ?_
    rintro e w' ⟨rfl, rfl⟩
    go_wp2_with fail
    refine (awake5 _ HT.out).mono ?_
    rintro e w3 ⟨rfl, b3⟩
    have B3 := Lib.hid b3
    clear b3
    go_wp2
    go_ret
    exact ⟨rfl, B3.out⟩
  · have hl : max (min n 4294967295) 0 = lim n := lim_max_min n
    have nn := fun w => near_any n 9221120237041090561 (by decide) w
    rw [near_nan] at nn
    have NN := Lib.hid nn
    obtain ⟨l, hL⟩ : ∃ l, l = lim n := ⟨_, rfl⟩
    rw [← hL] at hl NN
    clear hL nn xa xb
    cases hx : FM.nan x
    · have hy : FM.nan y = true := by rw [hx] at hnn; simpa using hnn
      clear hnn
      go_enter Tryd.func7, Tryd.ntmps7
      go_wp2_with fail
      refine (HXA.out _).mono ?_
      rintro e w' ⟨rfl, rfl⟩
      go_wp2_with fail
      refine (HXB.out _).mono ?_
      rintro e w' ⟨rfl, rfl⟩
      go_wp2_with fail
      refine (NX.out _).mono ?_
      rintro e w' ⟨rfl, rfl⟩
      go_wp2_with fail
      refine (NY.out _).mono ?_
      rintro e w' ⟨rfl, rfl⟩
      go_wp2_with (go_at_call 27; refine (mnan_any _).mono ?_; rintro e w' ⟨rfl, rfl⟩)
      refine (NN.out _).mono ?_
      rintro e w' ⟨rfl, rfl⟩
      go_wp2_with fail
      refine (awake5 _ HT.out).mono ?_
      rintro e w3 ⟨rfl, b3⟩
      have B3 := Lib.hid b3
      clear b3
      go_wp2
      go_ret
      exact ⟨rfl, B3.out⟩
    · clear hnn
      go_enter Tryd.func7, Tryd.ntmps7
      go_wp2_with fail
      refine (HXA.out _).mono ?_
      rintro e w' ⟨rfl, rfl⟩
      go_wp2_with fail
      refine (HXB.out _).mono ?_
      rintro e w' ⟨rfl, rfl⟩
      go_wp2_with fail
      refine (NX.out _).mono ?_
      rintro e w' ⟨rfl, rfl⟩
      go_wp2_with (go_at_call 27; refine (mnan_any _).mono ?_; rintro e w' ⟨rfl, rfl⟩)
      refine (NN.out _).mono ?_
      rintro e w' ⟨rfl, rfl⟩
      go_wp2_with fail
      refine (awake5 _ HT.out).mono ?_
      rintro e w3 ⟨rfl, b3⟩
      have B3 := Lib.hid b3
      clear b3
      go_wp2
      go_ret
      exact ⟨rfl, B3.out⟩

/-- The row, by its words. -/
def rowL : List Nat := [18442240474082181120, 18442240474082181119, 13830554455654793216, 9223372036854775809, 9223372036854775808, 0, 1, 4602678819172646912, 4607182418800017408, 9218868437227405311, 9218868437227405312, 9221120237041090561, 18444492273895866369]
theorem copy_zero (w : World) : Calls Tryd.prog 40 #[.float .f64 0, .float .f64 13830554455654793216] w fun e w' => e = .returned (.float .f64 9223372036854775808) ∧ w = w' := copy_minus 0 (by decide) w
set_option maxHeartbeats 1000000 in
theorem row_any (w : World) :
    Calls Tryd.prog 24 #[] w fun e w' => e = .returned (.slice (some ⟨w.heap.size, 0, none⟩) 13 13) ∧ Below w.heap.size w w' ∧ ∀ j x, rowL[j]? = some x → w'.cell? ⟨w.heap.size, j, none⟩ = some (.float .f64 x) := by
  go_enter Tryd.func24, Tryd.ntmps24
  go_wp2_with (first | (go_at_call 39; refine (minf_any _ _).mono ?_; rintro e w' ⟨rfl, rfl⟩) | (go_at_call 40; refine (copy_zero _).mono ?_; rintro e w' ⟨rfl, rfl⟩) | (go_at_call 27; refine (mnan_any _).mono ?_; rintro e w' ⟨rfl, rfl⟩) | (go_at_call 20; refine (of5_any _ _).mono ?_; rintro e w' ⟨rfl, rfl⟩))
  go_ret
  refine ⟨rfl, (Below.refl _ _).alloc (Nat.le_refl _) _, fun j x hj => ?_⟩
  rw [World.cell?_alloc_new]
  show (rowL.map fun x => Value.float .f64 x).toArray[j]? = _
  rw [List.getElem?_toArray, List.getElem?_map, hj]; rfl
def rowWant (i k : Nat) : Int := if min i 11 < min k 11 then -1 else if min k 11 < min i 11 then 1 else 0
theorem row_ord : ∀ i < 13, ∀ k < 13, ordI (rowL[i]?.getD 0) (rowL[k]?.getD 0) = rowWant i k := by decide +kernel
theorem row_lt : ∀ i < 13, rowL[i]?.getD 0 < 18446744073709551616 ∧ rowL[i]? = some (rowL[i]?.getD 0) := by decide
set_option maxHeartbeats 2000000 in
theorem ratioRow_walk (i k : Int) (w : World) (ht : PowIs w) :
    Calls Tryd.prog 5 #[.int .i64 i, .int .i64 k] w fun e w' => e = .returned (.bool true) ∧ Below w.heap.size w w' := by
  have HT := Lib.hid ht
  clear ht
  by_cases hin : (0 ≤ i ∧ i < 13) ∧ (0 ≤ k ∧ k < 13)
  · obtain ⟨⟨i0, i1⟩, ⟨k0, k1⟩⟩ := hin
    obtain ⟨a, rfl⟩ := Int.eq_ofNat_of_zero_le i0
    obtain ⟨b, rfl⟩ := Int.eq_ofNat_of_zero_le k0
    obtain ⟨xa, ra⟩ := row_lt a (by omega)
    obtain ⟨xb, rb⟩ := row_lt b (by omega)
    have hord := row_ord a (by omega) b (by omega)
    obtain ⟨x, hx⟩ : ∃ x, x = rowL[a]?.getD 0 := ⟨_, rfl⟩
    obtain ⟨y, hy⟩ : ∃ y, y = rowL[b]?.getD 0 := ⟨_, rfl⟩
    rw [← hx] at xa ra hord
    rw [← hy] at xb rb hord
    have hor := fun w => order_any x y xa xb w
    rw [hord] at hor
    have HO := Lib.hid hor
    have RA := Lib.hid ra; have RB := Lib.hid rb
    obtain ⟨A, hA⟩ : ∃ A : Int, min (a : Int) 11 = A := ⟨_, rfl⟩
    obtain ⟨B, hB⟩ : ∃ B : Int, min (b : Int) 11 = B := ⟨_, rfl⟩
    have hcase : (A < B ∧ rowWant a b = -1) ∨ (¬ A < B ∧ B < A ∧ rowWant a b = 1) ∨ (¬ A < B ∧ ¬ B < A ∧ rowWant a b = 0) := by
      unfold rowWant
      by_cases c1 : min a 11 < min b 11
      · exact .inl ⟨by omega, by rw [if_pos c1]⟩
      · by_cases c2 : min b 11 < min a 11
        · exact .inr (.inl ⟨by omega, by omega, by rw [if_neg c1, if_pos c2]⟩)
        · exact .inr (.inr ⟨by omega, by omega, by rw [if_neg c1, if_neg c2]⟩)
    obtain ⟨q, hq⟩ : ∃ q, q = rowWant a b := ⟨_, rfl⟩
    rw [← hq] at HO hcase
    clear hor hord hx hy xa xb ra rb hq
    rcases hcase with ⟨c1, rfl⟩ | ⟨c1, c2, rfl⟩ | ⟨c1, c2, rfl⟩
    all_goals
      go_enter Tryd.func5, Tryd.ntmps5
      go_wp2_with fail
      refine (row_any _).mono ?_
      rintro e w1 ⟨rfl, b1, hc⟩
      have B1 := Lib.hid b1
      have T1 := Lib.hid (HT.out.below b1)
      have ca := hc a x RA.out
      have cb := hc b y RB.out
      clear b1 hc
      obtain ⟨blk, hblk⟩ : ∃ blk, blk = w.heap.size := ⟨_, rfl⟩
      rw [← hblk] at ca cb ⊢
      have HBLK := Lib.hid hblk
      clear hblk
      go_wp2_with fail
      go_region_held3 (fun W => W.cell? ⟨blk, a, none⟩ = some (.float .f64 x) ∧ W.cell? ⟨blk, b, none⟩ = some (.float .f64 y)) (first | exact ⟨ca, cb⟩ | exact ⟨da, db⟩) (first | (go_at_call 21; refine (HO.out _).mono ?_; rintro e w' ⟨rfl, rfl⟩) | (go_at_call 17; refine (awake5 _ (T1.out.below (below_drew _))).mono ?_; rintro e w3 ⟨rfl, b3⟩; have da := cell_later b3 ca; have db := cell_later b3 cb))
      have B3 := Lib.hid (below_trans (below_trans B1.out (below_drew _)) b3)
      clear b3 da db
      go_wp2
      go_ret
      exact ⟨rfl, B3.out⟩
  · have hc : i < 0 ∨ (¬ i < 0 ∧ 13 ≤ i) ∨ (¬ i < 0 ∧ ¬ 13 ≤ i ∧ k < 0) ∨ (¬ i < 0 ∧ ¬ 13 ≤ i ∧ ¬ k < 0 ∧ 13 ≤ k) := by omega
    clear hin
    rcases hc with h1 | ⟨h1, h2⟩ | ⟨h1, h2, h3⟩ | ⟨h1, h2, h3, h4⟩
    all_goals
      go_enter Tryd.func5, Tryd.ntmps5
      go_wp2_with fail
      refine (row_any _).mono ?_
      rintro e w1 ⟨rfl, b1, _⟩
      have B1 := Lib.hid b1
      have T1 := Lib.hid (HT.out.below b1)
      clear b1
      go_wp2_with fail
      refine (awake5 _ T1.out).mono ?_
      rintro e w3 ⟨rfl, b3⟩
      have B3 := Lib.hid (below_trans B1.out b3)
      clear b3
      go_wp2
      go_ret
      exact ⟨rfl, B3.out⟩
end Go.Proofs.YtbinhlnekhglkaaDoor
