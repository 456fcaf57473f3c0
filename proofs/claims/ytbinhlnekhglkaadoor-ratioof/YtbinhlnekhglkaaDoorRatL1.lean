/- The walks of turncocklaw5's RatioOf, RatioOrder, RatioNear, RatioText. -/
import Derived.Test.YtbinhlnekhglkaaDoorRatV
namespace Go.Proofs.YtbinhlnekhglkaaDoor
open Go.RowKit

theorem wf_i64 {n : Int} (h : (Lit.int .i64 n).wf = true) : -9223372036854775808 ≤ n ∧ n ≤ 9223372036854775807 := by
  simp only [Lit.wf, Bool.and_eq_true, decide_eq_true_eq] at h
  have e1 : IntKind.i64.min = -9223372036854775808 := by decide
  have e2 : IntKind.i64.max = 9223372036854775807 := by decide
  rw [e1, e2] at h; exact h
theorem wf_u64 {n : Int} (h : (Lit.int .u64 n).wf = true) : 0 ≤ n ∧ n ≤ 18446744073709551615 := by
  simp only [Lit.wf, Bool.and_eq_true, decide_eq_true_eq] at h
  have e1 : IntKind.u64.min = 0 := by decide
  have e2 : IntKind.u64.max = 18446744073709551615 := by decide
  rw [e1, e2] at h; exact h
theorem u64_word {n : Int} (h : (Lit.int .u64 n).wf = true) : n.toNat < 18446744073709551616 := by have := wf_u64 h; omega

theorem int_rung {n : Int} (h : (Lit.int .i64 n).wf = true) : ∃ R, floatOfInt .f64 n = Ieee.double.word (decide (n < 0)) R ∧ R < FM.infR ∧ (n ≠ 0 → FM.U ≤ FM.val R) ∧ (n = 0 → R = 0) ∧ FM.val R ≤ 9223372036854775808 * FM.U := by
  have hb := wf_i64 h
  obtain ⟨R, h1, h2, h3⟩ := FM.ofInt_num n (by omega)
  refine ⟨R, h1, h2, fun h0 => ?_, fun h0 => ?_, ?_⟩
  · have : 4607182418800017408 ≤ R := h3.ge (by decide) (by
      rw [FM.val_one, Nat.one_mul]
      have := Nat.mul_le_mul_right FM.U (show 1 ≤ n.natAbs by omega)
      omega)
    have := FM.val_le this
    rw [FM.val_one] at this; exact this
  · subst h0
    exact h3.eq (by decide) (by rw [FM.val_zero]; simp)
  · have : R ≤ 4890909195324358656 := h3.le (by decide) (by
      rw [Nat.one_mul, ← FM.big_rung]
      exact Nat.mul_le_mul_right _ (by omega))
    rw [FM.big_rung]; exact FM.val_le this
theorem min_lt (R : Nat) : min R FM.infR < 9223372036854775808 := by have := FM.infR_lt; omega
theorem nan_min (s : Bool) (R : Nat) : FM.nan (Ieee.double.word s (min R FM.infR)) = false := by
  unfold FM.nan
  rw [FM.word_rg _ (min_lt R), decide_eq_false_iff_not]; omega
theorem of_div {n d : Int} (hn : (Lit.int .i64 n).wf = true) (hd : (Lit.int .i64 d).wf = true) (h0 : d ≠ 0) :
    ∃ r, floatBits .quo .f64 (floatOfInt .f64 n) (floatOfInt .f64 d) = some r ∧ FM.nan r = false ∧ r < 18446744073709551616 ∧ FM.sgn r = (decide (n < 0) ^^ decide (d < 0)) ∧ (FM.rg r = 0 ↔ n = 0) := by
  obtain ⟨X, x1, x2, x3, x4, x5⟩ := int_rung hn
  obtain ⟨Y, y1, y2, y3, y4, y5⟩ := int_rung hd
  have hb := FM.infR_lt; have hU := FM.U_pos
  have rX : FM.rg (floatOfInt .f64 n) = X := by rw [x1]; exact FM.word_rg _ (by omega)
  have rY : FM.rg (floatOfInt .f64 d) = Y := by rw [y1]; exact FM.word_rg _ (by omega)
  have sX : FM.sgn (floatOfInt .f64 n) = decide (n < 0) := by rw [x1]; exact FM.word_sgn _ (by omega)
  have sY : FM.sgn (floatOfInt .f64 d) = decide (d < 0) := by rw [y1]; exact FM.word_sgn _ (by omega)
  have vY := y3 h0
  have hY0 : Y ≠ 0 := by rintro rfl; rw [FM.val_zero] at vY; omega
  obtain ⟨R, h1, h2⟩ := FM.div_num (x := floatOfInt .f64 n) (y := floatOfInt .f64 d) (by omega) (by omega) (by omega)
  rw [rX, rY] at h2
  rw [sX, sY] at h1
  refine ⟨_, h1, nan_min _ _, word_lt64 _ (min_lt R), FM.word_sgn _ (min_lt R), ?_⟩
  rw [FM.word_rg _ (min_lt R)]
  have hi : FM.infR = 9218868437227405312 := rfl
  constructor
  · intro hz
    apply Decidable.byContradiction
    intro hne
    have vX := x3 hne
    have : 1 ≤ R := h2.ge (by omega) (by
      have e1 : FM.val 1 = 1 := by decide
      rw [e1, Nat.mul_one]
      have hb2 := FM.U_big
      have a1 : 9223372036854775808 * FM.U ≤ FM.U * FM.U := Nat.mul_le_mul_right _ (by omega)
      have a2 : FM.U * FM.U ≤ FM.val X * FM.U := Nat.mul_le_mul_right _ vX
      omega)
    omega
  · intro hz
    have := x4 hz
    subst this
    have : R = 0 := h2.eq (by omega) (by rw [FM.val_zero]; simp)
    omega
theorem of_inf {n : Int} (hn : (Lit.int .i64 n).wf = true) (h0 : n ≠ 0) :
    ∃ r, floatBits .quo .f64 (floatOfInt .f64 n) (floatOfInt .f64 0) = some r ∧ FM.nan r = false ∧ r < 18446744073709551616 ∧ FM.sgn r = decide (n < 0) ∧ FM.rg r = FM.infR := by
  obtain ⟨X, x1, x2, x3, x4, x5⟩ := int_rung hn
  have hb := FM.infR_lt; have hU := FM.U_pos
  have rX : FM.rg (floatOfInt .f64 n) = X := by rw [x1]; exact FM.word_rg _ (by omega)
  have sX : FM.sgn (floatOfInt .f64 n) = decide (n < 0) := by rw [x1]; exact FM.word_sgn _ (by omega)
  have vX := x3 h0
  have hX0 : X ≠ 0 := by rintro rfl; rw [FM.val_zero] at vX; omega
  have hm : FM.mg X ≠ 0 := by unfold FM.mg; split <;> omega
  have e0 : floatOfInt .f64 0 = 0 := by decide +kernel
  have hz : Ieee.double.read 0 = .number false 0 (-1074) := by decide
  refine ⟨Ieee.double.word (decide (n < 0)) FM.infR, ?_, ?_, word_lt64 _ hb, FM.word_sgn _ hb, FM.word_rg _ hb⟩
  · show Ieee.double.div _ _ = _
    unfold Ieee.Format.div
    rw [e0, hz, FM.read_num (w := floatOfInt .f64 n) (by omega), rX, sX]
    simp only [Ieee.Datum.quotient, if_neg hm, if_true, Option.map, Ieee.Format.write, Bool.xor_false]
    rfl
  · unfold FM.nan
    rw [FM.word_rg _ hb]; decide
theorem ordI_self {r : Nat} : (ordI r r == 0) = true := by unfold ordI; simp
theorem eq_zero3 {r : Nat} (hn : FM.nan r = false) : (FM.rg r = 0 ∧ FloatKind.f64.format.order r 0 = some .eq) ∨ (FM.rg r ≠ 0 ∧ (FloatKind.f64.format.order r 0 = some .lt ∨ FloatKind.f64.format.order r 0 = some .gt)) := by
  have hv : FM.sv r = 0 ↔ FM.rg r = 0 := by
    unfold FM.sv
    rw [← FM.val_eq_zero]
    cases FM.sgn r <;> simp
  rcases ord3 hn nan_zero with ⟨h1, h2⟩ | ⟨h1, h2⟩ | ⟨h1, h2⟩
  · rw [sv_zero] at h2; exact .inr ⟨fun h => by have := hv.2 h; omega, .inl h1⟩
  · rw [sv_zero] at h2; exact .inr ⟨fun h => by have := hv.2 h; omega, .inr h1⟩
  · rw [sv_zero] at h2; exact .inl ⟨hv.1 h2, h1⟩

set_option maxHeartbeats 2000000 in
theorem ratioOf_walk (n d : Int) (w : World) (hn : (Lit.int .i64 n).wf = true) (hd : (Lit.int .i64 d).wf = true) (ht : PowIs w) :
    Calls Tryd.prog 3 #[.int .i64 n, .int .i64 d] w fun e w' => e = .returned (.bool true) ∧ Below w.heap.size w w' := by
  have HT := Lib.hid ht
  clear ht
  by_cases d0 : d = 0
  · subst d0
    by_cases n0 : n = 0
    · subst n0
      clear hn hd
      go_enter Tryd.func3, Tryd.ntmps3
      go_wp2_with fail
      refine (of_zero _).mono ?_
      rintro e w1 ⟨⟨r1, hr1, rfl⟩, hw1⟩
      have B1 := Lib.hid (show Below w.heap.size w w1 by rw [hw1]; exact below_drew _)
      clear hw1
      go_wp2_with fail
      refine (rof_zero _).mono ?_
      rintro e w2 ⟨⟨r2, hr2, rfl⟩, hw2⟩
      have B2 := Lib.hid (below_trans B1.out (show Below w1.heap.size w1 w2 by rw [hw2]; exact below_drew _))
      have T2 := Lib.hid (HT.out.below B2.out)
      clear hw2 B1
      have hal := fun w => alike_any r1 r2 hr1.2 hr2.2 w
      rw [ordI_nn hr1.1 hr2.1] at hal
      have HAL := Lib.hid hal
      have n1 := hr1.1
      clear hal hr1 hr2
      go_wp2_with fail
      refine (HAL.out _).mono ?_
      rintro e w' ⟨rfl, rfl⟩
      go_wp2_with fail
      refine (isnan_any _ _).mono ?_
      rintro e w' ⟨rfl, rfl⟩
      go_wp2_with fail
      refine (awake5 _ T2.out).mono ?_
      rintro e w3 ⟨rfl, b3⟩
      have B3 := Lib.hid (below_trans B2.out b3)
      clear b3
      go_wp2
      go_ret
      exact ⟨rfl, B3.out⟩
    · obtain ⟨r, h1, h2, h3, h4, h5⟩ := of_inf hn n0
      have HO := Lib.hid (fun w => of_some n 0 r h1 w)
      have HR := Lib.hid (fun w => rof_some n 0 r h1 w)
      have hal := fun w => alike_any r r h3 h3 w
      rw [ordI_self] at hal
      have HAL := Lib.hid hal
      have hii := fun w => isinf_any r 0 h3 w
      have hi1 : isInf r 0 = true := by unfold isInf; rw [h5]; simp
      rw [hi1] at hii
      have HII := Lib.hid hii
      have hsg := fun w => signbit_any r h3 w
      rw [h4] at hsg
      have HSG := Lib.hid hsg
      have nb : (n == 0) = false := by simpa using n0
      have hnI := wf_i64 hn
      clear hal hii hsg hi1 h1 h2 h3 h4 h5 hn hd hnI
      go_enter Tryd.func3, Tryd.ntmps3
      go_wp2_with fail
      refine (HO.out _).mono ?_
      rintro e w' ⟨rfl, rfl⟩
      go_wp2_with fail
      refine (HR.out _).mono ?_
      rintro e w' ⟨rfl, rfl⟩
      go_wp2_with fail
      refine (HAL.out _).mono ?_
      rintro e w' ⟨rfl, rfl⟩
      go_wp2_with fail
      refine (HII.out _).mono ?_
      rintro e w' ⟨rfl, rfl⟩
      go_wp2_with fail
      refine (HSG.out _).mono ?_
      rintro e w' ⟨rfl, rfl⟩
      go_wp2_with fail
      refine (awake5 _ HT.out).mono ?_
      rintro e w3 ⟨rfl, b3⟩
      have B3 := Lib.hid b3
      clear b3
      go_wp2
      go_ret
      exact ⟨rfl, B3.out⟩
  · obtain ⟨r, h1, h2, h3, h4, h5⟩ := of_div hn hd d0
    have HO := Lib.hid (fun w => of_some n d r h1 w)
    have HR := Lib.hid (fun w => rof_some n d r h1 w)
    have hal := fun w => alike_any r r h3 h3 w
    rw [ordI_self] at hal
    have HAL := Lib.hid hal
    have hsg := fun w => signbit_any r h3 w
    have e4 : (decide (n < 0) ^^ decide (d < 0)) = (!(decide (n < 0) == decide (d < 0))) := by cases decide (n < 0) <;> cases decide (d < 0) <;> rfl
    rw [h4, e4] at hsg
    have HSG := Lib.hid hsg
    have db : (d == 0) = false := by simpa using d0
    have hz : (n = 0 ∧ FloatKind.f64.format.order r 0 = some .eq) ∨ (n ≠ 0 ∧ (FloatKind.f64.format.order r 0 = some .lt ∨ FloatKind.f64.format.order r 0 = some .gt)) := by
      rcases eq_zero3 h2 with ⟨a1, a2⟩ | ⟨a1, a2⟩
      · exact .inl ⟨h5.1 a1, a2⟩
      · exact .inr ⟨fun h => a1 (h5.2 h), a2⟩
    clear hal hsg h1 h2 h3 h4 h5 hn hd d0 e4
    have hz' : ((n == 0) = true ∧ FloatKind.f64.format.order r 0 = some .eq) ∨ ((n == 0) = false ∧ FloatKind.f64.format.order r 0 = some .lt) ∨ ((n == 0) = false ∧ FloatKind.f64.format.order r 0 = some .gt) := by
      rcases hz with ⟨n0, ho⟩ | ⟨n0, ho | ho⟩
      · exact .inl ⟨by simpa using n0, ho⟩
      · exact .inr (.inl ⟨by simpa using n0, ho⟩)
      · exact .inr (.inr ⟨by simpa using n0, ho⟩)
    clear hz
    rcases hz' with ⟨nb, ho⟩ | ⟨nb, ho⟩ | ⟨nb, ho⟩
    all_goals
      go_enter Tryd.func3, Tryd.ntmps3
      go_wp2_with fail
      refine (HO.out _).mono ?_
      rintro e w' ⟨rfl, rfl⟩
      go_wp2_with fail
      refine (HR.out _).mono ?_
      rintro e w' ⟨rfl, rfl⟩
      go_wp2_with fail
      refine (HAL.out _).mono ?_
      rintro e w' ⟨rfl, rfl⟩
      go_wp2_with fail
      refine (HSG.out _).mono ?_
      rintro e w' ⟨rfl, rfl⟩
      go_wp2_with fail
      refine (awake5 _ HT.out).mono ?_
      rintro e w3 ⟨rfl, b3⟩
      have B3 := Lib.hid b3
      clear b3
      go_wp2
      go_ret
      exact ⟨rfl, B3.out⟩

/-- The order, as an order. -/
theorem ordI_neg (x y : Nat) : ordI y x = -ordI x y := by
  unfold ordI
  split <;> split <;> (try split) <;> (try split) <;> omega
theorem ordI_trans (x y z : Nat) : (0 < ordI x y ∨ 0 < ordI y z ∨ ordI x z ≤ 0) ∧ (ordI x y < 0 ∨ ordI y z < 0 ∨ 0 ≤ ordI x z) := by
  unfold ordI
  constructor
  · split <;> (try split) <;> (try split) <;> (try split) <;> (try split) <;> (try split) <;> omega
  · split <;> (try split) <;> (try split) <;> (try split) <;> (try split) <;> (try split) <;> omega
theorem ordI_rng (x y : Nat) : -1 ≤ ordI x y ∧ ordI x y ≤ 1 := by unfold ordI; split <;> (try split) <;> omega
set_option maxHeartbeats 2000000 in
theorem ratioOrder_walk (a b c : Int) (w : World) (ha : (Lit.int .u64 a).wf = true) (hb : (Lit.int .u64 b).wf = true) (hc : (Lit.int .u64 c).wf = true) (ht : PowIs w) :
    Calls Tryd.prog 4 #[.int .u64 a, .int .u64 b, .int .u64 c] w fun e w' => e = .returned (.bool true) ∧ Below w.heap.size w w' := by
  have HT := Lib.hid ht
  have xa := u64_word ha; have xb := u64_word hb; have xc := u64_word hc
  clear ht ha hb hc
  have HXA := Lib.hid (fun w => of5_any a w); have HXB := Lib.hid (fun w => of5_any b w); have HXC := Lib.hid (fun w => of5_any c w)
  obtain ⟨x, hx⟩ : ∃ x, x = a.toNat := ⟨_, rfl⟩
  obtain ⟨y, hy⟩ : ∃ y, y = b.toNat := ⟨_, rfl⟩
  obtain ⟨z, hz⟩ : ∃ z, z = c.toNat := ⟨_, rfl⟩
  rw [← hx] at xa HXA
  rw [← hy] at xb HXB
  rw [← hz] at xc HXC
  clear hx hy hz
  have O1 := Lib.hid (fun w => order_any x y xa xb w); have O2 := Lib.hid (fun w => order_any y z xb xc w); have O3 := Lib.hid (fun w => order_any x z xa xc w)
  have R1 := Lib.hid (fun w => rorder_any x y xa xb w); have R2 := Lib.hid (fun w => rorder_any y z xb xc w); have R3 := Lib.hid (fun w => rorder_any x z xa xc w)
  have o4 := fun w => order_any y x xb xa w
  rw [ordI_neg x y] at o4
  have O4 := Lib.hid o4
  have S1 := Lib.hid (fun w => same_any x y xa xb w)
  obtain ⟨t1, t2⟩ := ordI_trans x y z
  have r1 := ordI_rng x y; have r2 := ordI_rng y z; have r3 := ordI_rng x z
  obtain ⟨n, hn⟩ : ∃ n, n = ordI x y := ⟨_, rfl⟩
  obtain ⟨m, hm⟩ : ∃ m, m = ordI y z := ⟨_, rfl⟩
  obtain ⟨k, hk⟩ : ∃ k, k = ordI x z := ⟨_, rfl⟩
  rw [← hn] at O1 R1 O4 S1 t1 t2 r1
  rw [← hm] at O2 R2 t1 t2 r2
  rw [← hk] at O3 R3 t1 t2 r3
  clear o4 xa xb xc hn hm hk
  have n3 : n = -1 ∨ n = 0 ∨ n = 1 := by omega
  have m3 : m = -1 ∨ m = 0 ∨ m = 1 := by omega
  have k3 : k = -1 ∨ k = 0 ∨ k = 1 := by omega
  clear r1 r2 r3
  rcases n3 with rfl | rfl | rfl <;> rcases m3 with rfl | rfl | rfl <;> rcases k3 with rfl | rfl | rfl <;> (first | (exfalso; omega; done) | skip)
  all_goals
    clear t1 t2
    go_enter Tryd.func4, Tryd.ntmps4
    go_wp2_with fail
    refine (HXA.out _).mono ?_
    rintro e w' ⟨rfl, rfl⟩
    go_wp2_with fail
    refine (HXB.out _).mono ?_
    rintro e w' ⟨rfl, rfl⟩
    go_wp2_with fail
    refine (HXC.out _).mono ?_
    rintro e w' ⟨rfl, rfl⟩
    go_wp2_with fail
    refine (O1.out _).mono ?_
    rintro e w' ⟨rfl, rfl⟩
    go_wp2_with fail
    refine (O2.out _).mono ?_
    rintro e w' ⟨rfl, rfl⟩
    go_wp2_with fail
    refine (O3.out _).mono ?_
    rintro e w' ⟨rfl, rfl⟩
    go_wp2_with fail
    refine (R1.out _).mono ?_
    rintro e w' ⟨rfl, rfl⟩
    go_wp2_with fail
    refine (R2.out _).mono ?_
    rintro e w' ⟨rfl, rfl⟩
    go_wp2_with fail
    refine (R3.out _).mono ?_
    rintro e w' ⟨rfl, rfl⟩
    go_wp2_with fail
    refine (O4.out _).mono ?_
    rintro e w' ⟨rfl, rfl⟩
    go_wp2_with fail
    refine (S1.out _).mono ?_
    rintro e w' ⟨rfl, rfl⟩
    go_wp2_with fail
    refine (awake5 _ HT.out).mono ?_
    rintro e w3 ⟨rfl, b3⟩
    have B3 := Lib.hid b3
    clear b3
    go_wp2
    go_ret
    exact ⟨rfl, B3.out⟩

theorem nearI_rng {n : Int} {x : Nat} (bx : x < 18446744073709551616) : 0 ≤ nearI n x ∧ nearI n x ≤ lim n := by
  have l0 := lim_lo n; have l1 := lim_hi n
  unfold nearI
  split
  · exact ⟨l0, Int.le_refl _⟩
  · rename_i h
    split
    · exact ⟨Int.le_refl _, l0⟩
    · rename_i h2
      have hx : FM.nan x = false := by cases hh : FM.nan x; rfl; exact absurd (.inl hh) h
      have hs : FM.sv x < (FM.U : Int) := by
        apply Int.lt_of_not_ge; intro hge; exact h (.inr hge)
      obtain ⟨P, p1, p2, p3, p4⟩ := near_mul l0 l1 bx hx (by omega) hs
      rw [p1, Option.getD_some]
      have : FM.val P / FM.U ≤ (lim n).toNat := by
        have := Nat.div_le_div_right (c := FM.U) p4
        rw [Nat.mul_div_cancel _ FM.U_pos] at this; exact this
      generalize FM.val P / FM.U = q at *
      omega
set_option maxHeartbeats 2000000 in
theorem ratioNear_walk (n b : Int) (w : World) (hb : (Lit.int .u64 b).wf = true) (ht : PowIs w) :
    Calls Tryd.prog 6 #[.int .i64 n, .int .u64 b] w fun e w' => e = .returned (.bool true) ∧ Below w.heap.size w w' := by
  have HT := Lib.hid ht
  have xb := u64_word hb
  clear ht hb
  have HXB := Lib.hid (fun w => of5_any b w)
  obtain ⟨x, hx⟩ : ∃ x, x = b.toNat := ⟨_, rfl⟩
  rw [← hx] at xb HXB
  clear hx
  have N1 := Lib.hid (fun w => near_any n x xb w); have N2 := Lib.hid (fun w => rnear_any n x xb w)
  obtain ⟨r1, r2⟩ := nearI_rng (n := n) xb
  have hl : max (min n 4294967295) 0 = lim n := lim_max_min n
  obtain ⟨q, hq⟩ : ∃ q, q = nearI n x := ⟨_, rfl⟩
  obtain ⟨l, hL⟩ : ∃ l, l = lim n := ⟨_, rfl⟩
  rw [← hq] at N1 N2 r1 r2
  rw [← hL] at hl r2
  clear hq hL xb
  go_enter Tryd.func6, Tryd.ntmps6
  go_wp2_with fail
  refine (HXB.out _).mono ?_
  rintro e w' ⟨rfl, rfl⟩
  go_wp2_with fail
  refine (N1.out _).mono ?_
  rintro e w' ⟨rfl, rfl⟩
  go_wp2_with fail
  refine (HXB.out _).mono ?_
  rintro e w' ⟨rfl, rfl⟩
  go_wp2_with fail
  refine (N2.out _).mono ?_
  rintro e w' ⟨rfl, rfl⟩
  go_wp2_with fail
  refine (awake5 _ HT.out).mono ?_
  rintro e w3 ⟨rfl, b3⟩
  have B3 := Lib.hid b3
  clear b3
  go_wp2
  go_ret
  exact ⟨rfl, B3.out⟩
set_option maxHeartbeats 2000000 in
theorem ratioText_walk (b : Int) (w : World) (hb : (Lit.int .u64 b).wf = true) (ht : PowIs w) :
    Calls Tryd.prog 8 #[.int .u64 b] w fun e w' => e = .returned (.bool true) ∧ Below w.heap.size w w' := by
  have HT := Lib.hid ht
  have xb := u64_word hb
  clear ht hb
  have HXB := Lib.hid (fun w => of5_any b w)
  obtain ⟨x, hx⟩ : ∃ x, x = b.toNat := ⟨_, rfl⟩
  rw [← hx] at xb HXB
  clear hx
  have N1 := Lib.hid (fun w ht => text_any x xb w ht); have N2 := Lib.hid (fun w => shown_any x xb w)
  obtain ⟨q, hq⟩ : ∃ q, q = TX.text x := ⟨_, rfl⟩
  rw [← hq] at N1 N2
  clear hq xb
  go_enter Tryd.func8, Tryd.ntmps8
  go_wp2_with fail
  refine (HXB.out _).mono ?_
  rintro e w' ⟨rfl, rfl⟩
  go_wp2_with fail
  refine (N1.out _ HT.out).mono ?_
  rintro e w1 ⟨rfl, b1⟩
  have B1 := Lib.hid b1
  clear b1
  go_wp2_with fail
  refine (HXB.out _).mono ?_
  rintro e w' ⟨rfl, rfl⟩
  go_wp2_with fail
  refine (N2.out _).mono ?_
  rintro e w2 ⟨rfl, b2⟩
  have B2 := Lib.hid (below_trans B1.out b2)
  have T2 := Lib.hid (HT.out.below B2.out)
  clear b2
  go_wp2_with fail
  refine (awake5 _ T2.out).mono ?_
  rintro e w3 ⟨rfl, b3⟩
  have B3 := Lib.hid (below_trans B2.out b3)
  clear b3
  go_wp2
  go_ret
  exact ⟨rfl, B3.out⟩
end Go.Proofs.YtbinhlnekhglkaaDoor
