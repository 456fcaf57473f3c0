/- Walks of what asks whether a query, a report, an oops may be, and of Kind. -/
import Derived.Test.YtfpdcljeepjogaaAdMath
import Derived.Test.YtfpdcljeepjogaaAkR
namespace Go.Proofs.Ytfpdcljeepjogaa
open Go.RowKit

theorem awithin_any (n least most : Int) (w : World) : Calls Try.prog 53 #[.int .i64 n, .int .i64 least, .int .i64 most] w fun e w' => e = .returned (.bool (AD.inn n least most)) ∧ w' = w := by
  by_cases h1 : least ≤ n
  · go_enter Try.func53, Try.ntmps53
    go_wp2
    go_ret
    exact ret_b (by simp [AD.inn, h1]) rfl
  · have h2 : decide (least ≤ n) = false := by simp; omega
    go_enter Try.func53, Try.ntmps53
    go_wp2
    go_ret
    exact ret_b (by simp [AD.inn, h2]) rfl
theorem okN_cases (most : Nat) (n : AD.N) : (AD.inn n.1 0 2147483647 = false ∧ AD.okN most n = false) ∨ (AD.inn n.1 0 2147483647 = true ∧ AD.inn n.2.1 1 6 = false ∧ AD.okN most n = false) ∨ (AD.inn n.1 0 2147483647 = true ∧ AD.inn n.2.1 1 6 = true ∧ AD.okN most n = decide (n.2.2.length ≤ most)) := by
  unfold AD.okN
  cases h1 : AD.inn n.1 0 2147483647
  · simp
  cases h2 : AD.inn n.2.1 1 6
  · simp
  simp
theorem okO_cases (o : AD.O) : (AD.inn o.1 0 2147483647 = false ∧ AD.okO o = false) ∨ (AD.inn o.1 0 2147483647 = true ∧ AD.inn o.2.1 1 8 = false ∧ AD.okO o = false) ∨ (AD.inn o.1 0 2147483647 = true ∧ AD.inn o.2.1 1 8 = true ∧ AD.inn o.2.2.1 0 17 = false ∧ AD.okO o = false) ∨ (AD.inn o.1 0 2147483647 = true ∧ AD.inn o.2.1 1 8 = true ∧ AD.inn o.2.2.1 0 17 = true ∧ AD.okO o = AD.inn o.2.2.2 0 4294967295) := by
  unfold AD.okO
  cases h1 : AD.inn o.1 0 2147483647
  · simp
  cases h2 : AD.inn o.2.1 1 8
  · simp
  cases h3 : AD.inn o.2.2.1 0 17
  · simp
  simp
theorem le_int (a b : Nat) : decide ((a : Int) ≤ (b : Int)) = decide (a ≤ b) := by
  rw [decide_eq_decide]; omega

set_option maxHeartbeats 4000000 in
theorem mayNote_any (most : Nat) (n : AD.N) (hl : n.2.2.length ≤ 9223372036854775807) (w : World) :
    Calls Try.prog 41 #[.agg #[.int .i64 n.1, .int .i64 n.2.1, .string ⟨n.2.2.toArray⟩], .int .i64 (most : Int)] w fun e w' => e = .returned (.bool (AD.okN most n)) ∧ Below w.heap.size w w' := by
  have HB := Lib.hid (below_alloc w (.cells #[.int .i64 n.1, .int .i64 n.2.1, .string ⟨n.2.2.toArray⟩] 47))
  have hcases := okN_cases most n
  have H0 := Lib.hid (fun x => awithin_any n.1 0 2147483647 x)
  have H1 := Lib.hid (fun x => awithin_any n.2.1 1 6 x)
  have hsz := str_size n.2.2
  obtain ⟨a, b, s⟩ := n
  simp only at *
  have hd := le_int s.length most
  rcases hcases with ⟨q0, E⟩ | ⟨q0, q1, E⟩ | ⟨q0, q1, E⟩
  all_goals
    have HE := Lib.hid E
    first | rw [q0] at H0 | skip
    try rw [q1] at H1
    clear E
    try clear q1
    clear q0
    go_enter Try.func41, Try.ntmps41
    go_wp2_with (go_at_call 53; (first | (with_reducible refine (H0.out _).mono ?_) | (with_reducible refine (H1.out _).mono ?_)); rintro e w1 ⟨rfl, rfl⟩)
    go_ret
    exact ret_b HE.out.symm HB.out

set_option maxHeartbeats 4000000 in
theorem mayOops_any (o : AD.O) (w : World) :
    Calls Try.prog 33 #[.agg #[.int .i64 o.1, .int .i64 o.2.1, .int .i64 o.2.2.1, .int .i64 o.2.2.2]] w fun e w' => e = .returned (.bool (AD.okO o)) ∧ Below w.heap.size w w' := by
  have HB := Lib.hid (below_alloc w (.cells #[.int .i64 o.1, .int .i64 o.2.1, .int .i64 o.2.2.1, .int .i64 o.2.2.2] 39))
  have hcases := okO_cases o
  have H0 := Lib.hid (fun x => awithin_any o.1 0 2147483647 x)
  have H1 := Lib.hid (fun x => awithin_any o.2.1 1 8 x)
  have H2 := Lib.hid (fun x => awithin_any o.2.2.1 0 17 x)
  have H3 := Lib.hid (fun x => awithin_any o.2.2.2 0 4294967295 x)
  generalize AD.inn o.2.2.2 0 4294967295 = r at *
  obtain ⟨a, b, c, d⟩ := o
  simp only at *
  rcases hcases with ⟨q0, E⟩ | ⟨q0, q1, E⟩ | ⟨q0, q1, q2, E⟩ | ⟨q0, q1, q2, E⟩
  all_goals
    have HE := Lib.hid E
    first | rw [q0] at H0 | skip
    try rw [q1] at H1
    try rw [q2] at H2
    clear E
    try clear q2
    try clear q1
    clear q0
    go_enter Try.func33, Try.ntmps33
    go_wp2_with (go_at_call 53; (first | (with_reducible refine (H0.out _).mono ?_) | (with_reducible refine (H1.out _).mono ?_) | (with_reducible refine (H2.out _).mono ?_) | (with_reducible refine (H3.out _).mono ?_)); rintro e w1 ⟨rfl, rfl⟩)
    go_ret
    exact ret_b HE.out.symm HB.out

theorem asked_any (id kind : Int) (w : World) : Calls Try.prog 25 #[.int .i64 id, .int .i64 kind] w fun e w' => e = .returned (.bool (AD.inn id 0 2147483647 && AD.inn kind 1 6)) ∧ w' = w := by
  unfold AD.inn
  by_cases h0 : 0 ≤ id
  · by_cases h1 : id ≤ 2147483647
    · by_cases h2 : 1 ≤ kind
      · go_enter Try.func25, Try.ntmps25
        go_wp2
        go_ret
        exact ret_b (by simp [h0, h1, h2]) rfl
      · have g2 : decide (1 ≤ kind) = false := by simp; omega
        go_enter Try.func25, Try.ntmps25
        go_wp2
        go_ret
        exact ret_b (by simp) rfl
    · have g1 : decide (id ≤ 2147483647) = false := by simp; omega
      go_enter Try.func25, Try.ntmps25
      go_wp2
      go_ret
      exact ret_b (by simp) rfl
  · have g0 : decide (0 ≤ id) = false := by simp; omega
    go_enter Try.func25, Try.ntmps25
    go_wp2
    go_ret
    exact ret_b (by simp) rfl

theorem ret_z {e : Ending} {a b : Int} {w w' : World} (h : a = b) (he : e = .returned (.int .i64 a)) (hw : w' = w) : e = .returned (.int .i64 b) ∧ w' = w := by subst h; exact ⟨he, hw⟩
theorem kindOf_low {c : UInt8} {r : List UInt8} (h : c.toNat < 1) : AD.kindOf (c :: r) = 0 := by unfold AD.kindOf; simp only; rw [if_neg (by omega)]
theorem kindOf_high {c : UInt8} {r : List UInt8} (h : 5 < c.toNat) : AD.kindOf (c :: r) = 0 := by unfold AD.kindOf; simp only; rw [if_neg (by omega)]
theorem kindOf_is {c : UInt8} {r : List UInt8} (h : 1 ≤ c.toNat) (h5 : c.toNat ≤ 5) : AD.kindOf (c :: r) = (c.toNat : Int) := by unfold AD.kindOf; simp only; rw [if_pos ⟨h, h5⟩]
set_option maxHeartbeats 1600000 in
theorem akind_any (v : Value) (bs : List UInt8) (w : World) (hr : Rdv w v (bv bs)) : Calls Try.prog 22 #[v] w fun e w' => e = .returned (.int .i64 (AD.kindOf bs)) ∧ w' = w := by
  cases bs with
  | nil =>
    obtain ⟨ao, cap, rfl, -⟩ := hr
    simp only [bv_len]
    go_enter Try.func22, Try.ntmps22
    go_wp2
    go_ret
    exact ⟨rfl, rfl⟩
  | cons c r =>
    obtain ⟨b, off, cap, rfl, hb, hcells⟩ := hr.at (j := 0) (by simp)
    have h0 : w.cell? ⟨b, off, none⟩ = some (.int .u8 (c.toNat : Int)) := hcells 0 (by simp)
    obtain ⟨L, hL⟩ : ∃ L, (c :: r).length = L := ⟨_, rfl⟩
    have hL0 : 0 < L := by rw [← hL]; simp
    have hL1 : 0 < (L : Int) := by omega
    have hL2 : ((L : Int) == 0) = false := by simp; omega
    have hL3 : ¬ (L : Int) < 1 := by omega
    have hc : c.toNat < 256 := c.toNat_lt
    have HK1 := Lib.hid (@kindOf_low c r)
    have HK2 := Lib.hid (@kindOf_high c r)
    have HK3 := Lib.hid (@kindOf_is c r)
    generalize AD.kindOf (c :: r) = k at *
    obtain ⟨z, hz⟩ : ∃ z : Int, (c.toNat : Int) = z := ⟨_, rfl⟩
    have hz0 : 0 ≤ z := by omega
    have hz1 : z < 256 := by omega
    rw [hL]
    rw [hz] at h0 HK3
    clear hL hcells hb hr
    by_cases g1 : z < 1
    · have E := Lib.hid (HK1.out (by omega))
      clear HK1 HK2 HK3 hc hz
      go_enter Try.func22, Try.ntmps22
      go_wp2
      go_ret
      exact ret_z E.out.symm rfl rfl
    · by_cases g2 : 5 < z
      · have E := Lib.hid (HK2.out (by omega))
        clear HK1 HK2 HK3 hc hz
        go_enter Try.func22, Try.ntmps22
        go_wp2
        go_ret
        exact ret_z E.out.symm rfl rfl
      · have E := Lib.hid (HK3.out (by omega) (by omega))
        clear HK1 HK2 HK3 hc hz
        go_enter Try.func22, Try.ntmps22
        go_wp2
        go_ret
        exact ret_z E.out.symm rfl rfl
set_option maxHeartbeats 1600000 in
theorem rkind_any (v : Value) (bs : List UInt8) (w : World) (hr : Rdv w v (bv bs)) : Calls Try.prog 23 #[v] w fun e w' => e = .returned (.int .i64 (AD.kindOf bs)) ∧ w' = w := by
  cases bs with
  | nil =>
    obtain ⟨ao, cap, rfl, -⟩ := hr
    simp only [bv_len]
    go_enter Try.func23, Try.ntmps23
    go_wp2
    go_ret
    exact ⟨rfl, rfl⟩
  | cons c r =>
    obtain ⟨b, off, cap, rfl, hb, hcells⟩ := hr.at (j := 0) (by simp)
    have h0 : w.cell? ⟨b, off, none⟩ = some (.int .u8 (c.toNat : Int)) := hcells 0 (by simp)
    obtain ⟨L, hL⟩ : ∃ L, (c :: r).length = L := ⟨_, rfl⟩
    have hL0 : 0 < L := by rw [← hL]; simp
    have hL1 : 0 < (L : Int) := by omega
    have hL2 : ((L : Int) == 0) = false := by simp; omega
    have hL3 : ¬ (L : Int) < 1 := by omega
    have hc : c.toNat < 256 := c.toNat_lt
    have HK1 := Lib.hid (@kindOf_low c r)
    have HK2 := Lib.hid (@kindOf_high c r)
    have HK3 := Lib.hid (@kindOf_is c r)
    generalize AD.kindOf (c :: r) = k at *
    obtain ⟨z, hz⟩ : ∃ z : Int, (c.toNat : Int) = z := ⟨_, rfl⟩
    have hz0 : 0 ≤ z := by omega
    have hz1 : z < 256 := by omega
    rw [hL]
    rw [hz] at h0 HK3
    clear hL hcells hb hr
    by_cases g1 : z < 1
    · have E := Lib.hid (HK1.out (by omega))
      clear HK1 HK2 HK3 hc hz
      go_enter Try.func23, Try.ntmps23
      go_wp2
      go_ret
      exact ret_z E.out.symm rfl rfl
    · by_cases g2 : 5 < z
      · have E := Lib.hid (HK2.out (by omega))
        clear HK1 HK2 HK3 hc hz
        go_enter Try.func23, Try.ntmps23
        go_wp2
        go_ret
        exact ret_z E.out.symm rfl rfl
      · have E := Lib.hid (HK3.out (by omega) (by omega))
        clear HK1 HK2 HK3 hc hz
        go_enter Try.func23, Try.ntmps23
        go_wp2
        go_ret
        exact ret_z E.out.symm rfl rfl
end Go.Proofs.Ytfpdcljeepjogaa
