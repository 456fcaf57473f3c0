/- A part of the proof. -/
import Derived.Test.YtgfhabofhefaaaaGreatDoorSB07
namespace Go.Proofs.YtgfhabofhefaaaaGreatDoor
open Go.RowKit
def Good (r k : Nat) (m : Int) : Prop := 0 ≤ m ∧ m.toNat / 10 ^ k ≤ 999999999 ∧ TX.qw m.toNat k = r
theorem good_le {k : Nat} {m : Int} (hk : k ≤ 6) (_h0 : 0 ≤ m) (h : m.toNat / 10 ^ k ≤ 999999999) : m.toNat < 1000000000000000 := by
  have hp := TX.ten_pos k; have ht := TX.ten_le hk
  have := Nat.div_add_mod m.toNat (10 ^ k)
  have h2 := Nat.mod_lt m.toNat hp
  have h3 : 10 ^ k * (m.toNat / 10 ^ k) ≤ 10 ^ k * 999999999 := Nat.mul_le_mul_left _ h
  omega
theorem good_wk {x k : Nat} {m : Int} (hk : k ≤ 6) (hr : FM.val (FM.rg x) < 1000000000 * FM.U) (hi : FM.rg x < FM.infR) (h : Good (FM.rg x) k m) : wk x k = some (TX.mns x ++ TX.pnt (m.toNat / 10 ^ k) (m.toNat % 10 ^ k) k) := by
  obtain ⟨h0, h1, h2⟩ := h
  have hle := good_le hk h0 h1
  have e := TX.allOf_qw (n := m.toNat) (by omega) hk hr hi h2
  unfold wk
  rw [e, if_pos ⟨h1, h2⟩]
theorem wk_good {x k : Nat} (hw : wk x k ≠ none) : Good (FM.rg x) k (TX.allOf (FM.rg x) k : Int) ∧ ((TX.allOf (FM.rg x) k : Int) = (FM.val (TX.mw (FM.rg x) k) / FM.U : Nat) ∨ (TX.allOf (FM.rg x) k : Int) = (FM.val (TX.mw (FM.rg x) k) / FM.U : Nat) + 1) := by
  unfold wk at hw
  split at hw
  · rename_i h
    refine ⟨⟨by omega, by rw [Int.toNat_natCast]; exact h.1, by rw [Int.toNat_natCast]; exact h.2⟩, ?_⟩
    rcases TX.allOf_about (r := FM.rg x) (k := k) with e | e
    · left; rw [e]
    · right; rw [e]; rfl
  · exact absurd rfl hw
theorem qw_ord {n k r : Nat} (hn : n ≤ 1000000000000000) (hk : k ≤ 6) (hr : r < FM.infR) : (FloatKind.f64.format.order (TX.qw n k) r = some .eq ∧ TX.qw n k = r) ∨ ((FloatKind.f64.format.order (TX.qw n k) r = some .lt ∨ FloatKind.f64.format.order (TX.qw n k) r = some .gt) ∧ TX.qw n k ≠ r) := by
  have h1 := (TX.qdiv hn hk).2.1
  have hb := FM.infR_lt
  have nn : ∀ y, y < FM.infR → FM.nan y = false ∧ FM.sv y = (FM.val y : Int) := by
    intro y hy
    have e := rg_of_lt hy
    refine ⟨by unfold FM.nan; rw [e, decide_eq_false_iff_not]; omega, ?_⟩
    have : FM.sgn y = false := by unfold FM.sgn; simp; omega
    unfold FM.sv; rw [this, e]; rfl
  obtain ⟨a1, a2⟩ := nn _ h1
  obtain ⟨b1, b2⟩ := nn _ hr
  rcases ord3 a1 b1 with ⟨o1, o2⟩ | ⟨o1, o2⟩ | ⟨o1, o2⟩
  · rw [a2, b2] at o2; exact .inr ⟨.inl o1, fun e => by rw [e] at o2; omega⟩
  · rw [a2, b2] at o2; exact .inr ⟨.inr o1, fun e => by rw [e] at o2; omega⟩
  · rw [a2, b2] at o2; exact .inl ⟨o1, FM.val_inj (by omega)⟩
theorem nan_nine : FM.nan 4741671816366391296 = false := by decide
theorem sv_nine : FM.sv 4741671816366391296 = (FM.val 4741671816366391296 : Int) := rfl
theorem val_nine : FM.val 4741671816366391296 = 1000000000 * FM.U := by decide +kernel
set_option maxHeartbeats 4000000 in
theorem rwrite_any (x : Nat) (bx : x < 18446744073709551616) (w : World) :
    Calls Tryz.prog 43 #[.float .f64 x] w fun e w' => e = .returned (.tuple #[.string ⟨(wrS x).toArray⟩, .bool (wrOk x)]) ∧ Below w.heap.size w w' := by
  have BX := Lib.hid bx
  clear bx
  cases hn : isNam x
  · obtain ⟨h1, h2, h3⟩ := not_nam hn
    have q0 : isInf x 0 = false := by
      have hb : (FM.rg x == FM.infR) = false := by simpa using h2
      unfold isInf; rw [hb]; rfl
    have HAB := Lib.hid (fun w => abs_any x BX.out w)
    obtain ⟨s, hs, hm⟩ : ∃ s : List UInt8, TX.mns x = s ∧ (if FM.sgn x then [45] else []) = s := ⟨_, rfl, rfl⟩
    rcases size3 h1 nan_nine sv_nine with ⟨ho, hr⟩ | hge
    · have hlt : FM.val (FM.rg x) < 1000000000 * FM.U := by rw [← val_nine]; exact FM.val_lt hr
      have HAT := Lib.hid (fun k s => wr_at (x := x) (k := k) (s := s) hn (by omega))
      have HNOT := Lib.hid (wr_not (x := x) hn (by omega))
      have HMUL := Lib.hid (fun k hk => TX.mmul (r := FM.rg x) (k := k) hk hlt h3)
      have HGW := Lib.hid (fun k m hk h => good_wk (x := x) (k := k) (m := m) hk hlt h3 h)
      have HWG := Lib.hid (fun k hw => wk_good (x := x) (k := k) hw)
      have HORD := Lib.hid (fun n k hn hk => qw_ord (n := n) (k := k) (r := FM.rg x) hn hk h3)
      obtain ⟨r, hrr⟩ : ∃ r, r = FM.rg x := ⟨_, rfl⟩
      rw [← hrr] at HAB ho HMUL HGW HWG HORD
      rw [hs] at HGW
      have nx := h1
      clear hrr h1 h2 h3 hr hlt hs hn
      cases hg : FM.sgn x
      all_goals
        rw [hg] at hm
        first | (obtain rfl : [45] = s := hm) | (obtain rfl : [] = s := hm)
        go_enter Tryz.func43, Tryz.ntmps43
        go_wp2_with (first | (go_at_call 71; refine (isnan_any _ _).mono ?_; rintro e w' ⟨rfl, rfl⟩) | (go_at_call 73; refine (isinf_any _ _ BX.out _).mono ?_; rintro e w' ⟨rfl, rfl⟩) | (go_at_call 72; refine (signbit_any _ BX.out _).mono ?_; rintro e w' ⟨rfl, rfl⟩) | (go_at_call 74; refine (HAB.out _).mono ?_; rintro e w' ⟨rfl, rfl⟩))
        go_loop [6] (fun v => ∃ (k : Nat), k ≤ 7 ∧ v = .int .i64 (k : Int) ∧ Hid (∀ j < k, wk x j = none)) (fun v => 7 - (intOf v).toNat)
        case atStart => exact ⟨0, by decide, rfl, by show ∀ _, _; omega⟩
        case round =>
          obtain ⟨k, hk, rfl, HJ⟩ := hrel
          by_cases hlt : k < 7
          · obtain ⟨u1, u2, u3, u4⟩ := HMUL.out k (by omega)
            have hten := TX.ten_le (k := k) (by omega)
            have hpos := TX.ten_pos k
            have hU := FM.U_pos
            have hA : FM.val (TX.mw r k) / FM.U ≤ 1000000000000000 := by
              have a1 := Nat.div_le_div_right (c := FM.U) u4
              rw [Nat.mul_div_cancel _ hU] at a1
              have := ten6_le (k := k) (by omega)
              omega
            have hnP : FM.nan (TX.mw r k) = false := by
              unfold FM.nan; rw [rg_of_lt u2, decide_eq_false_iff_not]; omega
            obtain ⟨F, f1, f2, f3⟩ := FM.floor_num u2 (by omega)
            have hfl := fun w => mfloor_any (TX.mw r k) hnP w
            rw [f1] at hfl
            have HFL := Lib.hid hfl
            have hF : FM.val F / FM.U = FM.val (TX.mw r k) / FM.U := by rw [f3, Nat.mul_div_cancel _ hU]
            have hcv := fun w => conv_int (r := F) f2 (by rw [hF]; omega) w
            rw [hF] at hcv
            have hTN := fun w => rten_any k (by omega) w
            have hmul : ∀ w t, (binOp .mul t (.float .f64 r) (.float .f64 (floatOfInt .f64 ((10 ^ k : Nat) : Int)))).run Tryz.prog w = .ok (.float .f64 (TX.mw r k)) w := fun w t => run_float_arith w .mul t .f64 _ _ _ u1
            have HWGk := Lib.hid (fun hw => HWG.out k hw)
            obtain ⟨P, hP⟩ : ∃ P, P = TX.mw r k := ⟨_, rfl⟩
            rw [← hP] at HFL hcv hmul HWGk hA
            obtain ⟨A, hAA⟩ : ∃ A : Int, ((FM.val P / FM.U : Nat) : Int) = A := ⟨_, rfl⟩
            rw [hAA] at hcv HWGk
            have A0 : 0 ≤ A := by rw [← hAA]; exact Int.natCast_nonneg _
            have A1 : A ≤ 1000000000000000 := by rw [← hAA]; exact Int.ofNat_le.2 hA
            obtain ⟨T, hT⟩ : ∃ T : Int, ((10 ^ k : Nat) : Int) = T := ⟨_, rfl⟩
            rw [hT] at hTN hmul
            have T0 : 0 < T := by omega
            have T1 : T ≤ 1000000 := by omega
            have HTT := Lib.hid hT
            have HTN := Lib.hid hTN
            clear u1 u2 u3 u4 hten hpos hU hA hnP f1 f2 f3 hfl hF hP hAA hT hTN
            have hk6 : (k : Int) ≤ 6 := by omega
            go_wp2_with (go_at_call 75; refine (HTN.out _).mono ?_; rintro e w' ⟨rfl, rfl⟩)
            refine (HFL.out _).mono ?_
            rintro e w' ⟨rfl, rfl⟩
            go_wp2_with fail
            go_loop [9] (fun v => ∃ (n : Int), v = .int .i64 n ∧ A - 1 ≤ n ∧ n ≤ A + 2 ∧ Hid (∀ m : Int, A - 1 ≤ m → m < n → ¬ Good r k m)) (fun v => (A + 2 - intOf v).toNat)
            case atStart => exact ⟨A - 1, rfl, by omega, by omega, by show ∀ _, _; omega⟩
            case round =>
              obtain ⟨n, rfl, hn0, hn1, HM⟩ := hrel
              by_cases hle : n ≤ A + 1
              · by_cases hneg : n < 0
                · have HM2 : Hid (∀ m : Int, A - 1 ≤ m → m < n + 1 → ¬ Good r k m) := Lib.hid (by
                    intro m h1 h2 hg
                    by_cases he : m = n
                    · subst he
                      have := hg.1; omega
                    · exact HM.out m h1 (by omega) hg)
                  go_wp2_with (go_at_call 75; refine (HTN.out _).mono ?_; rintro e w' ⟨rfl, rfl⟩)
                  go_round
                  case rel => exact ⟨n + 1, by go_num, by omega, by omega, HM2.out⟩
                  case measure => simp [intOf]; omega
                · have hn0' : 0 ≤ n := by omega
                  have hT := HTT.out
                  have hquo := quo_is n T hn0' (by omega) T0
                  have hrem : n.tmod T = n % T := Int.tmod_eq_emod_of_nonneg hn0'
                  have hT0 : ¬ T = 0 := by omega
                  obtain ⟨N, hN⟩ := Int.eq_ofNat_of_zero_le hn0'
                  have hNn : n.toNat = N := by omega
                  have hdivN : n / T = ((N / 10 ^ k : Nat) : Int) := by rw [hN, ← hT]; simp
                  have hmodN : n % T = ((N % 10 ^ k : Nat) : Int) := by rw [hN, ← hT]; simp
                  have hq0 : 0 ≤ n / T := by rw [hdivN]; exact Int.natCast_nonneg _
                  have hq1 : n / T ≤ n := Int.ediv_le_self T hn0'
                  by_cases hbig : 999999999 < n / T
                  · have HM2 : Hid (∀ m : Int, A - 1 ≤ m → m < n + 1 → ¬ Good r k m) := Lib.hid (by
                      intro m h1 h2 hg
                      by_cases he : m = n
                      · subst he
                        have h5 := hg.2.1
                        rw [hNn] at h5
                        rw [hdivN] at hbig
                        omega
                      · exact HM.out m h1 (by omega) hg)
                    clear hN hNn hdivN hmodN hT
                    go_wp2_with (go_at_call 75; refine (HTN.out _).mono ?_; rintro e w' ⟨rfl, rfl⟩)
                    go_round
                    case rel => exact ⟨n + 1, by go_num, by omega, by omega, HM2.out⟩
                    case measure => simp [intOf]; omega
                  · have hN9 : N / 10 ^ k ≤ 999999999 := by rw [hdivN] at hbig; omega
                    have hN15 := good_le (m := n) (k := k) (by omega) hn0' (by rw [hNn]; exact hN9)
                    rw [hNn] at hN15
                    have hdv := (TX.qdiv (n := N) (k := k) (by omega) (by omega)).1
                    have hO := HORD.out N k (by omega) (by omega)
                    rw [← hN, hT] at hdv
                    have HDV : ∀ w t, (binOp .quo t (.float .f64 (floatOfInt .f64 n)) (.float .f64 (floatOfInt .f64 T))).run Tryz.prog w = .ok (.float .f64 (TX.qw N k)) w := fun w t => run_float_arith w .quo t .f64 _ _ _ hdv
                    obtain ⟨Q, hQ⟩ : ∃ Q, Q = TX.qw N k := ⟨_, rfl⟩
                    rw [← hQ] at HDV hO
                    rcases hO with ⟨ho2, he⟩ | ⟨ho2, he⟩
                    · have hgood : Good r k n := ⟨hn0', by rw [hNn]; exact hN9, by rw [hNn, ← hQ]; exact he⟩
                      have hw := HGW.out k n (by omega) hgood
                      rw [hNn] at hw
                      obtain ⟨f1, f2⟩ := HAT.out k _ hlt HJ.out hw
                      have F2 := Lib.hid f2
                      have HDIG := fun w => rdig_any (N / 10 ^ k) (by omega) w
                      rw [← hdivN] at HDIG
                      have HDIG := Lib.hid HDIG
                      have hd1 := dig_le (n := N / 10 ^ k) (by omega)
                      by_cases k0 : k = 0
                      · have E1 := f1
                        unfold TX.pnt at E1
                        rw [if_pos k0] at E1
                        obtain ⟨D, hD⟩ : ∃ D, D = Lib.decDigits (N / 10 ^ k) := ⟨_, rfl⟩
                        rw [← hD] at HDIG hd1 E1
                        have F1 := Lib.hid E1
                        have hk0 : ¬ (0 : Int) < (k : Int) := by omega
                        have hsD := str_size D
                        clear hN hNn hdivN hmodN hT hN9 hN15 hdv hQ he hgood hw f1 f2 E1 hD k0 hlt
                        go_wp2_with (go_at_call 75; refine (HTN.out _).mono ?_; rintro e w' ⟨rfl, rfl⟩)
                        refine (HDIG.out _).mono ?_
                        rintro e w1 ⟨rfl, b1⟩
                        have B1 := Lib.hid b1
                        clear b1
                        go_wp2
                        go_ret2
                        refine ⟨?_, B1.out⟩
                        rw [F1.out, F2.out, ← str_app]; rfl
                      · have HFIL := fun w => rfilled_any (N % 10 ^ k) k (by have := Nat.mod_le N (10 ^ k); omega) (by omega) w
                        rw [← hmodN] at HFIL
                        have HFIL := Lib.hid HFIL
                        have hd2 : (TX.pad (N % 10 ^ k) k).length ≤ 6 := by
                          rw [TX.pad_length (TX.nDigits_lt (Nat.mod_lt _ (TX.ten_pos k)) k0)]; omega
                        have E1 := f1
                        unfold TX.pnt at E1
                        rw [if_neg k0] at E1
                        obtain ⟨D, hD⟩ : ∃ D, D = Lib.decDigits (N / 10 ^ k) := ⟨_, rfl⟩
                        rw [← hD] at HDIG hd1 E1
                        obtain ⟨B, hB⟩ : ∃ B, B = TX.pad (N % 10 ^ k) k := ⟨_, rfl⟩
                        rw [← hB] at HFIL hd2 E1
                        have F1 := Lib.hid E1
                        have hk0 : (0 : Int) < (k : Int) := by omega
                        have hsD := str_size D; have hsB := str_size B
                        clear hN hNn hdivN hmodN hT hN9 hN15 hdv hQ he hgood hw f1 f2 E1 hD hB k0 hlt
                        go_wp2_with (go_at_call 75; refine (HTN.out _).mono ?_; rintro e w' ⟨rfl, rfl⟩)
                        refine (HDIG.out _).mono ?_
                        rintro e w1 ⟨rfl, b1⟩
                        have B1 := Lib.hid b1
                        clear b1
                        go_wp2_with (go_at_call 75; refine (HTN.out _).mono ?_; rintro e w' ⟨rfl, rfl⟩)
                        refine (HFIL.out _).mono ?_
                        rintro e w2 ⟨rfl, b2⟩
                        have B2 := Lib.hid (below_trans B1.out b2)
                        clear b2
                        go_wp2
                        go_ret2
                        refine ⟨?_, B2.out⟩
                        rw [F1.out, F2.out, ← str_pnt]; rfl
                    · have HM2 : Hid (∀ m : Int, A - 1 ≤ m → m < n + 1 → ¬ Good r k m) := Lib.hid (by
                        intro m h1 h2 hg
                        by_cases he : m = n
                        · subst he
                          have h5 := hg.2.2
                          rw [hNn, ← hQ] at h5
                          exact he h5
                        · exact HM.out m h1 (by omega) hg)
                      clear hN hNn hdivN hmodN hT hN9 hN15 hdv hQ he
                      have o1 : ((some Ordering.lt) != some Ordering.eq) = true := rfl
                      have o2 : ((some Ordering.gt) != some Ordering.eq) = true := rfl
                      rcases ho2 with ho2 | ho2
                      all_goals
                        go_wp2_with (go_at_call 75; refine (HTN.out _).mono ?_; rintro e w' ⟨rfl, rfl⟩)
                        go_round
                        case rel => exact ⟨n + 1, by go_num, by omega, by omega, HM2.out⟩
                        case measure => simp [intOf]; omega
              · have hw0 : wk x k = none := by
                  cases hwk : wk x k with
                  | none => rfl
                  | some s =>
                    exfalso
                    obtain ⟨g1, g2⟩ := HWGk.out (by rw [hwk]; simp)
                    exact HM.out _ (by omega) (by omega) g1
                have HJ2 : Hid (∀ j < k + 1, wk x j = none) := Lib.hid (by
                  intro j hj
                  by_cases h : j = k
                  · rw [h]; exact hw0
                  · exact HJ.out j (by omega))
                clear hw0
                go_wp2
                go_round
                case rel => exact ⟨k + 1, by omega, by go_num, HJ2.out⟩
                case measure => simp [intOf]; omega
          · obtain rfl : k = 7 := by omega
            obtain ⟨f1, f2⟩ := HNOT.out HJ.out
            have F1 := Lib.hid f1; have F2 := Lib.hid f2
            clear f1 f2
            go_wp2
            go_ret2
            exact ret_sb F1.out.symm F2.out.symm (Below.refl _ _)
    · have hle : 4741671816366391296 ≤ FM.rg x := by rcases hge with h | h; exact h.2; exact h.2
      have hbig : 1000000000 * FM.U ≤ FM.val (FM.rg x) := by rw [← val_nine]; exact FM.val_le hle
      obtain ⟨f1, f2⟩ := wr_big hn hbig
      have F1 := Lib.hid f1; have F2 := Lib.hid f2
      have nx := h1
      clear f1 f2 hle hbig h1 h2 h3 hs hn
      rcases hge with ⟨ho, _⟩ | ⟨ho, _⟩
      all_goals
        cases hg : FM.sgn x
        all_goals
          go_enter Tryz.func43, Tryz.ntmps43
          go_wp2_with (first | (go_at_call 71; refine (isnan_any _ _).mono ?_; rintro e w' ⟨rfl, rfl⟩) | (go_at_call 73; refine (isinf_any _ _ BX.out _).mono ?_; rintro e w' ⟨rfl, rfl⟩) | (go_at_call 72; refine (signbit_any _ BX.out _).mono ?_; rintro e w' ⟨rfl, rfl⟩) | (go_at_call 74; refine (HAB.out _).mono ?_; rintro e w' ⟨rfl, rfl⟩))
          go_ret2
          exact ret_sb F1.out.symm F2.out.symm (Below.refl _ _)
  · obtain ⟨f1, f2⟩ := wr_nam hn
    have F1 := Lib.hid f1; have F2 := Lib.hid f2
    clear f1 f2
    cases hx : FM.nan x
    · have hi : FM.rg x = FM.infR := by unfold isNam at hn; rw [hx] at hn; simpa using hn
      have q0 : isInf x 0 = true := by unfold isInf; rw [hi]; simp
      have E := Lib.hid (show nam x = TX.mns x ++ [105, 110, 102] by unfold nam; rw [hx, if_pos hi]; rfl)
      clear hi hn
      cases hg : FM.sgn x
      · have E2 := Lib.hid (show TX.mns x = [] by unfold TX.mns; rw [hg]; rfl)
        go_enter Tryz.func43, Tryz.ntmps43
        go_wp2_with (first | (go_at_call 71; refine (isnan_any _ _).mono ?_; rintro e w' ⟨rfl, rfl⟩) | (go_at_call 73; refine (isinf_any _ _ BX.out _).mono ?_; rintro e w' ⟨rfl, rfl⟩) | (go_at_call 72; refine (signbit_any _ BX.out _).mono ?_; rintro e w' ⟨rfl, rfl⟩))
        go_ret2
        refine ⟨?_, Below.refl _ _⟩
        rw [F1.out, F2.out, E.out, E2.out]; rfl
      · have E2 := Lib.hid (show TX.mns x = [45] by unfold TX.mns; rw [hg]; rfl)
        go_enter Tryz.func43, Tryz.ntmps43
        go_wp2_with (first | (go_at_call 71; refine (isnan_any _ _).mono ?_; rintro e w' ⟨rfl, rfl⟩) | (go_at_call 73; refine (isinf_any _ _ BX.out _).mono ?_; rintro e w' ⟨rfl, rfl⟩) | (go_at_call 72; refine (signbit_any _ BX.out _).mono ?_; rintro e w' ⟨rfl, rfl⟩))
        go_ret2
        refine ⟨?_, Below.refl _ _⟩
        rw [F1.out, F2.out, E.out, E2.out]; rfl
    · have E := Lib.hid (show nam x = [110, 97, 110] by unfold nam; rw [hx]; rfl)
      go_enter Tryz.func43, Tryz.ntmps43
      go_wp2_with (go_at_call 71; refine (isnan_any _ _).mono ?_; rintro e w' ⟨rfl, rfl⟩)
      go_ret2
      refine ret_sb ?_ F2.out.symm (Below.refl _ _)
      rw [F1.out, E.out]
end Go.Proofs.YtgfhabofhefaaaaGreatDoor
