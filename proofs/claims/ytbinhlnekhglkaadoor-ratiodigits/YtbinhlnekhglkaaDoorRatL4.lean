/- The walk of turncocklaw5's RatioDigits. -/
import Derived.Test.YtbinhlnekhglkaaDoorRatE
namespace Go.Proofs.YtbinhlnekhglkaaDoor
open Go.RowKit

theorem word_neg {n k : Nat} (hn : n ≤ 1000000000000000) (hk : k ≤ 6) : Op.negFloat .f64 (TX.qw n k) = Ieee.double.word true (TX.qw n k) := by
  have h := (TX.qdiv hn hk).2.1
  have hb := FM.infR_lt
  have hs : FM.sgn (TX.qw n k) = false := by unfold FM.sgn; simp; omega
  rw [neg_word _ (by omega), hs, rg_of_lt h]; rfl
theorem parse_digits {n k : Nat} (hk : k ≤ 6) (hw : n / 10 ^ k ≤ 999999999) (s : Bool) :
    parF ((if s then [45] else []) ++ TX.pnt (n / 10 ^ k) (n % 10 ^ k) k) = Ieee.double.word s (TX.qw n k) ∧ parOk ((if s then [45] else []) ++ TX.pnt (n / 10 ^ k) (n % 10 ^ k) k) = true := by
  have h := parse_pnt (Ieee.double.word s 0) n k hk
  have hs : FM.sgn (Ieee.double.word s 0) = s := FM.word_sgn s (by decide)
  unfold TX.mns at h
  rw [hs, if_pos hw] at h
  unfold parF parOk
  rw [h]; exact ⟨rfl, rfl⟩
theorem str_dot (D B : List UInt8) : (⟨D.toArray⟩ : ByteArray) ++ ⟨#[46]⟩ ++ ⟨B.toArray⟩ = ⟨(D ++ 46 :: B).toArray⟩ := by
  have e : (⟨#[46]⟩ : ByteArray) = ⟨[46].toArray⟩ := rfl
  rw [e, str_app, str_app]; simp
set_option maxHeartbeats 4000000 in
theorem ratioDigits_walk (a p k : Int) (m : Bool) (w : World) (ht : PowIs w) :
    Calls Tryd.prog 12 #[.int .i64 a, .int .i64 p, .int .i64 k, .bool m] w fun e w' => e = .returned (.bool true) ∧ Below w.heap.size w w' := by
  have HT := Lib.hid ht
  clear ht
  by_cases hin : (0 ≤ a ∧ a ≤ 999999999) ∧ (1 ≤ k ∧ k ≤ 6) ∧ 0 ≤ p
  · obtain ⟨⟨a0, a1⟩, ⟨k1, k6⟩, p0⟩ := hin
    obtain ⟨K, rfl⟩ := Int.eq_ofNat_of_zero_le (show 0 ≤ k by omega)
    have hK6 : K ≤ 6 := by omega
    have hK1 : 1 ≤ K := by omega
    go_enter Tryd.func12, Tryd.ntmps12
    go_wp2
    go_loop [9, 10] (fun v i => ∃ (j : Nat) (t : Int), j ≤ K ∧ i = .int .i64 (j : Int) ∧ v = .int .i64 t ∧ Hid (t = ((10 ^ j : Nat) : Int))) (fun _ i => K - (intOf i).toNat)
    case atStart => exact ⟨0, 1, Nat.zero_le _, rfl, rfl, by show _ = _; rfl⟩
    case round =>
      obtain ⟨j, t, hj, rfl, rfl, HP⟩ := hrel
      by_cases hlt : j < K
      · obtain ⟨e1, e2, e3⟩ := ten_step (i := j) (by omega) HP.out
        have E1 := Lib.hid e1
        clear e1
        go_wp2
        go_round
        case rel => exact ⟨j + 1, t * 10, by omega, by go_num, rfl, E1.out⟩
        case measure => simp [intOf]; omega
      · obtain rfl : j = K := by omega
        have hten := TX.ten_le hK6
        have hpos := TX.ten_pos j
        have ht0 : 0 < t := by rw [HP.out]; omega
        have ht1 : t ≤ 1000000 := by rw [HP.out]; omega
        by_cases hpt : t ≤ p
        · clear hten hpos hlt
          go_wp2_with fail
          refine (awake5 _ HT.out).mono ?_
          rintro e w4 ⟨rfl, b4⟩
          have B4 := Lib.hid b4
          clear b4
          go_wp2
          go_ret
          exact ⟨rfl, B4.out⟩
        · obtain ⟨A, hA⟩ := Int.eq_ofNat_of_zero_le a0
          obtain ⟨P, hP⟩ := Int.eq_ofNat_of_zero_le p0
          have hPlt : P < 10 ^ j := by have := HP.out; omega
          have hdiv : (A * 10 ^ j + P) / 10 ^ j = A := by
            rw [Nat.mul_comm, Nat.mul_add_div hpos, Nat.div_eq_of_lt hPlt]; omega
          have hmod : (A * 10 ^ j + P) % 10 ^ j = P := by
            rw [Nat.mul_comm, Nat.mul_add_mod, Nat.mod_eq_of_lt hPlt]
          have hA9 : A ≤ 999999999 := by omega
          have hn15 : A * 10 ^ j + P ≤ 1000000000000000 := by
            have : A * 10 ^ j ≤ 999999999 * 10 ^ j := Nat.mul_le_mul_right _ hA9
            omega
          obtain ⟨g1, g2⟩ := parse_digits (n := A * 10 ^ j + P) hK6 (by rw [hdiv]; exact hA9) m
          rw [hdiv, hmod] at g1 g2
          obtain ⟨v1, v2, _⟩ := TX.qdiv (n := A * 10 ^ j + P) (k := j) hn15 hK6
          have hneg := word_neg (n := A * 10 ^ j + P) (k := j) hn15 hK6
          have hnI : ((A * 10 ^ j + P : Nat) : Int) = a * t + p := by rw [HP.out, hA, hP]; simp
          rw [hnI, ← HP.out] at v1
          obtain ⟨X, hX⟩ : ∃ X : Int, a * t = X := ⟨_, rfl⟩
          have X0 : 0 ≤ X := by rw [← hX]; exact Int.mul_nonneg a0 (by omega)
          have X1 : X ≤ 1000000000000000 := by rw [hX] at hnI; omega
          have hs0 : a * t + p = X + p := by rw [hX]
          rw [hs0] at v1
          have HDV : ∀ w u, (binOp .quo u (.float .f64 (floatOfInt .f64 (X + p))) (.float .f64 (floatOfInt .f64 t))).run Tryd.prog w = .ok (.float .f64 (TX.qw (A * 10 ^ j + P) j)) w := fun w u => run_float_arith w .quo u .f64 _ _ _ v1
          obtain ⟨Q, hQ⟩ : ∃ Q, Q = TX.qw (A * 10 ^ j + P) j := ⟨_, rfl⟩
          rw [← hQ] at HDV g1 hneg v2
          have hQb : Ieee.double.word m Q < 18446744073709551616 := word_lt64 _ (by have := FM.infR_lt; omega)
          have AL := fun w => alike_any (Ieee.double.word m Q) (Ieee.double.word m Q) hQb hQb w
          rw [ordI_self] at AL
          have AL := Lib.hid AL
          have HD1 := fun w => rdig_any P (by have := hten; omega) w
          rw [← hP] at HD1
          have HD2 := fun w => rdig_any A (by omega) w
          rw [← hA] at HD2
          have hl1 : (Lib.decDigits P).length ≤ j := by rw [Lib.decDigits_length]; exact TX.nDigits_lt hPlt (by omega)
          have hl2 := dig_le (n := A) (by omega)
          have epnt : TX.pnt A P j = Lib.decDigits A ++ 46 :: (List.replicate (j - (Lib.decDigits P).length) 48 ++ Lib.decDigits P) := by
            unfold TX.pnt TX.pad; rw [if_neg (by omega)]
          rw [epnt] at g1 g2
          obtain ⟨D1, hD1⟩ : ∃ D, D = Lib.decDigits P := ⟨_, rfl⟩
          obtain ⟨D2, hD2⟩ : ∃ D, D = Lib.decDigits A := ⟨_, rfl⟩
          rw [← hD1] at HD1 hl1 g1 g2
          rw [← hD2] at HD2 hl2 g1 g2
          have H1 := Lib.hid HD1; have H2 := Lib.hid HD2
          have G1 := Lib.hid g1; have G2 := Lib.hid g2
          have HX := Lib.hid hX
          clear hten hpos hlt hPlt hdiv hmod hA9 hn15 hnI hs0 v1 v2 hA hP hQ hQb epnt hD1 hD2 HD1 HD2 g1 g2
          go_wp2_with fail
          refine (H1.out _).mono ?_
          rintro e w1 ⟨rfl, b1⟩
          have B1 := Lib.hid b1
          clear b1
          go_wp2
          go_loop [11] (fun v => ∃ (i : Nat) (S : List UInt8), v = .string ⟨S.toArray⟩ ∧ S.length = D1.length + i ∧ S.length ≤ j ∧ Hid (S = List.replicate i 48 ++ D1)) (fun v => match v with | .string s => j - s.size | _ => 0)
          case atStart => exact ⟨0, D1, rfl, rfl, hl1, rfl⟩
          case round =>
            obtain ⟨i, S, rfl, hS, hSj, HS⟩ := hrel
            have hsz := str_size S
            by_cases hlt : S.length < j
            · have hb : decide ((S.length : Int) < (j : Int)) = true := by simp; omega
              have HSL := Lib.hid hlt
              go_wp2
              go_round
              case rel => exact ⟨i + 1, 48 :: S, str_cons 48 S, by simp; omega, by have := HSL.out; simp; omega, by show _ = _; rw [HS.out]; exact pad_step D1 j i (by have := HSL.out; omega)⟩
              case measure =>
                have h7 : ((⟨#[48]⟩ : ByteArray) ++ ⟨S.toArray⟩).size = S.length + 1 := by rw [ByteArray.size_append, hsz]; show 1 + S.length = _; omega
                have h8 := HSL.out
                show j - ((⟨#[48]⟩ : ByteArray) ++ ⟨S.toArray⟩).size < j - (⟨S.toArray⟩ : ByteArray).size
                rw [h7, hsz]; omega
            · have hb : decide ((S.length : Int) < (j : Int)) = false := by simp; omega
              have eS : S = List.replicate (j - D1.length) 48 ++ D1 := by
                have h9 := HS.out
                rw [show i = j - D1.length by omega] at h9; exact h9
              rw [← eS] at G1 G2
              have hX := HX.out
              have hsD := str_size D2
              have hdot := str_dot D2 S
              have hdl : (D2 ++ 46 :: S).length ≤ 40 := by rw [List.length_append, List.length_cons]; omega
              obtain ⟨TT, hTT⟩ : ∃ TT, TT = D2 ++ 46 :: S := ⟨_, rfl⟩
              rw [← hTT] at hdot hdl G1 G2
              have hst := str_size TT
              clear eS hTT
              cases m
              · have ew : Ieee.double.word false Q = Q := rfl
                have en : (if false = true then [45] else []) ++ TT = TT := rfl
                rw [ew] at AL G1
                rw [en] at G1 G2
                have HPA := fun w => parse_any TT (by unfold maxLen; omega) w
                rw [G1.out, G2.out] at HPA
                have HPA := Lib.hid HPA
                clear ew en
                go_wp2_with fail
                refine (H2.out _).mono ?_
                rintro e w2 ⟨rfl, b2⟩
                have B2 := Lib.hid (below_trans B1.out b2)
                clear b2
                go_wp2_with fail
                refine (HPA.out _).mono ?_
                rintro e w3 ⟨rfl, b3⟩
                have B3 := Lib.hid (below_trans B2.out b3)
                have T3 := Lib.hid (HT.out.below B3.out)
                clear b3
                go_wp2_with fail
                refine (AL.out _).mono ?_
                rintro e w' ⟨rfl, rfl⟩
                go_wp2_with fail
                refine (awake5 _ T3.out).mono ?_
                rintro e w4 ⟨rfl, b4⟩
                have B4 := Lib.hid (below_trans B3.out b4)
                clear b4
                go_wp2
                go_ret
                exact ⟨rfl, B4.out⟩
              · have en : (if true = true then [45] else []) ++ TT = 45 :: TT := rfl
                rw [en] at G1 G2
                have hcons := str_cons 45 TT
                have hcons2 : (⟨#[45]⟩ : ByteArray) ++ ⟨TT.toArray⟩ = ⟨(45 :: TT).toArray⟩ := Value.string.inj hcons
                have HPA := fun w => parse_any (45 :: TT) (by unfold maxLen; simp; omega) w
                rw [G1.out, G2.out] at HPA
                obtain ⟨T2, hT2⟩ : ∃ T2, T2 = 45 :: TT := ⟨_, rfl⟩
                rw [← hT2] at hcons2 HPA
                have HPA := Lib.hid HPA
                obtain ⟨Q2, hQ2⟩ : ∃ Q2, Q2 = Ieee.double.word true Q := ⟨_, rfl⟩
                rw [← hQ2] at hneg AL HPA
                clear en hcons hT2 hQ2
                go_wp2_with fail
                refine (H2.out _).mono ?_
                rintro e w2 ⟨rfl, b2⟩
                have B2 := Lib.hid (below_trans B1.out b2)
                clear b2
                go_wp2_with fail
                refine (HPA.out _).mono ?_
                rintro e w3 ⟨rfl, b3⟩
                have B3 := Lib.hid (below_trans B2.out b3)
                have T3 := Lib.hid (HT.out.below B3.out)
                clear b3
                go_wp2_with fail
                refine (AL.out _).mono ?_
                rintro e w' ⟨rfl, rfl⟩
                go_wp2_with fail
                refine (awake5 _ T3.out).mono ?_
                rintro e w4 ⟨rfl, b4⟩
                have B4 := Lib.hid (below_trans B3.out b4)
                clear b4
                go_wp2
                go_ret
                exact ⟨rfl, B4.out⟩
  · have hc : a < 0 ∨ (¬ a < 0 ∧ 999999999 < a) ∨ (¬ a < 0 ∧ ¬ 999999999 < a ∧ k < 1) ∨ (¬ a < 0 ∧ ¬ 999999999 < a ∧ ¬ k < 1 ∧ 6 < k) ∨ (¬ a < 0 ∧ ¬ 999999999 < a ∧ ¬ k < 1 ∧ ¬ 6 < k ∧ p < 0) := by omega
    clear hin
    rcases hc with h1 | ⟨h1, h2⟩ | ⟨h1, h2, h3⟩ | ⟨h1, h2, h3, h4⟩ | ⟨h1, h2, h3, h4, h5⟩
    all_goals
      go_enter Tryd.func12, Tryd.ntmps12
      go_wp2_with fail
      refine (awake5 _ HT.out).mono ?_
      rintro e w4 ⟨rfl, b4⟩
      have B4 := Lib.hid b4
      clear b4
      go_wp2
      go_ret
      exact ⟨rfl, B4.out⟩
end Go.Proofs.YtbinhlnekhglkaaDoor
