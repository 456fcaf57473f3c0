/- A part of the proof. -/
import Derived.Test.YtgfhabofhefaaaaGreatDoorSB07
namespace Go.Proofs.YtgfhabofhefaaaaGreatDoor
open Go.RowKit
theorem cnt_step {f : Nat} {t : List UInt8} {j : Nat} (h : j < TX.cnt f t) : ∃ c, t[j]? = some c ∧ TX.isD c = true ∧ j < f ∧ j < t.length := by
  have h1 := TX.cnt_le f t
  have hj : j < t.length := by omega
  refine ⟨t[j], List.getElem?_eq_getElem hj, ?_, by omega, hj⟩
  apply TX.cnt_digits f t
  rw [List.mem_take_iff_getElem]
  exact ⟨j, by omega, rfl⟩
theorem cnt_stop (f : Nat) (t : List UInt8) : (t.length = TX.cnt f t) ∨ (∃ c r, t.drop (TX.cnt f t) = c :: r ∧ t[TX.cnt f t]? = some c ∧ TX.cnt f t < t.length ∧ (TX.isD c = false ∨ (TX.isD c = true ∧ TX.cnt f t = f))) := by
  have h1 := TX.cnt_le f t
  by_cases hl : t.length = TX.cnt f t
  · exact .inl hl
  · right
    have hlt : TX.cnt f t < t.length := by omega
    refine ⟨t[TX.cnt f t], t.drop (TX.cnt f t + 1), List.drop_eq_getElem_cons hlt, List.getElem?_eq_getElem hlt, hlt, ?_⟩
    cases hd : TX.isD (t[TX.cnt f t])
    · exact .inl rfl
    · right
      refine ⟨rfl, ?_⟩
      rcases TX.cnt_end f t with h | h | ⟨c, r, h, h2⟩
      · exact h
      · rw [List.drop_eq_nil_iff] at h; omega
      · rw [List.drop_eq_getElem_cons hlt] at h
        have : t[TX.cnt f t] = c := (List.cons.inj h).1
        rw [this] at hd
        rw [hd] at h2; cases h2
set_option maxHeartbeats 400000 in
theorem fdigit_any (c : UInt8) (w : World) :
    Calls Tryz.prog 112 #[.int .u8 (c.toNat : Int)] w fun e w' => e = .returned (.bool (TX.isD c)) ∧ w = w' := by
  have hc := c.toNat_lt
  go_enter Tryz.func112, Tryz.ntmps112
  go_wp2
  all_goals go_ret
  all_goals refine ret_b ?_ rfl
  all_goals (unfold TX.isD; rw [Bool.eq_iff_iff]; simp; omega)
theorem num_go {T : List UInt8} {k : Nat} {c : UInt8} {n : Int} {m : Nat} (hc : T[k]? = some c) (hd : TX.isD c = true) (h : n = (TX.num m (T.take k) : Int)) : n * 10 + ((c.toNat : Int) - 48) = (TX.num m (T.take (k + 1)) : Int) := by
  have h1 := isD_yes hd
  rw [List.take_add_one, hc, TX.num_append]
  show _ = ((TX.num (TX.num m (T.take k)) [c] : Nat) : Int)
  rw [TX.num_cons, TX.num_nil]
  omega
theorem num_bd {T : List UInt8} {m k : Nat} (h : ∀ c ∈ T.take k, TX.isD c = true) : TX.num m (T.take k) < (m + 1) * 10 ^ k := by
  have h1 := num_lt (T.take k) m h
  have h2 : (T.take k).length ≤ k := by rw [List.length_take]; omega
  have h3 : (m + 1) * 10 ^ (T.take k).length ≤ (m + 1) * 10 ^ k := Nat.mul_le_mul_left _ (Nat.pow_le_pow_right (by decide) h2)
  omega
theorem cnt_take {f : Nat} {t : List UInt8} {j : Nat} (h : j ≤ TX.cnt f t) : ∀ c ∈ t.take j, TX.isD c = true := by
  intro c hc
  apply TX.cnt_digits f t
  have : t.take j = (t.take (TX.cnt f t)).take j := by rw [List.take_take, Nat.min_eq_left h]
  rw [this] at hc
  exact List.mem_of_mem_take hc
theorem bd9 {t : List UInt8} {j : Nat} (h : j ≤ TX.cnt 9 t) : TX.num 0 (t.take j) < 1000000000 := by
  have h1 := num_bd (m := 0) (cnt_take h)
  have h2 : 10 ^ j ≤ 10 ^ 9 := Nat.pow_le_pow_right (by decide) (by have := (TX.cnt_le 9 t).1; omega)
  have e9 : (10 : Nat) ^ 9 = 1000000000 := by decide
  omega
theorem bd6 {r : List UInt8} {m k : Nat} (hm : m < 1000000000) (h : k ≤ TX.cnt 6 r) : TX.num m (r.take k) < 1000000000000000 := by
  have h1 := num_bd (m := m) (cnt_take h)
  have h2 : 10 ^ k ≤ 10 ^ 6 := Nat.pow_le_pow_right (by decide) (by have := (TX.cnt_le 6 r).1; omega)
  have e6 : (10 : Nat) ^ 6 = 1000000 := by decide
  have h3 : (m + 1) * 10 ^ k ≤ 1000000000 * 10 ^ k := Nat.mul_le_mul_right _ (by omega)
  omega
theorem psz_a {t : List UInt8} (h : TX.cnt 9 t = 0) : TX.psz t = none := by unfold TX.psz; rw [if_pos (.inl h)]
theorem psz_b {t : List UInt8} (h : 1 < TX.cnt 9 t) (h2 : t.head? = some 48) : TX.psz t = none := by unfold TX.psz; rw [if_pos (.inr ⟨h, h2⟩)]
theorem psz_c {t : List UInt8} (h : TX.cnt 9 t ≠ 0) (h2 : ¬ (1 < TX.cnt 9 t ∧ t.head? = some 48)) (h3 : t.length = TX.cnt 9 t) : TX.psz t = some (TX.num 0 (t.take (TX.cnt 9 t)), 0) := by
  unfold TX.psz
  rw [if_neg (by intro h4; rcases h4 with h4 | h4; exact h h4; exact h2 h4), List.drop_eq_nil_of_le (by omega)]
theorem psz_d {t : List UInt8} {c : UInt8} {r : List UInt8} (hd : t.drop (TX.cnt 9 t) = c :: r) (hc : c ≠ 46) : TX.psz t = none := by
  unfold TX.psz
  split
  · rfl
  · rw [hd]; simp only [if_neg hc]
theorem psz_e {t r : List UInt8} (hd : t.drop (TX.cnt 9 t) = 46 :: r) (hc : TX.cnt 6 r = 0 ∨ TX.cnt 6 r ≠ r.length) : TX.psz t = none := by
  unfold TX.psz
  split
  · rfl
  · rw [hd]
    have hle := TX.cnt_le 6 r
    simp only [if_true]
    rw [if_pos]
    rcases hc with h | h
    · exact .inl h
    · right
      intro e
      rw [List.drop_eq_nil_iff] at e; omega
theorem psz_f {t r : List UInt8} (h : TX.cnt 9 t ≠ 0) (h2 : ¬ (1 < TX.cnt 9 t ∧ t.head? = some 48)) (hd : t.drop (TX.cnt 9 t) = 46 :: r) (hc : TX.cnt 6 r ≠ 0) (hl : r.length = TX.cnt 6 r) :
    TX.psz t = some (TX.num (TX.num 0 (t.take (TX.cnt 9 t))) (r.take (TX.cnt 6 r)), TX.cnt 6 r) := by
  unfold TX.psz
  rw [if_neg (by intro h4; rcases h4 with h4 | h4; exact h h4; exact h2 h4), hd]
  simp only [if_true]
  rw [if_neg]
  intro h5
  rcases h5 with h5 | h5
  · exact hc h5
  · exact h5 (List.drop_eq_nil_of_le (by omega))
theorem at_l {l pre t : List UInt8} (h : l = pre ++ t) {j : Nat} {c : UInt8} (hc : t[j]? = some c) {p : Nat} (hp : p = j + pre.length) (hlt : p < (⟨l.toArray⟩ : ByteArray).size) : ((⟨l.toArray⟩ : ByteArray)[p]'hlt) = c := by
  have h1 : p < l.length := by rw [str_size] at hlt; exact hlt
  have h2 : ((⟨l.toArray⟩ : ByteArray)[p]'hlt) = l[p]'h1 := rfl
  have h3 : l[p]? = some c := by
    rw [h, hp, List.getElem?_append_right (by omega), show j + pre.length - pre.length = j by omega]; exact hc
  rw [h2]
  rw [List.getElem?_eq_getElem h1] at h3
  exact Option.some.inj h3
set_option maxHeartbeats 4000000 in
theorem read_core0 (l t : List UInt8) (m1 : (l == [110, 97, 110]) = false) (m2 : (l == [105, 110, 102]) = false) (m3 : (l == [45, 105, 110, 102]) = false) (_n1 : ¬ l = [110, 97, 110]) (_n2 : ¬ l = [105, 110, 102]) (_n3 : ¬ l = [45, 105, 110, 102])
    (hlt : l = [] ++ t) (hl : l.length ≤ maxLen)
    (hfirst : ∃ h : 0 < (⟨l.toArray⟩ : ByteArray).size, ((((⟨l.toArray⟩ : ByteArray)[0]'h).toNat : Int) == 45) = false)
    (hbad : TX.psz t = none → parF l = 0 ∧ parOk l = false) (hgood : ∀ N K, TX.psz t = some (N, K) → parF l = TX.qw N K ∧ parOk l = true) (w : World) :
    Calls Tryz.prog 80 #[.string ⟨l.toArray⟩] w fun e w' => e = .returned (.tuple #[.float .f64 (parF l), .bool (parOk l)]) ∧ w = w' := by
  unfold maxLen at hl
  have HLT := Lib.hid hlt; have HBAD := Lib.hid hbad; have HGOOD := Lib.hid hgood
  have hLN : l.length = t.length + 0 := by rw [hlt]; simp
  have hb63 : l.length ≤ 9223372036854775807 := by omega
  have hsz := str_size l
  obtain ⟨LN, hL⟩ : ∃ LN, l.length = LN := ⟨_, rfl⟩
  rw [hL] at hsz hLN hb63
  have HLN := Lib.hid hLN
  have HB63 := Lib.hid hb63
  obtain ⟨pF', hpF⟩ : ∃ x, x = parF l := ⟨_, rfl⟩
  obtain ⟨pO', hpO⟩ : ∃ x, x = parOk l := ⟨_, rfl⟩
  rw [← hpF, ← hpO]
  rw [← hpF, ← hpO] at HBAD HGOOD
  clear hpF hpO hlt hbad hgood hl hLN hb63
  obtain ⟨hf2, hf3⟩ := hfirst
  have hf : (0 : Int) < (LN : Int) := by omega
  all_goals
    go_enter Tryz.func80, Tryz.ntmps80
    go_wp2
    go_loop [4, 5] (fun v u => ∃ (p j : Nat) (n : Int), p ≤ LN ∧ v = .int .i64 (p : Int) ∧ u = .int .i64 n ∧ 0 ≤ n ∧ n ≤ 1000000000 ∧ Hid (p = j + 0 ∧ j ≤ TX.cnt 9 t ∧ n = (TX.num 0 (t.take j) : Int))) (fun v _ => LN - (intOf v).toNat)
    case atStart => exact ⟨0, 0, 0, Nat.zero_le _, rfl, rfl, by omega, by omega, ⟨by omega, by omega, by rw [List.take_zero, TX.num_nil]; rfl⟩⟩
    case round =>
      obtain ⟨p, j, n, hpL, rfl, rfl, hn0, hn1, HI⟩ := hrel
      by_cases hj : j < TX.cnt 9 t
      · obtain ⟨c, hc, hd, hj9, hjt⟩ := cnt_step hj
        obtain ⟨i1, i2, i3⟩ := HI.out
        have hpl : p < LN := by have := HLN.out; omega
        have hpL' : p < (⟨l.toArray⟩ : ByteArray).size := by omega
        obtain ⟨z, hz⟩ : ∃ z : Int, (c.toNat : Int) = z := ⟨_, rfl⟩
        have hi := i_of (at_l HLT.out hc (show p = j + ([] : List UInt8).length from i1) hpL') hz
        have hdg := fun w => fdigit_any c w
        rw [hz, hd] at hdg
        have HDG := Lib.hid hdg
        have hyes := isD_yes hd
        have z1 : 48 ≤ z := by omega
        have z2 : z ≤ 57 := by omega
        have e1 := num_go hc hd i3
        rw [hz] at e1
        have hb := bd9 (t := t) (j := j) (by omega)
        have hb2 := bd9 (t := t) (j := j + 1) (by omega)
        have n8 : n ≤ 100000000 := by omega
        have s0 : 0 ≤ n * 10 + (z - 48) := by omega
        have s1 : n * 10 + (z - 48) ≤ 1000000000 := by omega
        have HI2 : Hid (p + 1 = j + 1 + 0 ∧ j + 1 ≤ TX.cnt 9 t ∧ n * 10 + (z - 48) = (TX.num 0 (t.take (j + 1)) : Int)) := Lib.hid ⟨by omega, by omega, e1⟩
        have t1 : (p : Int) < (LN : Int) := by omega
        have t2 : (p : Int) < 9 := by omega
        clear hdg hyes e1 hb hb2 i1 i2 i3 hj hj9 hjt hd hc hz
        go_wp2_with (go_at_call 112; refine (HDG.out _).mono ?_; rintro e w' ⟨rfl, rfl⟩)
        go_round
        case rel => exact ⟨p + 1, j + 1, n * 10 + (z - 48), by omega, by go_num, rfl, s0, s1, HI2.out⟩
        case measure => simp [intOf]; omega
      · obtain ⟨i1, i2, i3⟩ := HI.out
        obtain rfl : j = TX.cnt 9 t := by omega
        have hst := cnt_stop 9 t
        have HJ := Lib.hid (show TX.cnt 9 t ≤ 9 from (TX.cnt_le 9 t).1)
        have hc0 : TX.cnt 9 t ≠ 0 → ∃ c0, t.head? = some c0 ∧ t[0]? = some c0 := by
          intro h
          cases t with
          | nil => exact absurd rfl h
          | cons c0 _ => exact ⟨c0, rfl, rfl⟩
        obtain ⟨J, hJ⟩ : ∃ J, TX.cnt 9 t = J := ⟨_, rfl⟩
        have HJJ := Lib.hid hJ
        have HI1 := Lib.hid i1; have HI3 := Lib.hid i3
        have pb : (p : Int) ≤ 10 := by have := HJ.out; omega
        clear i2 hj HI
        rcases hst with hs | ⟨c, r, h1, h2, h3, h4 | ⟨h4, h9⟩⟩
        · have t1 : ¬ (p : Int) < (LN : Int) := by have := HLN.out; have := HI1.out; omega
          have HE := Lib.hid hs
          by_cases hJ0 : TX.cnt 9 t = 0
          · have e0 : ((p : Int) == 0) = true := by have := HI1.out; simp; omega
            obtain ⟨f1, f2⟩ := HBAD.out (psz_a hJ0)
            have F1 := Lib.hid f1; have F2 := Lib.hid f2
            clear f1 f2 hJ0 hJ hc0 i1 i3 hs
            go_wp2
            go_ret2
            exact ret_fb F1.out.symm F2.out.symm rfl
          · have e0 : ((p : Int) == 0) = false := by have := HI1.out; simp; omega
            obtain ⟨c0, q1, q2⟩ := hc0 hJ0
            have hfl : 0 < LN := by
              have h5 := (TX.cnt_le 9 t).2; have := HLN.out; omega
            have hfL : 0 < (⟨l.toArray⟩ : ByteArray).size := by omega
            have hflI : (0 : Int) < (LN : Int) := by omega
            obtain ⟨y, hy⟩ : ∃ y : Int, (c0.toNat : Int) = y := ⟨_, rfl⟩
            have hi0 := i_of (at_l HLT.out q2 (show 0 = 0 + ([] : List UInt8).length from rfl) hfL) hy
            have hyb := c0.toNat_lt
            have y0 : 0 ≤ y := by omega
            have y1 : y < 256 := by omega
            have h48 : (y == 48) = (c0 == 48) := by rw [← hy]; exact byte_eq c0 48
            by_cases hno : 1 < TX.cnt 9 t ∧ c0 = 48
            · have u1 : 1 < (p : Int) := by have := HI1.out; omega
              have u2 : (y == 48) = true := by rw [h48]; simpa using hno.2
              obtain ⟨f1, f2⟩ := HBAD.out (psz_b hno.1 (by rw [q1, hno.2]))
              have F1 := Lib.hid f1; have F2 := Lib.hid f2
              clear f1 f2 hJ0 hJ hc0 i1 i3 q1 q2 hy hyb h48 hno hfl hs
              go_wp2
              go_ret2
              exact ret_fb F1.out.symm F2.out.symm rfl
            · have HNO : Hid (¬ (1 < TX.cnt 9 t ∧ t.head? = some 48)) := Lib.hid (by rw [q1]; simpa using hno)
              have HJ0 := Lib.hid hJ0
              have u12 : (¬ 1 < (p : Int)) ∨ (1 < (p : Int) ∧ (y == 48) = false) := by
                have := HI1.out
                by_cases h1 : 1 < TX.cnt 9 t
                · right
                  refine ⟨by omega, ?_⟩
                  rw [h48]
                  have : c0 ≠ 48 := fun e => hno ⟨h1, e⟩
                  simpa using this
                · left; omega
              clear hJ0 hc0 q1 q2 hy hyb h48 hno hfl i1 i3 hJ hs
              have hN := bd9 (t := t) (j := TX.cnt 9 t) (Nat.le_refl _)
              obtain ⟨f1, f2⟩ := HGOOD.out _ _ (psz_c HJ0.out HNO.out HE.out)
              obtain ⟨v1, v2, _⟩ := TX.qdiv (n := TX.num 0 (t.take (TX.cnt 9 t))) (k := 0) (by omega) (by decide)
              have HV1 := v1
              obtain ⟨Q, hQ⟩ : ∃ Q, Q = TX.qw (TX.num 0 (t.take (TX.cnt 9 t))) (0) := ⟨_, rfl⟩
              rw [← hQ] at HV1 v2 f1
              have hvar : ((TX.num 0 (t.take (TX.cnt 9 t)) : Nat) : Int) = n := (HI3.out).symm
              rw [hvar] at HV1
              have hTN := fun w => rten_any (0) (by omega) w
              obtain ⟨Y, hY⟩ : ∃ Y : Int, Y = ((10 ^ (0) : Nat) : Int) := ⟨_, rfl⟩
              rw [← hY] at HV1 hTN
              have HTN := Lib.hid hTN
              have HDV : ∀ w t, (binOp .quo t (.float .f64 (floatOfInt .f64 n)) (.float .f64 (floatOfInt .f64 Y))).run Tryz.prog w = .ok (.float .f64 Q) w := fun w t => run_float_arith w .quo t .f64 _ _ _ HV1
              have F1 := Lib.hid f1; have F2 := Lib.hid f2
              clear f1 f2 v1 v2 HV1 hvar hTN hY hQ
              rcases u12 with u1 | ⟨u1, u2⟩
              all_goals
                go_wp2_with (go_at_call 75; refine (HTN.out _).mono ?_; rintro e w' ⟨rfl, rfl⟩)
                go_ret2
                exact ret_fb F1.out.symm F2.out.symm rfl
        · have hpl : p < LN := by have := HLN.out; have := HI1.out; omega
          have hpL' : p < (⟨l.toArray⟩ : ByteArray).size := by omega
          have t1 : (p : Int) < (LN : Int) := by omega
          obtain ⟨z, hz⟩ : ∃ z : Int, (c.toNat : Int) = z := ⟨_, rfl⟩
          have hi := i_of (at_l HLT.out h2 (show p = TX.cnt 9 t + ([] : List UInt8).length from HI1.out) hpL') hz
          have hub := c.toNat_lt
          have z0 : 0 ≤ z := by omega
          have z1 : z < 256 := by omega
          have hdg := fun w => fdigit_any c w
          rw [hz, h4] at hdg
          have HDG := Lib.hid hdg
          have HZ := Lib.hid hz; have HD := Lib.hid h1; have H4 := Lib.hid h4
          clear hdg hz hub h1 h2 h3 h4
          by_cases hJ0 : TX.cnt 9 t = 0
          · have e0 : ((p : Int) == 0) = true := by have := HI1.out; simp; omega
            obtain ⟨f1, f2⟩ := HBAD.out (psz_a hJ0)
            have F1 := Lib.hid f1; have F2 := Lib.hid f2
            clear f1 f2 hJ0 hJ hc0 i1 i3
            go_wp2_with (go_at_call 112; refine (HDG.out _).mono ?_; rintro e w' ⟨rfl, rfl⟩)
            go_ret2
            exact ret_fb F1.out.symm F2.out.symm rfl
          · have e0 : ((p : Int) == 0) = false := by have := HI1.out; simp; omega
            obtain ⟨c0, q1, q2⟩ := hc0 hJ0
            have hfl : 0 < LN := by
              have h5 := (TX.cnt_le 9 t).2; have := HLN.out; omega
            have hfL : 0 < (⟨l.toArray⟩ : ByteArray).size := by omega
            have hflI : (0 : Int) < (LN : Int) := by omega
            obtain ⟨y, hy⟩ : ∃ y : Int, (c0.toNat : Int) = y := ⟨_, rfl⟩
            have hi0 := i_of (at_l HLT.out q2 (show 0 = 0 + ([] : List UInt8).length from rfl) hfL) hy
            have hyb := c0.toNat_lt
            have y0 : 0 ≤ y := by omega
            have y1 : y < 256 := by omega
            have h48 : (y == 48) = (c0 == 48) := by rw [← hy]; exact byte_eq c0 48
            by_cases hno : 1 < TX.cnt 9 t ∧ c0 = 48
            · have u1 : 1 < (p : Int) := by have := HI1.out; omega
              have u2 : (y == 48) = true := by rw [h48]; simpa using hno.2
              obtain ⟨f1, f2⟩ := HBAD.out (psz_b hno.1 (by rw [q1, hno.2]))
              have F1 := Lib.hid f1; have F2 := Lib.hid f2
              clear f1 f2 hJ0 hJ hc0 i1 i3 q1 q2 hy hyb h48 hno hfl
              go_wp2_with (go_at_call 112; refine (HDG.out _).mono ?_; rintro e w' ⟨rfl, rfl⟩)
              go_ret2
              exact ret_fb F1.out.symm F2.out.symm rfl
            · have HNO : Hid (¬ (1 < TX.cnt 9 t ∧ t.head? = some 48)) := Lib.hid (by rw [q1]; simpa using hno)
              have HJ0 := Lib.hid hJ0
              have u12 : (¬ 1 < (p : Int)) ∨ (1 < (p : Int) ∧ (y == 48) = false) := by
                have := HI1.out
                by_cases h1 : 1 < TX.cnt 9 t
                · right
                  refine ⟨by omega, ?_⟩
                  rw [h48]
                  have : c0 ≠ 48 := fun e => hno ⟨h1, e⟩
                  simpa using this
                · left; omega
              clear hJ0 hc0 q1 q2 hy hyb h48 hno hfl i1 i3 hJ
              by_cases hc46 : c = 46
              · subst hc46
                obtain rfl : (46 : Int) = z := HZ.out
                have hN := bd9 (t := t) (j := TX.cnt 9 t) (Nat.le_refl _)
                obtain ⟨N0, hN0⟩ : ∃ N0, N0 = TX.num 0 (t.take (TX.cnt 9 t)) := ⟨_, rfl⟩
                rw [← hN0] at hN
                have HN0 := Lib.hid hN0
                have hnN : n = (N0 : Int) := by rw [hN0]; exact HI3.out
                have HNN := Lib.hid hnN
                have HNB := Lib.hid hN
                have hr : r = t.drop (TX.cnt 9 t + 1) := by
                  have := congrArg (List.drop 1) HD.out
                  rw [List.drop_drop] at this
                  exact this.symm
                have hrl : t.length = TX.cnt 9 t + 1 + r.length := by
                  have := congrArg List.length HD.out
                  simp at this; omega
                have HRL := Lib.hid hrl
                have HRG : Hid (∀ (k : Nat) (c : UInt8), r[k]? = some c → t[TX.cnt 9 t + 1 + k]? = some c) := Lib.hid (by
                  intro k c h; rw [hr, List.getElem?_drop] at h; exact h)
                clear hN0 hnN hN hr hrl
                rcases u12 with u1 | ⟨u1, u2⟩
                all_goals
                  go_wp2_with (go_at_call 112; refine (HDG.out _).mono ?_; rintro e w' ⟨rfl, rfl⟩)
                  go_loop [4, 5, 6] (fun v u x => ∃ (p2 k : Nat) (m : Int), p2 ≤ LN ∧ v = .int .i64 (p2 : Int) ∧ u = .int .i64 m ∧ x = .int .i64 (k : Int) ∧ k ≤ 6 ∧ 0 ≤ m ∧ m ≤ 1000000000000000 ∧ Hid (p2 = TX.cnt 9 t + 1 + k + 0 ∧ k ≤ TX.cnt 6 r ∧ m = (TX.num N0 (r.take k) : Int))) (fun v _ _ => LN - (intOf v).toNat)
                  case atStart => exact ⟨p + 1, 0, n, by omega, by go_num, rfl, rfl, by omega, hn0, by omega, ⟨by have := HI1.out; omega, by omega, by rw [List.take_zero, TX.num_nil]; exact HNN.out⟩⟩
                  case round =>
                    obtain ⟨p2, k, m, hp2, rfl, rfl, rfl, hk6, hm0, hm1, HI2⟩ := hrel
                    by_cases hk : k < TX.cnt 6 r
                    · obtain ⟨c, hc, hd, hk9, hkr⟩ := cnt_step hk
                      obtain ⟨i1, i2, i3⟩ := HI2.out
                      have hpl2 : p2 < LN := by have := HLN.out; have := HRL.out; omega
                      have hpL2 : p2 < (⟨l.toArray⟩ : ByteArray).size := by omega
                      obtain ⟨z, hz⟩ : ∃ z : Int, (c.toNat : Int) = z := ⟨_, rfl⟩
                      have hi2 := i_of (at_l HLT.out (HRG.out k c hc) (show p2 = TX.cnt 9 t + 1 + k + ([] : List UInt8).length from i1) hpL2) hz
                      have hdg := fun w => fdigit_any c w
                      rw [hz, hd] at hdg
                      have HDG2 := Lib.hid hdg
                      have hyes := isD_yes hd
                      have z1 : 48 ≤ z := by omega
                      have z2 : z ≤ 57 := by omega
                      have e1 := num_go hc hd i3
                      rw [hz] at e1
                      have hb := bd6 (r := r) (m := N0) (k := k) HNB.out (by omega)
                      have hb2 := bd6 (r := r) (m := N0) (k := k + 1) HNB.out (by omega)
                      have s0 : 0 ≤ m * 10 + (z - 48) := by omega
                      have s1 : m * 10 + (z - 48) ≤ 1000000000000000 := by omega
                      have HI3' : Hid (p2 + 1 = TX.cnt 9 t + 1 + (k + 1) + 0 ∧ k + 1 ≤ TX.cnt 6 r ∧ m * 10 + (z - 48) = (TX.num N0 (r.take (k + 1)) : Int)) := Lib.hid ⟨by omega, by omega, e1⟩
                      have t1' : (p2 : Int) < (LN : Int) := by omega
                      have t2' : (k : Int) < 6 := by omega
                      have HR1 : Hid (p2 + 1 ≤ LN) := Lib.hid hpl2
                      have pb2 : (p2 : Int) ≤ 17 := by have := HJ.out; omega
                      clear hdg hyes e1 hb hb2 i1 i2 i3 hk hk9 hkr hd hc hz
                      go_wp2_with (go_at_call 112; refine (HDG2.out _).mono ?_; rintro e w' ⟨rfl, rfl⟩)
                      go_round
                      case rel => exact ⟨p2 + 1, k + 1, m * 10 + (z - 48), HR1.out, by go_num, rfl, by go_num, by omega, s0, s1, HI3'.out⟩
                      case measure => have := HR1.out; simp [intOf]; omega
                    · obtain ⟨i1, i2, i3⟩ := HI2.out
                      obtain rfl : k = TX.cnt 6 r := by omega
                      have hst2 := cnt_stop 6 r
                      have HP2 := Lib.hid i1; have HM2 := Lib.hid i3
                      have pb2 : (p2 : Int) ≤ 17 := by have := HJ.out; omega
                      clear i2 hk HI2 i1 i3
                      obtain ⟨K, hK⟩ : ∃ K, TX.cnt 6 r = K := ⟨_, rfl⟩
                      have HK := Lib.hid hK
                      rcases hst2 with hs2 | ⟨c, r2, h1, h2, h3, h4 | ⟨h4, h6⟩⟩
                      · have t1' : ¬ (p2 : Int) < (LN : Int) := by have := HLN.out; have := HP2.out; have := HRL.out; omega
                        by_cases hK0 : TX.cnt 6 r = 0
                        · obtain ⟨f1, f2⟩ := HBAD.out (psz_e HD.out (.inl hK0))
                          have F1 := Lib.hid f1; have F2 := Lib.hid f2
                          have e0' : ((TX.cnt 6 r : Int) == 0) = true := by simpa using hK0
                          clear f1 f2 hK0 hs2 hK
                          go_wp2
                          go_ret2
                          exact ret_fb F1.out.symm F2.out.symm rfl
                        · obtain ⟨f1, f2⟩ := HGOOD.out _ _ (psz_f HJ0.out HNO.out HD.out hK0 hs2)
                          rw [← HN0.out] at f1
                          have hN15 := bd6 (r := r) (m := N0) (k := TX.cnt 6 r) HNB.out (Nat.le_refl _)
                          obtain ⟨v1, v2, _⟩ := TX.qdiv (n := TX.num N0 (r.take (TX.cnt 6 r))) (k := TX.cnt 6 r) (by omega) hk6
                          have e0' : ((TX.cnt 6 r : Int) == 0) = false := by simpa using hK0
                          have HV1 := v1
                          obtain ⟨Q, hQ⟩ : ∃ Q, Q = TX.qw (TX.num N0 (r.take (TX.cnt 6 r))) (TX.cnt 6 r) := ⟨_, rfl⟩
                          rw [← hQ] at HV1 v2 f1
                          have hvar : ((TX.num N0 (r.take (TX.cnt 6 r)) : Nat) : Int) = m := (HM2.out).symm
                          rw [hvar] at HV1
                          have hTN := fun w => rten_any (TX.cnt 6 r) (by omega) w
                          obtain ⟨Y, hY⟩ : ∃ Y : Int, Y = ((10 ^ (TX.cnt 6 r) : Nat) : Int) := ⟨_, rfl⟩
                          rw [← hY] at HV1 hTN
                          have HTN := Lib.hid hTN
                          have HDV : ∀ w t, (binOp .quo t (.float .f64 (floatOfInt .f64 m)) (.float .f64 (floatOfInt .f64 Y))).run Tryz.prog w = .ok (.float .f64 Q) w := fun w t => run_float_arith w .quo t .f64 _ _ _ HV1
                          have F1 := Lib.hid f1; have F2 := Lib.hid f2
                          clear f1 f2 v1 v2 HV1 hvar hTN hY hQ hK0 hs2 hK hN15
                          go_wp2_with (go_at_call 75; refine (HTN.out _).mono ?_; rintro e w' ⟨rfl, rfl⟩)
                          go_ret2
                          exact ret_fb F1.out.symm F2.out.symm rfl
                      · have hpl2 : p2 < LN := by have := HLN.out; have := HP2.out; have := HRL.out; omega
                        have hpL2 : p2 < (⟨l.toArray⟩ : ByteArray).size := by omega
                        have t1' : (p2 : Int) < (LN : Int) := by omega
                        obtain ⟨z, hz⟩ : ∃ z : Int, (c.toNat : Int) = z := ⟨_, rfl⟩
                        have hi2 := i_of (at_l HLT.out (HRG.out _ c h2) (show p2 = TX.cnt 9 t + 1 + TX.cnt 6 r + ([] : List UInt8).length from HP2.out) hpL2) hz
                        have hub := c.toNat_lt
                        have z0 : 0 ≤ z := by omega
                        have z1 : z < 256 := by omega
                        have hdg := fun w => fdigit_any c w
                        rw [hz, h4] at hdg
                        have HDG2 := Lib.hid hdg
                        obtain ⟨f1, f2⟩ := HBAD.out (psz_e HD.out (.inr (by omega)))
                        have F1 := Lib.hid f1; have F2 := Lib.hid f2
                        have ek : ((TX.cnt 6 r : Int) == 0) = true ∨ ((TX.cnt 6 r : Int) == 0) = false := by cases ((TX.cnt 6 r : Int) == 0) <;> simp
                        clear f1 f2 hdg hz hub h1 h2 h3 h4 hK
                        rcases ek with ek | ek
                        all_goals
                          go_wp2_with (go_at_call 112; refine (HDG2.out _).mono ?_; rintro e w' ⟨rfl, rfl⟩)
                          go_ret2
                          exact ret_fb F1.out.symm F2.out.symm rfl
                      · have hpl2 : p2 < LN := by have := HLN.out; have := HP2.out; have := HRL.out; omega
                        have hpL2 : p2 < (⟨l.toArray⟩ : ByteArray).size := by omega
                        have t1' : (p2 : Int) < (LN : Int) := by omega
                        obtain ⟨z, hz⟩ : ∃ z : Int, (c.toNat : Int) = z := ⟨_, rfl⟩
                        have hi2 := i_of (at_l HLT.out (HRG.out _ c h2) (show p2 = TX.cnt 9 t + 1 + TX.cnt 6 r + ([] : List UInt8).length from HP2.out) hpL2) hz
                        have hub := c.toNat_lt
                        have z0 : 0 ≤ z := by omega
                        have z1 : z < 256 := by omega
                        have hdg := fun w => fdigit_any c w
                        rw [hz, h4] at hdg
                        have HDG2 := Lib.hid hdg
                        obtain ⟨f1, f2⟩ := HBAD.out (psz_e HD.out (.inr (by omega)))
                        have F1 := Lib.hid f1; have F2 := Lib.hid f2
                        have t2' : ¬ (TX.cnt 6 r : Int) < 6 := by omega
                        have ek : ((TX.cnt 6 r : Int) == 0) = true ∨ ((TX.cnt 6 r : Int) == 0) = false := by cases ((TX.cnt 6 r : Int) == 0) <;> simp
                        clear f1 f2 hdg hz hub h1 h2 h3 h4 hK h6
                        rcases ek with ek | ek
                        all_goals
                          go_wp2_with (go_at_call 112; refine (HDG2.out _).mono ?_; rintro e w' ⟨rfl, rfl⟩)
                          go_ret2
                          exact ret_fb F1.out.symm F2.out.symm rfl
              · have hz46 : (z == 46) = false := by
                  rw [← HZ.out]
                  exact (byte_eq c 46).trans (by simpa using hc46)
                obtain ⟨f1, f2⟩ := HBAD.out (psz_d HD.out hc46)
                have F1 := Lib.hid f1; have F2 := Lib.hid f2
                clear f1 f2 hc46
                rcases u12 with u1 | ⟨u1, u2⟩
                all_goals
                  go_wp2_with (go_at_call 112; refine (HDG.out _).mono ?_; rintro e w' ⟨rfl, rfl⟩)
                  go_ret2
                  exact ret_fb F1.out.symm F2.out.symm rfl
        · have HE3 := Lib.hid h9
          clear h9
          have hpl : p < LN := by have := HLN.out; have := HI1.out; omega
          have hpL' : p < (⟨l.toArray⟩ : ByteArray).size := by omega
          have t1 : (p : Int) < (LN : Int) := by omega
          obtain ⟨z, hz⟩ : ∃ z : Int, (c.toNat : Int) = z := ⟨_, rfl⟩
          have hi := i_of (at_l HLT.out h2 (show p = TX.cnt 9 t + ([] : List UInt8).length from HI1.out) hpL') hz
          have hub := c.toNat_lt
          have z0 : 0 ≤ z := by omega
          have z1 : z < 256 := by omega
          have hdg := fun w => fdigit_any c w
          rw [hz, h4] at hdg
          have HDG := Lib.hid hdg
          have HZ := Lib.hid hz; have HD := Lib.hid h1; have H4 := Lib.hid h4
          clear hdg hz hub h1 h2 h3 h4
          have t2 : ¬ (p : Int) < 9 := by have := HI1.out; have := HE3.out; omega
          by_cases hJ0 : TX.cnt 9 t = 0
          · have e0 : ((p : Int) == 0) = true := by have := HI1.out; simp; omega
            obtain ⟨f1, f2⟩ := HBAD.out (psz_a hJ0)
            have F1 := Lib.hid f1; have F2 := Lib.hid f2
            clear f1 f2 hJ0 hJ hc0 i1 i3
            go_wp2_with (go_at_call 112; refine (HDG.out _).mono ?_; rintro e w' ⟨rfl, rfl⟩)
            go_ret2
            exact ret_fb F1.out.symm F2.out.symm rfl
          · have e0 : ((p : Int) == 0) = false := by have := HI1.out; simp; omega
            obtain ⟨c0, q1, q2⟩ := hc0 hJ0
            have hfl : 0 < LN := by
              have h5 := (TX.cnt_le 9 t).2; have := HLN.out; omega
            have hfL : 0 < (⟨l.toArray⟩ : ByteArray).size := by omega
            have hflI : (0 : Int) < (LN : Int) := by omega
            obtain ⟨y, hy⟩ : ∃ y : Int, (c0.toNat : Int) = y := ⟨_, rfl⟩
            have hi0 := i_of (at_l HLT.out q2 (show 0 = 0 + ([] : List UInt8).length from rfl) hfL) hy
            have hyb := c0.toNat_lt
            have y0 : 0 ≤ y := by omega
            have y1 : y < 256 := by omega
            have h48 : (y == 48) = (c0 == 48) := by rw [← hy]; exact byte_eq c0 48
            by_cases hno : 1 < TX.cnt 9 t ∧ c0 = 48
            · have u1 : 1 < (p : Int) := by have := HI1.out; omega
              have u2 : (y == 48) = true := by rw [h48]; simpa using hno.2
              obtain ⟨f1, f2⟩ := HBAD.out (psz_b hno.1 (by rw [q1, hno.2]))
              have F1 := Lib.hid f1; have F2 := Lib.hid f2
              clear f1 f2 hJ0 hJ hc0 i1 i3 q1 q2 hy hyb h48 hno hfl
              go_wp2_with (go_at_call 112; refine (HDG.out _).mono ?_; rintro e w' ⟨rfl, rfl⟩)
              go_ret2
              exact ret_fb F1.out.symm F2.out.symm rfl
            · have HNO : Hid (¬ (1 < TX.cnt 9 t ∧ t.head? = some 48)) := Lib.hid (by rw [q1]; simpa using hno)
              have HJ0 := Lib.hid hJ0
              have u12 : (¬ 1 < (p : Int)) ∨ (1 < (p : Int) ∧ (y == 48) = false) := by
                have := HI1.out
                by_cases h1 : 1 < TX.cnt 9 t
                · right
                  refine ⟨by omega, ?_⟩
                  rw [h48]
                  have : c0 ≠ 48 := fun e => hno ⟨h1, e⟩
                  simpa using this
                · left; omega
              clear hJ0 hc0 q1 q2 hy hyb h48 hno hfl i1 i3 hJ
              have hz46 : (z == 46) = false := by
                have := isD_yes H4.out; have := HZ.out; simp; omega
              have hc46 : c ≠ 46 := by rintro rfl; have := H4.out; cases this
              obtain ⟨f1, f2⟩ := HBAD.out (psz_d HD.out hc46)
              have F1 := Lib.hid f1; have F2 := Lib.hid f2
              clear f1 f2 hc46
              rcases u12 with u1 | ⟨u1, u2⟩
              · exfalso; omega
              · go_wp2_with (go_at_call 112; refine (HDG.out _).mono ?_; rintro e w' ⟨rfl, rfl⟩)
                go_ret2
                exact ret_fb F1.out.symm F2.out.symm rfl
set_option maxHeartbeats 4000000 in
theorem read_core1 (l t : List UInt8) (m1 : (l == [110, 97, 110]) = false) (m2 : (l == [105, 110, 102]) = false) (m3 : (l == [45, 105, 110, 102]) = false) (_n1 : ¬ l = [110, 97, 110]) (_n2 : ¬ l = [105, 110, 102]) (_n3 : ¬ l = [45, 105, 110, 102])
    (hlt : l = [45] ++ t) (hl : l.length ≤ maxLen)
    (hfirst : ∃ h : 0 < (⟨l.toArray⟩ : ByteArray).size, ((((⟨l.toArray⟩ : ByteArray)[0]'h).toNat : Int) == 45) = true)
    (hbad : TX.psz t = none → parF l = 0 ∧ parOk l = false) (hgood : ∀ N K, TX.psz t = some (N, K) → parF l = Ieee.double.word true (TX.qw N K) ∧ parOk l = true) (w : World) :
    Calls Tryz.prog 80 #[.string ⟨l.toArray⟩] w fun e w' => e = .returned (.tuple #[.float .f64 (parF l), .bool (parOk l)]) ∧ w = w' := by
  unfold maxLen at hl
  have HLT := Lib.hid hlt; have HBAD := Lib.hid hbad; have HGOOD := Lib.hid hgood
  have hLN : l.length = t.length + 1 := by rw [hlt]; simp
  have hb63 : l.length ≤ 9223372036854775807 := by omega
  have hsz := str_size l
  obtain ⟨LN, hL⟩ : ∃ LN, l.length = LN := ⟨_, rfl⟩
  rw [hL] at hsz hLN hb63
  have HLN := Lib.hid hLN
  have HB63 := Lib.hid hb63
  obtain ⟨pF', hpF⟩ : ∃ x, x = parF l := ⟨_, rfl⟩
  obtain ⟨pO', hpO⟩ : ∃ x, x = parOk l := ⟨_, rfl⟩
  rw [← hpF, ← hpO]
  rw [← hpF, ← hpO] at HBAD HGOOD
  clear hpF hpO hlt hbad hgood hl hLN hb63
  obtain ⟨hf2, hf3⟩ := hfirst
  have hf : (0 : Int) < (LN : Int) := by omega
  have hone : 1 ≤ LN := by omega
  all_goals
    go_enter Tryz.func80, Tryz.ntmps80
    go_wp2
    go_loop [4, 5] (fun v u => ∃ (p j : Nat) (n : Int), p ≤ LN ∧ v = .int .i64 (p : Int) ∧ u = .int .i64 n ∧ 0 ≤ n ∧ n ≤ 1000000000 ∧ Hid (p = j + 1 ∧ j ≤ TX.cnt 9 t ∧ n = (TX.num 0 (t.take j) : Int))) (fun v _ => LN - (intOf v).toNat)
    case atStart => exact ⟨1, 0, 0, hone, rfl, rfl, by omega, by omega, ⟨by omega, by omega, by rw [List.take_zero, TX.num_nil]; rfl⟩⟩
    case round =>
      obtain ⟨p, j, n, hpL, rfl, rfl, hn0, hn1, HI⟩ := hrel
      by_cases hj : j < TX.cnt 9 t
      · obtain ⟨c, hc, hd, hj9, hjt⟩ := cnt_step hj
        obtain ⟨i1, i2, i3⟩ := HI.out
        have hpl : p < LN := by have := HLN.out; omega
        have hpL' : p < (⟨l.toArray⟩ : ByteArray).size := by omega
        obtain ⟨z, hz⟩ : ∃ z : Int, (c.toNat : Int) = z := ⟨_, rfl⟩
        have hi := i_of (at_l HLT.out hc (show p = j + ([45] : List UInt8).length from i1) hpL') hz
        have hdg := fun w => fdigit_any c w
        rw [hz, hd] at hdg
        have HDG := Lib.hid hdg
        have hyes := isD_yes hd
        have z1 : 48 ≤ z := by omega
        have z2 : z ≤ 57 := by omega
        have e1 := num_go hc hd i3
        rw [hz] at e1
        have hb := bd9 (t := t) (j := j) (by omega)
        have hb2 := bd9 (t := t) (j := j + 1) (by omega)
        have n8 : n ≤ 100000000 := by omega
        have s0 : 0 ≤ n * 10 + (z - 48) := by omega
        have s1 : n * 10 + (z - 48) ≤ 1000000000 := by omega
        have HI2 : Hid (p + 1 = j + 1 + 1 ∧ j + 1 ≤ TX.cnt 9 t ∧ n * 10 + (z - 48) = (TX.num 0 (t.take (j + 1)) : Int)) := Lib.hid ⟨by omega, by omega, e1⟩
        have t1 : (p : Int) < (LN : Int) := by omega
        have t2 : ((p : Int) - 1) < 9 := by omega
        clear hdg hyes e1 hb hb2 i1 i2 i3 hj hj9 hjt hd hc hz
        go_wp2_with (go_at_call 112; refine (HDG.out _).mono ?_; rintro e w' ⟨rfl, rfl⟩)
        go_round
        case rel => exact ⟨p + 1, j + 1, n * 10 + (z - 48), by omega, by go_num, rfl, s0, s1, HI2.out⟩
        case measure => simp [intOf]; omega
      · obtain ⟨i1, i2, i3⟩ := HI.out
        obtain rfl : j = TX.cnt 9 t := by omega
        have hst := cnt_stop 9 t
        have HJ := Lib.hid (show TX.cnt 9 t ≤ 9 from (TX.cnt_le 9 t).1)
        have hc0 : TX.cnt 9 t ≠ 0 → ∃ c0, t.head? = some c0 ∧ t[0]? = some c0 := by
          intro h
          cases t with
          | nil => exact absurd rfl h
          | cons c0 _ => exact ⟨c0, rfl, rfl⟩
        obtain ⟨J, hJ⟩ : ∃ J, TX.cnt 9 t = J := ⟨_, rfl⟩
        have HJJ := Lib.hid hJ
        have HI1 := Lib.hid i1; have HI3 := Lib.hid i3
        have pb : (p : Int) ≤ 10 := by have := HJ.out; omega
        clear i2 hj HI
        rcases hst with hs | ⟨c, r, h1, h2, h3, h4 | ⟨h4, h9⟩⟩
        · have t1 : ¬ (p : Int) < (LN : Int) := by have := HLN.out; have := HI1.out; omega
          have HE := Lib.hid hs
          by_cases hJ0 : TX.cnt 9 t = 0
          · have e0 : ((p : Int) == 1) = true := by have := HI1.out; simp; omega
            obtain ⟨f1, f2⟩ := HBAD.out (psz_a hJ0)
            have F1 := Lib.hid f1; have F2 := Lib.hid f2
            clear f1 f2 hJ0 hJ hc0 i1 i3 hs
            go_wp2
            go_ret2
            exact ret_fb F1.out.symm F2.out.symm rfl
          · have e0 : ((p : Int) == 1) = false := by have := HI1.out; simp; omega
            obtain ⟨c0, q1, q2⟩ := hc0 hJ0
            have hfl : 1 < LN := by
              have h5 := (TX.cnt_le 9 t).2; have := HLN.out; omega
            have hfL : 1 < (⟨l.toArray⟩ : ByteArray).size := by omega
            have hflI : (1 : Int) < (LN : Int) := by omega
            obtain ⟨y, hy⟩ : ∃ y : Int, (c0.toNat : Int) = y := ⟨_, rfl⟩
            have hi0 := i_of (at_l HLT.out q2 (show 1 = 0 + ([45] : List UInt8).length from rfl) hfL) hy
            have hyb := c0.toNat_lt
            have y0 : 0 ≤ y := by omega
            have y1 : y < 256 := by omega
            have h48 : (y == 48) = (c0 == 48) := by rw [← hy]; exact byte_eq c0 48
            by_cases hno : 1 < TX.cnt 9 t ∧ c0 = 48
            · have u1 : 1 < ((p : Int) - 1) := by have := HI1.out; omega
              have u2 : (y == 48) = true := by rw [h48]; simpa using hno.2
              obtain ⟨f1, f2⟩ := HBAD.out (psz_b hno.1 (by rw [q1, hno.2]))
              have F1 := Lib.hid f1; have F2 := Lib.hid f2
              clear f1 f2 hJ0 hJ hc0 i1 i3 q1 q2 hy hyb h48 hno hfl hs
              go_wp2
              go_ret2
              exact ret_fb F1.out.symm F2.out.symm rfl
            · have HNO : Hid (¬ (1 < TX.cnt 9 t ∧ t.head? = some 48)) := Lib.hid (by rw [q1]; simpa using hno)
              have HJ0 := Lib.hid hJ0
              have u12 : (¬ 1 < ((p : Int) - 1)) ∨ (1 < ((p : Int) - 1) ∧ (y == 48) = false) := by
                have := HI1.out
                by_cases h1 : 1 < TX.cnt 9 t
                · right
                  refine ⟨by omega, ?_⟩
                  rw [h48]
                  have : c0 ≠ 48 := fun e => hno ⟨h1, e⟩
                  simpa using this
                · left; omega
              clear hJ0 hc0 q1 q2 hy hyb h48 hno hfl i1 i3 hJ hs
              have hN := bd9 (t := t) (j := TX.cnt 9 t) (Nat.le_refl _)
              obtain ⟨f1, f2⟩ := HGOOD.out _ _ (psz_c HJ0.out HNO.out HE.out)
              obtain ⟨v1, v2, _⟩ := TX.qdiv (n := TX.num 0 (t.take (TX.cnt 9 t))) (k := 0) (by omega) (by decide)
              have HV1 := v1
              obtain ⟨Q, hQ⟩ : ∃ Q, Q = TX.qw (TX.num 0 (t.take (TX.cnt 9 t))) (0) := ⟨_, rfl⟩
              rw [← hQ] at HV1 v2 f1
              have hvar : ((TX.num 0 (t.take (TX.cnt 9 t)) : Nat) : Int) = n := (HI3.out).symm
              rw [hvar] at HV1
              have hTN := fun w => rten_any (0) (by omega) w
              obtain ⟨Y, hY⟩ : ∃ Y : Int, Y = ((10 ^ (0) : Nat) : Int) := ⟨_, rfl⟩
              rw [← hY] at HV1 hTN
              have HTN := Lib.hid hTN
              have HDV : ∀ w t, (binOp .quo t (.float .f64 (floatOfInt .f64 n)) (.float .f64 (floatOfInt .f64 Y))).run Tryz.prog w = .ok (.float .f64 Q) w := fun w t => run_float_arith w .quo t .f64 _ _ _ HV1
              have hneg : Op.negFloat .f64 Q = Ieee.double.word true Q := by
                have hb := FM.infR_lt
                have h5 : FM.sgn Q = false := by unfold FM.sgn; simp; omega
                rw [neg_word Q (by omega), h5, rg_of_lt v2]; rfl
              obtain ⟨Q2, hQ2⟩ : ∃ Q2, Q2 = Ieee.double.word true Q := ⟨_, rfl⟩
              rw [← hQ2] at hneg f1
              have F1 := Lib.hid f1; have F2 := Lib.hid f2
              clear f1 f2 v1 v2 HV1 hvar hTN hY hQ hQ2
              rcases u12 with u1 | ⟨u1, u2⟩
              all_goals
                go_wp2_with (go_at_call 75; refine (HTN.out _).mono ?_; rintro e w' ⟨rfl, rfl⟩)
                go_ret2
                exact ret_fb F1.out.symm F2.out.symm rfl
        · have hpl : p < LN := by have := HLN.out; have := HI1.out; omega
          have hpL' : p < (⟨l.toArray⟩ : ByteArray).size := by omega
          have t1 : (p : Int) < (LN : Int) := by omega
          obtain ⟨z, hz⟩ : ∃ z : Int, (c.toNat : Int) = z := ⟨_, rfl⟩
          have hi := i_of (at_l HLT.out h2 (show p = TX.cnt 9 t + ([45] : List UInt8).length from HI1.out) hpL') hz
          have hub := c.toNat_lt
          have z0 : 0 ≤ z := by omega
          have z1 : z < 256 := by omega
          have hdg := fun w => fdigit_any c w
          rw [hz, h4] at hdg
          have HDG := Lib.hid hdg
          have HZ := Lib.hid hz; have HD := Lib.hid h1; have H4 := Lib.hid h4
          clear hdg hz hub h1 h2 h3 h4
          by_cases hJ0 : TX.cnt 9 t = 0
          · have e0 : ((p : Int) == 1) = true := by have := HI1.out; simp; omega
            obtain ⟨f1, f2⟩ := HBAD.out (psz_a hJ0)
            have F1 := Lib.hid f1; have F2 := Lib.hid f2
            clear f1 f2 hJ0 hJ hc0 i1 i3
            go_wp2_with (go_at_call 112; refine (HDG.out _).mono ?_; rintro e w' ⟨rfl, rfl⟩)
            go_ret2
            exact ret_fb F1.out.symm F2.out.symm rfl
          · have e0 : ((p : Int) == 1) = false := by have := HI1.out; simp; omega
            obtain ⟨c0, q1, q2⟩ := hc0 hJ0
            have hfl : 1 < LN := by
              have h5 := (TX.cnt_le 9 t).2; have := HLN.out; omega
            have hfL : 1 < (⟨l.toArray⟩ : ByteArray).size := by omega
            have hflI : (1 : Int) < (LN : Int) := by omega
            obtain ⟨y, hy⟩ : ∃ y : Int, (c0.toNat : Int) = y := ⟨_, rfl⟩
            have hi0 := i_of (at_l HLT.out q2 (show 1 = 0 + ([45] : List UInt8).length from rfl) hfL) hy
            have hyb := c0.toNat_lt
            have y0 : 0 ≤ y := by omega
            have y1 : y < 256 := by omega
            have h48 : (y == 48) = (c0 == 48) := by rw [← hy]; exact byte_eq c0 48
            by_cases hno : 1 < TX.cnt 9 t ∧ c0 = 48
            · have u1 : 1 < ((p : Int) - 1) := by have := HI1.out; omega
              have u2 : (y == 48) = true := by rw [h48]; simpa using hno.2
              obtain ⟨f1, f2⟩ := HBAD.out (psz_b hno.1 (by rw [q1, hno.2]))
              have F1 := Lib.hid f1; have F2 := Lib.hid f2
              clear f1 f2 hJ0 hJ hc0 i1 i3 q1 q2 hy hyb h48 hno hfl
              go_wp2_with (go_at_call 112; refine (HDG.out _).mono ?_; rintro e w' ⟨rfl, rfl⟩)
              go_ret2
              exact ret_fb F1.out.symm F2.out.symm rfl
            · have HNO : Hid (¬ (1 < TX.cnt 9 t ∧ t.head? = some 48)) := Lib.hid (by rw [q1]; simpa using hno)
              have HJ0 := Lib.hid hJ0
              have u12 : (¬ 1 < ((p : Int) - 1)) ∨ (1 < ((p : Int) - 1) ∧ (y == 48) = false) := by
                have := HI1.out
                by_cases h1 : 1 < TX.cnt 9 t
                · right
                  refine ⟨by omega, ?_⟩
                  rw [h48]
                  have : c0 ≠ 48 := fun e => hno ⟨h1, e⟩
                  simpa using this
                · left; omega
              clear hJ0 hc0 q1 q2 hy hyb h48 hno hfl i1 i3 hJ
              by_cases hc46 : c = 46
              · subst hc46
                obtain rfl : (46 : Int) = z := HZ.out
                have hN := bd9 (t := t) (j := TX.cnt 9 t) (Nat.le_refl _)
                obtain ⟨N0, hN0⟩ : ∃ N0, N0 = TX.num 0 (t.take (TX.cnt 9 t)) := ⟨_, rfl⟩
                rw [← hN0] at hN
                have HN0 := Lib.hid hN0
                have hnN : n = (N0 : Int) := by rw [hN0]; exact HI3.out
                have HNN := Lib.hid hnN
                have HNB := Lib.hid hN
                have hr : r = t.drop (TX.cnt 9 t + 1) := by
                  have := congrArg (List.drop 1) HD.out
                  rw [List.drop_drop] at this
                  exact this.symm
                have hrl : t.length = TX.cnt 9 t + 1 + r.length := by
                  have := congrArg List.length HD.out
                  simp at this; omega
                have HRL := Lib.hid hrl
                have HRG : Hid (∀ (k : Nat) (c : UInt8), r[k]? = some c → t[TX.cnt 9 t + 1 + k]? = some c) := Lib.hid (by
                  intro k c h; rw [hr, List.getElem?_drop] at h; exact h)
                clear hN0 hnN hN hr hrl
                rcases u12 with u1 | ⟨u1, u2⟩
                all_goals
                  go_wp2_with (go_at_call 112; refine (HDG.out _).mono ?_; rintro e w' ⟨rfl, rfl⟩)
                  go_loop [4, 5, 6] (fun v u x => ∃ (p2 k : Nat) (m : Int), p2 ≤ LN ∧ v = .int .i64 (p2 : Int) ∧ u = .int .i64 m ∧ x = .int .i64 (k : Int) ∧ k ≤ 6 ∧ 0 ≤ m ∧ m ≤ 1000000000000000 ∧ Hid (p2 = TX.cnt 9 t + 1 + k + 1 ∧ k ≤ TX.cnt 6 r ∧ m = (TX.num N0 (r.take k) : Int))) (fun v _ _ => LN - (intOf v).toNat)
                  case atStart => exact ⟨p + 1, 0, n, by omega, by go_num, rfl, rfl, by omega, hn0, by omega, ⟨by have := HI1.out; omega, by omega, by rw [List.take_zero, TX.num_nil]; exact HNN.out⟩⟩
                  case round =>
                    obtain ⟨p2, k, m, hp2, rfl, rfl, rfl, hk6, hm0, hm1, HI2⟩ := hrel
                    by_cases hk : k < TX.cnt 6 r
                    · obtain ⟨c, hc, hd, hk9, hkr⟩ := cnt_step hk
                      obtain ⟨i1, i2, i3⟩ := HI2.out
                      have hpl2 : p2 < LN := by have := HLN.out; have := HRL.out; omega
                      have hpL2 : p2 < (⟨l.toArray⟩ : ByteArray).size := by omega
                      obtain ⟨z, hz⟩ : ∃ z : Int, (c.toNat : Int) = z := ⟨_, rfl⟩
                      have hi2 := i_of (at_l HLT.out (HRG.out k c hc) (show p2 = TX.cnt 9 t + 1 + k + ([45] : List UInt8).length from i1) hpL2) hz
                      have hdg := fun w => fdigit_any c w
                      rw [hz, hd] at hdg
                      have HDG2 := Lib.hid hdg
                      have hyes := isD_yes hd
                      have z1 : 48 ≤ z := by omega
                      have z2 : z ≤ 57 := by omega
                      have e1 := num_go hc hd i3
                      rw [hz] at e1
                      have hb := bd6 (r := r) (m := N0) (k := k) HNB.out (by omega)
                      have hb2 := bd6 (r := r) (m := N0) (k := k + 1) HNB.out (by omega)
                      have s0 : 0 ≤ m * 10 + (z - 48) := by omega
                      have s1 : m * 10 + (z - 48) ≤ 1000000000000000 := by omega
                      have HI3' : Hid (p2 + 1 = TX.cnt 9 t + 1 + (k + 1) + 1 ∧ k + 1 ≤ TX.cnt 6 r ∧ m * 10 + (z - 48) = (TX.num N0 (r.take (k + 1)) : Int)) := Lib.hid ⟨by omega, by omega, e1⟩
                      have t1' : (p2 : Int) < (LN : Int) := by omega
                      have t2' : (k : Int) < 6 := by omega
                      have HR1 : Hid (p2 + 1 ≤ LN) := Lib.hid hpl2
                      have pb2 : (p2 : Int) ≤ 17 := by have := HJ.out; omega
                      clear hdg hyes e1 hb hb2 i1 i2 i3 hk hk9 hkr hd hc hz
                      go_wp2_with (go_at_call 112; refine (HDG2.out _).mono ?_; rintro e w' ⟨rfl, rfl⟩)
                      go_round
                      case rel => exact ⟨p2 + 1, k + 1, m * 10 + (z - 48), HR1.out, by go_num, rfl, by go_num, by omega, s0, s1, HI3'.out⟩
                      case measure => have := HR1.out; simp [intOf]; omega
                    · obtain ⟨i1, i2, i3⟩ := HI2.out
                      obtain rfl : k = TX.cnt 6 r := by omega
                      have hst2 := cnt_stop 6 r
                      have HP2 := Lib.hid i1; have HM2 := Lib.hid i3
                      have pb2 : (p2 : Int) ≤ 17 := by have := HJ.out; omega
                      clear i2 hk HI2 i1 i3
                      obtain ⟨K, hK⟩ : ∃ K, TX.cnt 6 r = K := ⟨_, rfl⟩
                      have HK := Lib.hid hK
                      rcases hst2 with hs2 | ⟨c, r2, h1, h2, h3, h4 | ⟨h4, h6⟩⟩
                      · have t1' : ¬ (p2 : Int) < (LN : Int) := by have := HLN.out; have := HP2.out; have := HRL.out; omega
                        by_cases hK0 : TX.cnt 6 r = 0
                        · obtain ⟨f1, f2⟩ := HBAD.out (psz_e HD.out (.inl hK0))
                          have F1 := Lib.hid f1; have F2 := Lib.hid f2
                          have e0' : ((TX.cnt 6 r : Int) == 0) = true := by simpa using hK0
                          clear f1 f2 hK0 hs2 hK
                          go_wp2
                          go_ret2
                          exact ret_fb F1.out.symm F2.out.symm rfl
                        · obtain ⟨f1, f2⟩ := HGOOD.out _ _ (psz_f HJ0.out HNO.out HD.out hK0 hs2)
                          rw [← HN0.out] at f1
                          have hN15 := bd6 (r := r) (m := N0) (k := TX.cnt 6 r) HNB.out (Nat.le_refl _)
                          obtain ⟨v1, v2, _⟩ := TX.qdiv (n := TX.num N0 (r.take (TX.cnt 6 r))) (k := TX.cnt 6 r) (by omega) hk6
                          have e0' : ((TX.cnt 6 r : Int) == 0) = false := by simpa using hK0
                          have HV1 := v1
                          obtain ⟨Q, hQ⟩ : ∃ Q, Q = TX.qw (TX.num N0 (r.take (TX.cnt 6 r))) (TX.cnt 6 r) := ⟨_, rfl⟩
                          rw [← hQ] at HV1 v2 f1
                          have hvar : ((TX.num N0 (r.take (TX.cnt 6 r)) : Nat) : Int) = m := (HM2.out).symm
                          rw [hvar] at HV1
                          have hTN := fun w => rten_any (TX.cnt 6 r) (by omega) w
                          obtain ⟨Y, hY⟩ : ∃ Y : Int, Y = ((10 ^ (TX.cnt 6 r) : Nat) : Int) := ⟨_, rfl⟩
                          rw [← hY] at HV1 hTN
                          have HTN := Lib.hid hTN
                          have HDV : ∀ w t, (binOp .quo t (.float .f64 (floatOfInt .f64 m)) (.float .f64 (floatOfInt .f64 Y))).run Tryz.prog w = .ok (.float .f64 Q) w := fun w t => run_float_arith w .quo t .f64 _ _ _ HV1
                          have hneg : Op.negFloat .f64 Q = Ieee.double.word true Q := by
                            have hb := FM.infR_lt
                            have h5 : FM.sgn Q = false := by unfold FM.sgn; simp; omega
                            rw [neg_word Q (by omega), h5, rg_of_lt v2]; rfl
                          obtain ⟨Q2, hQ2⟩ : ∃ Q2, Q2 = Ieee.double.word true Q := ⟨_, rfl⟩
                          rw [← hQ2] at hneg f1
                          have F1 := Lib.hid f1; have F2 := Lib.hid f2
                          clear f1 f2 v1 v2 HV1 hvar hTN hY hQ hQ2 hK0 hs2 hK hN15
                          go_wp2_with (go_at_call 75; refine (HTN.out _).mono ?_; rintro e w' ⟨rfl, rfl⟩)
                          go_ret2
                          exact ret_fb F1.out.symm F2.out.symm rfl
                      · have hpl2 : p2 < LN := by have := HLN.out; have := HP2.out; have := HRL.out; omega
                        have hpL2 : p2 < (⟨l.toArray⟩ : ByteArray).size := by omega
                        have t1' : (p2 : Int) < (LN : Int) := by omega
                        obtain ⟨z, hz⟩ : ∃ z : Int, (c.toNat : Int) = z := ⟨_, rfl⟩
                        have hi2 := i_of (at_l HLT.out (HRG.out _ c h2) (show p2 = TX.cnt 9 t + 1 + TX.cnt 6 r + ([45] : List UInt8).length from HP2.out) hpL2) hz
                        have hub := c.toNat_lt
                        have z0 : 0 ≤ z := by omega
                        have z1 : z < 256 := by omega
                        have hdg := fun w => fdigit_any c w
                        rw [hz, h4] at hdg
                        have HDG2 := Lib.hid hdg
                        obtain ⟨f1, f2⟩ := HBAD.out (psz_e HD.out (.inr (by omega)))
                        have F1 := Lib.hid f1; have F2 := Lib.hid f2
                        have ek : ((TX.cnt 6 r : Int) == 0) = true ∨ ((TX.cnt 6 r : Int) == 0) = false := by cases ((TX.cnt 6 r : Int) == 0) <;> simp
                        clear f1 f2 hdg hz hub h1 h2 h3 h4 hK
                        rcases ek with ek | ek
                        all_goals
                          go_wp2_with (go_at_call 112; refine (HDG2.out _).mono ?_; rintro e w' ⟨rfl, rfl⟩)
                          go_ret2
                          exact ret_fb F1.out.symm F2.out.symm rfl
                      · have hpl2 : p2 < LN := by have := HLN.out; have := HP2.out; have := HRL.out; omega
                        have hpL2 : p2 < (⟨l.toArray⟩ : ByteArray).size := by omega
                        have t1' : (p2 : Int) < (LN : Int) := by omega
                        obtain ⟨z, hz⟩ : ∃ z : Int, (c.toNat : Int) = z := ⟨_, rfl⟩
                        have hi2 := i_of (at_l HLT.out (HRG.out _ c h2) (show p2 = TX.cnt 9 t + 1 + TX.cnt 6 r + ([45] : List UInt8).length from HP2.out) hpL2) hz
                        have hub := c.toNat_lt
                        have z0 : 0 ≤ z := by omega
                        have z1 : z < 256 := by omega
                        have hdg := fun w => fdigit_any c w
                        rw [hz, h4] at hdg
                        have HDG2 := Lib.hid hdg
                        obtain ⟨f1, f2⟩ := HBAD.out (psz_e HD.out (.inr (by omega)))
                        have F1 := Lib.hid f1; have F2 := Lib.hid f2
                        have t2' : ¬ (TX.cnt 6 r : Int) < 6 := by omega
                        have ek : ((TX.cnt 6 r : Int) == 0) = true ∨ ((TX.cnt 6 r : Int) == 0) = false := by cases ((TX.cnt 6 r : Int) == 0) <;> simp
                        clear f1 f2 hdg hz hub h1 h2 h3 h4 hK h6
                        rcases ek with ek | ek
                        all_goals
                          go_wp2_with (go_at_call 112; refine (HDG2.out _).mono ?_; rintro e w' ⟨rfl, rfl⟩)
                          go_ret2
                          exact ret_fb F1.out.symm F2.out.symm rfl
              · have hz46 : (z == 46) = false := by
                  rw [← HZ.out]
                  exact (byte_eq c 46).trans (by simpa using hc46)
                obtain ⟨f1, f2⟩ := HBAD.out (psz_d HD.out hc46)
                have F1 := Lib.hid f1; have F2 := Lib.hid f2
                clear f1 f2 hc46
                rcases u12 with u1 | ⟨u1, u2⟩
                all_goals
                  go_wp2_with (go_at_call 112; refine (HDG.out _).mono ?_; rintro e w' ⟨rfl, rfl⟩)
                  go_ret2
                  exact ret_fb F1.out.symm F2.out.symm rfl
        · have HE3 := Lib.hid h9
          clear h9
          have hpl : p < LN := by have := HLN.out; have := HI1.out; omega
          have hpL' : p < (⟨l.toArray⟩ : ByteArray).size := by omega
          have t1 : (p : Int) < (LN : Int) := by omega
          obtain ⟨z, hz⟩ : ∃ z : Int, (c.toNat : Int) = z := ⟨_, rfl⟩
          have hi := i_of (at_l HLT.out h2 (show p = TX.cnt 9 t + ([45] : List UInt8).length from HI1.out) hpL') hz
          have hub := c.toNat_lt
          have z0 : 0 ≤ z := by omega
          have z1 : z < 256 := by omega
          have hdg := fun w => fdigit_any c w
          rw [hz, h4] at hdg
          have HDG := Lib.hid hdg
          have HZ := Lib.hid hz; have HD := Lib.hid h1; have H4 := Lib.hid h4
          clear hdg hz hub h1 h2 h3 h4
          have t2 : ¬ ((p : Int) - 1) < 9 := by have := HI1.out; have := HE3.out; omega
          by_cases hJ0 : TX.cnt 9 t = 0
          · have e0 : ((p : Int) == 1) = true := by have := HI1.out; simp; omega
            obtain ⟨f1, f2⟩ := HBAD.out (psz_a hJ0)
            have F1 := Lib.hid f1; have F2 := Lib.hid f2
            clear f1 f2 hJ0 hJ hc0 i1 i3
            go_wp2_with (go_at_call 112; refine (HDG.out _).mono ?_; rintro e w' ⟨rfl, rfl⟩)
            go_ret2
            exact ret_fb F1.out.symm F2.out.symm rfl
          · have e0 : ((p : Int) == 1) = false := by have := HI1.out; simp; omega
            obtain ⟨c0, q1, q2⟩ := hc0 hJ0
            have hfl : 1 < LN := by
              have h5 := (TX.cnt_le 9 t).2; have := HLN.out; omega
            have hfL : 1 < (⟨l.toArray⟩ : ByteArray).size := by omega
            have hflI : (1 : Int) < (LN : Int) := by omega
            obtain ⟨y, hy⟩ : ∃ y : Int, (c0.toNat : Int) = y := ⟨_, rfl⟩
            have hi0 := i_of (at_l HLT.out q2 (show 1 = 0 + ([45] : List UInt8).length from rfl) hfL) hy
            have hyb := c0.toNat_lt
            have y0 : 0 ≤ y := by omega
            have y1 : y < 256 := by omega
            have h48 : (y == 48) = (c0 == 48) := by rw [← hy]; exact byte_eq c0 48
            by_cases hno : 1 < TX.cnt 9 t ∧ c0 = 48
            · have u1 : 1 < ((p : Int) - 1) := by have := HI1.out; omega
              have u2 : (y == 48) = true := by rw [h48]; simpa using hno.2
              obtain ⟨f1, f2⟩ := HBAD.out (psz_b hno.1 (by rw [q1, hno.2]))
              have F1 := Lib.hid f1; have F2 := Lib.hid f2
              clear f1 f2 hJ0 hJ hc0 i1 i3 q1 q2 hy hyb h48 hno hfl
              go_wp2_with (go_at_call 112; refine (HDG.out _).mono ?_; rintro e w' ⟨rfl, rfl⟩)
              go_ret2
              exact ret_fb F1.out.symm F2.out.symm rfl
            · have HNO : Hid (¬ (1 < TX.cnt 9 t ∧ t.head? = some 48)) := Lib.hid (by rw [q1]; simpa using hno)
              have HJ0 := Lib.hid hJ0
              have u12 : (¬ 1 < ((p : Int) - 1)) ∨ (1 < ((p : Int) - 1) ∧ (y == 48) = false) := by
                have := HI1.out
                by_cases h1 : 1 < TX.cnt 9 t
                · right
                  refine ⟨by omega, ?_⟩
                  rw [h48]
                  have : c0 ≠ 48 := fun e => hno ⟨h1, e⟩
                  simpa using this
                · left; omega
              clear hJ0 hc0 q1 q2 hy hyb h48 hno hfl i1 i3 hJ
              have hz46 : (z == 46) = false := by
                have := isD_yes H4.out; have := HZ.out; simp; omega
              have hc46 : c ≠ 46 := by rintro rfl; have := H4.out; cases this
              obtain ⟨f1, f2⟩ := HBAD.out (psz_d HD.out hc46)
              have F1 := Lib.hid f1; have F2 := Lib.hid f2
              clear f1 f2 hc46
              rcases u12 with u1 | ⟨u1, u2⟩
              · exfalso; omega
              · go_wp2_with (go_at_call 112; refine (HDG.out _).mono ?_; rintro e w' ⟨rfl, rfl⟩)
                go_ret2
                exact ret_fb F1.out.symm F2.out.symm rfl
end Go.Proofs.YtgfhabofhefaaaaGreatDoor
