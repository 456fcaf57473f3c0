/- Walks of package ratio's parseSize and Parse. -/
import Derived.Test.YtbinhlnekhglkaaDoorRatQ
namespace Go.Proofs.YtbinhlnekhglkaaDoor
open Go.RowKit

theorem areD_is {l : List UInt8} {m : Nat} (h : TX.areD l m = true) : l ≠ [] ∧ l.length ≤ m ∧ ∀ c ∈ l, TX.isD c = true := by
  unfold TX.areD at h
  simp only [Bool.and_eq_true, decide_eq_true_eq, List.all_eq_true] at h
  refine ⟨?_, h.1.2, h.2⟩
  intro e
  rw [e] at h
  simp at h
theorem num_step {T : List UInt8} {k : Nat} {c : UInt8} {n : Int} (hc : T[k]? = some c) (hd : TX.isD c = true) (h : n = (TX.num 0 (T.take k) : Int)) (hall : ∀ d ∈ T, TX.isD d = true) (hT : T.length ≤ 15) :
    n * 10 + ((c.toNat : Int) - 48) = (TX.num 0 (T.take (k + 1)) : Int) ∧ 0 ≤ n ∧ n ≤ 100000000000000 := by
  have h1 := isD_yes hd
  have hk : k < T.length := by
    rcases Nat.lt_or_ge k T.length with h1 | h1
    · exact h1
    · rw [List.getElem?_eq_none h1] at hc; cases hc
  have h2 := num_lt (T.take k) 0 (fun d hm => hall d (List.mem_of_mem_take hm))
  have h3 : (T.take k).length ≤ 14 := by rw [List.length_take]; omega
  have h4 : 10 ^ (T.take k).length ≤ 10 ^ 14 := Nat.pow_le_pow_right (by decide) h3
  have e14 : (10 : Nat) ^ 14 = 100000000000000 := by decide
  rw [List.take_add_one, hc, TX.num_append]
  show _ = ((TX.num (TX.num 0 (T.take k)) [c] : Nat) : Int) ∧ _
  rw [TX.num_cons, TX.num_nil]
  omega
def pszBy (whole part : List UInt8) (point : Bool) : Bool := TX.areD whole 9 && !TX.nought whole && (!point || TX.areD part 6)

set_option maxHeartbeats 2000000 in
theorem psize_core (l whole part : List UInt8) (point : Bool) (hw : whole.length ≤ maxLen) (hp : part.length ≤ maxLen) (hpt : point = false → part = [])
    (hcut : ∀ w, Calls Tryd.prog 58 #[.string ⟨l.toArray⟩, .string ⟨#[46]⟩] w fun e w' => e = .returned (.tuple #[.string ⟨whole.toArray⟩, .string ⟨part.toArray⟩, .bool point]) ∧ Below w.heap.size w w')
    (hps : TX.psz l = if pszBy whole part point then some (TX.num 0 (whole ++ part), part.length) else none) (w : World) :
    Calls Tryd.prog 47 #[.string ⟨l.toArray⟩] w fun e w' => e = .returned (.tuple #[.float .f64 (pF l), .bool (pOk l)]) ∧ Below w.heap.size w w' := by
  have HCUT := Lib.hid hcut
  have HAR := Lib.hid (fun w => areDigits_any whole 9 hw (.inl rfl) w)
  have HNO := Lib.hid (fun w => nought_any whole w hw)
  have HAP := Lib.hid (fun w => areDigits_any part 6 hp (.inr rfl) w)
  clear hcut hw hp
  have bad : pszBy whole part point = false → pF l = 0 ∧ pOk l = false := by
    intro h
    rw [h] at hps
    simp only [Bool.false_eq_true, if_false] at hps
    unfold pF pOk; rw [hps]; exact ⟨rfl, rfl⟩
  have good : pszBy whole part point = true → pF l = TX.qw (TX.num 0 (whole ++ part)) part.length ∧ pOk l = true := by
    intro h
    rw [h] at hps
    simp only [if_true] at hps
    unfold pF pOk; rw [hps]; exact ⟨rfl, rfl⟩
  clear hps
  cases hA : TX.areD whole 9
  · obtain ⟨g1, g2⟩ := bad (by unfold pszBy; rw [hA]; rfl)
    have G1 := Lib.hid g1; have G2 := Lib.hid g2
    clear bad good g1 g2 hpt
    go_enter Tryd.func47, Tryd.ntmps47
    go_wp2_with fail
    refine (HCUT.out _).mono ?_
    rintro e w1 ⟨rfl, b1⟩
    have B1 := Lib.hid b1
    clear b1
    go_wp2_with fail
    refine (HAR.out _).mono ?_
    rintro e w2 ⟨rfl, b2⟩
    have B2 := Lib.hid (below_trans B1.out b2)
    clear b2
    go_wp2
    go_ret2
    exact ret_fb G1.out.symm G2.out.symm B2.out
  · cases hN : TX.nought whole
    · cases hP : point && !TX.areD part 6
      · have hz : pszBy whole part point = true := by
          unfold pszBy; rw [hA, hN]
          cases point
          · rfl
          · have : TX.areD part 6 = true := by simpa using hP
            rw [this]; rfl
        obtain ⟨g1, g2⟩ := good hz
        have G1 := Lib.hid g1; have G2 := Lib.hid g2
        obtain ⟨a1, a2, a3⟩ := areD_is hA
        have hpl : part.length ≤ 6 ∧ ∀ c ∈ part, TX.isD c = true := by
          cases point
          · rw [hpt rfl]; simp
          · have : TX.areD part 6 = true := by simpa using hP
            exact ⟨(areD_is this).2.1, (areD_is this).2.2⟩
        obtain ⟨p1, p2⟩ := hpl
        have hsw := str_size whole; have hsp := str_size part
        have happ := str_app whole part
        obtain ⟨T, hT⟩ : ∃ T, T = whole ++ part := ⟨_, rfl⟩
        have hall : ∀ c ∈ T, TX.isD c = true := by
          intro c hc
          rw [hT] at hc
          rcases List.mem_append.1 hc with h | h
          · exact a3 c h
          · exact p2 c h
        have hTl : T.length ≤ 15 := by rw [hT, List.length_append]; omega
        rw [← hT] at happ G1
        have hnb : TX.num 0 T ≤ 1000000000000000 := by
          have h1 := num_lt T 0 hall
          have h2 : 10 ^ T.length ≤ 10 ^ 15 := Nat.pow_le_pow_right (by decide) hTl
          have e15 : (10 : Nat) ^ 15 = 1000000000000000 := by decide
          omega
        have hdv := (TX.qdiv (n := TX.num 0 T) (k := part.length) hnb p1).1
        have HDV : ∀ w t, (binOp .quo t (.float .f64 (floatOfInt .f64 (TX.num 0 T : Int))) (.float .f64 (floatOfInt .f64 ((10 ^ part.length : Nat) : Int)))).run Tryd.prog w = .ok (.float .f64 (TX.qw (TX.num 0 T) part.length)) w := fun w t => run_float_arith w .quo t .f64 _ _ _ hdv
        have HTN := Lib.hid (fun w => tenTo_any part.length (by omega) w)
        have HAL := Lib.hid hall
        have hcond : (point && !TX.areD part 6) = false := hP
        obtain ⟨Q, hQ⟩ : ∃ Q, Q = TX.qw (TX.num 0 T) part.length := ⟨_, rfl⟩
        rw [← hQ] at G1 HDV
        obtain ⟨X, hX⟩ : ∃ X : Int, X = (TX.num 0 T : Int) := ⟨_, rfl⟩
        rw [← hX] at HDV
        obtain ⟨Y, hY⟩ : ∃ Y : Int, Y = ((10 ^ part.length : Nat) : Int) := ⟨_, rfl⟩
        rw [← hY] at HDV HTN
        have HXX := Lib.hid hX
        have HTT := Lib.hid hT
        obtain ⟨pl, hplen⟩ : ∃ pl, part.length = pl := ⟨_, rfl⟩
        rw [hplen] at HTN hsp p1
        clear hX hY hQ hT hdv hnb hall a3 p2 bad good g1 g2 hz hP hpt
        go_enter Tryd.func47, Tryd.ntmps47
        go_wp2_with fail
        refine (HCUT.out _).mono ?_
        rintro e w1 ⟨rfl, b1⟩
        have B1 := Lib.hid b1
        clear b1
        go_wp2_with fail
        refine (HAR.out _).mono ?_
        rintro e w2 ⟨rfl, b2⟩
        have B2 := Lib.hid (below_trans B1.out b2)
        clear b2
        go_wp2_with fail
        refine (HNO.out _).mono ?_
        rintro e w2' ⟨rfl, rfl⟩
        cases point
        · clear hcond
          obtain ⟨W, cap, hcv, hbw, hcell⟩ := bytes_of T w2
          have HB := Lib.hid (below_trans B2.out hbw)
          have HC := Lib.hid hcell
          obtain ⟨TL, hTL⟩ : ∃ TL, T.length = TL := ⟨_, rfl⟩
          rw [hTL] at hcv hTl
          have HL := Lib.hid hTL
          clear hbw hcell hTL
          go_wp2
          go_loop [7, 34] (fun v i => ∃ (k : Nat) (n : Int), k ≤ TL ∧ i = .int .i64 (k : Int) ∧ v = .int .i64 n ∧ Hid (n = (TX.num 0 (T.take k) : Int))) (fun _ i => TL - (intOf i).toNat)
          case atStart => exact ⟨0, 0, Nat.zero_le _, rfl, rfl, by show _ = _; rw [List.take_zero, TX.num_nil]; rfl⟩
          case round =>
            obtain ⟨k, n, hk, rfl, rfl, HNN⟩ := hrel
            by_cases hlt : k < TL
            · obtain ⟨c, hc⟩ : ∃ c, T[k]? = some c := ⟨T[k]'(by have := HL.out; omega), List.getElem?_eq_getElem _⟩
              have hcl := HC.out k c hc
              have hd := HAL.out c (List.mem_of_getElem? hc)
              obtain ⟨e1, e2, e3⟩ := num_step hc hd HNN.out HAL.out (by have := HL.out; omega)
              obtain ⟨d1, d2⟩ := isD_yes hd
              obtain ⟨z, hz⟩ : ∃ z : Int, (c.toNat : Int) = z := ⟨_, rfl⟩
              rw [hz] at hcl e1
              have z1 : 48 ≤ z := by omega
              have z2 : z ≤ 57 := by omega
              have E1 := Lib.hid e1
              clear e1 hc hd hz d1 d2
              go_wp2
              go_round
              case rel => exact ⟨k + 1, n * 10 + (z - 48), by omega, by go_num, rfl, E1.out⟩
              case measure => simp [intOf]; omega
            · obtain rfl : n = X := by
                have h1 := HNN.out; have h2 := HL.out
                rw [List.take_of_length_le (by omega)] at h1
                rw [h1, HXX.out]
              go_wp2_with (go_at_call 50; refine (HTN.out _).mono ?_; rintro e w' ⟨rfl, rfl⟩)
              go_ret2
              exact ret_fb G1.out.symm G2.out.symm HB.out
        · have hap : TX.areD part 6 = true := by simpa using hcond
          clear hcond
          go_wp2_with fail
          refine (HAP.out _).mono ?_
          rintro e w3 ⟨rfl, b3⟩
          have B3 := Lib.hid (below_trans B2.out b3)
          clear b3
          obtain ⟨W, cap, hcv, hbw, hcell⟩ := bytes_of T w3
          have HB := Lib.hid (below_trans B3.out hbw)
          have HC := Lib.hid hcell
          obtain ⟨TL, hTL⟩ : ∃ TL, T.length = TL := ⟨_, rfl⟩
          rw [hTL] at hcv hTl
          have HL := Lib.hid hTL
          clear hbw hcell hTL
          go_wp2
          go_loop [7, 34] (fun v i => ∃ (k : Nat) (n : Int), k ≤ TL ∧ i = .int .i64 (k : Int) ∧ v = .int .i64 n ∧ Hid (n = (TX.num 0 (T.take k) : Int))) (fun _ i => TL - (intOf i).toNat)
          case atStart => exact ⟨0, 0, Nat.zero_le _, rfl, rfl, by show _ = _; rw [List.take_zero, TX.num_nil]; rfl⟩
          case round =>
            obtain ⟨k, n, hk, rfl, rfl, HNN⟩ := hrel
            by_cases hlt : k < TL
            · obtain ⟨c, hc⟩ : ∃ c, T[k]? = some c := ⟨T[k]'(by have := HL.out; omega), List.getElem?_eq_getElem _⟩
              have hcl := HC.out k c hc
              have hd := HAL.out c (List.mem_of_getElem? hc)
              obtain ⟨e1, e2, e3⟩ := num_step hc hd HNN.out HAL.out (by have := HL.out; omega)
              obtain ⟨d1, d2⟩ := isD_yes hd
              obtain ⟨z, hz⟩ : ∃ z : Int, (c.toNat : Int) = z := ⟨_, rfl⟩
              rw [hz] at hcl e1
              have z1 : 48 ≤ z := by omega
              have z2 : z ≤ 57 := by omega
              have E1 := Lib.hid e1
              clear e1 hc hd hz d1 d2
              go_wp2
              go_round
              case rel => exact ⟨k + 1, n * 10 + (z - 48), by omega, by go_num, rfl, E1.out⟩
              case measure => simp [intOf]; omega
            · obtain rfl : n = X := by
                have h1 := HNN.out; have h2 := HL.out
                rw [List.take_of_length_le (by omega)] at h1
                rw [h1, HXX.out]
              go_wp2_with (go_at_call 50; refine (HTN.out _).mono ?_; rintro e w' ⟨rfl, rfl⟩)
              go_ret2
              exact ret_fb G1.out.symm G2.out.symm HB.out
      · have h1 : point = true := by simp at hP; exact hP.1
        have h2 : TX.areD part 6 = false := by simp at hP; exact hP.2
        subst h1
        obtain ⟨g1, g2⟩ := bad (by unfold pszBy; rw [h2]; simp)
        have G1 := Lib.hid g1; have G2 := Lib.hid g2
        clear bad good g1 g2 hpt
        go_enter Tryd.func47, Tryd.ntmps47
        go_wp2_with fail
        refine (HCUT.out _).mono ?_
        rintro e w1 ⟨rfl, b1⟩
        have B1 := Lib.hid b1
        clear b1
        go_wp2_with fail
        refine (HAR.out _).mono ?_
        rintro e w2 ⟨rfl, b2⟩
        have B2 := Lib.hid (below_trans B1.out b2)
        clear b2
        go_wp2_with fail
        refine (HNO.out _).mono ?_
        rintro e w2' ⟨rfl, rfl⟩
        go_wp2_with fail
        refine (HAP.out _).mono ?_
        rintro e w3 ⟨rfl, b3⟩
        have B3 := Lib.hid (below_trans B2.out b3)
        clear b3
        go_wp2
        go_ret2
        exact ret_fb G1.out.symm G2.out.symm B3.out
    · obtain ⟨g1, g2⟩ := bad (by unfold pszBy; rw [hN]; simp)
      have G1 := Lib.hid g1; have G2 := Lib.hid g2
      clear bad good g1 g2 hpt
      go_enter Tryd.func47, Tryd.ntmps47
      go_wp2_with fail
      refine (HCUT.out _).mono ?_
      rintro e w1 ⟨rfl, b1⟩
      have B1 := Lib.hid b1
      clear b1
      go_wp2_with fail
      refine (HAR.out _).mono ?_
      rintro e w2 ⟨rfl, b2⟩
      have B2 := Lib.hid (below_trans B1.out b2)
      clear b2
      go_wp2_with fail
      refine (HNO.out _).mono ?_
      rintro e w2' ⟨rfl, rfl⟩
      go_wp2
      go_ret2
      exact ret_fb G1.out.symm G2.out.symm B2.out
end Go.Proofs.YtbinhlnekhglkaaDoor
