/- The walks of turncocklaw5's RatioWrite, RatioBack, RatioDigits. -/
import Derived.Test.YtbinhlnekhglkaaDoorRatE
import Derived.Test.YtbinhlnekhglkaaDoorRatZ
namespace Go.Proofs.YtbinhlnekhglkaaDoor
open Go.RowKit

/-- A text that is found stands at the first place. -/
theorem wr_find {x : Nat} (h : isNam x = false) (ho : wrOk x = true) : ∃ k < 7, (∀ j < k, wk x j = none) ∧ wk x k = some (wrS x) ∧ FM.val (FM.rg x) < 1000000000 * FM.U := by
  unfold wrOk wrS wr at *
  rw [h] at ho ⊢
  simp only [Bool.false_eq_true, if_false] at ho ⊢
  split at ho
  · cases ho
  · rename_i hb
    rw [if_neg hb]
    cases hf : (List.range 7).findSome? (wk x) with
    | none => rw [hf] at ho; cases ho
    | some s =>
      have e7 : List.range 7 = [0, 1, 2, 3, 4, 5, 6] := rfl
      have key : ∀ (l : List Nat) (s : List UInt8), l.findSome? (wk x) = some s → ∃ a b k, l = a ++ k :: b ∧ wk x k = some s ∧ ∀ j ∈ a, wk x j = none := by
        intro l s h
        rw [List.findSome?_eq_some_iff] at h
        obtain ⟨a, k, b, h1, h2, h3⟩ := h
        exact ⟨a, b, k, h1, h2, h3⟩
      obtain ⟨a, b, k, h1, h2, h3⟩ := key _ _ hf
      have hlen := congrArg List.length h1
      rw [List.length_range, List.length_append, List.length_cons] at hlen
      have hk : k = a.length := by
        have h4 : (List.range 7)[a.length]? = some k := by rw [h1]; simp
        rw [List.getElem?_range (by omega)] at h4
        exact (Option.some.inj h4).symm
      refine ⟨k, by omega, fun j hj => h3 j ?_, h2, by omega⟩
      have h5 : (List.range 7)[j]? = some j := List.getElem?_range (by omega)
      rw [h1, List.getElem?_append_left (by omega)] at h5
      exact List.mem_of_getElem? h5
theorem wk_text {x k : Nat} {S : List UInt8} (hk : k ≤ 6) (h : wk x k = some S) : S = TX.mns x ++ TX.pnt (TX.allOf (FM.rg x) k / 10 ^ k) (TX.allOf (FM.rg x) k % 10 ^ k) k ∧ TX.allOf (FM.rg x) k / 10 ^ k ≤ 999999999 ∧ TX.qw (TX.allOf (FM.rg x) k) k = FM.rg x ∧ TX.parse S = some (Ieee.double.word (FM.sgn x) (FM.rg x)) := by
  unfold wk at h
  split at h
  · rename_i hc
    have e := Option.some.inj h
    refine ⟨e.symm, hc.1, hc.2, ?_⟩
    rw [← e, parse_pnt x _ k hk, if_pos hc.1, hc.2]
  · cases h
/-- What is written is read as that float. -/
theorem wr_back {x : Nat} (bx : x < 18446744073709551616) (ho : wrOk x = true) : parOk (wrS x) = true ∧ (ordI (parF (wrS x)) x == 0) = true := by
  cases hn : isNam x
  · obtain ⟨k, hk, _, h2, _⟩ := wr_find hn ho
    obtain ⟨_, _, _, h3⟩ := wk_text (by omega) h2
    unfold parOk parF
    rw [h3, Option.getD_some, ← FM.word_eq bx]
    exact ⟨rfl, ordI_self⟩
  · rw [(wr_nam hn).1]
    unfold nam
    cases hx : FM.nan x
    · have hi : FM.rg x = FM.infR := by unfold isNam at hn; rw [hx] at hn; simpa using hn
      simp only [Bool.false_eq_true, if_false]
      rw [if_pos hi]
      have hw := FM.word_eq bx
      rw [hi] at hw
      unfold TX.mns
      cases hs : FM.sgn x
      · rw [hs] at hw
        have e : x = 9218868437227405312 := hw
        rw [e]
        exact ⟨rfl, by decide +kernel⟩
      · rw [hs] at hw
        have e : x = 18442240474082181120 := hw
        rw [e]
        exact ⟨rfl, by decide +kernel⟩
    · have h9 : FM.nan 9221120237041090561 = true := by decide
      refine ⟨rfl, ?_⟩
      show (ordI 9221120237041090561 x == 0) = true
      rw [ordI_nn h9 hx]; rfl
theorem wrS_len {x : Nat} : (wrS x).length ≤ 60 := by
  cases hn : isNam x
  · cases ho : wrOk x
    · have : wrS x = [] := by
        unfold wrS wrOk at *
        cases h : wr x with
        | none => rfl
        | some s => rw [h] at ho; cases ho
      rw [this]; simp
    · obtain ⟨k, hk, _, h2, h3⟩ := wr_find hn ho
      obtain ⟨e, h4, _, _⟩ := wk_text (by omega) h2
      rw [e]
      have hal := TX.allOf_le (r := FM.rg x) (k := k) (by omega) h3 (not_nam hn).2.2
      have h15 := ten6_le (k := k) (by omega)
      have := text_len (x := x) (a := TX.allOf (FM.rg x) k / 10 ^ k) (b := TX.allOf (FM.rg x) k % 10 ^ k) (k := k) (by omega) (by have := Nat.mod_le (TX.allOf (FM.rg x) k) (10 ^ k); omega) (by omega)
      omega
  · rw [(wr_nam hn).1]
    unfold nam
    have := mns_len x
    split
    · simp
    · split
      · rw [List.length_append]; simp; omega
      · simp
set_option maxHeartbeats 2000000 in
theorem ratioWrite_walk (b : Int) (w : World) (hb : (Lit.int .u64 b).wf = true) (ht : PowIs w) :
    Calls Tryd.prog 10 #[.int .u64 b] w fun e w' => e = .returned (.bool true) ∧ Below w.heap.size w w' := by
  have HT := Lib.hid ht
  have xb := u64_word hb
  clear ht hb
  have HXB := Lib.hid (fun w => of5_any b w)
  obtain ⟨x, hx⟩ : ∃ x, x = b.toNat := ⟨_, rfl⟩
  rw [← hx] at xb HXB
  clear hx
  have W1 := Lib.hid (fun w ht => write_any x xb w ht); have W2 := Lib.hid (fun w => rwrite_any x xb w)
  have P1 := Lib.hid (fun w => parse_any (wrS x) (by have := wrS_len (x := x); unfold maxLen; omega) w)
  have AL := fun w => alike_any (parF (wrS x)) x (parF_lt _) xb w
  cases ho : wrOk x
  · rw [ho] at W1 W2
    obtain ⟨S, hS⟩ : ∃ S, S = wrS x := ⟨_, rfl⟩
    rw [← hS] at W1 W2 P1
    obtain ⟨F, hF⟩ : ∃ F, F = parF S := ⟨_, rfl⟩
    obtain ⟨O, hO⟩ : ∃ O, O = parOk S := ⟨_, rfl⟩
    rw [← hF, ← hO] at P1
    clear hS hF hO AL xb
    go_enter Tryd.func10, Tryd.ntmps10
    go_wp2_with fail
    refine (HXB.out _).mono ?_
    rintro e w' ⟨rfl, rfl⟩
    go_wp2_with fail
    refine (W1.out _ HT.out).mono ?_
    rintro e w1 ⟨rfl, b1⟩
    have B1 := Lib.hid b1
    clear b1
    go_wp2_with fail
    refine (HXB.out _).mono ?_
    rintro e w' ⟨rfl, rfl⟩
    go_wp2_with fail
    refine (W2.out _).mono ?_
    rintro e w2 ⟨rfl, b2⟩
    have B2 := Lib.hid (below_trans B1.out b2)
    clear b2
    go_wp2_with fail
    refine (P1.out _).mono ?_
    rintro e w3 ⟨rfl, b3⟩
    have B3 := Lib.hid (below_trans B2.out b3)
    have T3 := Lib.hid (HT.out.below B3.out)
    clear b3
    go_wp2_with fail
    refine (awake5 _ T3.out).mono ?_
    rintro e w4 ⟨rfl, b4⟩
    have B4 := Lib.hid (below_trans B3.out b4)
    clear b4
    go_wp2
    go_ret
    exact ⟨rfl, B4.out⟩
  · obtain ⟨g1, g2⟩ := wr_back xb ho
    rw [ho] at W1 W2
    rw [g1] at P1
    rw [g2] at AL
    have AL := Lib.hid AL
    obtain ⟨S, hS⟩ : ∃ S, S = wrS x := ⟨_, rfl⟩
    rw [← hS] at W1 W2 P1 AL
    obtain ⟨F, hF⟩ : ∃ F, F = parF S := ⟨_, rfl⟩
    rw [← hF] at P1 AL
    clear hS hF xb g1 g2
    go_enter Tryd.func10, Tryd.ntmps10
    go_wp2_with fail
    refine (HXB.out _).mono ?_
    rintro e w' ⟨rfl, rfl⟩
    go_wp2_with fail
    refine (W1.out _ HT.out).mono ?_
    rintro e w1 ⟨rfl, b1⟩
    have B1 := Lib.hid b1
    clear b1
    go_wp2_with fail
    refine (HXB.out _).mono ?_
    rintro e w' ⟨rfl, rfl⟩
    go_wp2_with fail
    refine (W2.out _).mono ?_
    rintro e w2 ⟨rfl, b2⟩
    have B2 := Lib.hid (below_trans B1.out b2)
    clear b2
    go_wp2_with fail
    refine (P1.out _).mono ?_
    rintro e w3 ⟨rfl, b3⟩
    have B3 := Lib.hid (below_trans B2.out b3)
    have T3 := Lib.hid (HT.out.below B3.out)
    clear b3
    go_wp2_with fail
    refine (HXB.out _).mono ?_
    rintro e w' ⟨rfl, rfl⟩
    go_wp2_with fail
    refine (AL.out _).mono ?_
    rintro e w' ⟨rfl, rfl⟩
    go_wp2_with fail
    refine (awake5 _ T3.out).mono ?_
    rintro e w4 ⟨rfl, b4⟩
    have B4 := Lib.hid (below_trans B3.out b4)
    clear b4
    go_wp2
    go_ret
    exact ⟨rfl, B4.out⟩

/-- How long a text is that is read. -/
theorem psz_len {t : List UInt8} {N K : Nat} (h : TX.psz t = some (N, K)) : ∃ J, J ≠ 0 ∧ N / 10 ^ K < 10 ^ J ∧ t.length = J + (if K = 0 then 0 else K + 1) := by
  unfold TX.psz at h
  split at h
  · cases h
  · rename_i hc
    have hj0 : TX.cnt 9 t ≠ 0 := fun e => hc (.inl e)
    have hle := TX.cnt_le 9 t
    have a1 := num_bd (m := 0) (TX.cnt_digits 9 t)
    refine ⟨TX.cnt 9 t, hj0, ?_⟩
    split at h
    · rename_i hd
      simp only [Option.some.injEq, Prod.mk.injEq] at h
      obtain ⟨rfl, rfl⟩ := h
      rw [List.drop_eq_nil_iff] at hd
      refine ⟨by rw [Nat.pow_zero, Nat.div_one]; omega, ?_⟩
      rw [if_pos rfl]; omega
    · rename_i c r hd
      split at h
      · split at h
        · cases h
        · rename_i hk
          simp only [Option.some.injEq, Prod.mk.injEq] at h
          obtain ⟨rfl, rfl⟩ := h
          have hk0 : TX.cnt 6 r ≠ 0 := fun e => hk (.inl e)
          have hkd : r.drop (TX.cnt 6 r) = [] := Decidable.byContradiction fun e => hk (.inr e)
          rw [List.drop_eq_nil_iff] at hkd
          have hle6 := TX.cnt_le 6 r
          have hrl := congrArg List.length hd
          rw [List.length_drop, List.length_cons] at hrl
          have b1 := num_bd (m := TX.num 0 (t.take (TX.cnt 9 t))) (TX.cnt_digits 6 r)
          refine ⟨?_, by rw [if_neg hk0]; omega⟩
          have : TX.num (TX.num 0 (t.take (TX.cnt 9 t))) (r.take (TX.cnt 6 r)) / 10 ^ TX.cnt 6 r < TX.num 0 (t.take (TX.cnt 9 t)) + 1 := by
            rw [Nat.div_lt_iff_lt_mul (TX.ten_pos _)]; exact b1
          omega
      · cases h
theorem pnt_length {a b k : Nat} (hb : b < 10 ^ k) : (TX.pnt a b k).length = Lib.nDigits a + (if k = 0 then 0 else k + 1) := by
  unfold TX.pnt
  by_cases h0 : k = 0
  · rw [if_pos h0, if_pos h0, Lib.decDigits_length]; omega
  · rw [if_neg h0, if_neg h0, List.length_append, List.length_cons, TX.pad_length (TX.nDigits_lt hb h0), Lib.decDigits_length]
/-- What a size is read as is written, and no longer. -/
theorem back_size {t : List UInt8} {N K x : Nat} (h : TX.psz t = some (N, K)) (hs : FM.rg x = TX.qw N K) (hn : isNam x = false) : wrOk x = true ∧ (wrS x).length ≤ (TX.mns x).length + t.length := by
  obtain ⟨h1, h2, h3⟩ := psz_bound h
  obtain ⟨_, hi, hR⟩ := TX.qdiv (n := N) (k := K) (by omega) h2
  have hlt : FM.val (FM.rg x) < 1000000000 * FM.U := by rw [hs]; exact TX.qw_lt h1 h2 h3
  have hi' : FM.rg x < FM.infR := by rw [hs]; exact hi
  have hall : TX.allOf (FM.rg x) K = N := TX.allOf_qw (by omega) h2 hlt hi' hs.symm
  have hwK : wk x K ≠ none := by
    unfold wk
    rw [hall, if_pos ⟨h3, hs.symm⟩]; simp
  have hok : wrOk x = true := by
    cases ho : wrOk x
    · exfalso
      apply hwK
      unfold wrOk wr at ho
      rw [hn] at ho
      simp only [Bool.false_eq_true, if_false] at ho
      rw [if_neg (by omega)] at ho
      have : (List.range 7).findSome? (wk x) = none := by
        cases hf : (List.range 7).findSome? (wk x) with
        | none => rfl
        | some s => rw [hf] at ho; cases ho
      rw [List.findSome?_eq_none_iff] at this
      exact this K (List.mem_range.2 (by omega))
    · rfl
  refine ⟨hok, ?_⟩
  obtain ⟨k, hk7, hmin, hwk, _⟩ := wr_find hn hok
  have hkK : k ≤ K := Nat.le_of_not_lt fun hlt => hwK (hmin K hlt)
  obtain ⟨e, a1, a2, _⟩ := wk_text (by omega) hwk
  obtain ⟨j, hj⟩ : ∃ j, K = k + j := ⟨K - k, by omega⟩
  have hp := TX.ten_pos k; have hpj := TX.ten_pos j
  obtain ⟨a, ha⟩ : ∃ a, a = TX.allOf (FM.rg x) k := ⟨_, rfl⟩
  rw [← ha] at e a1 a2
  have ha9 : a < 1000000000 * 10 ^ k := by
    have h5 := Nat.div_add_mod a (10 ^ k)
    have h6 := Nat.mod_lt a hp
    have h7 : 10 ^ k * (a / 10 ^ k) ≤ 10 ^ k * 999999999 := Nat.mul_le_mul_left _ a1
    omega
  have haj : a * 10 ^ j ≤ 1000000000000000 := by
    have h8 : a * 10 ^ j ≤ 1000000000 * 10 ^ k * 10 ^ j := Nat.mul_le_mul_right _ (by omega)
    rw [Nat.mul_assoc, ← Nat.pow_add, ← hj] at h8
    have := ten6_le h2
    omega
  have hqj : TX.qw (a * 10 ^ j) K = FM.rg x := by rw [hj, TX.qw_more haj (by omega)]; exact a2
  have hNa : N = a * 10 ^ j := by
    have := TX.allOf_qw (n := a * 10 ^ j) (k := K) (by omega) h2 hlt hi' hqj
    omega
  have hdiv : N / 10 ^ K = a / 10 ^ k := by rw [hNa, hj, Nat.pow_add, Nat.mul_div_mul_right _ _ hpj]
  obtain ⟨J, j0, j1, j2⟩ := psz_len h
  rw [e, List.length_append, pnt_length (Nat.mod_lt _ hp), j2, ← hdiv]
  have := TX.nDigits_lt j1 j0
  split <;> split <;> omega
theorem nam_word {n k : Nat} (hn : n ≤ 1000000000000000) (hk : k ≤ 6) (s : Bool) : isNam (Ieee.double.word s (TX.qw n k)) = false := by
  obtain ⟨_, g2, g3, _⟩ := qw_good hn hk s
  have h := (TX.qdiv hn hk).2.1
  unfold isNam
  rw [g3, g2, Bool.false_or, beq_eq_false_iff_ne]; omega
theorem par_back {l : List UInt8} (ho : parOk l = true) : wrOk (parF l) = true ∧ (wrS (parF l)).length ≤ l.length := by
  by_cases n1 : l = [110, 97, 110]
  · subst n1
    have h : isNam (parF [110, 97, 110]) = true := by decide
    rw [(wr_nam h).1]
    exact ⟨(wr_nam h).2, by decide⟩
  · by_cases n2 : l = [105, 110, 102]
    · subst n2
      have h : isNam (parF [105, 110, 102]) = true := by decide
      rw [(wr_nam h).1]
      exact ⟨(wr_nam h).2, by decide⟩
    · by_cases n3 : l = [45, 105, 110, 102]
      · subst n3
        have h : isNam (parF [45, 105, 110, 102]) = true := by decide
        rw [(wr_nam h).1]
        exact ⟨(wr_nam h).2, by decide⟩
      · by_cases hm : ∃ t, l = 45 :: t
        · obtain ⟨t, rfl⟩ := hm
          obtain ⟨p1, p2⟩ := par_minus n3
          rw [p2] at ho
          rw [p1, ho, if_pos rfl]
          cases hp : TX.psz t with
          | none => unfold pOk at ho; rw [hp] at ho; cases ho
          | some p =>
            obtain ⟨N, K⟩ := p
            obtain ⟨b1, b2, _⟩ := psz_bound hp
            have hF : pF t = TX.qw N K := by unfold pF; rw [hp]
            rw [hF]
            obtain ⟨g1, g2, _, _⟩ := qw_good (n := N) (k := K) (by omega) b2 true
            have := back_size hp g2 (nam_word (by omega) b2 true)
            refine ⟨this.1, ?_⟩
            have hmn : (TX.mns (Ieee.double.word true (TX.qw N K))).length = 1 := by unfold TX.mns; rw [g1]; rfl
            have h2 := this.2
            rw [hmn] at h2
            rw [List.length_cons]; omega
        · obtain ⟨p1, p2⟩ := par_plain n1 n2 (fun t e => hm ⟨t, e⟩)
          rw [p2] at ho
          rw [p1]
          cases hp : TX.psz l with
          | none => unfold pOk at ho; rw [hp] at ho; cases ho
          | some p =>
            obtain ⟨N, K⟩ := p
            obtain ⟨b1, b2, _⟩ := psz_bound hp
            have hF : pF l = TX.qw N K := by unfold pF; rw [hp]
            rw [hF]
            obtain ⟨g1, g2, _, _⟩ := qw_good (n := N) (k := K) (by omega) b2 false
            have e : Ieee.double.word false (TX.qw N K) = TX.qw N K := rfl
            rw [e] at g1 g2
            have hnm := nam_word (n := N) (k := K) (by omega) b2 false
            rw [e] at hnm
            have := back_size hp g2 hnm
            refine ⟨this.1, ?_⟩
            have hmn : (TX.mns (TX.qw N K)).length = 0 := by unfold TX.mns; rw [g1]; rfl
            have h2 := this.2
            rw [hmn] at h2
            omega
set_option maxHeartbeats 2000000 in
theorem ratioBack_walk (s : ByteArray) (w : World) (hs : s.size ≤ maxLen) (ht : PowIs w) :
    Calls Tryd.prog 11 #[.string s] w fun e w' => e = .returned (.bool true) ∧ Below w.heap.size w w' := by
  have HT := Lib.hid ht
  clear ht
  have hl : s.data.toList.length ≤ maxLen := by rw [← Lib.size_eq]; exact hs
  obtain ⟨l, hL⟩ : ∃ l, l = s.data.toList := ⟨_, rfl⟩
  have hs2 := list_str s
  rw [← hL] at hl hs2
  rw [hs2]
  clear hs hs2 hL
  have P1 := Lib.hid (fun w => parse_any l hl w)
  have hsz := str_size l
  have xb := parF_lt l
  cases ho : parOk l
  · rw [ho] at P1
    obtain ⟨F, hF⟩ : ∃ F, F = parF l := ⟨_, rfl⟩
    rw [← hF] at P1
    clear hF xb
    go_enter Tryd.func11, Tryd.ntmps11
    go_wp2_with fail
    refine (P1.out _).mono ?_
    rintro e w1 ⟨rfl, b1⟩
    have B1 := Lib.hid b1
    have T1 := Lib.hid (HT.out.below b1)
    clear b1
    go_wp2_with fail
    refine (awake5 _ T1.out).mono ?_
    rintro e w4 ⟨rfl, b4⟩
    have B4 := Lib.hid (below_trans B1.out b4)
    clear b4
    go_wp2
    go_ret
    exact ⟨rfl, B4.out⟩
  · obtain ⟨g1, g2⟩ := par_back ho
    obtain ⟨k1, k2⟩ := wr_back xb g1
    have W1 := Lib.hid (fun w ht => write_any (parF l) xb w ht)
    have P2 := Lib.hid (fun w => parse_any (wrS (parF l)) (by have := wrS_len (x := parF l); unfold maxLen; omega) w)
    have SM := fun w => same_any (parF l) (parF (wrS (parF l))) xb (parF_lt _) w
    have hz : (ordI (parF l) (parF (wrS (parF l))) == 0) = true := by
      rw [ordI_neg]
      have h5 : ordI (parF (wrS (parF l))) (parF l) = 0 := by simpa using k2
      rw [h5]; rfl
    rw [hz] at SM
    have SM := Lib.hid SM
    rw [ho] at P1
    rw [g1] at W1
    rw [k1] at P2
    obtain ⟨F, hF⟩ : ∃ F, F = parF l := ⟨_, rfl⟩
    rw [← hF] at P1 W1 P2 SM g2
    obtain ⟨S, hS⟩ : ∃ S, S = wrS F := ⟨_, rfl⟩
    rw [← hS] at W1 P2 SM g2
    obtain ⟨G, hG⟩ : ∃ G, G = parF S := ⟨_, rfl⟩
    rw [← hG] at P2 SM
    have hsS := str_size S
    have hlb : decide ((S.length : Int) ≤ (l.length : Int)) = true := by simp; omega
    have hle : (S.length : Int) ≤ (l.length : Int) := by omega
    clear hF hS hG xb g1 k1 k2 hz
    go_enter Tryd.func11, Tryd.ntmps11
    go_wp2_with fail
    refine (P1.out _).mono ?_
    rintro e w1 ⟨rfl, b1⟩
    have B1 := Lib.hid b1
    have T1 := Lib.hid (HT.out.below b1)
    clear b1
    go_wp2_with fail
    refine (W1.out _ T1.out).mono ?_
    rintro e w2 ⟨rfl, b2⟩
    have B2 := Lib.hid (below_trans B1.out b2)
    clear b2
    go_wp2_with fail
    refine (P2.out _).mono ?_
    rintro e w3 ⟨rfl, b3⟩
    have B3 := Lib.hid (below_trans B2.out b3)
    have T3 := Lib.hid (HT.out.below B3.out)
    clear b3
    go_wp2_with fail
    refine (SM.out _).mono ?_
    rintro e w' ⟨rfl, rfl⟩
    go_wp2_with fail
    refine (awake5 _ T3.out).mono ?_
    rintro e w4 ⟨rfl, b4⟩
    have B4 := Lib.hid (below_trans B3.out b4)
    clear b4
    go_wp2
    go_ret
    exact ⟨rfl, B4.out⟩
end Go.Proofs.YtbinhlnekhglkaaDoor
