/- Walks of tell.Check, of the document's own CheckTell, and of what they ask. -/
import Derived.Test.YtokmpfkmkhnopaaTlB
namespace Go.Proofs.Ytokmpfkmkhnopaa
open Go.RowKit

theorem within_any (n most : Int) (w : World) : Calls Try.prog 24 #[.int .i64 n, .int .i64 most] w fun e w' => e = .returned (.bool (TL.win n most)) ∧ w' = w := by
  by_cases h1 : 0 ≤ n
  · go_enter Try.func24, Try.ntmps24
    go_wp2
    go_ret
    exact ret_b (by simp [TL.win, h1]) rfl
  · have h2 : decide (0 ≤ n) = false := by simp; omega
    go_enter Try.func24, Try.ntmps24
    go_wp2
    go_ret
    exact ret_b (by simp [TL.win, h2]) rfl
theorem isCode_any (n : Int) (w : World) : Calls Try.prog 25 #[.int .i64 n] w fun e w' => e = .returned (.bool (TL.cd n)) ∧ w' = w := by
  by_cases h1 : n = 1
  · subst h1
    go_enter Try.func25, Try.ntmps25
    go_wp2
    go_ret
    exact ret_b (by decide) rfl
  · have h2 : (n == 1) = false := by simpa using h1
    go_enter Try.func25, Try.ntmps25
    go_wp2
    go_ret
    exact ret_b (by simp only [TL.cd, h1]; rw [Bool.eq_iff_iff]; simp) rfl
theorem coded_any (n : Int) (w : World) : Calls Try.prog 28 #[.int .i64 n] w fun e w' => e = .returned (.bool (TL.cd n)) ∧ w' = w := by
  by_cases h1 : n = 1
  · subst h1
    go_enter Try.func28, Try.ntmps28
    go_wp2
    go_ret
    exact ret_b (by decide) rfl
  · have h2 : (n == 1) = false := by simpa using h1
    go_enter Try.func28, Try.ntmps28
    go_wp2
    go_ret
    exact ret_b (by simp only [TL.cd, h1]; rw [Bool.eq_iff_iff]; simp) rfl

theorem okS_cases (s : TL.S) : (TL.cd s.1 = false ∧ TL.okS s = false) ∨ (TL.cd s.1 = true ∧ TL.win s.2.1 4294967295 = false ∧ TL.okS s = false) ∨ (TL.cd s.1 = true ∧ TL.win s.2.1 4294967295 = true ∧ TL.win s.2.2.1 4 = false ∧ TL.okS s = false) ∨
    (TL.cd s.1 = true ∧ TL.win s.2.1 4294967295 = true ∧ TL.win s.2.2.1 4 = true ∧ TL.win s.2.2.2.1 4294967295 = false ∧ TL.okS s = false) ∨ (TL.cd s.1 = true ∧ TL.win s.2.1 4294967295 = true ∧ TL.win s.2.2.1 4 = true ∧ TL.win s.2.2.2.1 4294967295 = true ∧ TL.okS s = TL.win s.2.2.2.2 86400) := by
  unfold TL.okS
  cases h1 : TL.cd s.1
  · simp
  cases h2 : TL.win s.2.1 4294967295
  · simp
  cases h3 : TL.win s.2.2.1 4
  · simp
  cases h4 : TL.win s.2.2.2.1 4294967295
  · simp
  simp
set_option maxHeartbeats 4000000 in
theorem mayStatus_any (s : TL.S) (w : World) :
    Calls Try.prog 26 #[.agg #[.int .i64 s.1, .int .i64 s.2.1, .int .i64 s.2.2.1, .int .i64 s.2.2.2.1, .int .i64 s.2.2.2.2]] w fun e w' => e = .returned (.bool (TL.okS s)) ∧ Below w.heap.size w w' := by
  have HB := Lib.hid (below_alloc w (.cells #[.int .i64 s.1, .int .i64 s.2.1, .int .i64 s.2.2.1, .int .i64 s.2.2.2.1, .int .i64 s.2.2.2.2] 41))
  have hcases := okS_cases s
  have H0 := Lib.hid (fun x => isCode_any s.1 x)
  have H1 := Lib.hid (fun x => within_any s.2.1 4294967295 x)
  have H2 := Lib.hid (fun x => within_any s.2.2.1 4 x)
  have H3 := Lib.hid (fun x => within_any s.2.2.2.1 4294967295 x)
  have H4 := Lib.hid (fun x => within_any s.2.2.2.2 86400 x)
  generalize TL.win s.2.2.2.2 86400 = r at *
  obtain ⟨a, b, c, d, f⟩ := s
  simp only at *
  rcases hcases with ⟨q0, E⟩ | ⟨q0, q1, E⟩ | ⟨q0, q1, q2, E⟩ | ⟨q0, q1, q2, q3, E⟩ | ⟨q0, q1, q2, q3, E⟩
  all_goals
    have HE := Lib.hid E
    first | rw [q0] at H0 | skip
    try rw [q1] at H1
    try rw [q2] at H2
    try rw [q3] at H3
    clear E
    try clear q3
    try clear q2
    try clear q1
    clear q0
    go_enter Try.func26, Try.ntmps26
    go_wp2_with (first
      | (go_at_call 25; refine (H0.out _).mono ?_; rintro e w1 ⟨rfl, rfl⟩)
      | (go_at_call 24; (first | (with_reducible refine (H1.out _).mono ?_) | (with_reducible refine (H2.out _).mono ?_) | (with_reducible refine (H3.out _).mono ?_) | (with_reducible refine (H4.out _).mono ?_)); rintro e w1 ⟨rfl, rfl⟩))
    go_ret
    exact ret_b HE.out.symm HB.out

theorem val_long {l : List UInt8} (h : 400 < l.length) : TL.val l = false := by
  unfold TL.val
  have : decide (l.length ≤ 400) = false := by simp; omega
  rw [this]; simp
theorem val_bad {l : List UInt8} {j : Nat} {c : UInt8} (h : l[j]? = some c) (hc : TL.prn c = false) : TL.val l = false := by
  unfold TL.val
  have : l.all TL.prn = false := by
    rw [List.all_eq_false]
    exact ⟨c, List.mem_of_getElem? h, by simp [hc]⟩
  rw [this]; simp
theorem val_good {l : List UInt8} (h1 : l.length ≤ 400) (h : ∀ c ∈ l, TL.prn c = true) : TL.val l = true := by
  unfold TL.val
  have e2 : l.all TL.prn = true := List.all_eq_true.2 h
  rw [e2]; simp [h1]
theorem prn_yes {c : UInt8} (h : TL.prn c = true) : 32 ≤ c.toNat ∧ c.toNat ≤ 126 := of_decide_eq_true h
theorem prn_no {c : UInt8} (h : TL.prn c = false) : ¬ (32 ≤ c.toNat ∧ c.toNat ≤ 126) := of_decide_eq_false h
theorem take_all {α : Type} {l : List α} {k : Nat} {c : α} {p : α → Prop} (h : l[k]? = some c) (hd : ∀ d ∈ l.take k, p d) (hc : p c) : ∀ d ∈ l.take (k + 1), p d := by
  intro d hm
  rw [List.take_add_one, h] at hm
  rcases List.mem_append.1 hm with h1 | h1
  · exact hd d h1
  · have : d = c := by simpa using h1
    rw [this]; exact hc
theorem okH_no {e : D.E} (h : TL.val e.2 = false) : TL.okH e = false := by unfold TL.okH; rw [h]; simp
theorem okH_nm {e : D.E} (h : D.nm e.1 = false) : TL.okH e = false := by unfold TL.okH; rw [h]; simp
theorem okH_yes {e : D.E} (h : D.nm e.1 = true) (h2 : TL.val e.2 = true) : TL.okH e = true := by unfold TL.okH; rw [h, h2]; rfl

set_option maxHeartbeats 1600000 in
theorem printable_any (l : List UInt8) (hl : l.length ≤ maxLen) (w : World) :
    Calls Try.prog 30 #[.string ⟨l.toArray⟩] w fun e w' => e = .returned (.bool (TL.val l)) ∧ w' = w := by
  unfold maxLen at hl
  have hsz := str_size l
  by_cases hlen : l.length ≤ 400
  · have HLN := Lib.hid hlen
    obtain ⟨L, hLI⟩ : ∃ L : Nat, l.length = L := ⟨_, rfl⟩
    have hl9 : L ≤ 400 := by omega
    rw [hLI] at hsz
    have HL := Lib.hid hLI
    clear hl hlen hLI
    go_enter Try.func30, Try.ntmps30
    go_wp2
    go_loop [3] (fun i => ∃ (k : Nat), k ≤ L ∧ i = .int .i64 (k : Int) ∧ Hid (∀ d ∈ l.take k, TL.prn d = true)) (fun i => L - (intOf i).toNat)
    case atStart => exact ⟨0, Nat.zero_le _, rfl, by show ∀ _, _; simp⟩
    case round =>
      obtain ⟨k, hk, rfl, HD⟩ := hrel
      by_cases hlt : k < L
      · obtain ⟨c, hc⟩ : ∃ c, l[k]? = some c := ⟨l[k]'(by have := HL.out; omega), List.getElem?_eq_getElem _⟩
        have hub := c.toNat_lt
        have HCC := Lib.hid hc
        have hkL : k < (⟨l.toArray⟩ : ByteArray).size := by omega
        obtain ⟨z, hz⟩ : ∃ z : Int, (c.toNat : Int) = z := ⟨_, rfl⟩
        have hi := at_z hc hz hkL
        have hz0 : 0 ≤ z := by omega
        have hz1 : z < 256 := by omega
        clear hc
        cases hd : TL.prn c
        · have hno := prn_no hd
          have E := Lib.hid (val_bad HCC.out hd)
          have h3 : z < 32 ∨ (¬ z < 32 ∧ 126 < z) := by omega
          clear hd hno hz hub
          rcases h3 with h3 | ⟨h3, h4⟩
          all_goals
            go_wp2
            go_ret
            exact ret_b E.out.symm rfl
        · obtain ⟨h1, h2⟩ := prn_yes hd
          have HD2 := Lib.hid (take_all HCC.out HD.out hd)
          have h3 : ¬ z < 32 := by omega
          have h4 : ¬ 126 < z := by omega
          clear hd h1 h2 hz hub
          go_wp2
          go_round
          case rel => exact ⟨k + 1, by omega, by go_num, HD2.out⟩
          case measure => simp [intOf]; omega
      · have E := Lib.hid (val_good HLN.out (by
          have h1 := HD.out; have h2 := HL.out
          rw [List.take_of_length_le (by omega)] at h1
          exact h1))
        go_wp2
        go_ret
        exact ret_b E.out.symm rfl
  · have E := Lib.hid (val_long (l := l) (by omega))
    have hb : decide ((400 : Int) < (l.length : Int)) = true := by simp; omega
    go_enter Try.func30, Try.ntmps30
    go_wp2
    go_ret
    exact ret_b E.out.symm rfl

set_option maxHeartbeats 1600000 in
theorem mayHead_any (e : D.E) (hf : e.1.length ≤ 9223372036854775807 ∧ e.2.length ≤ 9223372036854775807) (w : World) :
    Calls Try.prog 27 #[.agg #[.string ⟨e.1.toArray⟩, .string ⟨e.2.toArray⟩]] w fun e' w' => e' = .returned (.bool (TL.okH e)) ∧ Below w.heap.size w w' := by
  have HB := Lib.hid (below_alloc w (.cells #[.string ⟨e.1.toArray⟩, .string ⟨e.2.toArray⟩] 39))
  have HN := Lib.hid (fun x => name_any e.1 (by unfold maxLen; omega) x)
  have h2 := hf.2
  have hsz := str_size e.2
  have NY := Lib.hid (@okH_yes e)
  have NN := Lib.hid (@okH_no e)
  have NM := Lib.hid (@okH_nm e)
  obtain ⟨key, l⟩ := e
  simp only at HB HN h2 hsz NY NN NM ⊢
  clear hf
  cases hn : D.nm key
  · rw [hn] at HN
    have E := Lib.hid (NM.out hn)
    clear hn
    go_enter Try.func27, Try.ntmps27
    go_wp2_with (go_at_call 47; refine (HN.out _).mono ?_; rintro e w1 ⟨rfl, b1⟩; have B1 := Lib.hid (below_trans HB.out b1); clear b1)
    go_ret
    exact ret_b E.out.symm B1.out
  · rw [hn] at HN
    have HY := Lib.hid (NY.out hn)
    clear hn NY NM
    by_cases hlen : l.length ≤ 400
    · have HLN := Lib.hid hlen
      obtain ⟨L, hLI⟩ : ∃ L : Nat, l.length = L := ⟨_, rfl⟩
      have hl9 : L ≤ 400 := by omega
      rw [hLI] at hsz
      have HL := Lib.hid hLI
      clear hlen h2
      go_enter Try.func27, Try.ntmps27
      go_wp2_with fail
      refine (HN.out _).mono ?_
      rintro e w1 ⟨rfl, b1⟩
      have k2 := two_later b1
      obtain ⟨W, cap, hcv, hbw, hcell⟩ := bytes_of l w1
      rw [hLI] at hcv
      have HBW := Lib.hid (below_trans (below_trans HB.out b1) hbw)
      have HC := Lib.hid hcell
      clear b1 hbw hcell hLI
      go_wp2
      go_loop [19] (fun i => ∃ (k : Nat), k ≤ L ∧ i = .int .i64 (k : Int) ∧ Hid (∀ d ∈ l.take k, TL.prn d = true)) (fun i => L - (intOf i).toNat)
      case atStart => exact ⟨0, Nat.zero_le _, rfl, by show ∀ _, _; simp⟩
      case round =>
        obtain ⟨k, hk, rfl, HD⟩ := hrel
        by_cases hlt : k < L
        · obtain ⟨c, hc⟩ : ∃ c, l[k]? = some c := ⟨l[k]'(by have := HL.out; omega), List.getElem?_eq_getElem _⟩
          have hcl := HC.out k c hc
          have hub := c.toNat_lt
          have HCC := Lib.hid hc
          obtain ⟨z, hz⟩ : ∃ z : Int, (c.toNat : Int) = z := ⟨_, rfl⟩
          rw [hz] at hcl
          have hz0 : 0 ≤ z := by omega
          have hz1 : z < 256 := by omega
          clear hc
          cases hd : TL.prn c
          · have hno := prn_no hd
            have E := Lib.hid (NN.out (val_bad HCC.out hd))
            have h3 : z < 32 ∨ (¬ z < 32 ∧ 126 < z) := by omega
            clear hd hno hz hub
            rcases h3 with h3 | ⟨h3, h4⟩
            all_goals
              go_wp2
              go_ret
              exact ret_b E.out.symm HBW.out
          · obtain ⟨h1, h2⟩ := prn_yes hd
            have HD2 := Lib.hid (take_all HCC.out HD.out hd)
            have h3 : ¬ z < 32 := by omega
            have h4 : ¬ 126 < z := by omega
            clear hd h1 h2 hz hub
            go_wp2
            go_round
            case rel => exact ⟨k + 1, by omega, by go_num, HD2.out⟩
            case measure => simp [intOf]; omega
        · have E := Lib.hid (HY.out (val_good HLN.out (by
            have h1 := HD.out; have h2 := HL.out
            rw [List.take_of_length_le (by omega)] at h1
            exact h1)))
          go_wp2
          go_ret
          exact ret_b E.out.symm HBW.out
    · have E := Lib.hid (NN.out (val_long (l := l) (by omega)))
      have hb : decide ((400 : Int) < (l.length : Int)) = true := by simp; omega
      go_enter Try.func27, Try.ntmps27
      go_wp2_with (go_at_call 47; refine (HN.out _).mono ?_; rintro e w1 ⟨rfl, b1⟩; have k2 := two_later b1; have B1 := Lib.hid (below_trans HB.out b1); clear b1)
      go_ret
      exact ret_b E.out.symm B1.out
end Go.Proofs.Ytokmpfkmkhnopaa
