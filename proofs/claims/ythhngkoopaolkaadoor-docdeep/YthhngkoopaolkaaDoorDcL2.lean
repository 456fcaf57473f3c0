/- The law DocDeep. -/
import Derived.Test.YthhngkoopaolkaaDoorDcL1
import Derived.Deep.LoopGhost
namespace Go.Proofs.YthhngkoopaolkaaDoor
open Go.RowKit

theorem repB_any (l : List UInt8) (k : Nat) (hl : l.length ≤ 100) (hk : k ≤ 3000) (u : World) : Calls Tryd.prog 11 #[.string ⟨l.toArray⟩, .int .i64 (k : Int)] u fun e w' => e = .returned (.string ⟨(Lib.repeatL l k).toArray⟩) ∧ Below u.heap.size u w' := by
  have h := Tryd.strings_Repeat ⟨l.toArray⟩ k u (by omega) (by
    rw [str_size]
    have := Nat.mul_le_mul hl hk
    omega)
  simpa using h
theorem deepS_len : ∀ n, (DC.deepS n).length ≤ 50 * n * n + 100 * n
  | 0 => by simp [DC.deepS]
  | n + 1 => by
    have ih := deepS_len n
    simp only [DC.deepS, List.length_append, Lib.repeatL_length, List.length_cons, List.length_nil]
    have h1 : 50 * (n + 1) * (n + 1) = 50 * n * n + 50 * n + (50 * n + 50) := by
      rw [Nat.mul_add, Nat.mul_one, Nat.mul_add, Nat.add_mul, Nat.mul_one]
    omega
theorem right_cases {o : DC.Out (List DC.Nd)} {k : Nat} {l : Int} (h : DC.Right o k l = true) : (∃ ns, o = .ok ns ∧ k + 1 ≤ 24 ∧ ns.length = k + 1) ∨ (o = .bad 8 l ∧ 24 < k + 1) := by
  cases o with
  | ok ns => simp [DC.Right] at h; exact .inl ⟨ns, rfl, by omega, h.2⟩
  | bad a b => simp [DC.Right] at h; exact .inr ⟨by rw [h.1.2, h.2], by omega⟩

set_option maxRecDepth 10000 in
set_option maxHeartbeats 8000000 in
theorem docDeep_false (k : Nat) (hk : k ≤ 40) (w : World) (hm : MaxIs w) :
    Calls Tryd.prog 4 #[.int .i64 (k : Int), .bool false] w fun e w' => e = .returned (.bool true) ∧ Below w.heap.size w w' := by
  have hR := DC.deep_one ⟨k, by omega⟩
  simp only at hR
  have h1 : ¬ (k : Int) < 0 := by omega
  have h2 : ¬ (40 : Int) < (k : Int) := by omega
  have HRP := Lib.hid (fun u => repB_any [45, 32] k (by decide) (by omega) u)
  obtain ⟨T, hT⟩ : ∃ T, DC.deepB k = T := ⟨_, rfl⟩
  have hcat : (⟨(Lib.repeatL [45, 32] k).toArray⟩ : ByteArray) ++ ⟨#[97]⟩ = ⟨T.toArray⟩ := by rw [← hT]; exact str_app _ [97]
  have hTl : T.length ≤ 9223372036854775807 := by rw [← hT]; simp only [DC.deepB, List.length_append, Lib.repeatL_length, List.length_cons, List.length_nil]; omega
  have HTL := Lib.hid hTl
  have hz : ¬ 9223372036854775807 < (Lib.repeatL [45, 32] k).length + 1 := by rw [Lib.repeatL_length]; simp only [List.length_cons, List.length_nil]; omega
  rw [hT] at hR
  have HM := Lib.hid hm
  have hg2 := fault_guard
  generalize Lib.repeatL [45, 32] k = RP at *
  clear hT hTl hm
  rcases right_cases hR with ⟨ns, hp, hk2, hl⟩ | ⟨hp, hk2⟩
  · have HP := Lib.hid hp
    have HL := Lib.hid hl
    have hk1 : ¬ (24 : Int) < (k : Int) + 1 := by omega
    have hq0 := eq_fault 0 0
    clear hR hp hl hk2
    go_enter Tryd.func4, Tryd.ntmps4
    go_wp2_with (first
      | (go_at_call 11; refine (HRP.out _).mono ?_; rintro e w1 ⟨rfl, hb1⟩; obtain ⟨W, v, hcv, hbw, hrd⟩ := conv_text T HTL.out w1; have HB1 := Lib.hid (below_trans hb1 hbw); have HRD := Lib.hid hrd; clear hb1 hbw hrd)
      | (go_at_call 12; refine (parse_any v T W HRD.out (HM.out.below HB1.out)).mono ?_; rintro e w2 he; obtain ⟨ax, cx, rfl, hr2, hb2⟩ := aw_par (ns := ns) (k := 0) (n := 0) (m := k + 1) (congrArg DC.told HP.out) (congrArg DC.wrong HP.out) HL.out he; clear he hcv; obtain ⟨z1, z2⟩ := var2 w2; obtain ⟨s1, s2, s3⟩ := two_vars w2 (.slice ax (k + 1) cx) (.int .i64 0) (.int .i64 0); have HB2 := Lib.hid (below_trans (below_trans HB1.out hb2) s3); have e0 := s1.cell 0; obtain ⟨f0, f1⟩ := s2.cells2; simp only [List.getElem?_toArray, List.getElem?_cons_zero] at e0; clear hr2 hb2 s1 s2 s3)
      | (go_at_call 7; refine (awake12 _ (HM.out.below HB2.out)).mono ?_; rintro e w3 ⟨rfl, hb3⟩))
    go_ret
    exact ⟨rfl, below_trans HB2.out hb3⟩
  · have HP := Lib.hid hp
    have hk1 : (24 : Int) < (k : Int) + 1 := by omega
    have hq := eq_fault 8 1
    clear hR hp hk2
    go_enter Tryd.func4, Tryd.ntmps4
    go_wp2_with (first
      | (go_at_call 11; refine (HRP.out _).mono ?_; rintro e w1 ⟨rfl, hb1⟩; obtain ⟨W, v, hcv, hbw, hrd⟩ := conv_text T HTL.out w1; have HB1 := Lib.hid (below_trans hb1 hbw); have HRD := Lib.hid hrd; clear hb1 hbw hrd)
      | (go_at_call 12; refine (parse_any v T W HRD.out (HM.out.below HB1.out)).mono ?_; rintro e w2 he; obtain ⟨ax, cx, rfl, hr2, hb2⟩ := aw_par (ns := []) (k := 8) (n := 1) (m := 0) (congrArg DC.told HP.out) (congrArg DC.wrong HP.out) rfl he; clear he hcv; obtain ⟨z1, z2⟩ := var2 w2; obtain ⟨s1, s2, s3⟩ := two_vars w2 (.slice ax 0 cx) (.int .i64 8) (.int .i64 1); have HB2 := Lib.hid (below_trans (below_trans HB1.out hb2) s3); have e0 := s1.cell 0; obtain ⟨f0, f1⟩ := s2.cells2; simp only [List.getElem?_toArray, List.getElem?_cons_zero] at e0; clear hr2 hb2 s1 s2 s3)
      | (go_at_call 7; refine (awake12 _ (HM.out.below HB2.out)).mono ?_; rintro e w3 ⟨rfl, hb3⟩))
    go_ret
    exact ⟨rfl, below_trans HB2.out hb3⟩

set_option maxRecDepth 10000 in
set_option maxHeartbeats 8000000 in
theorem docDeep_true (k : Nat) (hk : k ≤ 40) (w : World) (hm : MaxIs w) :
    Calls Tryd.prog 4 #[.int .i64 (k : Int), .bool true] w fun e w' => e = .returned (.bool true) ∧ Below w.heap.size w w' := by
  have hR := DC.deep_two ⟨k, by omega⟩
  simp only at hR
  have h1 : ¬ (k : Int) < 0 := by omega
  have h2 : ¬ (40 : Int) < (k : Int) := by omega
  have HK := Lib.hid hk
  have HRP0 := Lib.hid (fun u => repB_any [45, 32] k (by decide) (by omega) u)
  have HRP := Lib.hid (fun (i : Nat) (hi : i ≤ 40) u => repB_any [32] i (by decide) (by omega) u)
  obtain ⟨T, hT⟩ : ∃ T, DC.deepL k = T := ⟨_, rfl⟩
  have HT := Lib.hid hT
  have HTL : Hid (T.length ≤ 9223372036854775807) := by
    show _ ≤ _
    rw [← hT]
    simp only [DC.deepL, List.length_append, Lib.repeatL_length, List.length_cons, List.length_nil]
    have := deepS_len k
    have h3 : 50 * k * k ≤ 50 * 40 * 40 := Nat.mul_le_mul (Nat.mul_le_mul (Nat.le_refl _) hk) hk
    omega
  have HSZ : Hid (∀ i, i ≤ 40 → (DC.deepS i).length ≤ 100000) := Lib.hid fun i hi => by
    have := deepS_len i
    have h3 : 50 * i * i ≤ 50 * 40 * 40 := Nat.mul_le_mul (Nat.mul_le_mul (Nat.le_refl _) hi) hi
    omega
  rw [hT] at hR
  have HM := Lib.hid hm
  have hg2 := fault_guard
  have hz : ¬ 9223372036854775807 < (Lib.repeatL [45, 32] k).length + 1 := by rw [Lib.repeatL_length]; simp only [List.length_cons, List.length_nil]; omega
  generalize Lib.repeatL [45, 32] k = RP at *
  clear hT hm hk
  have HB0 : Hid (Below w.heap.size w w) := Lib.hid (Below.refl _ _)
  rcases right_cases hR with ⟨ns, hp, hk2, hl⟩ | ⟨hp, hk2⟩
  · have HP := Lib.hid hp
    have HL := Lib.hid hl
    have hk1 : ¬ (24 : Int) < (k : Int) + 1 := by omega
    have hq0 := eq_fault 0 0
    clear hR hp hl hk2
    go_enter Tryd.func4, Tryd.ntmps4
    go_wp2_with (go_at_call 11; refine (HRP0.out _).mono ?_; rintro e w1 ⟨rfl, hb1⟩; have HB1 := Lib.hid hb1; clear hb1)
    go_loopg [5, 7] k (fun g s5 s7 wx => ∃ (i : Nat), i + g = k ∧ s5 = .string ⟨(DC.deepS i).toArray⟩ ∧ s7 = .int .i64 (i : Int) ∧ Hid (Below w.heap.size w wx))
    case atStart => exact ⟨0, by omega, rfl, rfl, HB1⟩
    case round =>
      obtain ⟨i, hi, rfl, rfl, HB⟩ := hrel
      obtain ⟨D, hD⟩ : ∃ D, DC.deepS i = D := ⟨_, rfl⟩
      obtain ⟨RI, hRI⟩ : ∃ RI, Lib.repeatL [32] i = RI := ⟨_, rfl⟩
      have hDl := HSZ.out i (by have := HK.out; omega)
      have hRl : RI.length ≤ 100 := by rw [← hRI, Lib.repeatL_length]; simp only [List.length_cons, List.length_nil]; have := HK.out; omega
      have HRI := Lib.hid (HRP.out i (by have := HK.out; omega))
      rw [hD] at hDl
      rw [hRI] at HRI
      have hc1 : (⟨D.toArray⟩ : ByteArray) ++ ⟨RI.toArray⟩ = ⟨(D ++ RI).toArray⟩ := str_app _ _
      have q1 : ¬ 9223372036854775807 < D.length + RI.length := by omega
      have HDD := Lib.hid hD
      have HII := Lib.hid hRI
      rw [hD]
      cases gk with
      | succ g =>
        have hin : (i : Int) < (k : Int) := by omega
        obtain ⟨E1, hE1⟩ : ∃ E1, DC.deepS (i + 1) = E1 := ⟨_, rfl⟩
        have hc2 : (⟨(D ++ RI).toArray⟩ : ByteArray) ++ ⟨#[45, 10]⟩ = ⟨E1.toArray⟩ := by rw [← hE1, DC.deepS, hD, hRI]; exact str_app _ [45, 10]
        have q2 : ¬ 9223372036854775807 < (D ++ RI).length + 2 := by rw [List.length_append]; omega
        have q3 : ¬ 9223372036854775807 < D.length + RI.length + 2 := by omega
        have HE1 := Lib.hid hE1
        clear hD hRI hE1
        go_wp2_with (go_at_call 11; refine (HRI.out _).mono ?_; rintro e w1 ⟨rfl, hb1⟩; have HB2 := Lib.hid (below_trans HB.out hb1); clear hb1)
        go_roundg g
        case rel => exact ⟨i + 1, by omega, by rw [HE1.out], by first | rfl | (simp; done), HB2⟩
        case measure => omega
      | zero =>
        obtain rfl : i = k := by omega
        have hc2 : (⟨(D ++ RI).toArray⟩ : ByteArray) ++ ⟨#[97]⟩ = ⟨T.toArray⟩ := by rw [← HT.out, DC.deepL, hD, hRI]; exact str_app _ [97]
        have q2 : ¬ 9223372036854775807 < (D ++ RI).length + 1 := by rw [List.length_append]; omega
        have q3 : ¬ 9223372036854775807 < D.length + RI.length + 1 := by omega
        clear hD hRI
        go_wp2_with (first
          | (go_at_call 11; refine (HRI.out _).mono ?_; rintro e w1 ⟨rfl, hb1⟩; obtain ⟨W, v, hcv, hbw, hrd⟩ := conv_text T HTL.out w1; have HB1 := Lib.hid (below_trans (below_trans HB.out hb1) hbw); have HRD := Lib.hid hrd; clear hb1 hbw hrd)
          | (go_at_call 12; refine (parse_any v T W HRD.out (HM.out.below HB1.out)).mono ?_; rintro e w2 he; obtain ⟨ax, cx, rfl, hr2, hb2⟩ := aw_par (ns := ns) (k := 0) (n := 0) (m := i + 1) (congrArg DC.told HP.out) (congrArg DC.wrong HP.out) HL.out he; clear he hcv; obtain ⟨z1, z2⟩ := var2 w2; obtain ⟨s1, s2, s3⟩ := two_vars w2 (.slice ax (i + 1) cx) (.int .i64 0) (.int .i64 0); have HB2 := Lib.hid (below_trans (below_trans HB1.out hb2) s3); have e0 := s1.cell 0; obtain ⟨f0, f1⟩ := s2.cells2; simp only [List.getElem?_toArray, List.getElem?_cons_zero] at e0; clear hr2 hb2 s1 s2 s3)
          | (go_at_call 7; refine (awake12 _ (HM.out.below HB2.out)).mono ?_; rintro e w3 ⟨rfl, hb3⟩))
        go_ret
        exact ⟨rfl, below_trans HB2.out hb3⟩
  · have HP := Lib.hid hp
    have hk1 : (24 : Int) < (k : Int) + 1 := by omega
    have hq := eq_fault 8 25
    clear hR hp hk2
    go_enter Tryd.func4, Tryd.ntmps4
    go_wp2_with (go_at_call 11; refine (HRP0.out _).mono ?_; rintro e w1 ⟨rfl, hb1⟩; have HB1 := Lib.hid hb1; clear hb1)
    go_loopg [5, 7] k (fun g s5 s7 wx => ∃ (i : Nat), i + g = k ∧ s5 = .string ⟨(DC.deepS i).toArray⟩ ∧ s7 = .int .i64 (i : Int) ∧ Hid (Below w.heap.size w wx))
    case atStart => exact ⟨0, by omega, rfl, rfl, HB1⟩
    case round =>
      obtain ⟨i, hi, rfl, rfl, HB⟩ := hrel
      obtain ⟨D, hD⟩ : ∃ D, DC.deepS i = D := ⟨_, rfl⟩
      obtain ⟨RI, hRI⟩ : ∃ RI, Lib.repeatL [32] i = RI := ⟨_, rfl⟩
      have hDl := HSZ.out i (by have := HK.out; omega)
      have hRl : RI.length ≤ 100 := by rw [← hRI, Lib.repeatL_length]; simp only [List.length_cons, List.length_nil]; have := HK.out; omega
      have HRI := Lib.hid (HRP.out i (by have := HK.out; omega))
      rw [hD] at hDl
      rw [hRI] at HRI
      have hc1 : (⟨D.toArray⟩ : ByteArray) ++ ⟨RI.toArray⟩ = ⟨(D ++ RI).toArray⟩ := str_app _ _
      have q1 : ¬ 9223372036854775807 < D.length + RI.length := by omega
      have HDD := Lib.hid hD
      have HII := Lib.hid hRI
      rw [hD]
      cases gk with
      | succ g =>
        have hin : (i : Int) < (k : Int) := by omega
        obtain ⟨E1, hE1⟩ : ∃ E1, DC.deepS (i + 1) = E1 := ⟨_, rfl⟩
        have hc2 : (⟨(D ++ RI).toArray⟩ : ByteArray) ++ ⟨#[45, 10]⟩ = ⟨E1.toArray⟩ := by rw [← hE1, DC.deepS, hD, hRI]; exact str_app _ [45, 10]
        have q2 : ¬ 9223372036854775807 < (D ++ RI).length + 2 := by rw [List.length_append]; omega
        have q3 : ¬ 9223372036854775807 < D.length + RI.length + 2 := by omega
        have HE1 := Lib.hid hE1
        clear hD hRI hE1
        go_wp2_with (go_at_call 11; refine (HRI.out _).mono ?_; rintro e w1 ⟨rfl, hb1⟩; have HB2 := Lib.hid (below_trans HB.out hb1); clear hb1)
        go_roundg g
        case rel => exact ⟨i + 1, by omega, by rw [HE1.out], by first | rfl | (simp; done), HB2⟩
        case measure => omega
      | zero =>
        obtain rfl : i = k := by omega
        have hc2 : (⟨(D ++ RI).toArray⟩ : ByteArray) ++ ⟨#[97]⟩ = ⟨T.toArray⟩ := by rw [← HT.out, DC.deepL, hD, hRI]; exact str_app _ [97]
        have q2 : ¬ 9223372036854775807 < (D ++ RI).length + 1 := by rw [List.length_append]; omega
        have q3 : ¬ 9223372036854775807 < D.length + RI.length + 1 := by omega
        clear hD hRI
        go_wp2_with (first
          | (go_at_call 11; refine (HRI.out _).mono ?_; rintro e w1 ⟨rfl, hb1⟩; obtain ⟨W, v, hcv, hbw, hrd⟩ := conv_text T HTL.out w1; have HB1 := Lib.hid (below_trans (below_trans HB.out hb1) hbw); have HRD := Lib.hid hrd; clear hb1 hbw hrd)
          | (go_at_call 12; refine (parse_any v T W HRD.out (HM.out.below HB1.out)).mono ?_; rintro e w2 he; obtain ⟨ax, cx, rfl, hr2, hb2⟩ := aw_par (ns := []) (k := 8) (n := 25) (m := 0) (congrArg DC.told HP.out) (congrArg DC.wrong HP.out) rfl he; clear he hcv; obtain ⟨z1, z2⟩ := var2 w2; obtain ⟨s1, s2, s3⟩ := two_vars w2 (.slice ax 0 cx) (.int .i64 8) (.int .i64 25); have HB2 := Lib.hid (below_trans (below_trans HB1.out hb2) s3); have e0 := s1.cell 0; obtain ⟨f0, f1⟩ := s2.cells2; simp only [List.getElem?_toArray, List.getElem?_cons_zero] at e0; clear hr2 hb2 s1 s2 s3)
          | (go_at_call 7; refine (awake12 _ (HM.out.below HB2.out)).mono ?_; rintro e w3 ⟨rfl, hb3⟩))
        go_ret
        exact ⟨rfl, below_trans HB2.out hb3⟩

set_option maxHeartbeats 2000000 in
theorem docDeep_walk (n : Int) (b : Bool) (w : World) (hm : MaxIs w) :
    Calls Tryd.prog 4 #[.int .i64 n, .bool b] w fun e w' => e = .returned (.bool true) ∧ Below w.heap.size w w' := by
  by_cases hr : n < 0 ∨ 40 < n
  · have HAW := Lib.hid (awake12 w hm)
    clear hm
    rcases hr with h | h
    · go_enter Tryd.func4, Tryd.ntmps4
      go_wp2_with (go_at_call 7; refine HAW.out.mono ?_; rintro e w1 ⟨rfl, hb⟩)
      go_ret
      exact ⟨rfl, hb⟩
    · have h1 : ¬ n < 0 := by omega
      go_enter Tryd.func4, Tryd.ntmps4
      go_wp2_with (go_at_call 7; refine HAW.out.mono ?_; rintro e w1 ⟨rfl, hb⟩)
      go_ret
      exact ⟨rfl, hb⟩
  obtain ⟨k, rfl⟩ : ∃ k : Nat, n = (k : Int) := ⟨n.toNat, by omega⟩
  cases b with
  | false => exact docDeep_false k (by omega) w hm
  | true => exact docDeep_true k (by omega) w hm
end Go.Proofs.YthhngkoopaolkaaDoor
