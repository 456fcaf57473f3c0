/- The laws DocMany, DocDeep, DocForms. -/
import Derived.Test.YthhngkoopaolkaaDoorDcAw
import Derived.Test.YthhngkoopaolkaaDoorDcMk
namespace Go.Proofs.YthhngkoopaolkaaDoor
open Go.RowKit

/-- '[]byte(s)': what it reads as. -/
theorem conv_text (l : List UInt8) (hl : l.length ≤ 9223372036854775807) (w : World) : ∃ (W : World) (v : Value), (convert 9 37 (.string ⟨l.toArray⟩)).run Tryd.prog w = .ok v W ∧ Below w.heap.size w W ∧ Rdv W v (bv l) := by
  have h := Lib.run_convert_string_bytes (P := Tryd.prog) w 9 37 5 ⟨l.toArray⟩ (u := .string) Tryd.underlying9 Tryd.underlying37 Tryd.underlying5
  rw [str_size] at h
  refine ⟨_, _, h, ⟨rfl, rfl, rfl, ?_, ?_⟩, ?_⟩
  · rw [Lib.bytesWorld_size]; omega
  · intro j hj
    exact Lib.bytesWorld_at_old _ _ _ _ hj
  · refine ⟨some ⟨w.heap.size, 0, none⟩, _, by rw [bv_len], by rw [bv_len]; exact grownCap_ge _ _ _ _, grownCap_le_maxLen _ _ _ _ (by unfold maxLen; omega), (by intro h; cases h), fun j u hu => ⟨_, rfl, ?_⟩⟩
    rw [Addr.add_lit, Nat.zero_add]
    have hj : j < l.length := by
      have := (List.getElem?_eq_some_iff.1 hu).1
      rwa [bv_len] at this
    rw [bv_get hj] at hu
    have := Lib.bytesWorld_cell w 5 ⟨l.toArray⟩ j (by rw [str_size]; exact hj)
    rw [this, ← hu]
    simp [List.getD, hj]
/-- What Parse told, laid in two variables. -/
theorem two_vars (w : World) (x f g : Value) : Str ((w.alloc (.cells #[x] 28)).alloc (.cells #[f, g] 30)) w.heap.size 28 #[x] ∧ Str ((w.alloc (.cells #[x] 28)).alloc (.cells #[f, g] 30)) (w.heap.size + 1) 30 #[f, g] ∧ Below w.heap.size w ((w.alloc (.cells #[x] 28)).alloc (.cells #[f, g] 30)) := by
  have b1 := below_alloc w (.cells #[x] 28)
  have b2 := below_alloc (w.alloc (.cells #[x] 28)) (.cells #[f, g] 30)
  have s2 := Str.new (w.alloc (.cells #[x] 28)) 30 #[f, g]
  rw [bx_size] at s2
  exact ⟨(Str.new w 28 #[x]).below b2, s2, below_trans b1 b2⟩
set_option maxRecDepth 10000 in
set_option maxHeartbeats 8000000 in
theorem docMany_walk (n : Int) (w : World) (hm : MaxIs w) :
    Calls Tryd.prog 5 #[.int .i64 n] w fun e w' => e = .returned (.bool true) ∧ Below w.heap.size w w' := by
  by_cases hr : n < 1 ∨ 2100 < n
  · have HAW := Lib.hid (awake12 w hm)
    clear hm
    rcases hr with h | h
    · go_enter Tryd.func5, Tryd.ntmps5
      go_wp2_with (go_at_call 7; refine HAW.out.mono ?_; rintro e w1 ⟨rfl, hb⟩)
      go_ret
      exact ⟨rfl, hb⟩
    · have h1 : ¬ n < 1 := by omega
      go_enter Tryd.func5, Tryd.ntmps5
      go_wp2_with (go_at_call 7; refine HAW.out.mono ?_; rintro e w1 ⟨rfl, hb⟩)
      go_ret
      exact ⟨rfl, hb⟩
  obtain ⟨k, rfl⟩ : ∃ k : Nat, n = (k : Int) := ⟨n.toNat, by omega⟩
  have h1 : ¬ (k : Int) < 1 := by omega
  have h2 : ¬ (2100 : Int) < (k : Int) := by omega
  obtain ⟨P1, P2⟩ := DC.many_parse k (by omega) (by omega)
  obtain ⟨T, hT⟩ : ∃ T, DC.manyB k = T := ⟨_, rfl⟩
  have hTl : T.length ≤ 9223372036854775807 := by rw [← hT, DC.many_len]; omega
  have HTL := Lib.hid hTl
  have HRP : Hid (∀ u, Calls Tryd.prog 11 #[.string ⟨#[45, 32, 97, 10]⟩, .int .i64 (k : Int)] u fun e w' => e = .returned (.string ⟨T.toArray⟩) ∧ Below u.heap.size u w') := fun u => by
    have := Tryd.strings_Repeat ⟨#[45, 32, 97, 10]⟩ k u (by omega) (by show 4 * k ≤ _; omega)
    rw [← hT]; exact this
  have hq := eq_fault 9 2000
  have hq0 := eq_fault 0 0
  have hg2 := fault_guard
  have HM := Lib.hid hm
  rw [hT] at P1 P2
  clear hT hTl hm hr
  by_cases hk : 2000 < k + 1
  · have HP := Lib.hid (P2 hk)
    have hk1 : (2000 : Int) < (k : Int) + 1 := by omega
    clear P1 P2 hk hq0
    go_enter Tryd.func5, Tryd.ntmps5
    go_wp2_with (first
      | (go_at_call 11; refine (HRP.out _).mono ?_; rintro e w1 ⟨rfl, hb1⟩; obtain ⟨W, v, hcv, hbw, hrd⟩ := conv_text T HTL.out w1; have HB1 := Lib.hid (below_trans hb1 hbw); have HRD := Lib.hid hrd; clear hb1 hbw hrd)
      | (go_at_call 12; refine (parse_any v T W HRD.out (HM.out.below HB1.out)).mono ?_; rintro e w2 he; obtain ⟨ax, cx, rfl, hr2, hb2⟩ := aw_par (ns := []) (k := 9) (n := 2000) (m := 0) (congrArg DC.told HP.out) (congrArg DC.wrong HP.out) rfl he; clear he hcv; obtain ⟨z1, z2⟩ := var2 w2; obtain ⟨s1, s2, s3⟩ := two_vars w2 (.slice ax 0 cx) (.int .i64 9) (.int .i64 2000); have HB2 := Lib.hid (below_trans (below_trans HB1.out hb2) s3); have e0 := s1.cell 0; obtain ⟨f0, f1⟩ := s2.cells2; simp only [List.getElem?_toArray, List.getElem?_cons_zero] at e0; clear hr2 hb2 s1 s2 s3)
      | (go_at_call 7; refine (awake12 _ (HM.out.below HB2.out)).mono ?_; rintro e w3 ⟨rfl, hb3⟩))
    go_ret
    exact ⟨rfl, below_trans HB2.out hb3⟩
  · obtain ⟨ns, HP0, hl⟩ := P1 (by omega)
    have HP := Lib.hid HP0
    have HL := Lib.hid hl
    have hk1 : ¬ (2000 : Int) < (k : Int) + 1 := by omega
    clear P1 P2 hk hq HP0 hl
    go_enter Tryd.func5, Tryd.ntmps5
    go_wp2_with (first
      | (go_at_call 11; refine (HRP.out _).mono ?_; rintro e w1 ⟨rfl, hb1⟩; obtain ⟨W, v, hcv, hbw, hrd⟩ := conv_text T HTL.out w1; have HB1 := Lib.hid (below_trans hb1 hbw); have HRD := Lib.hid hrd; clear hb1 hbw hrd)
      | (go_at_call 12; refine (parse_any v T W HRD.out (HM.out.below HB1.out)).mono ?_; rintro e w2 he; obtain ⟨ax, cx, rfl, hr2, hb2⟩ := aw_par (ns := ns) (k := 0) (n := 0) (m := k + 1) (congrArg DC.told HP.out) (congrArg DC.wrong HP.out) HL.out he; clear he hcv; obtain ⟨z1, z2⟩ := var2 w2; obtain ⟨s1, s2, s3⟩ := two_vars w2 (.slice ax (k + 1) cx) (.int .i64 0) (.int .i64 0); have HB2 := Lib.hid (below_trans (below_trans HB1.out hb2) s3); have e0 := s1.cell 0; obtain ⟨f0, f1⟩ := s2.cells2; simp only [List.getElem?_toArray, List.getElem?_cons_zero] at e0; clear hr2 hb2 s1 s2 s3)
      | (go_at_call 7; refine (awake12 _ (HM.out.below HB2.out)).mono ?_; rintro e w3 ⟨rfl, hb3⟩))
    go_ret
    exact ⟨rfl, below_trans HB2.out hb3⟩
end Go.Proofs.YthhngkoopaolkaaDoor
