/- The walk of DocShift. -/
import Derived.Test.YthhngkoopaolkaaGreatDoorDcL6
namespace Go.Proofs.YthhngkoopaolkaaGreatDoor
open Go.RowKit

theorem told_small (bs : List UInt8) : (DC.told (DC.parse bs)).length ≤ 2000 := by
  unfold DC.parse
  split
  · simp [DC.told]
  · split
    · simp [DC.told]
    · have h : ∀ l, (DC.told (DC.doc l)).length ≤ 2000 := fun l => by
        cases h : DC.doc l with
        | bad k n => simp [DC.told]
        | ok E =>
          unfold DC.doc at h
          split at h
          · cases h
          · obtain ⟨a, h1, h2⟩ := DC.bind_ok h
            obtain ⟨e, r⟩ := a
            have h3 := (DC.blk_fine h1).1.many
            cases r with
            | nil => simp only [DC.Out.ok.injEq] at h2; subst h2; simpa [DC.told] using h3
            | cons q r => cases h2
      exact h _
set_option maxRecDepth 10000 in
set_option maxHeartbeats 8000000 in
theorem docShift_in (v : Value) (bs : List UInt8) (k : Nat) (w : World) (hr : Rdv w v (bv bs)) (hl : bs.length ≤ 4000) (hk : k ≤ 20) (hm : MaxIs w) :
    Calls Tryz.prog 5 #[v, .int .i64 (k : Int)] w fun e w' => e = .returned (.bool true) ∧ Below w.heap.size w w' := by
  have HM := Lib.hid hm
  have HRD := Lib.hid hr
  have hcv := run_string_rd (P := Tryz.prog) (w := w) 22 5 9 Tryz.underlying22 Tryz.underlying5 Tryz.underlying9 hr
  have HSP := Lib.hid (sp10_any bs w hl hm)
  obtain ⟨NS, hNS⟩ : ∃ NS, DC.told (DC.parse bs) = NS := ⟨_, rfl⟩
  obtain ⟨M, hMM⟩ : ∃ M, NS.length = M := ⟨_, rfl⟩
  obtain ⟨K, N, hKN⟩ : ∃ K N, DC.wrong (DC.parse bs) = (K, N) := ⟨_, _, rfl⟩
  have hq := eq_fault K N
  have hg2 := fault_guard
  have HNS := Lib.hid hNS
  have HMM := Lib.hid hMM
  have HKN := Lib.hid hKN
  have HNL : Hid (NS.length ≤ 2000) := by show _ ≤ _; rw [← hNS]; exact told_small bs
  have HPA := Lib.hid (fun (u : World) (h : Rdv u v (bv bs)) (hm : MaxIs u) => parse_any v bs u h hm)
  obtain ⟨ao, cap, hv⟩ := hr.slice
  subst hv
  obtain ⟨L, hL⟩ : ∃ L, (bv bs).length = L := ⟨_, rfl⟩
  have hLb : bs.length = L := by rw [← hL, bv_len]
  have HLB := Lib.hid hLb
  rw [hL] at HRD HPA hcv ⊢
  obtain ⟨R, hR⟩ : ∃ R, (LN.rows bs).length = R := ⟨_, rfl⟩
  have hR1 : R ≤ 4001 := by
    rw [← hR, LN.rows_len]
    have := List.count_le_length (a := (10 : UInt8)) (l := bs)
    omega
  have HIR := Lib.hid (DC.inB_rows k bs)
  rw [hR] at HSP HIR
  have HR := Lib.hid hR
  obtain ⟨P, hP⟩ : ∃ P : Nat, R * k = P := ⟨_, rfl⟩
  have hPi : (R : Int) * (k : Int) = (P : Int) := by rw [← hP]; simp
  have hPm : (P : Int) ≤ 9223372036854775807 := by
    have : R * k ≤ 4001 * 20 := Nat.mul_le_mul hR1 hk
    omega
  rw [hP] at HIR
  have t1 : ¬ (4000 : Int) < (L : Int) := by omega
  have t2 : ¬ (k : Int) < 0 := by omega
  have t3 : ¬ (20 : Int) < (k : Int) := by omega
  have HL := Lib.hid hl
  have HK := Lib.hid hk
  clear hNS hMM hKN hr hm hL hLb hR hP hR1 hl hk
  by_cases hbig : 8000 < P
  · have t4 : (8000 : Int) < (P : Int) := by omega
    go_enter Tryz.func5, Tryz.ntmps5
    go_wp2_with fail
    refine HSP.out.mono ?_
    rintro e w1 ⟨vs, hvs, rfl, hw1⟩
    have HB1 : Hid (Below w.heap.size w w1) := by rw [hw1]; exact Lib.hid (below_alloc _ _)
    clear hw1 hvs HPA HSP hcv
    go_wp2_with (go_at_call 6; refine (awake12 _ (HM.out.below HB1.out)).mono ?_; rintro e w2 ⟨rfl, hb2⟩)
    go_ret
    exact ⟨rfl, below_trans HB1.out hb2⟩
  have t4 : ¬ (8000 : Int) < (P : Int) := by omega
  have HBIG := Lib.hid hbig
  clear hbig
  go_enter Tryz.func5, Tryz.ntmps5
  go_wp2_with fail
  refine HSP.out.mono ?_
  rintro e w1 ⟨vs, hvs, rfl, hw1⟩
  have hs1 : Str w1 w.heap.size 9 (vs.map Value.string).toArray := by rw [hw1]; exact Str.new _ _ _
  have hb1 : Below w.heap.size w w1 := by rw [hw1]; exact below_alloc _ _
  have HB0 := Lib.hid hb1
  have HSS := Lib.hid hs1
  have HVS := Lib.hid hvs
  have HP1 := Lib.hid (HPA.out w1 (HRD.out.below hb1) (HM.out.below hb1))
  clear hs1 hb1 hw1 hvs HPA HSP hcv
  go_wp2_with fail
  refine HP1.out.mono ?_
  rintro e w2 he
  obtain ⟨a1, c1, rfl, r1, b1⟩ := aw_par HNS.out HKN.out HMM.out he
  obtain ⟨z1, z2⟩ := var2 w2
  obtain ⟨s1, s2, s3⟩ := two_vars w2 (.slice a1 M c1) (.int .i64 K) (.int .i64 N)
  have b3 := below_trans b1 s3
  have HB1 := Lib.hid (below_trans HB0.out b3)
  have HS1 := Lib.hid s1
  have HF1 := Lib.hid s2
  have HR1 := Lib.hid (r1.below s3)
  have HSS1 := Lib.hid (HSS.out.below b3)
  clear he r1 b1 s1 s2 s3 b3 HP1 HB0 HSS t1 t2 t3 t4 hPi hPm
  obtain ⟨BK, hBK⟩ : ∃ BK, DC.bl k = BK := ⟨_, rfl⟩
  obtain ⟨IN, hIN⟩ : ∃ IN, DC.inB k bs = IN := ⟨_, rfl⟩
  obtain ⟨SP, hSP⟩ : ∃ SP, (10 : UInt8) :: BK = SP := ⟨_, rfl⟩
  obtain ⟨T, hT⟩ : ∃ T, BK ++ IN = T := ⟨_, rfl⟩
  have hBl : BK.length = k := by rw [← hBK]; simp [DC.bl]
  have hIl : IN.length ≤ 12000 := by
    have h1 := HIR.out
    rw [hIN] at h1
    have := HBIG.out
    have := HL.out
    omega
  have hTl : T.length ≤ 12100 := by rw [← hT, List.length_append]; have := HK.out; omega
  have hTs : DC.shT k bs = T := by rw [DC.shT_eq, hBK, hIN, hT]
  have hPT : DC.parse T = DC.parse bs := by rw [← hTs]; exact DC.parse_shT k bs (by rw [hTs]; omega)
  have HNS2 : Hid (DC.told (DC.parse T) = NS) := by show _ = _; rw [hPT]; exact HNS.out
  have HKN2 : Hid (DC.wrong (DC.parse T) = (K, N)) := by show _ = _; rw [hPT]; exact HKN.out
  have HTL : Hid (T.length ≤ 9223372036854775807) := by show _ ≤ _; omega
  have hc1 : (⟨#[10]⟩ : ByteArray) ++ ⟨BK.toArray⟩ = ⟨SP.toArray⟩ := by rw [← hSP]; exact str_app [10] BK
  have hc2 : (⟨BK.toArray⟩ : ByteArray) ++ ⟨IN.toArray⟩ = ⟨T.toArray⟩ := by rw [← hT]; exact str_app BK IN
  have q1 : ¬ 9223372036854775807 < 1 + BK.length := by have := HK.out; omega
  have q2 : ¬ 9223372036854775807 < BK.length + IN.length := by have := HK.out; omega
  have HRE := Lib.hid (fun (u : World) => bl_any k HK.out u)
  have HJO := Lib.hid (fun (u : World) (hs : Str u w.heap.size 9 (vs.map Value.string).toArray) => join10_any bs k w.heap.size vs u HL.out HK.out HVS.out hs)
  rw [HR.out, hBK, hSP, hIN] at HJO
  rw [hBK] at HRE
  clear hBK hIN hSP hT hBl hIl hTl hTs hPT
  generalize hU : (w2.alloc (.cells #[.slice a1 M c1] 26)).alloc (.cells #[.int .i64 K, .int .i64 N] 28) = U at HB1 HS1 HF1 HR1 HSS1
  have HBU : Hid (Below U.heap.size U U) := Lib.hid (Below.refl _ _)
  go_wp2_with (first
    | (go_at_call 15; rw [hU]; refine (HRE.out _).mono ?_; rintro e w5 ⟨rfl, hb5⟩; have HBU := Lib.hid (below_trans HBU.out hb5); clear hb5)
    | (go_at_call 15; refine (HRE.out _).mono ?_; rintro e w5 ⟨rfl, hb5⟩; have HBU := Lib.hid (below_trans HBU.out hb5); clear hb5)
    | (go_at_call 16; refine (HJO.out _ (HSS1.out.below HBU.out)).mono ?_; rintro e w6 ⟨rfl, hb6⟩; obtain ⟨W, v2, hcv2, hbw, hrd⟩ := conv_text T HTL.out w6; have HBU := Lib.hid (below_trans (below_trans HBU.out hb6) hbw); have HRD2 := Lib.hid hrd; clear hb6 hbw hrd))
  have HP2 := Lib.hid (parse_any v2 T W HRD2.out (HM.out.below (below_trans HB1.out HBU.out)))
  refine HP2.out.mono ?_
  rintro e w8 he
  clear hcv2 z1 z2
  obtain ⟨a2, c2, rfl, r2, b2⟩ := aw_par HNS2.out HKN2.out HMM.out he
  obtain ⟨z1, z2⟩ := var2 w8
  obtain ⟨s1, s2, s3⟩ := two_vars w8 (.slice a2 M c2) (.int .i64 K) (.int .i64 N)
  have b3 := below_trans (below_trans HBU.out b2) s3
  have HB2 := Lib.hid (below_trans HB1.out b3)
  have HF2 := Lib.hid (HF1.out.below b3)
  have HG2 := Lib.hid s2
  have e1 := (HS1.out.below b3).cell 0
  have e2 := s1.cell 0
  have HAL := Lib.hid (dalike_any _ _ NS _ (HR1.out.below b3) (r2.below s3) (by have := HNL.out; omega))
  simp only [List.getElem?_toArray, List.getElem?_cons_zero] at e1 e2
  clear he r2 b2 s1 s2 s3 b3 HP2 HB1 HS1 HF1 HR1 hU
  go_wp2_with fail
  refine HAL.out.mono ?_
  rintro e w9 ⟨rfl, b4⟩
  have HB3 := Lib.hid (below_trans HB2.out b4)
  obtain ⟨f0, f1⟩ := (HF2.out.below b4).cells2
  obtain ⟨g0, g1⟩ := (HG2.out.below b4).cells2
  clear b4 HAL HF2 HG2 e1 e2 z1 z2
  go_wp2_with (go_at_call 6; refine (awake12 _ (HM.out.below HB3.out)).mono ?_; rintro e w4 ⟨rfl, hb4⟩)
  go_ret
  exact ⟨rfl, below_trans HB3.out hb4⟩
set_option maxHeartbeats 2000000 in
theorem docShift_walk (v : Value) (bs : List UInt8) (n : Int) (w : World) (hr : Rdv w v (bv bs)) (_hl : bs.length ≤ 140737488351232) (hm : MaxIs w) :
    Calls Tryz.prog 5 #[v, .int .i64 n] w fun e w' => e = .returned (.bool true) ∧ Below w.heap.size w w' := by
  by_cases hc : bs.length ≤ 4000 ∧ 0 ≤ n ∧ n ≤ 20
  · obtain ⟨k, rfl⟩ : ∃ k : Nat, n = (k : Int) := ⟨n.toNat, by omega⟩
    exact docShift_in v bs k w hr hc.1 (by omega) hm
  · have HAW := Lib.hid (awake12 w hm)
    obtain ⟨ao, cap, hv⟩ := hr.slice
    subst hv
    obtain ⟨L, hL⟩ : ∃ L, (bv bs).length = L := ⟨_, rfl⟩
    have hLb : bs.length = L := by rw [← hL, bv_len]
    rw [hL]
    have hLm : (L : Int) ≤ 9223372036854775807 := by omega
    have hor : 4000 < L ∨ n < 0 ∨ 20 < n := by omega
    clear hr hm hL hLb _hl hc
    by_cases h1 : 4000 < L
    · have t1 : (4000 : Int) < (L : Int) := by omega
      go_enter Tryz.func5, Tryz.ntmps5
      go_wp2_with (go_at_call 6; refine HAW.out.mono ?_; rintro e w1 ⟨rfl, hb⟩)
      go_ret
      exact ⟨rfl, hb⟩
    have t1 : ¬ (4000 : Int) < (L : Int) := by omega
    by_cases h2 : n < 0
    · go_enter Tryz.func5, Tryz.ntmps5
      go_wp2_with (go_at_call 6; refine HAW.out.mono ?_; rintro e w1 ⟨rfl, hb⟩)
      go_ret
      exact ⟨rfl, hb⟩
    have h3 : 20 < n := by omega
    go_enter Tryz.func5, Tryz.ntmps5
    go_wp2_with (go_at_call 6; refine HAW.out.mono ?_; rintro e w1 ⟨rfl, hb⟩)
    go_ret
    exact ⟨rfl, hb⟩
end Go.Proofs.YthhngkoopaolkaaGreatDoor
