/- Walks of DescText and DescApart. -/
import Derived.Test.YtepnjhhpnabpnaaDoorDsL1
namespace Go.Proofs.YtepnjhhpnabpnaaDoor
open Go.RowKit

theorem code_any (b : Bool) (w : World) : Calls Tryd.prog 12 #[.bool b] w fun e w' => e = .returned (.int .i64 (errOf b)) ∧ w' = w := by
  cases b
  all_goals
    go_enter Tryd.func12, Tryd.ntmps12
    go_wp2
    go_ret
    exact ⟨rfl, rfl⟩
theorem txt_len (es : List D.E) : (D.txt es).length ≤ 4624 := by
  cases hc : D.chk es with
  | false => rw [txt_bad hc]; simp
  | true => rw [txt_good hc]; exact ents_len (chk_all hc)

set_option maxHeartbeats 8000000 in
theorem descText_walk (v : Value) (es : List D.E) (w : World) (hr : Rde w v es) (hf : Fits es) (henv : Env w) :
    Calls Tryd.prog 3 #[.agg #[v]] w fun e w' => e = .returned (.bool true) ∧ Below w.heap.size w w' := by
  obtain ⟨ao, cap, rfl, hcap⟩ := rde_slice hr
  have W0 := below_alloc w (.cells #[.slice ao es.length cap] 24)
  have HE := Lib.hid (henv.below W0)
  have HB0 := Lib.hid W0
  have BX0 := Lib.hid (show Bx w w.heap.size (.slice ao es.length cap) es (w.alloc (.cells #[.slice ao es.length cap] 24)) from ⟨hr.below W0, box_cell _ _ _⟩)
  have HH := Lib.hid (heavy_any _ es _ BX0.out.rd hf)
  have HF := Lib.hid hf
  have hlm : es.length ≤ 9223372036854775807 := by have := hr.len_le; unfold maxLen at this; omega
  clear W0 henv hr hf
  go_enter Tryd.func3, Tryd.ntmps3
  go_wp2_with fail
  refine HH.out.mono ?_
  rintro e w1 ⟨hv, rfl, hlight, b1⟩
  have BX1 := Lib.hid (BX0.out.later b1)
  have HE1 := Lib.hid (HE.out.below b1)
  have B1 := Lib.hid (below_trans HB0.out b1)
  clear b1 HH BX0 HE
  cases hv
  · clear hlight
    have HTX := Lib.hid (text_any _ es _ BX1.out.rd HF.out HE1.out.pl)
    have k1 := BX1.out.cell
    obtain ⟨T, hT⟩ : ∃ T, D.txt es = T := ⟨_, rfl⟩
    have HT := Lib.hid hT
    rw [hT] at HTX
    have hTL : T.length ≤ 4624 := by rw [← hT]; exact txt_len es
    clear hT
    go_wp2_with fail
    refine HTX.out.mono ?_
    rintro e w2 ⟨rfl, b2⟩
    have BX2 := Lib.hid (BX1.out.later b2)
    have HE2 := Lib.hid (HE1.out.below b2)
    have B2 := Lib.hid (below_trans B1.out b2)
    clear b2 HTX BX1 HE1 B1 k1
    have p2 := BX2.out.cell
    have HCK := Lib.hid (fun x (h : Below w2.heap.size w2 x) => check_any _ es x (BX2.out.rd.below h) HF.out)
    have HRC := Lib.hid (fun x (h : Below w2.heap.size w2 x) => rcheck_any _ es x (BX2.out.rd.below h) HF.out)
    have HRT := Lib.hid (fun x (h : Below w2.heap.size w2 x) => rtext_any _ es x (BX2.out.rd.below h) HF.out)
    rw [HT.out] at HRT
    have hTT : (T == T) = true := by simp
    obtain ⟨c, hc⟩ : ∃ c, D.chk es = c := ⟨_, rfl⟩
    have HCH := Lib.hid hc
    rw [hc] at HCK HRC
    clear hc
    cases c
    · have HCO := Lib.hid (fun x => code_any false x)
      have ef : errOf false = 1 := rfl
      rw [ef] at HCK HCO
      clear ef
      go_wp2_with fail
      go_region_held3 (fun x => x.cell? ⟨w.heap.size, 0, none⟩ = some (.slice ao es.length cap)) (first | exact p2 | exact p3 | exact p4 | exact p6) (first
        | (go_at_call 11; refine (HCK.out _ (below_drew _)).mono ?_; rintro e w3 ⟨rfl, b3⟩; have B3 := Lib.hid (below_undrew b3); have p3 := cell_later B3.out p2; clear b3)
        | (go_at_call 13; refine (HRC.out _ B3.out).mono ?_; rintro e w4 ⟨rfl, b4⟩; have B4 := Lib.hid (below_trans B3.out b4); have p4 := cell_later b4 p3; clear b4)
        | (go_at_call 12; refine (HCO.out _).mono ?_; rintro e w5 ⟨rfl, rfl⟩)
        | (go_at_call 14; refine (HRT.out _ B4.out).mono ?_; rintro e w6 ⟨rfl, b6⟩; have B6 := Lib.hid (below_trans B4.out b6); have p6 := cell_later b6 p4; clear b6))
      have BX6 := Lib.hid (BX2.out.later B6.out)
      have HE6 := Lib.hid (HE2.out.below B6.out)
      have HB6 := Lib.hid (below_trans B2.out B6.out)
      have HRD := Lib.hid (read_any T (by omega) w6 HE6.out)
      have HRC6 := Lib.hid (fun x (h : Below w6.heap.size w6 x) => HRC.out x (below_trans B6.out h))
      clear p2 p3 p4 p6 B3 B4 B6 HCK HRC HRT HCO BX2 HE2 B2
      go_wp2_with fail
      refine HRD.out.mono ?_
      rintro e w7 ⟨b7, hcase⟩
      rcases hcase with ⟨vs, es', rfl, hrd, _, his⟩ | ⟨rfl, hno⟩
      · exact absurd (txt_bad HCH.out ▸ HT.out.symm) (D.is_ne his)
      · have W7 := below_alloc w7 (.cells #[.slice none 0 0] 24)
        have b8 := below_trans b7 W7
        have BX8 := Lib.hid (BX6.out.later b8)
        have HE8 := Lib.hid (HE6.out.below b8)
        have HB8 := Lib.hid (below_trans HB6.out b8)
        have HRC8 := Lib.hid (HRC6.out _ b8)
        have k1 := BX8.out.cell
        clear b7 W7 b8 hno HRD HRC6
        go_wp2_with fail
        refine HRC8.out.mono ?_
        rintro e w9 ⟨rfl, b9⟩
        have HB9 := Lib.hid (below_trans HB8.out b9)
        have HA := Lib.hid (awake6 w9 (HE8.out.below b9))
        clear b9 k1 HRC8
        go_wp2_with (go_at_call 9; refine HA.out.mono ?_; rintro e w10 ⟨rfl, b10⟩; have B10 := Lib.hid (below_trans HB9.out b10); clear b10)
        go_ret
        exact ⟨rfl, B10.out⟩
    · have HCO := Lib.hid (fun x => code_any true x)
      have ef : errOf true = 0 := rfl
      rw [ef] at HCK HCO
      clear ef
      go_wp2_with fail
      go_region_held3 (fun x => x.cell? ⟨w.heap.size, 0, none⟩ = some (.slice ao es.length cap)) (first | exact p2 | exact p3 | exact p4 | exact p6) (first
        | (go_at_call 11; refine (HCK.out _ (below_drew _)).mono ?_; rintro e w3 ⟨rfl, b3⟩; have B3 := Lib.hid (below_undrew b3); have p3 := cell_later B3.out p2; clear b3)
        | (go_at_call 13; refine (HRC.out _ B3.out).mono ?_; rintro e w4 ⟨rfl, b4⟩; have B4 := Lib.hid (below_trans B3.out b4); have p4 := cell_later b4 p3; clear b4)
        | (go_at_call 12; refine (HCO.out _).mono ?_; rintro e w5 ⟨rfl, rfl⟩)
        | (go_at_call 14; refine (HRT.out _ B4.out).mono ?_; rintro e w6 ⟨rfl, b6⟩; have B6 := Lib.hid (below_trans B4.out b6); have p6 := cell_later b6 p4; clear b6))
      have BX6 := Lib.hid (BX2.out.later B6.out)
      have HE6 := Lib.hid (HE2.out.below B6.out)
      have HB6 := Lib.hid (below_trans B2.out B6.out)
      have HRD := Lib.hid (read_any T (by omega) w6 HE6.out)
      have HRC6 := Lib.hid (fun x (h : Below w6.heap.size w6 x) => HRC.out x (below_trans B6.out h))
      clear p2 p3 p4 p6 B3 B4 B6 HCK HRC HRT HCO BX2 HE2 B2
      go_wp2_with fail
      refine HRD.out.mono ?_
      rintro e w7 ⟨b7, hcase⟩
      rcases hcase with ⟨vs, es', rfl, hrd, _, his⟩ | ⟨rfl, hno⟩
      · obtain rfl : es' = es := his.uniq ⟨HCH.out, HT.out⟩
        obtain ⟨ax, cx, rfl, hcx⟩ := rde_slice hrd
        have W7 := below_alloc w7 (.cells #[.slice ax es'.length cx] 24)
        have b8 := below_trans b7 W7
        have BX8 := Lib.hid (BX6.out.later b8)
        have BY8 := Lib.hid (show Bx w w7.heap.size (.slice ax es'.length cx) es' (w7.alloc (.cells #[.slice ax es'.length cx] 24)) from ⟨hrd.below W7, box_cell _ _ _⟩)
        have HE8 := Lib.hid (HE6.out.below b8)
        have HB8 := Lib.hid (below_trans HB6.out b8)
        have HRC8 := Lib.hid (HRC6.out _ b8)
        have k1 := BX8.out.cell
        clear b7 W7 b8 his HRD HRC6 hrd
        go_wp2_with fail
        refine HRC8.out.mono ?_
        rintro e w9 ⟨rfl, b9⟩
        have HB9 := Lib.hid (below_trans HB8.out b9)
        have BX9 := Lib.hid (BX8.out.later b9)
        have BY9 := Lib.hid (BY8.out.later b9)
        have HE9 := Lib.hid (HE8.out.below b9)
        have HS := Lib.hid (rsame_any _ _ es' es' w9 BY9.out.rd BX9.out.rd)
        have et : decide (es' = es') = true := by simp
        rw [et] at HS
        clear b9 k1 HRC8 et
        have k1 := BX9.out.cell
        have k2 := BY9.out.cell
        go_wp2_with fail
        refine HS.out.mono ?_
        rintro e w10 ⟨rfl, b10⟩
        have HB10 := Lib.hid (below_trans HB9.out b10)
        have HA := Lib.hid (awake6 w10 (HE9.out.below b10))
        clear b10 k1 k2 HS
        go_wp2_with (go_at_call 9; refine HA.out.mono ?_; rintro e w11 ⟨rfl, b11⟩; have B11 := Lib.hid (below_trans HB10.out b11); clear b11)
        go_ret
        exact ⟨rfl, B11.out⟩
      · exact absurd ⟨HCH.out, HT.out⟩ (hno es)
  · clear hlight
    have HA := Lib.hid (awake6 w1 HE1.out)
    go_wp2_with (go_at_call 9; refine HA.out.mono ?_; rintro e w3 ⟨rfl, b3⟩; have B3 := Lib.hid (below_trans B1.out b3); clear b3)
    go_ret
    exact ⟨rfl, B3.out⟩

theorem beq_dec {x y : List D.E} {a b : List UInt8} (h : a = b ↔ x = y) : (a == b) = decide (x = y) := by
  rw [Bool.eq_iff_iff, beq_iff_eq, decide_eq_true_eq]
  exact h

set_option maxHeartbeats 8000000 in
theorem descApart_walk (va : Value) (as_ : List D.E) (vb : Value) (bs : List D.E) (w : World) (ha : Rde w va as_) (hfa : Fits as_) (hb : Rde w vb bs) (hfb : Fits bs) (henv : Env w) :
    Calls Tryd.prog 5 #[.agg #[va], .agg #[vb]] w fun e w' => e = .returned (.bool true) ∧ Below w.heap.size w w' := by
  obtain ⟨ao, cap, rfl, hcap⟩ := rde_slice ha
  obtain ⟨bo, cap', rfl, hcap'⟩ := rde_slice hb
  have W0 := two_boxes w 24 (.slice ao as_.length cap) (.slice bo bs.length cap')
  have HE := Lib.hid (henv.below W0.below)
  have HB0 := Lib.hid W0.below
  have BX0 := Lib.hid (show Bx w w.heap.size (.slice ao as_.length cap) as_ _ from ⟨ha.below W0.below, W0.first⟩)
  have BY0 := Lib.hid (show Bx w (w.heap.size + 1) (.slice bo bs.length cap') bs _ from ⟨hb.below W0.below, W0.second⟩)
  have HHA := Lib.hid (heavy_any _ as_ _ BX0.out.rd hfa)
  have HHB := Lib.hid (fun x (h : Below _ _ x) => heavy_any _ bs x (BY0.out.rd.below h) hfb)
  have HFA := Lib.hid hfa
  have HFB := Lib.hid hfb
  have hla : as_.length ≤ 9223372036854775807 := by have := ha.len_le; unfold maxLen at this; omega
  have hlb : bs.length ≤ 9223372036854775807 := by have := hb.len_le; unfold maxLen at this; omega
  clear W0 henv ha hb hfa hfb
  go_enter Tryd.func5, Tryd.ntmps5
  go_wp2_with fail
  refine HHA.out.mono ?_
  rintro e w1 ⟨h1, rfl, _, b1⟩
  have HHB1 := Lib.hid (HHB.out _ b1)
  have BX1 := Lib.hid (BX0.out.later b1)
  have BY1 := Lib.hid (BY0.out.later b1)
  have HE1 := Lib.hid (HE.out.below b1)
  have B1 := Lib.hid (below_trans HB0.out b1)
  clear b1 HHA HHB BX0 BY0 HE HB0
  cases h1
  · have k1 := BX1.out.cell
    have k2 := BY1.out.cell
    go_wp2_with fail
    refine HHB1.out.mono ?_
    rintro e w2 ⟨h2, rfl, _, b2⟩
    have BX2 := Lib.hid (BX1.out.later b2)
    have BY2 := Lib.hid (BY1.out.later b2)
    have HE2 := Lib.hid (HE1.out.below b2)
    have B2 := Lib.hid (below_trans B1.out b2)
    clear b2 HHB1 BX1 BY1 HE1 B1 k1 k2
    cases h2
    · have p1 := BX2.out.cell
      have p2 := BY2.out.cell
      have HSA := Lib.hid (fun x (h : Below w2.heap.size w2 x) => same_any _ _ as_ bs x (BX2.out.rd.below h) (BY2.out.rd.below h))
      have HRS := Lib.hid (fun x (h : Below w2.heap.size w2 x) => rsame_any _ _ as_ bs x (BX2.out.rd.below h) (BY2.out.rd.below h))
      have HCA := Lib.hid (fun x (h : Below w2.heap.size w2 x) => rcheck_any _ as_ x (BX2.out.rd.below h) HFA.out)
      have HCB := Lib.hid (fun x (h : Below w2.heap.size w2 x) => rcheck_any _ bs x (BY2.out.rd.below h) HFB.out)
      have HTA := Lib.hid (fun x (h : Below w2.heap.size w2 x) => text_any _ as_ x (BX2.out.rd.below h) HFA.out (HE2.out.below h).pl)
      have HTB := Lib.hid (fun x (h : Below w2.heap.size w2 x) => text_any _ bs x (BY2.out.rd.below h) HFB.out (HE2.out.below h).pl)
      have HEQ := Lib.hid (fun (h1 : D.chk as_ = true) (h2 : D.chk bs = true) => beq_dec (D.txt_inj h1 h2))
      obtain ⟨q, hq⟩ : ∃ q, decide (as_ = bs) = q := ⟨_, rfl⟩
      obtain ⟨ca, hca⟩ : ∃ q, D.chk as_ = q := ⟨_, rfl⟩
      obtain ⟨cb, hcb⟩ : ∃ q, D.chk bs = q := ⟨_, rfl⟩
      obtain ⟨TA, hta⟩ : ∃ q, D.txt as_ = q := ⟨_, rfl⟩
      obtain ⟨TB, htb⟩ : ∃ q, D.txt bs = q := ⟨_, rfl⟩
      rw [hq] at HSA HRS
      rw [hca] at HCA HEQ
      rw [hcb] at HCB HEQ
      rw [hta] at HTA HEQ
      rw [htb] at HTB HEQ
      rw [hq] at HEQ
      clear hq hca hcb hta htb
      have hqq : (q == q) = true := by simp
      go_wp2_with fail
      go_region_held3 (fun x => x.cell? ⟨w.heap.size, 0, none⟩ = some (.slice ao as_.length cap) ∧ x.cell? ⟨w.heap.size + 1, 0, none⟩ = some (.slice bo bs.length cap')) (first | exact ⟨p1, p2⟩ | exact ⟨q1, q2⟩ | exact ⟨r1, r2⟩) (first
        | (go_at_call 18; refine (HSA.out _ (below_drew _)).mono ?_; rintro e w3 ⟨rfl, b3⟩; have B3 := Lib.hid (below_undrew b3); have q1 := cell_later B3.out p1; have q2 := cell_later B3.out p2; clear b3)
        | (go_at_call 16; refine (HRS.out _ B3.out).mono ?_; rintro e w4 ⟨rfl, b4⟩; have B4 := Lib.hid (below_trans B3.out b4); have r1 := cell_later b4 q1; have r2 := cell_later b4 q2; clear b4))
      clear p1 p2 q1 q2 r1 r2 HSA B3
      have k1 := (BX2.out.later B4.out).cell
      go_wp2_with fail
      refine (HCA.out _ B4.out).mono ?_
      rintro e w5 ⟨rfl, b5⟩
      have B5 := Lib.hid (below_trans B4.out b5)
      clear b5 k1 HCA B4
      cases ca
      · have HB5 := Lib.hid (below_trans B2.out B5.out)
        have HA := Lib.hid (awake6 w5 (HE2.out.below B5.out))
        go_wp2_with (go_at_call 9; refine HA.out.mono ?_; rintro e w6 ⟨rfl, b6⟩; have B6 := Lib.hid (below_trans HB5.out b6); clear b6)
        go_ret
        exact ⟨rfl, B6.out⟩
      · have k2 := (BY2.out.later B5.out).cell
        go_wp2_with fail
        refine (HCB.out _ B5.out).mono ?_
        rintro e w6 ⟨rfl, b6⟩
        have B6 := Lib.hid (below_trans B5.out b6)
        clear b6 k2 HCB B5
        cases cb
        · have HB6 := Lib.hid (below_trans B2.out B6.out)
          have HA := Lib.hid (awake6 w6 (HE2.out.below B6.out))
          go_wp2_with (go_at_call 9; refine HA.out.mono ?_; rintro e w7 ⟨rfl, b7⟩; have B7 := Lib.hid (below_trans HB6.out b7); clear b7)
          go_ret
          exact ⟨rfl, B7.out⟩
        · have hEQ := HEQ.out (by simp) (by simp)
          clear HEQ
          have p1 := (BX2.out.later B6.out).cell
          have p2 := (BY2.out.later B6.out).cell
          have HA := Lib.hid (fun x (h : Below w2.heap.size w2 x) => awake6 x (HE2.out.below h))
          go_wp2_with fail
          go_region_held3 (fun x => x.cell? ⟨w.heap.size, 0, none⟩ = some (.slice ao as_.length cap) ∧ x.cell? ⟨w.heap.size + 1, 0, none⟩ = some (.slice bo bs.length cap')) (first | exact ⟨p1, p2⟩ | exact ⟨q1, q2⟩ | exact ⟨r1, r2⟩ | exact ⟨s1, s2⟩ | exact ⟨t1, t2⟩) (first
            | (go_at_call 10; refine (HTB.out _ B7.out).mono ?_; rintro e w8 ⟨rfl, b8⟩; have B8 := Lib.hid (below_trans B7.out b8); have r1 := cell_later b8 q1; have r2 := cell_later b8 q2; clear b8)
            | (go_at_call 10; refine (HTA.out _ (below_trans B6.out (below_drew _))).mono ?_; rintro e w7 ⟨rfl, b7⟩; have B7 := Lib.hid (below_trans B6.out (below_undrew b7)); have q1 := cell_later (below_undrew b7) p1; have q2 := cell_later (below_undrew b7) p2; clear b7)
            | (go_at_call 16; refine (HRS.out _ B8.out).mono ?_; rintro e w9 ⟨rfl, b9⟩; have B9 := Lib.hid (below_trans B8.out b9); have s1 := cell_later b9 r1; have s2 := cell_later b9 r2; clear b9)
            | (go_at_call 9; refine (HA.out _ B9.out).mono ?_; rintro e w10 ⟨rfl, b10⟩; have B10 := Lib.hid (below_trans B9.out b10); have t1 := cell_later b10 s1; have t2 := cell_later b10 s2; clear b10))
          have HB10 := Lib.hid (below_trans B2.out B10.out)
          clear p1 p2 q1 q2 r1 r2 s1 s2 t1 t2
          go_wp2
          go_ret
          exact ⟨rfl, HB10.out⟩
    · have HA := Lib.hid (awake6 w2 HE2.out)
      go_wp2_with (go_at_call 9; refine HA.out.mono ?_; rintro e w3 ⟨rfl, b3⟩; have B3 := Lib.hid (below_trans B2.out b3); clear b3)
      go_ret
      exact ⟨rfl, B3.out⟩
  · have HA := Lib.hid (awake6 w1 HE1.out)
    go_wp2_with (go_at_call 9; refine HA.out.mono ?_; rintro e w3 ⟨rfl, b3⟩; have B3 := Lib.hid (below_trans B1.out b3); clear b3)
    go_ret
    exact ⟨rfl, B3.out⟩
end Go.Proofs.YtepnjhhpnabpnaaDoor
