/- The walk of the document's own DecodeTell. -/
import Derived.Test.YtokmpfkmkhnopaaTlZ
namespace Go.Proofs.Ytokmpfkmkhnopaa
open Go.RowKit

set_option maxHeartbeats 32000000 in
theorem rdecodeTell_any (v : Value) (bs : List UInt8) (w : World) (hr : Rdv w v (bv bs)) :
    Calls Try.prog 17 #[v] w (DecT w (TL.dec bs)) := by
  have HBG := Lib.hid (begink_any 2 2 rfl v bs _ (hr.below (below_alloc w (.cells noTell 25))))
  unfold noTell at HBG
  obtain ⟨ao, cap, rfl, -⟩ := hr
  obtain ⟨s0, s1, s2, s3, s4, id, code, f, n, h0, hn16, hoi, h1, h2, h3, h4⟩ := tbegin_letters bs
  rw [h0] at HBG
  have he1 := eq_one f
  obtain ⟨fb, hfb⟩ : ∃ fb, decide (f = 1) = fb := ⟨_, rfl⟩
  rw [hfb] at he1 hoi
  have HOI := Lib.hid hoi
  have H1 := Lib.hid h1
  have H2 := Lib.hid h2
  have H3 := Lib.hid h3
  have H4 := Lib.hid h4
  clear h0 h1 h2 h3 h4 hoi hfb
  go_enter Try.func17, Try.ntmps17
  go_wp2_with fail
  refine HBG.out.mono ?_
  rintro e w1 ⟨rfl, hb2, hb3, hb4⟩
  rw [box_size]
  have HA0 : Hid (OT w (w1.alloc (.cells noTell 25)) (.int .i64 0) (.int .i64 0) (.bool false) (.slice none 0 0) (.slice none 0 0) [] [] s0) := by
    refine Lib.hid (OT.start ⟨by rw [box_size], hb2, hb3, hb4⟩)
  have hsz : w1.heap.size = w.heap.size + 2 := by rw [hb4, box_size]
  unfold noTell at HA0
  have HSZ := Lib.hid hsz
  clear hb2 hb3 hb4 HBG hsz
  go_wp2_with fail
  rw [HSZ.out]
  refine (H1.out _ _ HA0.out.rd).mono ?_
  rintro e w2 ⟨rfl, hr2, hk2⟩
  have HA2 := Lib.hid (HA0.out.later hk2 hr2)
  clear hr2 hk2 HA0 HSZ H1
  have HA3 := Lib.hid (HA2.out.set 0 (.int .i64 (id : Int)) (.int .i64 (id : Int)) (.int .i64 0) (.bool false) (by simp))
  obtain ⟨c0, c1, c2, c3, c4⟩ := HA2.out.a.cells5
  have f0 := HA2.out.a.frozen 0
  go_wp2_with fail
  refine (H2.out _ _ HA3.out.rd).mono ?_
  rintro e w3 ⟨rfl, hr3, hk3⟩
  have HA4 := Lib.hid (HA3.out.later hk3 hr3)
  clear hr3 hk3 HA2 HA3 H2 c0 c1 c2 c3 c4 f0
  have HA5 := Lib.hid (HA4.out.set 1 (.int .i64 (code : Int)) (.int .i64 (id : Int)) (.int .i64 (code : Int)) (.bool false) (by simp))
  obtain ⟨c0, c1, c2, c3, c4⟩ := HA4.out.a.cells5
  have f0 := HA4.out.a.frozen 1
  go_wp2_with fail
  refine (H3.out _ _ HA5.out.rd).mono ?_
  rintro e w4 ⟨rfl, hr4, hk4⟩
  have HA6 := Lib.hid (HA5.out.later hk4 hr4)
  clear hr4 hk4 HA4 HA5 H3 c0 c1 c2 c3 c4 f0
  have HA7 := Lib.hid (HA6.out.set 2 (.bool fb) (.int .i64 (id : Int)) (.int .i64 (code : Int)) (.bool fb) (by simp))
  obtain ⟨c0, c1, c2, c3, c4⟩ := HA6.out.a.cells5
  have f0 := HA6.out.a.frozen 2
  go_wp2_with fail
  refine (H4.out _ _ HA7.out.rd).mono ?_
  rintro e w5 ⟨rfl, hr5, hk5⟩
  have HA8 := Lib.hid (HA7.out.later hk5 hr5)
  clear hr5 hk5 HA6 HA7 H4 c0 c1 c2 c3 c4 f0 he1
  go_wp2
  go_loopw [7] (fun i wr => ∃ (k : Nat), i = .int .i64 (k : Int) ∧ k ≤ n ∧ Hid (∃ vs ss s, OT w wr (.int .i64 (id : Int)) (.int .i64 (code : Int)) (.bool fb) vs (.slice none 0 0) ss [] s ∧ ss.length = k ∧ OI1 bs (TL.tail (id : Int) (code : Int) fb) n ss k s)) (fun i _ => n - (intOf i).toNat)
  case atStart => exact ⟨0, rfl, Nat.zero_le _, _, _, _, HA8.out, rfl, HOI.out⟩
  case round =>
    obtain ⟨k, rfl, hk, HK⟩ := hrel
    obtain ⟨vs, ss, s, hoa, hlen, hoi⟩ := HK.out
    have HR := Lib.hid hoa
    have HLN := Lib.hid hlen
    have HI := Lib.hid hoi
    have hbad := bad_cell hoa.rd
    obtain ⟨av, cv, rfl⟩ := hoa.own.s.slice
    clear hoa HK hlen hoi HA8 HOI
    by_cases hgo : (∃ rest, s = some rest) ∧ k < n
    · obtain ⟨⟨rest, rfl⟩, hlt⟩ := hgo
      simp only [Option.isNone_some] at hbad
      have g0 : (k : Int) < (n : Int) := by omega
      obtain ⟨t1, t2, t3, t4, t5, a, b, c, d, e, hyes, hno, q1, q2, q3, q4, q5⟩ := tstat_letters rest
      have HM := Lib.hid (HI.out.more hlt hyes hno)
      have Q1 := Lib.hid q1
      have Q2 := Lib.hid q2
      have Q3 := Lib.hid q3
      have Q4 := Lib.hid q4
      have Q5 := Lib.hid q5
      have HI0 : Hid (IT wr (wr.alloc (.cells #[.int .i64 0, .int .i64 0, .int .i64 0, .int .i64 0, .int .i64 0] 41)) (w.heap.size + 1) #[.int .i64 0, .int .i64 0, .int .i64 0, .int .i64 0, .int .i64 0] (some rest)) := by
        have hbig := HR.out.big
        have B := below_alloc wr (.cells #[.int .i64 0, .int .i64 0, .int .i64 0, .int .i64 0, .int .i64 0] 41)
        exact Lib.hid ⟨Kb.of_below B _ _, by omega, by rw [box_size]; omega, Str.new _ _ _, HR.out.rd.below B⟩
      clear hyes hno q1 q2 q3 q4 q5
      go_wp2_with fail
      refine (Q1.out _ _ HI0.out.rd).mono ?_
      rintro e x1 ⟨rfl, hr6, hk6⟩
      have HX1 := Lib.hid (HI0.out.later hk6 hr6)
      clear hr6 hk6 Q1 HI0 hbad
      have HY1 := Lib.hid (HX1.out.set 0 (.int .i64 (a : Int)) (cs' := #[.int .i64 (a : Int), .int .i64 0, .int .i64 0, .int .i64 0, .int .i64 0]) (by simp))
      have d0 := HX1.out.st.cell 0
      have f0 := HX1.out.st.frozen 0
      simp only [List.getElem?_toArray, List.getElem?_cons_zero] at d0
      go_wp2_with fail
      refine (Q2.out _ _ HY1.out.rd).mono ?_
      rintro e x2 ⟨rfl, hr6, hk6⟩
      have HX2 := Lib.hid (HY1.out.later hk6 hr6)
      clear hr6 hk6 Q2 HY1 d0 f0
      have HY2 := Lib.hid (HX2.out.set 1 (.int .i64 (b : Int)) (cs' := #[.int .i64 (a : Int), .int .i64 (b : Int), .int .i64 0, .int .i64 0, .int .i64 0]) (by simp))
      have d0 := HX2.out.st.cell 1
      have f0 := HX2.out.st.frozen 1
      simp only [List.getElem?_toArray, List.getElem?_cons_zero, List.getElem?_cons_succ] at d0
      go_wp2_with fail
      refine (Q3.out _ _ HY2.out.rd).mono ?_
      rintro e x3 ⟨rfl, hr6, hk6⟩
      have HX3 := Lib.hid (HY2.out.later hk6 hr6)
      clear hr6 hk6 Q3 HY2 d0 f0
      have HY3 := Lib.hid (HX3.out.set 2 (.int .i64 (c : Int)) (cs' := #[.int .i64 (a : Int), .int .i64 (b : Int), .int .i64 (c : Int), .int .i64 0, .int .i64 0]) (by simp))
      have d0 := HX3.out.st.cell 2
      have f0 := HX3.out.st.frozen 2
      simp only [List.getElem?_toArray, List.getElem?_cons_zero, List.getElem?_cons_succ] at d0
      go_wp2_with fail
      refine (Q4.out _ _ HY3.out.rd).mono ?_
      rintro e x4 ⟨rfl, hr6, hk6⟩
      have HX4 := Lib.hid (HY3.out.later hk6 hr6)
      clear hr6 hk6 Q4 HY3 d0 f0
      have HY4 := Lib.hid (HX4.out.set 3 (.int .i64 (d : Int)) (cs' := #[.int .i64 (a : Int), .int .i64 (b : Int), .int .i64 (c : Int), .int .i64 (d : Int), .int .i64 0]) (by simp))
      have d0 := HX4.out.st.cell 3
      have f0 := HX4.out.st.frozen 3
      simp only [List.getElem?_toArray, List.getElem?_cons_zero, List.getElem?_cons_succ] at d0
      go_wp2_with fail
      refine (Q5.out _ _ HY4.out.rd).mono ?_
      rintro e x5 ⟨rfl, hr6, hk6⟩
      have HX5 := Lib.hid (HY4.out.later hk6 hr6)
      clear hr6 hk6 Q5 HY4 d0 f0
      have HY5 := Lib.hid (HX5.out.set 4 (.int .i64 (e : Int)) (cs' := #[.int .i64 (a : Int), .int .i64 (b : Int), .int .i64 (c : Int), .int .i64 (d : Int), .int .i64 (e : Int)]) (by simp))
      have d0 := HX5.out.st.cell 4
      have f0 := HX5.out.st.frozen 4
      simp only [List.getElem?_toArray, List.getElem?_cons_zero, List.getElem?_cons_succ] at d0
      have HO := Lib.hid (HR.out.later HY5.out.kb HY5.out.rd)
      have HB := Lib.hid (below_alloc (x5.setCell ⟨wr.heap.size, 4, none⟩ (.int .i64 (e : Int))) (.cells #[.int .i64 (a : Int), .int .i64 (b : Int), .int .i64 (c : Int), .int .i64 (d : Int), .int .i64 (e : Int)] 41))
      have HN := Lib.hid (Str.new (x5.setCell ⟨wr.heap.size, 4, none⟩ (.int .i64 (e : Int))) 41 #[.int .i64 (a : Int), .int .i64 (b : Int), .int .i64 (c : Int), .int .i64 (d : Int), .int .i64 (e : Int)])
      have HO2 := Lib.hid (HO.out.calm HB.out)
      have hsz5 : (x5.setCell ⟨wr.heap.size, 4, none⟩ (.int .i64 (e : Int))).heap.size = x5.heap.size := by simp [World.setCell]
      have HAT := Lib.hid (Str.at5 (s := ((a : Int), (b : Int), (c : Int), (d : Int), (e : Int))) HN.out)
      rw [hsz5] at HAT
      clear hsz5
      obtain ⟨k0, k1, k2, k3, k4⟩ := HY5.out.st.cells5
      have c3 := HO.out.a.cells5.2.2.2.1
      have HLE : Hid (ss.length ≤ 100) := by have := HLN.out; show _ ≤ _; omega
      clear HB HN
      go_wp2_with (at_builtin; refine wpList_append_status rfl (.tmp 55) (.tmp 57) 22 rfl (w.heap.size + 3) 41 _ Try.underlying22 Try.info_status rfl (by rfl) HO2.out.own.s (by rfl) HAT.out HLE.out HO2.out.big ?_; intro g4 cap4 y4 ho4 hg4; obtain ⟨z4, hd4⟩ := HO2.out.grownS hg4 ho4; have HD4 := Lib.hid hd4; have m0 := z4.cell 3; have j0 := z4.frozen 3; simp only [List.getElem?_toArray, List.getElem?_cons_zero, List.getElem?_cons_succ] at m0; clear ho4 hg4 z4 hd4)
      go_roundw
      case rel => exact ⟨k + 1, by go_num, by omega, _, _, _, HD4.out, by rw [List.length_append, HLN.out]; rfl, HM.out⟩
      case measure => simp [intOf]; omega
    · have hover : ∀ rest, s = some rest → n ≤ k := by
        intro rest hs'
        rcases Nat.lt_or_ge k n with h | h
        · exact absurd ⟨⟨rest, hs'⟩, h⟩ hgo
        · exact h
      have hcase : ((k : Int) < (n : Int) ∧ s.isNone = true) ∨ ¬ (k : Int) < (n : Int) := by
        rcases Nat.lt_or_ge k n with h | h
        · left
          cases s with
          | none => exact ⟨by omega, rfl⟩
          | some r => exact absurd ⟨⟨r, rfl⟩, h⟩ hgo
        · right; omega
      obtain ⟨s', m, hm4, hoi2, hq⟩ := tmid_letters HI.out hover
      have HOI2 := Lib.hid hoi2
      have HQ := Lib.hid (hq (w.heap.size + 1) wr HR.out.rd)
      generalize hsb : s.isNone = sb at hcase hbad
      clear hgo hsb hover hoi2 hq HI
      obtain ⟨vS, hvS⟩ : ∃ v, Value.slice av ss.length cv = v := ⟨_, rfl⟩
      rw [hvS] at HR
      have HVS := Lib.hid hvS
      clear hvS
      obtain ⟨wo, rfl⟩ : ∃ wo, wo = wr := ⟨wr, rfl⟩
      rcases hcase with ⟨g0, rfl⟩ | g0
      all_goals
        go_wp2_with fail
        refine HQ.out.mono ?_
        rintro e w6 ⟨rfl, hr6, hk6⟩
        have HA9 := Lib.hid (HR.out.later hk6 hr6)
        clear hr6 hk6 HQ HR hbad
        go_wp2
        go_loopw [10] (fun i wr => ∃ (j : Nat), i = .int .i64 (j : Int) ∧ j ≤ m ∧ Hid (∃ vh hs s, OT w wr (.int .i64 (id : Int)) (.int .i64 (code : Int)) (.bool fb) vS vh ss hs s ∧ hs.length = j ∧ OI2 bs (id : Int) (code : Int) fb ss m hs j s)) (fun i _ => m - (intOf i).toNat)
        case atStart => exact ⟨0, rfl, Nat.zero_le _, _, _, _, HA9.out, rfl, HOI2.out⟩
        case round =>
          obtain ⟨j, rfl, hj, HJ⟩ := hrel
          obtain ⟨vh, hs, s5, hot, hel, hoi⟩ := HJ.out
          have HR := Lib.hid hot
          have HEL := Lib.hid hel
          have HI := Lib.hid hoi
          have hbad := bad_cell hot.rd
          obtain ⟨ah, ch, rfl⟩ := own_slice hot.own.h
          clear hot HJ hel hoi HA9 HOI2
          by_cases hgo : (∃ r, s5 = some r) ∧ j < m
          · obtain ⟨⟨r, rfl⟩, hjm⟩ := hgo
            simp only [Option.isNone_some] at hbad
            have gj : (j : Int) < (m : Int) := by omega
            obtain ⟨t1, t2, key, val, hyes, hno, hkk, hv⟩ := thd_letters r
            have HM := Lib.hid (HI.out.more hjm hyes hno)
            have HKEY := Lib.hid (hkk (w.heap.size + 1) wr HR.out.rd)
            have HVAL := Lib.hid hv
            clear hyes hno hkk hv
            go_wp2_with fail
            refine HKEY.out.mono ?_
            rintro e w7 ⟨rfl, hr7, hk7⟩
            have HR7 := Lib.hid (HR.out.later hk7 hr7)
            clear hr7 hk7 HKEY hbad
            go_wp2_with fail
            refine (HVAL.out _ _ HR7.out.rd).mono ?_
            rintro e w8 ⟨rfl, hr8, hk8⟩
            have HR8 := Lib.hid (HR7.out.later hk8 hr8)
            have c4 := HR8.out.a.cells5.2.2.2.2
            have HR9 := Lib.hid (HR8.out.calm (below_alloc w8 (.cells #[.string ⟨key.toArray⟩, .string ⟨val.toArray⟩] 39)))
            have HC9 := Lib.hid (two_cells w8 39 (.string ⟨key.toArray⟩) (.string ⟨val.toArray⟩))
            have HLE : Hid (hs.length ≤ 100) := by have := HEL.out; show _ ≤ _; omega
            clear hr8 hk8 HVAL HR7
            go_wp2_with (at_builtin; refine wpList_append_entry2 rfl (.tmp 79) (.tmp 83) 23 rfl (w.heap.size + 3) 39 _ Try.underlying23 Try.info_head rfl (by rfl) HR9.out.own.h (by rfl) HC9.out HLE.out HR9.out.big ?_; intro g4 cap4 w4 ho4 hg4; obtain ⟨s4, hd4⟩ := HR9.out.grownH hg4 ho4; have HD4 := Lib.hid hd4; have k0 := s4.cell 4; have j0 := s4.frozen 4; simp only [List.getElem?_toArray, List.getElem?_cons_zero, List.getElem?_cons_succ] at k0; clear ho4 hg4 s4 hd4)
            go_roundw
            case rel => exact ⟨j + 1, by go_num, by omega, _, _, _, HD4.out, by rw [List.length_append, HEL.out]; rfl, HM.out⟩
            case measure => simp [intOf]; omega
          · have hcase : ((j : Int) < (m : Int) ∧ s5.isNone = true) ∨ ¬ (j : Int) < (m : Int) := by
              rcases Nat.lt_or_ge j m with h | h
              · left
                cases s5 with
                | none => exact ⟨by omega, rfl⟩
                | some r => exact absurd ⟨⟨r, rfl⟩, h⟩ hgo
              · right; omega
            have hover : ∀ r, s5 = some r → m ≤ j := by
              intro r hs'
              rcases Nat.lt_or_ge j m with h | h
              · exact absurd ⟨⟨r, hs'⟩, h⟩ hgo
              · exact h
            have hvS := HVS.out
            subst hvS
            have HPAR : Hid ((s5 = none → TL.dec bs = none) ∧ (∀ r, s5 = some r → TL.par bs = some (((id : Int), (code : Int), fb, ss, hs), r))) := by
              refine Lib.hid ⟨fun h => ?_, fun r h => ?_⟩
              · subst h; exact TL.dec_of_par HI.out.gone
              · have := hover r h
                subst h; exact HI.out.over this
            clear hgo hover HI HVS
            obtain ⟨c0, c1, c2, c3, c4⟩ := HR.out.res.cells5
            obtain ⟨f0, f1, f2, f3, f4⟩ := HR.out.res.frozen5
            have HDN := Lib.hid (done_any (w.heap.size + 1) s5 wr HR.out.rd)
            by_cases hdone : s5 = some []
            · have e1 : doneS s5 = true := by simp [doneS, hdone]
              rw [e1] at HDN
              have hpar := HPAR.out.2 [] hdone
              have HP := Lib.hid hpar
              obtain ⟨d0, d1, d2, d3, d4⟩ := HR.out.a.cells5
              have HCK := Lib.hid (rcheckTell_any ((id : Int), (code : Int), fb, ss, hs) (.slice av ss.length cv) (.slice ah hs.length ch) wr HR.out.own.rd (inT_fits (TL.par_some hpar).2))
              simp only at HCK
              have hjn : ¬ (j : Int) < (m : Int) := by
                rcases hcase with ⟨_, h⟩ | h
                · rw [hdone] at h; cases h
                · exact h
              have hb0 : s5.isNone = false := by rw [hdone]; rfl
              rw [hb0] at hbad
              clear hcase hpar e1 hb0 HPAR hdone
              cases hck : TL.chk ((id : Int), (code : Int), fb, ss, hs)
              · have E := Lib.hid ((TL.dec_of_par2 HP.out).trans (if_neg (by rw [hck]; simp)))
                rw [hck] at HCK
                clear hck c0 c1 c2 c3 c4 f0 f1 f2 f3 f4
                go_wp2_with (first
                  | (go_at_call 44; refine HDN.out.mono ?_; rintro e w6 ⟨rfl, hw6⟩; subst hw6)
                  | (go_at_call 12; refine HCK.out.mono ?_; rintro e w7 ⟨rfl, b7⟩; have HR7 := Lib.hid (HR.out.calm b7); obtain ⟨c0, c1, c2, c3, c4⟩ := HR7.out.res.cells5; obtain ⟨f0, f1, f2, f3, f4⟩ := HR7.out.res.frozen5; clear b7))
                (try simp only [Exit.inBlock, Exit.then])
                have hn := tnone_laid HR7.out
                refine bodyPost_ret (ret_cellA rfl rfl rfl hn.1 Try.underlying25 rfl tell_size) rfl ?_
                exact ⟨hn.2, .inr ⟨E.out, rfl⟩⟩
              · have E := Lib.hid ((TL.dec_of_par2 HP.out).trans (if_pos ⟨rfl, hck⟩))
                rw [hck] at HCK
                clear hck c0 c1 c2 c3 c4 f0 f1 f2 f3 f4
                go_wp2_with (first
                  | (go_at_call 44; refine HDN.out.mono ?_; rintro e w6 ⟨rfl, hw6⟩; subst hw6)
                  | (go_at_call 12; refine HCK.out.mono ?_; rintro e w7 ⟨rfl, b7⟩; have HR7 := Lib.hid (HR.out.calm b7); clear d0 d1 d2 d3 d4; obtain ⟨d0, d1, d2, d3, d4⟩ := HR7.out.a.cells5; obtain ⟨c0, c1, c2, c3, c4⟩ := HR7.out.res.cells5; obtain ⟨f0, f1, f2, f3, f4⟩ := HR7.out.res.frozen5; clear b7))
                (try simp only [Exit.inBlock, Exit.then])
                have hn := tsome_laid HR7.out
                refine bodyPost_ret (ret_cellA rfl rfl rfl hn.1 Try.underlying25 rfl tell_size) rfl ?_
                exact ⟨hn.2.1, .inl ⟨((id : Int), (code : Int), fb, ss, hs), _, _, E.out, rfl, hn.2.2⟩⟩
            · have e1 : doneS s5 = false := by simp [doneS, hdone]
              rw [e1] at HDN
              have E : Hid (TL.dec bs = none) := by
                cases hs5 : s5 with
                | none => exact Lib.hid (HPAR.out.1 hs5)
                | some r =>
                  refine Lib.hid ((TL.dec_of_par2 (HPAR.out.2 r hs5)).trans (if_neg ?_))
                  rintro ⟨rfl, _⟩
                  exact hdone hs5
              have HN := Lib.hid (tnone_laid HR.out)
              generalize hsb : s5.isNone = sb at hcase hbad
              clear e1 hdone HPAR hsb
              rcases hcase with ⟨gj, rfl⟩ | gj
              all_goals
                go_wp2_with (go_at_call 44; refine HDN.out.mono ?_; rintro e w6 ⟨rfl, hw6⟩; subst hw6)
                (try simp only [Exit.inBlock, Exit.then])
                refine bodyPost_ret (ret_cellA rfl rfl rfl HN.out.1 Try.underlying25 rfl tell_size) rfl ?_
                exact ⟨HN.out.2, .inr ⟨E.out, rfl⟩⟩
end Go.Proofs.Ytokmpfkmkhnopaa
