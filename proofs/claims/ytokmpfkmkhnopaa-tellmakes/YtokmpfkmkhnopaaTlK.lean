/- The walk of the document's own EncodeTell. -/
import Derived.Test.YtokmpfkmkhnopaaTlI
import Derived.Test.YtokmpfkmkhnopaaTlJ
import Derived.Test.YtokmpfkmkhnopaaAkJ
import Derived.Deep.RegionHeld3
namespace Go.Proofs.Ytokmpfkmkhnopaa
open Go.RowKit

theorem tcell_later {w w' : World} {a : Addr} {v : Value} (hb : Below w.heap.size w w') (h : w.cell? a = some v) : w'.cell? a = some v := (hb.cell (cell_lt h)).trans h
theorem rnumE {T T' : List UInt8} {n : Int} (h0 : 0 ≤ n) (h1 : n ≤ 9223372036854775807) (hl : T.length ≤ 1000000) (hT : T ++ V.put n.toNat = T') (x : World) (v : Value) (hr : Rdv x v (bv T)) :
    Calls Try.prog 22 #[v, .int .i64 n] x (NewB x T') := by
  subst hT
  exact rnum_any v T n h0 h1 x hr hl
theorem rtextE {T T' s : List UInt8} (hs : s.length ≤ 1000000) (hl : T.length ≤ 1000000) (hT : T ++ K.tx s = T') (x : World) (v : Value) (hr : Rdv x v (bv T)) :
    Calls Try.prog 23 #[v, .string ⟨s.toArray⟩] x (NewB x T') := by
  subst hT
  exact rtext_any v T s hs x hr hl
theorem NewB.slice {w : World} {bs : List UInt8} {e : Ending} {w' : World} (h : NewB w bs e w') : ∃ ao n c, e = .returned (.slice ao n c) ∧ Rdv w' (.slice ao n c) (bv bs) ∧ Below w.heap.size w w' := by
  obtain ⟨v, rfl, ho, hk⟩ := h
  obtain ⟨ao, cap, rfl, -⟩ := id ho.rd
  exact ⟨ao, _, cap, rfl, ho.rd, hk⟩
/-- What is held of a reply in the first region. -/
theorem held3 {x : World} {p : Nat} {T : TypeId} {a b c d e : Value} (h : Str x p T #[a, b, c, d, e]) : x.cell? ⟨p, 0, none⟩ = some a ∧ x.cell? ⟨p, 1, none⟩ = some b ∧ x.cell? ⟨p, 3, none⟩ = some d := ⟨h.cell 0, h.cell 1, h.cell 3⟩
theorem status_letters {s : TL.S} (hok : TL.okS s = true) (T : List UInt8) (hl : T.length ≤ 2000) : ∃ T1 T2 T3 T4 T5 : List UInt8, T ++ V.put s.1.toNat = T1 ∧ T1 ++ V.put s.2.1.toNat = T2 ∧ T2 ++ V.put s.2.2.1.toNat = T3 ∧ T3 ++ V.put s.2.2.2.1.toNat = T4 ∧ T4 ++ V.put s.2.2.2.2.toNat = T5 ∧ T1.length ≤ 3000 ∧ T2.length ≤ 3000 ∧ T3.length ≤ 3000 ∧ T4.length ≤ 3000 ∧ T ++ TL.enS s = T5 := by
  have hle := TL.enS_le hok
  unfold TL.enS at hle
  simp only [List.length_append] at hle
  refine ⟨_, _, _, _, _, rfl, rfl, rfl, rfl, rfl, ?_, ?_, ?_, ?_, by simp [TL.enS]⟩ <;> simp only [List.length_append] <;> omega

set_option maxHeartbeats 32000000 in
theorem rencodeTell_any (t : TL.T) (vs vh : Value) (w : World) (hr : Rdt w vs vh t.2.2.2.1 t.2.2.2.2) (hf : Fits t.2.2.2.2) :
    Calls Try.prog 10 #[.agg #[.int .i64 t.1, .int .i64 t.2.1, .bool t.2.2.1, vs, vh]] w (EncT w t) := by
  have HCHK := Lib.hid (fun x (hx : Below w.heap.size w x) => rcheckTell_any t vs vh x (hr.below hx) hf)
  have HOK := Lib.hid (@TL.chk_ok t)
  have HLET := Lib.hid (@enc_letters t)
  obtain ⟨id, code, full, ss, hs⟩ := t
  simp only at HOK HCHK hr HLET hf ⊢
  obtain ⟨⟨ao, cap, rfl, h1, h2, h3, h4⟩, ⟨ah, cah, rfl, g1, g2, g3, g4⟩⟩ := hr
  have B0 := below_alloc w (.cells #[.int .i64 id, .int .i64 code, .bool full, .slice ao ss.length cap, .slice ah hs.length cah] 25)
  have HS := Lib.hid (Str.new w 25 #[.int .i64 id, .int .i64 code, .bool full, .slice ao ss.length cap, .slice ah hs.length cah])
  have HC := Lib.hid (HCHK.out _ B0)
  have HB0 := Lib.hid B0
  have H4 := Lib.hid h4
  have G4 := Lib.hid g4
  clear B0 h1 h2 h3 h4 g1 g2 g3 g4 HCHK hf
  cases hck : TL.chk (id, code, full, ss, hs)
  · rw [hck] at HC
    have E := Lib.hid hck
    clear hck HOK HLET
    go_enter Try.func10, Try.ntmps10
    go_wp2_with (go_at_call 12; refine HC.out.mono ?_; rintro e w1 ⟨rfl, b1⟩; have B1 := Lib.hid b1; clear b1)
    go_ret2
    exact ⟨below_trans HB0.out B1.out, .inr ⟨E.out, rfl⟩⟩
  · rw [hck] at HC
    have E := Lib.hid hck
    obtain ⟨o1, o2, o3, o4, o5, o6⟩ := HOK.out hck
    obtain ⟨T1, T2, T3, H, hT1, hT2, hT3, hH, l1, l2, l3, l4, l5, l6, M, hM, l7, l8, hE⟩ := HLET.out hck
    obtain ⟨L, hL⟩ : ∃ L, ss.length = L := ⟨_, rfl⟩
    obtain ⟨J, hJ⟩ : ∃ J, hs.length = J := ⟨_, rfl⟩
    have HL := Lib.hid hL
    have HJ := Lib.hid hJ
    rw [hL, hJ] at HS HC HB0 ⊢
    rw [hL] at hH o3
    rw [hJ] at hM o4
    have HO5 := Lib.hid o5
    have HO6 := Lib.hid o6
    have HE := Lib.hid hE
    have L5 := Lib.hid l5
    have L8 := Lib.hid l8
    have P1 := Lib.hid (rnumE (T := [2]) (n := id) o1.1 (by omega) (by simp) hT1)
    have P2 := Lib.hid (rnumE (T := T1) (n := code) (by omega) (by omega) (by omega) hT2)
    have P3 : Hid (∀ (x : World) (v : Value), Rdv x v (bv T2) → Calls Try.prog 22 #[v, .int .i64 (if full then 1 else 0)] x (NewB x T3)) := by
      cases full
      · exact Lib.hid (rnumE (T := T2) (n := 0) (by omega) (by omega) (by omega) hT3)
      · exact Lib.hid (rnumE (T := T2) (n := 1) (by omega) (by omega) (by omega) hT3)
    have P4 := Lib.hid (rnumE (T := T3) (T' := H) (n := (L : Int)) (by omega) (by omega) (by omega) (by rw [show ((L : Int)).toNat = L by omega]; exact hH))
    have P5 := Lib.hid (rnumE (T := H ++ TL.enSs ss) (T' := M) (n := (J : Int)) (by omega) (by omega) (by omega) (by rw [show ((J : Int)).toNat = J by omega]; exact hM))
    clear hck HOK HLET o1 o2 o5 o6 hT1 hT2 hT3 hH hM l1 l2 l3 l4 l5 l6 l7 l8 hE hL hJ
    go_enter Try.func10, Try.ntmps10
    go_wp2_with fail
    refine HC.out.mono ?_
    rintro e w1 ⟨rfl, b1⟩
    have HB1 := Lib.hid (below_trans HB0.out b1)
    have HS1 := Lib.hid (HS.out.below b1)
    have HBA := Lib.hid (below_trans (below_alloc w1 (.cells #[.int .u8 2] 5)) (below_drew _))
    have HRA := Lib.hid (Rdv.below (one_rd (w := w1) (e := 5) (B := 2) (b := 2) rfl) (below_drew _))
    clear b1 HC HS HB0
    cases full
    all_goals
      simp only [Bool.false_eq_true, if_false, if_true] at P3
      obtain ⟨c0, c1, c2, c3, c4⟩ := HS1.out.cells5
      go_wp2
      go_region_held3 (fun x => x.cell? ⟨w.heap.size, 0, none⟩ = some (.int .i64 id) ∧ x.cell? ⟨w.heap.size, 1, none⟩ = some (.int .i64 code) ∧ x.cell? ⟨w.heap.size, 3, none⟩ = some (.slice ao L cap)) (first | exact held3 (HS1.out.below (below_drew _)) | exact held3 (HS1.out.below HBA.out) | exact held3 HS3.out | exact held3 HS4.out | exact held3 HS5.out | exact held3 HS6.out) (first
        | (go_at_call 22; refine (P4.out _ _ O5.out).mono ?_; rintro e w6 he; obtain ⟨a6, n6, q6, rfl, ho6, b6⟩ := he.slice; have HS6 := Lib.hid (HS5.out.below b6); have B6 := Lib.hid (below_trans B5.out b6); have O6 := Lib.hid ho6; clear he ho6 b6)
        | (go_at_call 22; refine (P3.out _ _ O4.out).mono ?_; rintro e w5 he; obtain ⟨a5, n5, q5, rfl, ho5, b5⟩ := he.slice; have HS5 := Lib.hid (HS4.out.below b5); have B5 := Lib.hid (below_trans B4.out b5); have O5 := Lib.hid ho5; clear he ho5 b5)
        | (go_at_call 22; refine (P2.out _ _ O3.out).mono ?_; rintro e w4 he; obtain ⟨a4, n4, q4, rfl, ho4, b4⟩ := he.slice; have HS4 := Lib.hid (HS3.out.below b4); have B4 := Lib.hid (below_trans B3.out b4); have O4 := Lib.hid ho4; clear he ho4 b4)
        | (go_at_call 22; refine (P1.out _ _ HRA.out).mono ?_; rintro e w3 he; obtain ⟨a3, n3, q3, rfl, ho3, b3⟩ := he.slice; have B3 := Lib.hid (below_trans HBA.out b3); have HS3 := Lib.hid (HS1.out.below B3.out); have O3 := Lib.hid ho3; clear he ho3 b3))
      have HB6 := Lib.hid (below_trans HB1.out B6.out)
      clear HBA HRA HS3 HS4 HS5 B3 B4 B5 B6 O3 O4 O5 P1 P2 P3 P4 HS1 HB1 c0 c1 c2 c3 c4
      obtain ⟨FB, HS7⟩ : ∃ FB : Value, Hid (Str w6 w.heap.size 25 #[.int .i64 id, .int .i64 code, FB, .slice ao L cap, .slice ah J cah]) := ⟨_, HS6⟩
      clear HS6
      go_wp2
      go_loopw [5, 6] (fun b i wr => ∃ (k : Nat), i = .int .i64 (k : Int) ∧ k ≤ L ∧ Hid (Below w.heap.size w wr) ∧ Hid (Str wr w.heap.size 25 #[.int .i64 id, .int .i64 code, FB, .slice ao L cap, .slice ah J cah]) ∧ Hid (Rdv wr b (bv (H ++ TL.enSs (ss.take k))))) (fun _ i _ => L - (intOf i).toNat)
      case atStart => exact ⟨0, rfl, Nat.zero_le _, HB6.out, HS7.out, by show Rdv _ _ _; simpa [TL.enSs] using O6.out⟩
      case round =>
        obtain ⟨k, rfl, hk, HW, HST, HO⟩ := hrel
        obtain ⟨c0, c1, c2, c3, c4⟩ := HST.out.cells5
        clear c0 c1 c2
        have hlen := L5.out k
        obtain ⟨T, hT⟩ : ∃ T, H ++ TL.enSs (ss.take k) = T := ⟨_, rfl⟩
        have HT := Lib.hid hT
        rw [hT] at HO hlen
        obtain ⟨ab', cb', rfl, -⟩ := HO.out
        obtain ⟨N, hN⟩ : ∃ N, (bv T).length = N := ⟨_, rfl⟩
        rw [hN] at HO ⊢
        clear hT hN HB6 HS7 O6
        by_cases hlt : k < L
        · obtain ⟨s, hs'⟩ : ∃ s, ss[k]? = some s := ⟨ss[k]'(by have := HL.out; omega), List.getElem?_eq_getElem _⟩
          obtain ⟨b, off, rfl, c⟩ := H4.out k s hs'
          obtain ⟨d0, d1, d2, d3, d4⟩ := c.below HW.out
          have hok := HO5.out s (List.mem_of_getElem? hs')
          obtain ⟨r1, r2, r3, r4, r5⟩ := TL.okS_iff.1 hok
          obtain ⟨U1, U2, U3, U4, U5, hU1, hU2, hU3, hU4, hU5, m1, m2, m3, m4, hU⟩ := status_letters hok T hlen
          have Q1 := Lib.hid (rnumE (T := T) (n := s.1) (by omega) (by omega) (by omega) hU1)
          have Q2 := Lib.hid (rnumE (T := U1) (n := s.2.1) (by omega) (by omega) (by omega) hU2)
          have Q3 := Lib.hid (rnumE (T := U2) (n := s.2.2.1) (by omega) (by omega) (by omega) hU3)
          have Q4 := Lib.hid (rnumE (T := U3) (n := s.2.2.2.1) (by omega) (by omega) (by omega) hU4)
          have Q5 := Lib.hid (rnumE (T := U4) (n := s.2.2.2.2) (by omega) (by omega) (by omega) hU5)
          have HU := Lib.hid hU
          have HD := Lib.hid hs'
          have g0 : (k : Int) < (L : Int) := by omega
          have HBA := Lib.hid (below_trans (below_alloc wr (.cells #[.int .i64 s.1, .int .i64 s.2.1, .int .i64 s.2.2.1, .int .i64 s.2.2.2.1, .int .i64 s.2.2.2.2] 41)) (below_drew _))
          have HSA := Lib.hid ((Str.new wr 41 #[.int .i64 s.1, .int .i64 s.2.1, .int .i64 s.2.2.1, .int .i64 s.2.2.2.1, .int .i64 s.2.2.2.2]).below (below_drew _))
          have HRA := Lib.hid (HO.out.below HBA.out)
          clear c hok hs' r1 r2 r3 r4 r5 hU1 hU2 hU3 hU4 hU5 m1 m2 m3 m4 hU
          go_wp2
          go_region_held3 (fun x => x.cell? ⟨wr.heap.size, 0, none⟩ = some (.int .i64 s.1) ∧ x.cell? ⟨wr.heap.size, 1, none⟩ = some (.int .i64 s.2.1) ∧ x.cell? ⟨wr.heap.size, 2, none⟩ = some (.int .i64 s.2.2.1) ∧ x.cell? ⟨wr.heap.size, 3, none⟩ = some (.int .i64 s.2.2.2.1) ∧ x.cell? ⟨wr.heap.size, 4, none⟩ = some (.int .i64 s.2.2.2.2)) (first | exact HSA.out.cells5 | exact HX1.out.cells5 | exact HX2.out.cells5 | exact HX3.out.cells5 | exact HX4.out.cells5 | exact HX5.out.cells5) (first
            | (go_at_call 22; refine (Q5.out _ _ Y4.out).mono ?_; rintro e x5 he; obtain ⟨a5, n5, q5, rfl, ho5, b5⟩ := he.slice; have HX5 := Lib.hid (HX4.out.below b5); have Z5 := Lib.hid (below_trans Z4.out b5); have Y5 := Lib.hid ho5; clear he ho5 b5)
            | (go_at_call 22; refine (Q4.out _ _ Y3.out).mono ?_; rintro e x4 he; obtain ⟨a4, n4, q4, rfl, ho4, b4⟩ := he.slice; have HX4 := Lib.hid (HX3.out.below b4); have Z4 := Lib.hid (below_trans Z3.out b4); have Y4 := Lib.hid ho4; clear he ho4 b4)
            | (go_at_call 22; refine (Q3.out _ _ Y2.out).mono ?_; rintro e x3 he; obtain ⟨a3, n3, q3, rfl, ho3, b3⟩ := he.slice; have HX3 := Lib.hid (HX2.out.below b3); have Z3 := Lib.hid (below_trans Z2.out b3); have Y3 := Lib.hid ho3; clear he ho3 b3)
            | (go_at_call 22; refine (Q2.out _ _ Y1.out).mono ?_; rintro e x2 he; obtain ⟨a2, n2, q2, rfl, ho2, b2⟩ := he.slice; have HX2 := Lib.hid (HX1.out.below b2); have Z2 := Lib.hid (below_trans Z1.out b2); have Y2 := Lib.hid ho2; clear he ho2 b2)
            | (go_at_call 22; refine (Q1.out _ _ HRA.out).mono ?_; rintro e x1 he; obtain ⟨a1, n1, q1, rfl, ho1, b1⟩ := he.slice; have HX1 := Lib.hid (HSA.out.below b1); have Z1 := Lib.hid (below_trans HBA.out b1); have Y1 := Lib.hid ho1; clear he ho1 b1))
          all_goals
            go_wp2
            go_roundw
            case rel =>
              refine ⟨k + 1, by go_num, by omega, below_trans HW.out Z5.out, HST.out.below Z5.out, ?_⟩
              show Rdv _ _ _
              have e9 : H ++ TL.enSs (ss.take (k + 1)) = U5 := by rw [TL.enSs_take HD.out, ← HU.out, ← HT.out]; simp [List.append_assoc]
              rw [e9]
              exact Y5.out
            case measure => simp [intOf]; omega
        · have g0 : ¬ (k : Int) < (L : Int) := by omega
          have eT : T = H ++ TL.enSs ss := by
            rw [← HT.out, List.take_of_length_le (by have := HL.out; omega)]
          rw [eT] at HO
          clear eT hlen HT
          go_wp2_with fail
          refine (P5.out _ _ HO.out).mono ?_
          rintro e w8 he
          obtain ⟨a8, n8, q8, rfl, ho8, b8⟩ := he.slice
          have O8 := Lib.hid ho8
          have HS8 := Lib.hid (HST.out.below b8)
          have HB8 := Lib.hid (below_trans HW.out b8)
          clear he ho8 b8 P5 c3 c4
          obtain ⟨wo, rfl⟩ : ∃ wo, wo = wr := ⟨wr, rfl⟩
          go_wp2
          go_loopw [5, 8] (fun b i wr => ∃ (k : Nat), i = .int .i64 (k : Int) ∧ k ≤ J ∧ Hid (Below w.heap.size w wr) ∧ Hid (Str wr w.heap.size 25 #[.int .i64 id, .int .i64 code, FB, .slice ao L cap, .slice ah J cah]) ∧ Hid (Rdv wr b (bv (M ++ K.enEs (hs.take k))))) (fun _ i _ => J - (intOf i).toNat)
          case atStart => exact ⟨0, rfl, Nat.zero_le _, HB8.out, HS8.out, by show Rdv _ _ _; simpa [K.enEs] using O8.out⟩
          case round =>
            obtain ⟨j, rfl, hj, HWj, HSj, HOj⟩ := hrel
            have s4 := HSj.out.cells5.2.2.2.2
            have hlen := L8.out j
            obtain ⟨U, hU⟩ : ∃ U, M ++ K.enEs (hs.take j) = U := ⟨_, rfl⟩
            have HU := Lib.hid hU
            rw [hU] at HOj hlen
            obtain ⟨ab', cb', rfl, -⟩ := HOj.out
            obtain ⟨N, hN⟩ : ∃ N, (bv U).length = N := ⟨_, rfl⟩
            rw [hN] at HOj ⊢
            clear hU hN HB8 HS8 O8
            by_cases hltj : j < J
            · obtain ⟨x, hx⟩ : ∃ x, hs[j]? = some x := ⟨hs[j]'(by have := HJ.out; omega), List.getElem?_eq_getElem _⟩
              obtain ⟨b, off, rfl, y1, y2⟩ := G4.out j x hx
              have z1 := (HWj.out.cell (cell_lt y1)).trans y1
              have z2 := (HWj.out.cell (cell_lt y2)).trans y2
              unfold tv at z1 z2
              have hokl := TL.okH_okL (HO6.out x (List.mem_of_getElem? hx))
              have hk1 := hokl.1
              have hk2 := hokl.2
              have HD := Lib.hid hx
              have ht1 := K.tx_le (s := x.1) (n := 1000) (by omega) (by omega)
              obtain ⟨U2, hU2⟩ : ∃ U2, U ++ K.tx x.1 = U2 := ⟨_, rfl⟩
              have hl2 : U2.length ≤ 1000000 := by rw [← hU2, List.length_append]; omega
              have HU2 := Lib.hid hU2
              have Q1 := Lib.hid (rtextE (T := U) (T' := U2) (s := x.1) (by omega) (by omega) hU2)
              have Q2 := Lib.hid (rtextE (T := U2) (T' := U2 ++ K.tx x.2) (s := x.2) (by omega) hl2 rfl)
              have HRA := Lib.hid (HOj.out.below (below_drew _))
              have g1 : (j : Int) < (J : Int) := by omega
              clear y1 y2 hx hU2 hokl
              go_wp2
              go_region_held3 (fun y => y.cell? ⟨w.heap.size, 4, none⟩ = some (.slice (some ⟨b, off, none⟩) J cah) ∧ y.cell? ⟨b, off + j * 2, none⟩ = some (.string ⟨x.1.toArray⟩) ∧ y.cell? ⟨b, off + j * 2 + 1, none⟩ = some (.string ⟨x.2.toArray⟩)) (first | exact ⟨s4, z1, z2⟩ | exact ⟨t4, y1, y2⟩ | exact ⟨u4, x1, x2⟩) (first
                | (go_at_call 23; refine (Q2.out _ _ O9.out).mono ?_; rintro e w10 he; obtain ⟨a10, n10, q10, rfl, ho10, b10⟩ := he.slice; have B10 := Lib.hid (below_trans B9.out b10); have u4 := tcell_later b10 t4; have x1 := tcell_later b10 y1; have x2 := tcell_later b10 y2; have O10 := Lib.hid ho10; clear he ho10 b10)
                | (go_at_call 23; refine (Q1.out _ _ HRA.out).mono ?_; rintro e w9 he; obtain ⟨a9, n9, q9, rfl, ho9, b9⟩ := he.slice; have B9 := Lib.hid (below_undrew b9); have t4 := tcell_later B9.out s4; have y1 := tcell_later B9.out z1; have y2 := tcell_later B9.out z2; have O9 := Lib.hid ho9; clear he ho9 b9))
              all_goals
                go_wp2
                go_roundw
                case rel =>
                  refine ⟨j + 1, by go_num, by omega, below_trans HWj.out B10.out, HSj.out.below B10.out, ?_⟩
                  show Rdv _ _ _
                  have e9 : M ++ K.enEs (hs.take (j + 1)) = U2 ++ K.tx x.2 := by rw [K.enEs_take HD.out, ← HU2.out, ← HU.out]; simp [List.append_assoc]
                  rw [e9]
                  exact O10.out
                case measure => simp [intOf]; omega
            · have g1 : ¬ (j : Int) < (J : Int) := by omega
              go_wp2
              go_ret2
              refine ⟨HWj.out, .inl ⟨E.out, _, rfl, ?_⟩⟩
              rw [show TL.enc (id, code, _, ss, hs) = U by rw [← HU.out, HE.out, List.take_of_length_le (by have := HJ.out; omega)]]
              exact HOj.out
end Go.Proofs.Ytokmpfkmkhnopaa
