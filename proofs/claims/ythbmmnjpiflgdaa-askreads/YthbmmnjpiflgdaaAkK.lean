/- The walk of the document's own EncodeAsk. -/
import Derived.Test.YthbmmnjpiflgdaaAkJ
import Derived.Deep.RegionHeld3
namespace Go.Proofs.Ythbmmnjpiflgdaa
open Go.RowKit

theorem three {x : World} {p : Nat} {T : TypeId} {a b c d : Value} (h : Str x p T #[a, b, c, d]) : x.cell? ⟨p, 0, none⟩ = some a ∧ x.cell? ⟨p, 1, none⟩ = some b ∧ x.cell? ⟨p, 2, none⟩ = some c := by
  have c0 := h.cell 0
  have c1 := h.cell 1
  have c2 := h.cell 2
  simp only [List.getElem?_toArray, List.getElem?_cons_zero, List.getElem?_cons_succ] at c0 c1 c2
  exact ⟨c0, c1, c2⟩
theorem cell_later {w w' : World} {a : Addr} {v : Value} (hb : Below w.heap.size w w') (h : w.cell? a = some v) : w'.cell? a = some v := (hb.cell (cell_lt h)).trans h

set_option maxHeartbeats 8000000 in
theorem rencode_any (a : K.A) (vd : Value) (w : World) (hr : Rdd w vd a.2.2.2) (hf : FitA a) :
    Calls Try.prog 11 #[.agg #[.int .i64 a.1, .string ⟨a.2.1.toArray⟩, .int .i64 a.2.2.1, vd]] w (Enc w a) := by
  have HCHK := Lib.hid (fun x (hx : Below w.heap.size w x) => rcheckAsk_any a vd x (hr.below hx) hf)
  have hok := @K.chk_ok a
  have HHD := Lib.hid (@K.head_le a)
  have HTK := Lib.hid (@K.enDs_take_le a)
  have HDEF := Lib.hid (show K.enc a = K.head a ++ K.enDs a.2.2.2 from rfl)
  have HDEH := Lib.hid (show K.head a = [1] ++ V.put a.1.toNat ++ K.tx a.2.1 ++ V.put a.2.2.1.toNat ++ V.put a.2.2.2.length from rfl)
  obtain ⟨id, dom, hs, ds⟩ := a
  simp only at hok HCHK hr HDEF HDEH HTK ⊢
  obtain ⟨ao, cap, rfl, h1, h2, h3, h4⟩ := hr
  have B0 := below_alloc w (.cells #[.int .i64 id, .string ⟨dom.toArray⟩, .int .i64 hs, .slice ao ds.length cap] 24)
  have HS := Lib.hid (Str.new w 24 #[.int .i64 id, .string ⟨dom.toArray⟩, .int .i64 hs, .slice ao ds.length cap])
  have HC := Lib.hid (HCHK.out _ B0)
  have HB0 := Lib.hid B0
  have H4 := Lib.hid h4
  clear B0 h1 h2 h3 h4 HCHK hf
  cases hck : K.chk (id, dom, hs, ds)
  · rw [hck] at HC
    have E := Lib.hid hck
    clear hck hok
    go_enter Try.func11, Try.ntmps11
    go_wp2_with (go_at_call 14; refine HC.out.mono ?_; rintro e w1 ⟨rfl, b1⟩; have B1 := Lib.hid b1; clear b1)
    go_ret2
    exact ⟨below_trans HB0.out B1.out, .inr ⟨E.out, rfl⟩⟩
  · rw [hck] at HC
    have E := Lib.hid hck
    obtain ⟨o1, o2, o3, o4, o5⟩ := hok hck
    have HO5 := Lib.hid o5
    have hdl := K.nm_len o2
    have HH := Lib.hid (HHD.out hck)
    have HTL := Lib.hid (HTK.out hck)
    try simp only at o1 o3 o4 hdl HTL
    obtain ⟨L, hL⟩ : ∃ L, ds.length = L := ⟨_, rfl⟩
    have HL := Lib.hid hL
    rw [hL] at HS HC HB0 HDEH o4 ⊢
    have hid0 := o1.1
    have hid1 : id ≤ 9223372036854775807 := by omega
    have hhs0 := o3.1
    have hhs1 : hs ≤ 9223372036854775807 := by omega
    have t1 : ([1] ++ V.put id.toNat).length ≤ 1000000 := by
      have := HH.out
      rw [HDEH.out] at this
      simp only [List.length_append] at this ⊢
      omega
    have t2 : ([1] ++ V.put id.toNat ++ K.tx dom).length ≤ 1000000 := by
      have := HH.out
      rw [HDEH.out] at this
      simp only [List.length_append] at this ⊢
      omega
    have t3 : ([1] ++ V.put id.toNat ++ K.tx dom ++ V.put hs.toNat).length ≤ 1000000 := by
      have := HH.out
      rw [HDEH.out] at this
      simp only [List.length_append] at this ⊢
      omega
    obtain ⟨T1, hT1⟩ : ∃ T, [1] ++ V.put id.toNat = T := ⟨_, rfl⟩
    obtain ⟨T2, hT2⟩ : ∃ T, T1 ++ K.tx dom = T := ⟨_, rfl⟩
    obtain ⟨T3, hT3⟩ : ∃ T, T2 ++ V.put hs.toNat = T := ⟨_, rfl⟩
    rw [hT1] at t1 t2 t3
    rw [hT2] at t2 t3
    rw [hT3] at t3
    rw [hT1, hT2, hT3] at HDEH
    have HN1 := Lib.hid (fun x g (hx : Rdv x (.slice (some ⟨g, 0, none⟩) 1 1) (bv [1])) => hT1 ▸ rnum_any (.slice (some ⟨g, 0, none⟩) 1 1) [1] id hid0 hid1 x hx (by simp))
    have HN2 := Lib.hid (fun x v (hx : Rdv x v (bv T1)) => hT2 ▸ rtext_any v T1 dom (by omega) x hx t1)
    have HN3 := Lib.hid (fun x v (hx : Rdv x v (bv T2)) => hT3 ▸ rnum_any v T2 hs hhs0 hhs1 x hx t2)
    have HN4 := Lib.hid (fun x v (hx : Rdv x v (bv T3)) => rnum_any v T3 (L : Int) (by omega) (by omega) x hx t3)
    rw [show ((L : Int)).toNat = L by omega, ← HDEH.out] at HN4
    clear hck hok o2 o5 hL HHD HTK hT1 hT2 hT3 t1 t2 t3
    go_enter Try.func11, Try.ntmps11
    go_wp2_with fail
    refine HC.out.mono ?_
    rintro e w1 ⟨rfl, b1⟩
    have HB1 := Lib.hid (below_trans HB0.out b1)
    have HS1 := Lib.hid (HS.out.below b1)
    have HBA := Lib.hid (below_trans (below_alloc w1 (.cells #[.int .u8 1] 5)) (below_drew _))
    have HRA := Lib.hid (Rdv.below (one_rd (w := w1) (e := 5) (B := 1) (b := 1) rfl) (below_drew _))
    clear b1 HC HS HB0
    go_wp2
    go_region_held3 (fun x => x.cell? ⟨w.heap.size, 0, none⟩ = some (.int .i64 id) ∧ x.cell? ⟨w.heap.size, 1, none⟩ = some (.string ⟨dom.toArray⟩) ∧ x.cell? ⟨w.heap.size, 2, none⟩ = some (.int .i64 hs)) (first | exact three (HS1.out.below (below_drew _)) | exact three (HS1.out.below HBA.out) | exact three HS3.out | exact three HS4.out | exact three HS5.out) (first
      | (go_at_call 25; refine (HN3.out _ _ O4.out).mono ?_; rintro e w5 ⟨v5, rfl, ho5, b5⟩; have HS5 := Lib.hid (HS4.out.below b5); have B5 := Lib.hid (below_trans B4.out b5); have O5 := Lib.hid ho5.rd; obtain ⟨a5, q5, rfl, -⟩ := ho5.rd; clear ho5 b5)
      | (go_at_call 26; refine (HN2.out _ _ O3.out).mono ?_; rintro e w4 ⟨v4, rfl, ho4, b4⟩; have HS4 := Lib.hid (HS3.out.below b4); have B4 := Lib.hid (below_trans B3.out b4); have O4 := Lib.hid ho4.rd; obtain ⟨a4, q4, rfl, -⟩ := ho4.rd; clear ho4 b4)
      | (go_at_call 25; refine (HN1.out _ _ HRA.out).mono ?_; rintro e w3 ⟨v3, rfl, ho3, b3⟩; have B3 := Lib.hid (below_trans HBA.out b3); have HS3 := Lib.hid (HS1.out.below B3.out); have O3 := Lib.hid ho3.rd; obtain ⟨a3, q3, rfl, -⟩ := ho3.rd; clear ho3 b3))
    clear HN1 HN2 HN3 HRA HBA HS3 HS4 B3 B4 O3 O4 hid0 hid1 hhs0 hhs1
    have c3 := HS5.out.cell 3
    simp only [List.getElem?_toArray, List.getElem?_cons_zero, List.getElem?_cons_succ] at c3
    generalize K.head (id, dom, hs, ds) = H at *
    go_wp2_with fail
    refine (HN4.out _ _ O5.out).mono ?_
    rintro e w6 ⟨v6, rfl, ho6, b6⟩
    have HB6 := Lib.hid (below_trans HB1.out (below_trans B5.out b6))
    have HS6 := Lib.hid (HS5.out.below b6)
    have O6 := Lib.hid ho6.rd
    obtain ⟨a6, q6, rfl, -⟩ := ho6.rd
    clear ho6 b6 HN4 HS5 B5 O5 c3 HB1 HS1
    go_wp2
    go_loopw [4, 5] (fun b i wr => ∃ (k : Nat), i = .int .i64 (k : Int) ∧ k ≤ L ∧ Hid (Below w.heap.size w wr) ∧ Hid (Str wr w.heap.size 24 #[.int .i64 id, .string ⟨dom.toArray⟩, .int .i64 hs, .slice ao L cap]) ∧ Hid (Rdv wr b (bv (H ++ K.enDs (ds.take k))))) (fun _ i _ => L - (intOf i).toNat)
    case atStart => exact ⟨0, rfl, Nat.zero_le _, HB6.out, HS6.out, by show Rdv _ _ _; simpa [K.enDs] using O6.out⟩
    case round =>
      obtain ⟨k, rfl, hk, HW, HST, HO⟩ := hrel
      have s3 := HST.out.cell 3
      simp only [List.getElem?_toArray, List.getElem?_cons_zero, List.getElem?_cons_succ] at s3
      have hlen : (H ++ K.enDs (ds.take k)).length ≤ 100000 := by
        have h1 := HTL.out k
        have h2 := HH.out
        simp only [List.length_append]
        omega
      obtain ⟨T, hT⟩ : ∃ T, H ++ K.enDs (ds.take k) = T := ⟨_, rfl⟩
      have HT := Lib.hid hT
      rw [hT] at HO hlen
      obtain ⟨ab', cb', rfl, -⟩ := HO.out
      obtain ⟨N, hN⟩ : ∃ N, (bv T).length = N := ⟨_, rfl⟩
      rw [hN] at HO ⊢
      clear hT hN
      by_cases hlt : k < L
      · obtain ⟨d, hd⟩ : ∃ d, ds[k]? = some d := ⟨ds[k]'(by have := HL.out; omega), List.getElem?_eq_getElem _⟩
        obtain ⟨b, off, u, rfl, q1, q2⟩ := H4.out k d hd
        have d1 := (HW.out.cell (cell_lt q1)).trans q1
        have hokd := K.chk_okD (HO5.out d (List.mem_of_getElem? hd))
        have HOK := Lib.hid hokd
        have hd8 := hokd.1
        obtain ⟨au, cu, rfl, g1, g2, g3, g4⟩ := q2
        have HG := Lib.hid g4
        have HD := Lib.hid hd
        obtain ⟨M, hM⟩ : ∃ M, d.length = M := ⟨_, rfl⟩
        have HM := Lib.hid hM
        rw [hM] at d1 hd8
        have HN := Lib.hid (fun x (hx : Below wr.heap.size wr x) => rnum_any _ T (M : Int) (by omega) (by omega) x (HO.out.below hx) (by omega))
        rw [show ((M : Int)).toNat = M by omega] at HN
        have hlp := V.len_le10 (v := M) (by omega)
        unfold V.len at hlp
        have g0 : (k : Int) < (L : Int) := by omega
        clear q1 hd g1 g2 g3 g4 hM hokd
        go_wp2_with fail
        refine (HN.out _ (Below.refl _ _)).mono ?_
        rintro x w7 ⟨v7, rfl, ho7, b7⟩
        have HB7 := Lib.hid (below_trans HW.out b7)
        have HS7 := Lib.hid (HST.out.below b7)
        have O7 := Lib.hid ho7.rd
        obtain ⟨a7, q7, rfl, -⟩ := ho7.rd
        clear ho7 b7 HN
        go_wp2
        go_loopw [4, 7] (fun bb i x => ∃ (j : Nat), i = .int .i64 (j : Int) ∧ j ≤ M ∧ Hid (Below w.heap.size w x) ∧ Hid (Str x w.heap.size 24 #[.int .i64 id, .string ⟨dom.toArray⟩, .int .i64 hs, .slice (some ⟨b, off, none⟩) L cap]) ∧ Hid (Rdv x bb (bv (T ++ V.put M ++ K.enEs (d.take j))))) (fun _ i _ => M - (intOf i).toNat)
        case atStart => exact ⟨0, rfl, Nat.zero_le _, HB7.out, HS7.out, by show Rdv _ _ _; simpa [K.enEs] using O7.out⟩
        case round =>
          obtain ⟨j, rfl, hj, HWj, HSj, HOj⟩ := hrel
          have hlenj : (T ++ V.put M ++ K.enEs (d.take j)).length ≤ 110000 := by
            have h1 := enEs_take_le HOK.out j
            simp only [List.length_append]
            omega
          obtain ⟨U, hU⟩ : ∃ U, T ++ V.put M ++ K.enEs (d.take j) = U := ⟨_, rfl⟩
          have HU := Lib.hid hU
          rw [hU] at HOj hlenj
          obtain ⟨aj, cj, rfl, -⟩ := HOj.out
          obtain ⟨Nj, hNj⟩ : ∃ N, (bv U).length = N := ⟨_, rfl⟩
          rw [hNj] at HOj ⊢
          clear hU hNj
          by_cases hltj : j < M
          · obtain ⟨e, he⟩ : ∃ e, d[j]? = some e := ⟨d[j]'(by have := HM.out; omega), List.getElem?_eq_getElem _⟩
            obtain ⟨be, oe, rfl, y1, y2⟩ := HG.out j e he
            have z1 := (HWj.out.cell (cell_lt y1)).trans y1
            have z2 := (HWj.out.cell (cell_lt y2)).trans y2
            unfold tv at z1 z2
            have hokl := okL_len (HOK.out.2 e (List.mem_of_getElem? he))
            have HE := Lib.hid he
            have ht1 := K.tx_le (s := e.1) (n := 1000) (by omega) (by omega)
            have HP1 := Lib.hid (rtext_any _ U e.1 (by omega) _ (HOj.out.below (below_drew _)) (by omega))
            have HP2 := Lib.hid (fun x v (hx : Rdv x v (bv (U ++ K.tx e.1))) => rtext_any v (U ++ K.tx e.1) e.2 (by omega) x hx (by rw [List.length_append]; omega))
            obtain ⟨U2, hU2⟩ : ∃ U2, U ++ K.tx e.1 = U2 := ⟨_, rfl⟩
            have HU2 := Lib.hid hU2
            rw [hU2] at HP1 HP2
            have gj : (j : Int) < (M : Int) := by omega
            clear y1 y2 he hU2
            go_wp2
            go_region_held3 (fun x => x.cell? ⟨be, oe + j * 2, none⟩ = some (.string ⟨e.1.toArray⟩) ∧ x.cell? ⟨be, oe + j * 2 + 1, none⟩ = some (.string ⟨e.2.toArray⟩)) (first | exact ⟨z1, z2⟩ | exact ⟨y1, y2⟩ | exact ⟨x1, x2⟩) (first
              | (go_at_call 26; refine (HP2.out _ _ O8.out).mono ?_; rintro x w9 ⟨v9, rfl, ho9, b9⟩; have B9 := Lib.hid (below_trans B8.out b9); have x1 := cell_later b9 y1; have x2 := cell_later b9 y2; have O9 := Lib.hid ho9.rd; obtain ⟨a9, q9, rfl, -⟩ := ho9.rd; clear ho9 b9)
              | (go_at_call 26; refine HP1.out.mono ?_; rintro x w8 ⟨v8, rfl, ho8, b8⟩; have B8 := Lib.hid (below_undrew b8); have y1 := cell_later B8.out z1; have y2 := cell_later B8.out z2; have O8 := Lib.hid ho8.rd; obtain ⟨a8, q8, rfl, -⟩ := ho8.rd; clear ho8 b8))
            all_goals
              go_wp2
              go_roundw
              case rel =>
                refine ⟨j + 1, by go_num, by omega, below_trans HWj.out B9.out, HSj.out.below B9.out, ?_⟩
                show Rdv _ _ _
                have e9 : T ++ V.put M ++ K.enEs (d.take (j + 1)) = U2 ++ K.tx e.2 := by rw [K.enEs_take HE.out, ← HU2.out, ← HU.out]; simp [List.append_assoc]
                rw [e9]
                exact O9.out
              case measure => simp [intOf]; omega
          · have gj : ¬ (j : Int) < (M : Int) := by omega
            go_wp2
            go_roundw
            case rel =>
              refine ⟨k + 1, by go_num, by omega, HWj.out, HSj.out, ?_⟩
              show Rdv _ _ _
              have e9 : H ++ K.enDs (ds.take (k + 1)) = U := by
                have ej : d.take j = d := List.take_of_length_le (by have := HM.out; omega)
                rw [K.enDs_take HD.out, ← HU.out, ← HT.out, ej]
                unfold K.enD
                rw [HM.out]
                simp [List.append_assoc]
              rw [e9]
              exact HOj.out
            case measure => simp [intOf]; omega
      · have g0 : ¬ (k : Int) < (L : Int) := by omega
        go_wp2
        go_ret2
        refine ⟨HW.out, .inl ⟨E.out, _, rfl, ?_⟩⟩
        have e2 : K.enc (id, dom, hs, ds) = T := by
          rw [← HT.out, HDEF.out, List.take_of_length_le (by have := HL.out; omega)]
        rw [e2]
        exact HO.out
end Go.Proofs.Ythbmmnjpiflgdaa
