/- The walk of tell.Encode. -/
import Derived.Test.YtokmpfkmkhnopaaTlH
namespace Go.Proofs.Ytokmpfkmkhnopaa
open Go.RowKit

/-- What Encode answers, at its end. -/
def EncT (w : World) (t : TL.T) (e : Ending) (w' : World) : Prop :=
  Below w.heap.size w w' ∧ ((TL.chk t = true ∧ ∃ v', e = .returned (.tuple #[v', .int .i64 0]) ∧ Rdv w' v' (bv (TL.enc t))) ∨ (TL.chk t = false ∧ e = .returned (.tuple #[.slice none 0 0, .int .i64 1])))
theorem terr_false : errOf false = 1 := rfl
theorem terr_true : errOf true = 0 := rfl
theorem putFullE {T T' : List UInt8} {full : Bool} (hl : T.length ≤ 1000000) (hT : T ++ V.put (TL.fz full) = T') (B : Nat) (x : World) (v : Value) (ho : Own x B 5 v (bv T)) (hb : B ≤ x.heap.size) :
    Calls Try.prog 19 #[v, .bool full] x (PutIs B x T') := by
  subst hT
  exact putFull_any v T B full x ho hl hb
/-- The bytes of a reply that may be, in letters. -/
theorem enc_letters {t : TL.T} (h : TL.chk t = true) : ∃ (T1 T2 T3 H : List UInt8), [2] ++ V.put t.1.toNat = T1 ∧ T1 ++ V.put t.2.1.toNat = T2 ∧ T2 ++ V.put (TL.fz t.2.2.1) = T3 ∧ T3 ++ V.put t.2.2.2.1.length = H ∧ T1.length ≤ 1000 ∧ T2.length ≤ 1000 ∧ T3.length ≤ 1000 ∧ H.length ≤ 1000 ∧
    (∀ k, (H ++ TL.enSs (t.2.2.2.1.take k)).length ≤ 2000) ∧ (H ++ TL.enSs t.2.2.2.1).length ≤ 2000 ∧ ∃ M, (H ++ TL.enSs t.2.2.2.1) ++ V.put t.2.2.2.2.length = M ∧ M.length ≤ 2000 ∧ (∀ k, (M ++ K.enEs (t.2.2.2.2.take k)).length ≤ 4000) ∧ TL.enc t = M ++ K.enEs t.2.2.2.2 := by
  have h1 := TL.head_le h
  have h2 := TL.enSs_take_le h
  have h3 := TL.mid_le h
  have h4 := TL.enEs_take_le h
  refine ⟨_, _, _, _, rfl, rfl, rfl, rfl, ?_, ?_, ?_, ?_, fun k => ?_, ?_, _, rfl, ?_, fun k => ?_, ?_⟩
  · unfold TL.head at h1; simp only [List.length_append] at h1 ⊢; omega
  · unfold TL.head at h1; simp only [List.length_append] at h1 ⊢; omega
  · unfold TL.head at h1; simp only [List.length_append] at h1 ⊢; omega
  · unfold TL.head at h1; omega
  · have := h2 k
    unfold TL.head at h1
    rw [List.length_append]; omega
  · have := h2 t.2.2.2.1.length
    rw [List.take_length] at this
    unfold TL.head at h1
    rw [List.length_append]; omega
  · unfold TL.mid TL.head at h3; omega
  · have := h4 k
    unfold TL.mid TL.head at h3
    rw [List.length_append]; omega
  · rfl

set_option maxHeartbeats 16000000 in
theorem tencode_any (t : TL.T) (vs vh : Value) (w : World) (hr : Rdt w vs vh t.2.2.2.1 t.2.2.2.2) (hf : Fits t.2.2.2.2) :
    Calls Try.prog 9 #[.agg #[.int .i64 t.1, .int .i64 t.2.1, .bool t.2.2.1, vs, vh]] w (EncT w t) := by
  have HCHK := Lib.hid (fun x (hx : Below w.heap.size w x) => tcheck_any t vs vh x (hr.below hx) hf)
  have HOK := Lib.hid (@TL.chk_ok t)
  have HLET := Lib.hid (@enc_letters t)
  obtain ⟨id, code, full, ss, hs⟩ := t
  simp only at HOK HCHK hr HLET hf ⊢
  obtain ⟨⟨ao, cap, rfl, h1, h2, h3, h4⟩, ⟨ah, cah, rfl, g1, g2, g3, g4⟩⟩ := hr
  have B0 := below_alloc w (.cells #[.int .i64 id, .int .i64 code, .bool full, .slice ao ss.length cap, .slice ah hs.length cah] 25)
  have HS := Lib.hid (Str.new w 25 #[.int .i64 id, .int .i64 code, .bool full, .slice ao ss.length cap, .slice ah hs.length cah])
  have HC := Lib.hid (HCHK.out _ B0)
  have HB0 := Lib.hid B0
  have H4 := Lib.hid h4
  have G4 := Lib.hid g4
  clear B0 h1 h2 h3 h4 g1 g2 g3 g4 HCHK hf
  cases hck : TL.chk (id, code, full, ss, hs)
  · rw [hck, terr_false] at HC
    have E := Lib.hid hck
    clear hck HOK HLET
    go_enter Try.func9, Try.ntmps9
    go_wp2_with (go_at_call 11; refine HC.out.mono ?_; rintro e w1 ⟨rfl, b1⟩; have B1 := Lib.hid b1; clear b1)
    go_ret2
    exact ⟨below_trans HB0.out B1.out, .inr ⟨E.out, rfl⟩⟩
  · rw [hck, terr_true] at HC
    have E := Lib.hid hck
    obtain ⟨o1, o2, o3, o4, o5, o6⟩ := HOK.out hck
    obtain ⟨T1, T2, T3, H, hT1, hT2, hT3, hH, l1, l2, l3, l4, l5, l6, M, hM, l7, l8, hE⟩ := HLET.out hck
    obtain ⟨L, hL⟩ : ∃ L, ss.length = L := ⟨_, rfl⟩
    obtain ⟨J, hJ⟩ : ∃ J, hs.length = J := ⟨_, rfl⟩
    have HL := Lib.hid hL
    have HJ := Lib.hid hJ
    rw [hL, hJ] at HS HC HB0 ⊢
    rw [hL] at hH o3
    rw [hJ] at hM o4
    have HO5 := Lib.hid o5
    have HO6 := Lib.hid o6
    have HE := Lib.hid hE
    have L5 := Lib.hid l5
    have L8 := Lib.hid l8
    have P1 := Lib.hid (putnE (T := [2]) (n := id) o1.1 (by omega) (by simp) hT1)
    have P2 := Lib.hid (putnE (T := T1) (n := code) (by omega) (by omega) (by omega) hT2)
    have P3 := Lib.hid (putFullE (full := full) (T := T2) (by omega) hT3)
    have P4 := Lib.hid (putnE (T := T3) (T' := H) (n := (L : Int)) (by omega) (by omega) (by omega) (by rw [show ((L : Int)).toNat = L by omega]; exact hH))
    have P5 := Lib.hid (putnE (T := H ++ TL.enSs ss) (T' := M) (n := (J : Int)) (by omega) (by omega) (by omega) (by rw [show ((J : Int)).toNat = J by omega]; exact hM))
    clear hck HOK HLET o1 o2 o5 o6 hT1 hT2 hT3 hH hM l1 l2 l3 l4 l5 l6 l7 l8 hE hL hJ
    go_enter Try.func9, Try.ntmps9
    go_wp2_with fail
    refine HC.out.mono ?_
    rintro e w1 ⟨rfl, b1⟩
    have HB1 := Lib.hid (below_trans HB0.out b1)
    have B2 := below_alloc w1 (.cells #[.int .u8 2] 5)
    have HS2 := Lib.hid ((HS.out.below b1).below B2)
    have HO2 := Lib.hid (Own.lit (base := w1.heap.size) w1 (e := 5) (bv [2]) (Nat.le_refl _) (by simp [bv, maxLen]))
    have HK2 := Lib.hid (KT.of_below w1.heap.size B2)
    obtain ⟨c0, c1, c2, c3, c4⟩ := HS2.out.cells5
    clear b1 HC HS HB0 B2
    go_wp2_with fail
    refine (P1.out _ _ _ HO2.out HK2.out.size).mono ?_
    rintro e w3 he
    obtain ⟨a3, n3, q3, rfl, ho3, k3⟩ := he.slice
    have HO3 := Lib.hid ho3
    have HS3 := Lib.hid (HS2.out.kt k3 (by decide))
    have HK3 := Lib.hid (HK2.out.trans k3)
    clear he ho3 k3 HO2 HS2 HK2 P1 c0 c1 c2 c3 c4
    obtain ⟨c0, c1, c2, c3, c4⟩ := HS3.out.cells5
    go_wp2_with fail
    refine (P2.out _ _ _ HO3.out HK3.out.size).mono ?_
    rintro e w4 he
    obtain ⟨a4, n4, q4, rfl, ho4, k4⟩ := he.slice
    have HO4 := Lib.hid ho4
    have HS4 := Lib.hid (HS3.out.kt k4 (by decide))
    have HK4 := Lib.hid (HK3.out.trans k4)
    clear he ho4 k4 HO3 HS3 HK3 P2 c0 c1 c2 c3 c4
    obtain ⟨c0, c1, c2, c3, c4⟩ := HS4.out.cells5
    go_wp2_with fail
    refine (P3.out _ _ _ HO4.out HK4.out.size).mono ?_
    rintro e w5 he
    obtain ⟨a5, n5, q5, rfl, ho5, k5⟩ := he.slice
    have HO5' := Lib.hid ho5
    have HS5 := Lib.hid (HS4.out.kt k5 (by decide))
    have HK5 := Lib.hid (HK4.out.trans k5)
    clear he ho5 k5 HO4 HS4 HK4 P3 c0 c1 c2 c3 c4
    obtain ⟨c0, c1, c2, c3, c4⟩ := HS5.out.cells5
    go_wp2_with fail
    refine (P4.out _ _ _ HO5'.out HK5.out.size).mono ?_
    rintro e w6 he
    obtain ⟨a6, n6, q6, rfl, ho6, k6⟩ := he.slice
    have HO6' := Lib.hid ho6
    have HS6 := Lib.hid (HS5.out.kt k6 (by decide))
    have HK6 := Lib.hid (HK5.out.trans k6)
    clear he ho6 k6 HO5' HS5 HK5 P4 c0 c1 c2 c3 c4
    obtain ⟨c0, c1, c2, c3, c4⟩ := HS6.out.cells5
    go_wp2
    clear c0 c1 c2 c3 c4
    go_loopw [5, 36] (fun b i wr => ∃ (k : Nat), i = .int .i64 (k : Int) ∧ k ≤ L ∧ Hid (KT w1.heap.size w1 wr) ∧ Hid (Str wr w.heap.size 25 #[.int .i64 id, .int .i64 code, .bool full, .slice ao L cap, .slice ah J cah]) ∧ Hid (Own wr w1.heap.size 5 b (bv (H ++ TL.enSs (ss.take k))))) (fun _ i _ => L - (intOf i).toNat)
    case atStart => exact ⟨0, rfl, Nat.zero_le _, HK6.out, HS6.out, by show Own _ _ _ _ _; simpa [TL.enSs] using HO6'.out⟩
    case round =>
      obtain ⟨k, rfl, hk, HW, HST, HO⟩ := hrel
      have hlen := L5.out k
      obtain ⟨T, hT⟩ : ∃ T, H ++ TL.enSs (ss.take k) = T := ⟨_, rfl⟩
      have HT := Lib.hid hT
      rw [hT] at HO hlen
      obtain ⟨ab', cb', rfl, -⟩ := HO.out.rd
      rw [bv_len T] at HO ⊢
      clear hT HK6 HS6 HO6'
      by_cases hlt : k < L
      · obtain ⟨s, hs'⟩ : ∃ s, ss[k]? = some s := ⟨ss[k]'(by have := HL.out; omega), List.getElem?_eq_getElem _⟩
        obtain ⟨b, off, rfl, c⟩ := H4.out k s hs'
        have hbel := below_trans HB1.out (HW.out.below (Nat.le_refl _))
        obtain ⟨d0, d1, d2, d3, d4⟩ := c.below hbel
        have B2 := below_alloc wr (.cells #[.int .i64 s.1, .int .i64 s.2.1, .int .i64 s.2.2.1, .int .i64 s.2.2.2.1, .int .i64 s.2.2.2.2] 41)
        have HW2 := Lib.hid (HW.out.trans (KT.of_below w1.heap.size B2))
        have HST2 := Lib.hid (HST.out.below B2)
        have HP := Lib.hid (putStatus_any _ T w1.heap.size s (HO5.out s (List.mem_of_getElem? hs')) _ (HO.out.below B2) (by omega) HW2.out.size)
        have HD := Lib.hid hs'
        have g0 : (k : Int) < (L : Int) := by omega
        clear c hbel B2 hs'
        go_wp2_with fail
        refine HP.out.mono ?_
        rintro x w7 he
        obtain ⟨a7, n7, q7, rfl, ho7, k7⟩ := he.slice
        have HW7 := Lib.hid (HW2.out.trans k7)
        have HST7 := Lib.hid (HST2.out.kt k7 (by decide))
        have HO7 := Lib.hid ho7
        clear he ho7 k7 HP HW2 HST2
        go_wp2
        go_roundw
        case rel =>
          refine ⟨k + 1, by go_num, by omega, HW7.out, HST7.out, ?_⟩
          show Own _ _ _ _ _
          have := HO7.out
          rw [← HT.out] at this
          rw [TL.enSs_take HD.out]
          simpa [List.append_assoc] using this
        case measure => simp [intOf]; omega
      · have g0 : ¬ (k : Int) < (L : Int) := by omega
        have eT : T = H ++ TL.enSs ss := by
          rw [← HT.out, List.take_of_length_le (by have := HL.out; omega)]
        rw [eT] at HO
        obtain ⟨N0, hN0⟩ : ∃ N, T.length = N := ⟨_, rfl⟩
        rw [← eT, hN0] at HO
        rw [hN0]
        rw [eT] at HO
        obtain ⟨c0, c1, c2, c3, c4⟩ := HST.out.cells5
        clear eT hN0 hlen HT
        go_wp2_with fail
        refine (P5.out _ _ _ HO.out HW.out.size).mono ?_
        rintro e w8 he
        obtain ⟨a8, n8, q8, rfl, ho8, k8⟩ := he.slice
        have HO8 := Lib.hid ho8
        have HS8 := Lib.hid (HST.out.kt k8 (by decide))
        have HK8 := Lib.hid (HW.out.trans k8)
        clear he ho8 k8 P5 c0 c1 c2 c3 c4
        obtain ⟨c0, c1, c2, c3, c4⟩ := HS8.out.cells5
        obtain ⟨wo, rfl⟩ : ∃ wo, wo = wr := ⟨wr, rfl⟩
        go_wp2
        clear c0 c1 c2 c3 c4
        go_loopw [5, 52] (fun b i wr => ∃ (k : Nat), i = .int .i64 (k : Int) ∧ k ≤ J ∧ Hid (KT w1.heap.size w1 wr) ∧ Hid (Own wr w1.heap.size 5 b (bv (M ++ K.enEs (hs.take k))))) (fun _ i _ => J - (intOf i).toNat)
        case atStart => exact ⟨0, rfl, Nat.zero_le _, HK8.out, by show Own _ _ _ _ _; simpa [K.enEs] using HO8.out⟩
        case round =>
          obtain ⟨j, rfl, hj, HWj, HOj⟩ := hrel
          have hlen := L8.out j
          obtain ⟨U, hU⟩ : ∃ U, M ++ K.enEs (hs.take j) = U := ⟨_, rfl⟩
          have HU := Lib.hid hU
          rw [hU] at HOj hlen
          obtain ⟨ab', cb', rfl, -⟩ := HOj.out.rd
          rw [bv_len U] at HOj ⊢
          clear hU HK8 HS8 HO8
          by_cases hltj : j < J
          · obtain ⟨x, hx⟩ : ∃ x, hs[j]? = some x := ⟨hs[j]'(by have := HJ.out; omega), List.getElem?_eq_getElem _⟩
            obtain ⟨b, off, rfl, q1, q2⟩ := G4.out j x hx
            have hbel := below_trans HB1.out (HWj.out.below (Nat.le_refl _))
            have d1 := (hbel.cell (cell_lt q1)).trans q1
            have d2 := (hbel.cell (cell_lt q2)).trans q2
            unfold tv at d1 d2
            have hokl := TL.okH_okL (HO6.out x (List.mem_of_getElem? hx))
            have hk1 := hokl.1
            have hk2 := hokl.2
            have HD := Lib.hid hx
            have B2 := below_alloc wr (.cells #[.string ⟨x.1.toArray⟩, .string ⟨x.2.toArray⟩] 39)
            have HS2 := Lib.hid (Str.new wr 39 #[.string ⟨x.1.toArray⟩, .string ⟨x.2.toArray⟩])
            have HW2 := Lib.hid (HWj.out.trans (KT.of_below w1.heap.size B2))
            have HP1 := Lib.hid (putt_any _ U w1.heap.size x.1 (by omega) _ (HOj.out.below B2) (by omega) HW2.out.size)
            have ht1 := K.tx_le (s := x.1) (n := 1000) (by omega) (by omega)
            have hl2 : (U ++ K.tx x.1).length ≤ 1000000 := by rw [List.length_append]; omega
            obtain ⟨U2, hU2⟩ : ∃ U2, U ++ K.tx x.1 = U2 := ⟨_, rfl⟩
            have HU2 := Lib.hid hU2
            rw [hU2] at HP1 hl2
            have g1 : (j : Int) < (J : Int) := by omega
            clear q1 q2 hx hbel B2 hU2 hokl
            go_wp2_with fail
            refine HP1.out.mono ?_
            rintro e w9 he
            obtain ⟨a9, n9, q9, rfl, ho9, k9⟩ := he.slice
            have HS3 := Lib.hid (HS2.out.kt k9 (by decide))
            have HW3 := Lib.hid (HW2.out.trans k9)
            have s1 := HS3.out.cell 1
            simp only [List.getElem?_toArray, List.getElem?_cons_zero, List.getElem?_cons_succ] at s1
            have HP2 := Lib.hid (putt_any _ U2 w1.heap.size x.2 (by omega) w9 ho9 hl2 HW3.out.size)
            clear he ho9 k9 HP1 HS2 HW2
            go_wp2_with fail
            refine HP2.out.mono ?_
            rintro e w10 he
            obtain ⟨a10, n10, q10, rfl, ho10, k10⟩ := he.slice
            have HW4 := Lib.hid (HW3.out.trans k10)
            have HO4 := Lib.hid ho10
            clear he ho10 k10 HP2
            go_wp2
            go_roundw
            case rel =>
              refine ⟨j + 1, by go_num, by omega, HW4.out, ?_⟩
              show Own _ _ _ _ _
              have := HO4.out
              rw [← HU2.out, ← HU.out] at this
              rw [K.enEs_take HD.out]
              simpa [List.append_assoc] using this
            case measure => simp [intOf]; omega
          · have g1 : ¬ (j : Int) < (J : Int) := by omega
            go_wp2
            go_ret2
            refine ⟨below_trans HB1.out (HWj.out.below (Nat.le_refl _)), .inl ⟨E.out, _, rfl, ?_⟩⟩
            have e2 : TL.enc (id, code, full, ss, hs) = U := by
              rw [← HU.out, HE.out, List.take_of_length_le (by have := HJ.out; omega)]
            rw [e2]
            exact HOj.out.rd
end Go.Proofs.Ytokmpfkmkhnopaa
