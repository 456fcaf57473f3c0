/- The walk of ask.Encode. -/
import Derived.Test.YthbmmnjpiflgdaaAkH
namespace Go.Proofs.Ythbmmnjpiflgdaa
open Go.RowKit

/-- What Encode answers, at its end. -/
def Enc (w : World) (a : K.A) (e : Ending) (w' : World) : Prop :=
  Below w.heap.size w w' ∧ ((K.chk a = true ∧ ∃ v', e = .returned (.tuple #[v', .int .i64 0]) ∧ Rdv w' v' (bv (K.enc a))) ∨ (K.chk a = false ∧ e = .returned (.tuple #[.slice none 0 0, .int .i64 1])))
theorem errOf_false : errOf false = 1 := rfl
theorem errOf_true : errOf true = 0 := rfl
theorem rde_at {w : World} {v : Value} {es : List D.E} (h : Rde w v es) {ao : Addr} {n c : Nat} (hv : v = .slice (some ao) n c) (hne : es ≠ []) : ao.block < w.heap.size := by
  obtain ⟨b, off, cap, hv', _, _, hc⟩ := h.form hne
  rw [hv'] at hv
  obtain ⟨h1, -, -⟩ := Value.slice.inj hv
  obtain rfl := Option.some.inj h1
  have hpos : 0 < es.length := List.length_pos_iff.2 hne
  exact cell_lt (hc 0 es[0] (List.getElem?_eq_getElem hpos)).1

set_option maxHeartbeats 8000000 in
theorem encode_any (a : K.A) (vd : Value) (w : World) (hr : Rdd w vd a.2.2.2) (hf : FitA a) :
    Calls Try.prog 10 #[.agg #[.int .i64 a.1, .string ⟨a.2.1.toArray⟩, .int .i64 a.2.2.1, vd]] w (Enc w a) := by
  have HCHK := Lib.hid (fun x (hx : Below w.heap.size w x) => acheck_any a vd x (hr.below hx) hf)
  have hok := @K.chk_ok a
  have HHD := Lib.hid (@K.head_le a)
  have HTK := Lib.hid (@K.enDs_take_le a)
  have HDEF := Lib.hid (show K.enc a = K.head a ++ K.enDs a.2.2.2 from rfl)
  have HDEH := Lib.hid (show K.head a = [1] ++ V.put a.1.toNat ++ K.tx a.2.1 ++ V.put a.2.2.1.toNat ++ V.put a.2.2.2.length from rfl)
  obtain ⟨id, dom, hs, ds⟩ := a
  simp only at hok HCHK hr HDEF HDEH HTK ⊢
  obtain ⟨ao, cap, rfl, h1, h2, h3, h4⟩ := hr
  have B0 := below_alloc w (.cells #[.int .i64 id, .string ⟨dom.toArray⟩, .int .i64 hs, .slice ao ds.length cap] 24)
  have HS := Lib.hid (Str.new w 24 #[.int .i64 id, .string ⟨dom.toArray⟩, .int .i64 hs, .slice ao ds.length cap])
  have HC := Lib.hid (HCHK.out _ B0)
  have HB0 := Lib.hid B0
  have H4 := Lib.hid h4
  clear B0 h1 h2 h3 h4 HCHK hf
  cases hck : K.chk (id, dom, hs, ds)
  · rw [hck, errOf_false] at HC
    have E := Lib.hid hck
    clear hck hok
    go_enter Try.func10, Try.ntmps10
    go_wp2_with (go_at_call 12; refine HC.out.mono ?_; rintro e w1 ⟨rfl, b1⟩; have B1 := Lib.hid b1; clear b1)
    go_ret2
    exact ⟨below_trans HB0.out B1.out, .inr ⟨E.out, rfl⟩⟩
  · rw [hck, errOf_true] at HC
    have E := Lib.hid hck
    obtain ⟨o1, o2, o3, o4, o5⟩ := hok hck
    have HO5 := Lib.hid o5
    have hdl := K.nm_len o2
    have HH := Lib.hid (HHD.out hck)
    have HTL := Lib.hid (HTK.out hck)
    try simp only at o1 o3 o4 hdl HTL
    obtain ⟨L, hL⟩ : ∃ L, ds.length = L := ⟨_, rfl⟩
    have HL := Lib.hid hL
    rw [hL] at HS HC HB0 HDEH o4 ⊢
    clear hck hok o2 o5 hL HHD HTK
    go_enter Try.func10, Try.ntmps10
    go_wp2_with fail
    refine HC.out.mono ?_
    rintro e w1 ⟨rfl, b1⟩
    have HB1 := Lib.hid (below_trans HB0.out b1)
    have B2 := below_alloc w1 (.cells #[.int .u8 1] 5)
    have HS2 := Lib.hid ((HS.out.below b1).below B2)
    have HO2 := Lib.hid (Own.lit (base := w1.heap.size) w1 (e := 5) (bv [1]) (Nat.le_refl _) (by simp [bv, maxLen]))
    have HK2 := Lib.hid (KT.of_below w1.heap.size B2)
    have c0 := HS2.out.cell 0
    simp only [List.getElem?_toArray, List.getElem?_cons_zero] at c0
    have HP1 := Lib.hid (putn_any _ [1] w1.heap.size id o1.1 (by omega) _ HO2.out (by simp) HK2.out.size)
    clear b1 HC HS HB0 B2
    go_wp2_with fail
    refine HP1.out.mono ?_
    rintro e w3 ⟨v3, rfl, ho3, k3⟩
    have HS3 := Lib.hid (HS2.out.kt k3 (by decide))
    have HK3 := Lib.hid (HK2.out.trans k3)
    have c1 := HS3.out.cell 1
    simp only [List.getElem?_toArray, List.getElem?_cons_zero, List.getElem?_cons_succ] at c1
    have hT3 : ([1] ++ V.put id.toNat).length ≤ 105 := by
      have := HH.out
      rw [HDEH.out] at this
      simp only [List.length_append] at this ⊢
      omega
    have HP2 := Lib.hid (putt_any v3 ([1] ++ V.put id.toNat) w1.heap.size dom (by omega) w3 ho3 (by omega) HK3.out.size)
    obtain ⟨a3, q3, rfl, -⟩ := ho3.rd
    obtain ⟨N3, hN3⟩ : ∃ N, (bv ([1] ++ V.put id.toNat)).length = N := ⟨_, rfl⟩
    rw [hN3] at HP2 ⊢
    clear hN3
    clear ho3 k3 HP1 HS2 HK2 HO2 c0 hT3
    go_wp2_with fail
    refine HP2.out.mono ?_
    rintro e w4 ⟨v4, rfl, ho4, k4⟩
    have HS4 := Lib.hid (HS3.out.kt k4 (by decide))
    have HK4 := Lib.hid (HK3.out.trans k4)
    have c2 := HS4.out.cell 2
    simp only [List.getElem?_toArray, List.getElem?_cons_zero, List.getElem?_cons_succ] at c2
    have hT4 : ([1] ++ V.put id.toNat ++ K.tx dom).length ≤ 105 := by
      have := HH.out
      rw [HDEH.out] at this
      simp only [List.length_append] at this ⊢
      omega
    have HP3 := Lib.hid (putn_any v4 ([1] ++ V.put id.toNat ++ K.tx dom) w1.heap.size hs o3.1 (by omega) w4 ho4 (by omega) HK4.out.size)
    obtain ⟨a4, q4, rfl, -⟩ := ho4.rd
    obtain ⟨N4, hN4⟩ : ∃ N, (bv ([1] ++ V.put id.toNat ++ K.tx dom)).length = N := ⟨_, rfl⟩
    rw [hN4] at HP3 ⊢
    clear hN4
    clear ho4 k4 HP2 HS3 HK3 c1 hT4
    go_wp2_with fail
    refine HP3.out.mono ?_
    rintro e w5 ⟨v5, rfl, ho5, k5⟩
    have HS5 := Lib.hid (HS4.out.kt k5 (by decide))
    have HK5 := Lib.hid (HK4.out.trans k5)
    have c3 := HS5.out.cell 3
    simp only [List.getElem?_toArray, List.getElem?_cons_zero, List.getElem?_cons_succ] at c3
    have hT5 : ([1] ++ V.put id.toNat ++ K.tx dom ++ V.put hs.toNat).length ≤ 105 := by
      have := HH.out
      rw [HDEH.out] at this
      simp only [List.length_append] at this ⊢
      omega
    have HP4 := Lib.hid (putn_any v5 ([1] ++ V.put id.toNat ++ K.tx dom ++ V.put hs.toNat) w1.heap.size (L : Int) (by omega) (by omega) w5 ho5 (by omega) HK5.out.size)
    obtain ⟨a5, q5, rfl, -⟩ := ho5.rd
    obtain ⟨N5, hN5⟩ : ∃ N, (bv ([1] ++ V.put id.toNat ++ K.tx dom ++ V.put hs.toNat)).length = N := ⟨_, rfl⟩
    rw [hN5] at HP4 ⊢
    clear hN5
    rw [show ((L : Int)).toNat = L by omega, ← HDEH.out] at HP4
    clear ho5 k5 HP3 HS4 HK4 c2 hT5
    go_wp2_with fail
    refine HP4.out.mono ?_
    rintro e w6 ⟨v6, rfl, ho6, k6⟩
    have HS6 := Lib.hid (HS5.out.kt k6 (by decide))
    have HK6 := Lib.hid (HK5.out.trans k6)
    have HO6 := Lib.hid ho6
    clear c3
    have c3 := HS6.out.cell 3
    simp only [List.getElem?_toArray, List.getElem?_cons_zero, List.getElem?_cons_succ] at c3
    obtain ⟨a6, q6, rfl, -⟩ := ho6.rd
    clear ho6 k6 HP4 HS5 HK5
    generalize K.head (id, dom, hs, ds) = H at *
    go_wp2
    go_loopw [5, 34] (fun b i wr => ∃ (k : Nat), i = .int .i64 (k : Int) ∧ k ≤ L ∧ Hid (KT w1.heap.size w1 wr) ∧ Hid (Own wr w1.heap.size 5 b (bv (H ++ K.enDs (ds.take k))))) (fun _ i _ => L - (intOf i).toNat)
    case atStart => exact ⟨0, rfl, Nat.zero_le _, HK6.out, by show Own _ _ _ _ _; simpa [K.enDs] using HO6.out⟩
    case round =>
      obtain ⟨k, rfl, hk, HW, HO⟩ := hrel
      have hlen : (H ++ K.enDs (ds.take k)).length ≤ 100000 := by
        have h1 := HTL.out k
        have h2 := HH.out
        simp only [List.length_append]
        omega
      obtain ⟨T, hT⟩ : ∃ T, H ++ K.enDs (ds.take k) = T := ⟨_, rfl⟩
      have HT := Lib.hid hT
      rw [hT] at HO hlen
      obtain ⟨ab', cb', rfl, -⟩ := HO.out.rd
      rw [bv_len T] at HO ⊢
      clear hT
      by_cases hlt : k < L
      · obtain ⟨d, hd⟩ : ∃ d, ds[k]? = some d := ⟨ds[k]'(by have := HL.out; omega), List.getElem?_eq_getElem _⟩
        obtain ⟨b, off, u, rfl, q1, q2⟩ := H4.out k d hd
        have hbel := below_trans HB1.out (HW.out.below (Nat.le_refl _))
        have d1 := (hbel.cell (cell_lt q1)).trans q1
        have B2 := below_alloc wr (.cells #[u] 42)
        have HBW := Lib.hid (Nat.le_trans HW.out.size B2.size)
        have HW2 := Lib.hid (HW.out.trans (KT.of_below w1.heap.size B2))
        have HP := Lib.hid (putd_any _ T w1.heap.size u d (wr.alloc (.cells #[u] 42)) (q2.below (below_trans hbel B2)) (K.chk_okD (HO5.out d (List.mem_of_getElem? hd))) (fun ax n c hv hne => Nat.lt_of_lt_of_le (rde_at q2 hv hne) HB1.out.size) (HO.out.below B2) hlen HBW.out)
        have HD := Lib.hid hd
        obtain ⟨au, cu, rfl, -⟩ := q2
        have g0 : (k : Int) < (L : Int) := by omega
        clear q1 hbel B2 hd
        go_wp2_with fail
        refine HP.out.mono ?_
        rintro x w7 ⟨v7, rfl, ho7, k7⟩
        have HW7 := Lib.hid (HW2.out.trans k7)
        have HO7 := Lib.hid ho7
        clear ho7 k7 HP HW2
        go_wp2
        go_roundw
        case rel =>
          refine ⟨k + 1, by go_num, by omega, HW7.out, ?_⟩
          show Own _ _ _ _ _
          have := HO7.out
          rw [← HT.out] at this
          rw [K.enDs_take HD.out]
          simpa [List.append_assoc] using this
        case measure => simp [intOf]; omega
      · have g0 : ¬ (k : Int) < (L : Int) := by omega
        go_wp2
        go_ret2
        refine ⟨below_trans HB1.out (HW.out.below (Nat.le_refl _)), .inl ⟨E.out, _, rfl, ?_⟩⟩
        have e2 : K.enc (id, dom, hs, ds) = T := by
          rw [← HT.out, HDEF.out, List.take_of_length_le (by have := HL.out; omega)]
        rw [e2]
        exact HO.out.rd
end Go.Proofs.Ythbmmnjpiflgdaa
