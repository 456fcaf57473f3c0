/- Walks of the document's own num, text, CheckAsk. -/
import Derived.Test.YthbmmnjpiflgdaaAkI
namespace Go.Proofs.Ythbmmnjpiflgdaa
open Go.RowKit

theorem bytes_rd (l : List UInt8) (hl : l.length ≤ 1000000) (w : World) : ∃ (W : World) (cap : Nat), (convert 9 27 (.string ⟨l.toArray⟩)).run Try.prog w = .ok (.slice (some ⟨w.heap.size, 0, none⟩) l.length cap) W ∧ Below w.heap.size w W ∧ Rdv W (.slice (some ⟨w.heap.size, 0, none⟩) l.length cap) (bv l) := by
  have h := Lib.run_convert_string_bytes (P := Try.prog) w 9 27 5 ⟨l.toArray⟩ (u := .string) Try.underlying9 Try.underlying27 Try.underlying5
  rw [str_size] at h
  have hge := grownCap_ge w l.length 0 5
  have hle := grownCap_le_maxLen w l.length 0 5 (by unfold maxLen; omega)
  refine ⟨_, _, h, ⟨rfl, rfl, rfl, by rw [Lib.bytesWorld_size]; omega, fun j hj => Lib.bytesWorld_at_old _ _ _ _ hj⟩, some ⟨w.heap.size, 0, none⟩, _, by rw [bv_len], by rw [bv_len]; exact hge, hle, by simp, fun j u hu => ⟨_, rfl, ?_⟩⟩
  have hj : j < l.length := by
    have := (List.getElem?_eq_some_iff.1 hu).1
    rwa [bv_len] at this
  rw [bv_get hj] at hu
  rw [Addr.add_lit, Nat.zero_add, Lib.bytesWorld_cell w 5 ⟨l.toArray⟩ j (by rw [str_size]; exact hj), ← Option.some.inj hu]
  have e : (⟨l.toArray⟩ : ByteArray).data.toList = l := rfl
  rw [e, List.getD_eq_getElem?_getD, List.getElem?_eq_getElem hj]; rfl

/-- New bytes, of the call's own. -/
def NewB (w : World) (bs : List UInt8) (e : Ending) (w' : World) : Prop := ∃ v', e = .returned v' ∧ Own w' w.heap.size 5 v' (bv bs) ∧ Below w.heap.size w w'
set_option maxHeartbeats 800000 in
theorem rnum_any (vb : Value) (bs : List UInt8) (n : Int) (h0 : 0 ≤ n) (h1 : n ≤ 9223372036854775807) (w : World) (hr : Rdv w vb (bv bs)) (hl : bs.length ≤ 1000000) :
    Calls Try.prog 25 #[vb, .int .i64 n] w (NewB w (bs ++ V.put n.toNat)) := by
  have HP := Lib.hid (rput_any vb bs n h0 (by omega) w hr (by omega))
  obtain ⟨ao, cap, rfl, -⟩ := hr
  have hn : n < 18446744073709551616 := by omega
  go_enter Try.func25, Try.ntmps25
  go_wp2_with fail
  refine HP.out.mono ?_
  rintro e w1 ⟨v1, rfl, ho1, b1⟩
  have O1 := Lib.hid ho1
  have B1 := Lib.hid b1
  clear ho1 b1 HP
  go_wp2
  go_ret
  exact ⟨_, rfl, O1.out, B1.out⟩
set_option maxHeartbeats 800000 in
theorem rtext_any (vb : Value) (bs : List UInt8) (s : List UInt8) (hs : s.length ≤ 1000000) (w : World) (hr : Rdv w vb (bv bs)) (hl : bs.length ≤ 1000000) :
    Calls Try.prog 26 #[vb, .string ⟨s.toArray⟩] w (NewB w (bs ++ K.tx s)) := by
  have HP := Lib.hid (rput_any vb bs (s.length : Int) (by omega) (by omega) w hr (by omega))
  have HL := Lib.hid (V.len_le10 (v := s.length) (by omega))
  obtain ⟨ao, cap, rfl, -⟩ := hr
  have hsz := str_size s
  go_enter Try.func26, Try.ntmps26
  go_wp2_with fail
  refine HP.out.mono ?_
  rintro e w1 ⟨v1, rfl, ho1, b1⟩
  rw [show ((s.length : Int)).toNat = s.length by omega] at ho1
  obtain ⟨T, hT⟩ : ∃ T, bs ++ V.put s.length = T := ⟨_, rfl⟩
  have HT := Lib.hid hT
  have hTl : T.length ≤ 1000010 := by
    have := HL.out
    unfold V.len at this
    rw [← hT, List.length_append]
    omega
  rw [hT] at ho1
  obtain ⟨W, cp, hcv, hbw, hrd⟩ := bytes_rd s hs w1
  have O1 := Lib.hid (ho1.below hbw)
  have B1 := Lib.hid b1
  have B2 := Lib.hid (below_trans b1 hbw)
  have RD := Lib.hid hrd
  obtain ⟨a1, c1, rfl, -⟩ := ho1.rd
  rw [bv_len] at O1 ⊢
  clear ho1 b1 HP hT hbw hrd
  go_wp2_with (at_builtin; refine wpList_append_bytes rfl (.tmp 9) (.tmp 11) 27 rfl w.heap.size 5 Try.underlying27 Try.info_u8 (by rfl) O1.out (by rfl) RD.out (by omega) B2.out.size ?_; intro v2 w2 ho2 _ hb2; have O2 := Lib.hid ho2; have B3 := Lib.hid (B2.out.trans hb2); clear ho2 hb2)
  go_ret
  refine ⟨_, rfl, ?_, B3.out⟩
  have := O2.out
  rwa [← HT.out, List.append_assoc] at this

set_option maxHeartbeats 4000000 in
theorem rcheckAsk_any (a : K.A) (vd : Value) (w : World) (hr : Rdd w vd a.2.2.2) (hf : FitA a) :
    Calls Try.prog 14 #[.agg #[.int .i64 a.1, .string ⟨a.2.1.toArray⟩, .int .i64 a.2.2.1, vd]] w fun e w' => e = .returned (.bool (K.chk a)) ∧ Below w.heap.size w w' := by
  have hlm : a.2.2.2.length ≤ 9223372036854775807 := by have := hr.len_le; unfold maxLen at this; omega
  have hcases := kchk_cases a
  have HN := Lib.hid (fun w => rname_any a.2.1 (by have := hf.1; unfold maxLen; omega) w)
  have HF := Lib.hid hf.2
  clear hf
  obtain ⟨id, dom, hs, ds⟩ := a
  simp only at hcases HN HF hr hlm ⊢
  obtain ⟨ao, cap, rfl, h1, h2, h3, h4⟩ := hr
  have HS := Lib.hid (Str.new w 24 #[.int .i64 id, .string ⟨dom.toArray⟩, .int .i64 hs, .slice ao ds.length cap])
  have HB := Lib.hid (below_alloc w (.cells #[.int .i64 id, .string ⟨dom.toArray⟩, .int .i64 hs, .slice ao ds.length cap] 24))
  have H4 := Lib.hid h4
  clear h1 h2 h3 h4
  rcases hcases with ⟨q1, E⟩ | ⟨q1, q2, E⟩ | ⟨q1, q2, q3, E⟩ | ⟨q1, q2, q3, q4, E⟩ | ⟨q1, q2, q3, q4, q5, E⟩ | ⟨q1, q2, q3, q4, q5, q6, E⟩ | ⟨q1, q2, q3, q4, q5, q7, E⟩ | ⟨q1, q2, q3, q4, q5, q6, q7, E⟩
  · have HE := Lib.hid E
    clear E
    go_enter Try.func14, Try.ntmps14
    go_wp2
    go_ret
    exact ret_b HE.out.symm HB.out
  · have HE := Lib.hid E
    clear E
    go_enter Try.func14, Try.ntmps14
    go_wp2
    go_ret
    exact ret_b HE.out.symm HB.out
  · have HE := Lib.hid E
    rw [q3] at HN
    clear E q3
    go_enter Try.func14, Try.ntmps14
    go_wp2_with (go_at_call 29; refine (HN.out _).mono ?_; rintro e w1 ⟨rfl, rfl⟩)
    go_ret
    exact ret_b HE.out.symm HB.out
  · have HE := Lib.hid E
    rw [q3] at HN
    clear E q3
    go_enter Try.func14, Try.ntmps14
    go_wp2_with (go_at_call 29; refine (HN.out _).mono ?_; rintro e w1 ⟨rfl, rfl⟩)
    go_ret
    exact ret_b HE.out.symm HB.out
  · have HE := Lib.hid E
    rw [q3] at HN
    clear E q3
    go_enter Try.func14, Try.ntmps14
    go_wp2_with (go_at_call 29; refine (HN.out _).mono ?_; rintro e w1 ⟨rfl, rfl⟩)
    go_ret
    exact ret_b HE.out.symm HB.out
  · have HE := Lib.hid E
    rw [q3] at HN
    rw [q6] at HS HB ⊢
    clear E q3
    go_enter Try.func14, Try.ntmps14
    go_wp2_with (go_at_call 29; refine (HN.out _).mono ?_; rintro e w1 ⟨rfl, rfl⟩)
    go_ret
    exact ret_b HE.out.symm HB.out
  · have HE := Lib.hid E
    rw [q3] at HN
    obtain ⟨L, hL⟩ : ∃ L, ds.length = L := ⟨_, rfl⟩
    rw [hL] at HS HB q7 hlm ⊢
    have b0 : ¬ (L : Int) < 1 := by omega
    have b8 : (16 : Int) < (L : Int) := by omega
    clear E q3 hL
    go_enter Try.func14, Try.ntmps14
    go_wp2_with (go_at_call 29; refine (HN.out _).mono ?_; rintro e w1 ⟨rfl, rfl⟩)
    go_ret
    exact ret_b HE.out.symm HB.out
  · rw [q3] at HN
    obtain ⟨L, hL⟩ : ∃ L, ds.length = L := ⟨_, rfl⟩
    have HL := Lib.hid hL
    have HE := Lib.hid E
    rw [hL] at HS HB q6 q7 hlm ⊢
    have b0 : ¬ (L : Int) < 1 := by omega
    have b8 : ¬ (16 : Int) < (L : Int) := by omega
    clear E q3 hL
    go_enter Try.func14, Try.ntmps14
    go_wp2_with (go_at_call 29; refine (HN.out _).mono ?_; rintro e w1 ⟨rfl, hw1⟩; subst hw1)
    go_loopw [3] (fun i wr => ∃ (k : Nat), i = .int .i64 (k : Int) ∧ k ≤ L ∧ Hid (Below w.heap.size w wr) ∧ Hid (Str wr w.heap.size 24 #[.int .i64 id, .string ⟨dom.toArray⟩, .int .i64 hs, .slice ao L cap]) ∧ Hid (∀ d ∈ ds.take k, D.chk d = true)) (fun i _ => L - (intOf i).toNat)
    case atStart => exact ⟨0, rfl, Nat.zero_le _, HB.out, HS.out, by show ∀ _, _; simp⟩
    case round =>
      obtain ⟨k, rfl, hk, HW, HST, HI⟩ := hrel
      have s3 := HST.out.cell 3
      simp only [List.getElem?_toArray, List.getElem?_cons_zero, List.getElem?_cons_succ] at s3
      by_cases hlt : k < L
      · obtain ⟨d, hd⟩ : ∃ d, ds[k]? = some d := ⟨ds[k]'(by have := HL.out; omega), List.getElem?_eq_getElem _⟩
        obtain ⟨b, off, u, rfl, c1, c2⟩ := H4.out k d hd
        have d1 := (HW.out.cell (cell_lt c1)).trans c1
        have HU := Lib.hid (rcheck_any u d wr (c2.below HW.out) (HF.out d (List.mem_of_getElem? hd)))
        obtain ⟨ao', cap', rfl, _⟩ := c2
        have HD := Lib.hid hd
        have g0 : (k : Int) < (L : Int) := by omega
        clear c1 hd
        cases hck : D.chk d
        · rw [hck] at HU
          have E := Lib.hid (HE.out.trans (all_bad HD.out hck))
          clear hck
          go_wp2_with (go_at_call 30; refine HU.out.mono ?_; rintro e w2 ⟨rfl, b2⟩; have B2 := Lib.hid b2; clear b2)
          go_ret
          exact ret_b E.out.symm (below_trans HW.out B2.out)
        · rw [hck] at HU
          have HI2 := Lib.hid (take_desc HD.out HI.out hck)
          clear hck
          go_wp2_with (go_at_call 30; refine HU.out.mono ?_; rintro e w2 ⟨rfl, b2⟩; have B2 := Lib.hid b2; clear b2)
          go_roundw
          case rel => exact ⟨k + 1, by go_num, by omega, below_trans HW.out B2.out, HST.out.below B2.out, HI2.out⟩
          case measure => simp [intOf]; omega
      · have E := Lib.hid (show K.chk (id, dom, hs, ds) = true by
          have h1 := HI.out; have h2 := HL.out
          rw [List.take_of_length_le (by omega)] at h1
          rw [HE.out, List.all_eq_true]
          exact h1)
        have g0 : ¬ (k : Int) < (L : Int) := by omega
        go_wp2
        go_ret
        exact ret_b E.out.symm HW.out
end Go.Proofs.Ythbmmnjpiflgdaa
