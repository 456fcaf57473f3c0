/- Walks of the document's own num, text, CheckAsk. -/
import Derived.Test.YtfpdcljeepjogaaAkH
namespace Go.Proofs.Ytfpdcljeepjogaa
open Go.RowKit

theorem bytes_rd (l : List UInt8) (hl : l.length ≤ 1000000) (w : World) : ∃ (W : World) (cap : Nat), (convert 9 25 (.string ⟨l.toArray⟩)).run Try.prog w = .ok (.slice (some ⟨w.heap.size, 0, none⟩) l.length cap) W ∧ Below w.heap.size w W ∧ Rdv W (.slice (some ⟨w.heap.size, 0, none⟩) l.length cap) (bv l) := by
  have h := Lib.run_convert_string_bytes (P := Try.prog) w 9 25 5 ⟨l.toArray⟩ (u := .string) Try.underlying9 Try.underlying25 Try.underlying5
  rw [str_size] at h
  have hge := grownCap_ge w l.length 0 5
  have hle := grownCap_le_maxLen w l.length 0 5 (by unfold maxLen; omega)
  refine ⟨_, _, h, ⟨rfl, rfl, rfl, by rw [Lib.bytesWorld_size]; omega, fun j hj => Lib.bytesWorld_at_old _ _ _ _ hj⟩, some ⟨w.heap.size, 0, none⟩, _, by rw [bv_len], by rw [bv_len]; exact hge, hle, by simp, fun j u hu => ⟨_, rfl, ?_⟩⟩
  have hj : j < l.length := by
    have := (List.getElem?_eq_some_iff.1 hu).1
    rwa [bv_len] at this
  rw [bv_get hj] at hu
  rw [Addr.add_lit, Nat.zero_add, Lib.bytesWorld_cell w 5 ⟨l.toArray⟩ j (by rw [str_size]; exact hj), ← Option.some.inj hu]
  have e : (⟨l.toArray⟩ : ByteArray).data.toList = l := rfl
  rw [e, List.getD_eq_getElem?_getD, List.getElem?_eq_getElem hj]; rfl

/-- New bytes, of the call's own. -/
def NewB (w : World) (bs : List UInt8) (e : Ending) (w' : World) : Prop := ∃ v', e = .returned v' ∧ Own w' w.heap.size 5 v' (bv bs) ∧ Below w.heap.size w w'
set_option maxHeartbeats 800000 in
theorem rnum_any (vb : Value) (bs : List UInt8) (n : Int) (h0 : 0 ≤ n) (h1 : n ≤ 9223372036854775807) (w : World) (hr : Rdv w vb (bv bs)) (hl : bs.length ≤ 1000000) :
    Calls Try.prog 27 #[vb, .int .i64 n] w (NewB w (bs ++ V.put n.toNat)) := by
  have HP := Lib.hid (rput_any vb bs n h0 (by omega) w hr (by omega))
  obtain ⟨ao, cap, rfl, -⟩ := hr
  have hn : n < 18446744073709551616 := by omega
  go_enter Try.func27, Try.ntmps27
  go_wp2_with fail
  refine HP.out.mono ?_
  rintro e w1 ⟨v1, rfl, ho1, b1⟩
  have O1 := Lib.hid ho1
  have B1 := Lib.hid b1
  clear ho1 b1 HP
  go_wp2
  go_ret
  exact ⟨_, rfl, O1.out, B1.out⟩
set_option maxHeartbeats 800000 in
theorem rtext_any (vb : Value) (bs : List UInt8) (s : List UInt8) (hs : s.length ≤ 1000000) (w : World) (hr : Rdv w vb (bv bs)) (hl : bs.length ≤ 1000000) :
    Calls Try.prog 26 #[vb, .string ⟨s.toArray⟩] w (NewB w (bs ++ K.tx s)) := by
  have HP := Lib.hid (rput_any vb bs (s.length : Int) (by omega) (by omega) w hr (by omega))
  have HL := Lib.hid (V.len_le10 (v := s.length) (by omega))
  obtain ⟨ao, cap, rfl, -⟩ := hr
  have hsz := str_size s
  go_enter Try.func26, Try.ntmps26
  go_wp2_with fail
  refine HP.out.mono ?_
  rintro e w1 ⟨v1, rfl, ho1, b1⟩
  rw [show ((s.length : Int)).toNat = s.length by omega] at ho1
  obtain ⟨T, hT⟩ : ∃ T, bs ++ V.put s.length = T := ⟨_, rfl⟩
  have HT := Lib.hid hT
  have hTl : T.length ≤ 1000010 := by
    have := HL.out
    unfold V.len at this
    rw [← hT, List.length_append]
    omega
  rw [hT] at ho1
  obtain ⟨W, cp, hcv, hbw, hrd⟩ := bytes_rd s hs w1
  have O1 := Lib.hid (ho1.below hbw)
  have B1 := Lib.hid b1
  have B2 := Lib.hid (below_trans b1 hbw)
  have RD := Lib.hid hrd
  obtain ⟨a1, c1, rfl, -⟩ := ho1.rd
  rw [bv_len] at O1 ⊢
  clear ho1 b1 HP hT hbw hrd
  go_wp2_with (at_builtin; refine wpList_append_bytes rfl (.tmp 9) (.tmp 11) 25 rfl w.heap.size 5 Try.underlying25 Try.info_u8 (by rfl) O1.out (by rfl) RD.out (by omega) B2.out.size ?_; intro v2 w2 ho2 _ hb2; have O2 := Lib.hid ho2; have B3 := Lib.hid (B2.out.trans hb2); clear ho2 hb2)
  go_ret
  refine ⟨_, rfl, ?_, B3.out⟩
  have := O2.out
  rwa [← HT.out, List.append_assoc] at this

theorem tcell_later {w w' : World} {a : Addr} {v : Value} (hb : Below w.heap.size w w') (h : w.cell? a = some v) : w'.cell? a = some v := (hb.cell (cell_lt h)).trans h
theorem rnumE {T T' : List UInt8} {n : Int} (h0 : 0 ≤ n) (h1 : n ≤ 9223372036854775807) (hl : T.length ≤ 1000000) (hT : T ++ V.put n.toNat = T') (x : World) (v : Value) (hr : Rdv x v (bv T)) :
    Calls Try.prog 27 #[v, .int .i64 n] x (NewB x T') := by
  subst hT
  exact rnum_any v T n h0 h1 x hr hl
theorem rtextE {T T' s : List UInt8} (hs : s.length ≤ 1000000) (hl : T.length ≤ 1000000) (hT : T ++ K.tx s = T') (x : World) (v : Value) (hr : Rdv x v (bv T)) :
    Calls Try.prog 26 #[v, .string ⟨s.toArray⟩] x (NewB x T') := by
  subst hT
  exact rtext_any v T s hs x hr hl
theorem NewB.slice {w : World} {bs : List UInt8} {e : Ending} {w' : World} (h : NewB w bs e w') : ∃ ao n c, e = .returned (.slice ao n c) ∧ Rdv w' (.slice ao n c) (bv bs) ∧ Below w.heap.size w w' := by
  obtain ⟨v, rfl, ho, hk⟩ := h
  obtain ⟨ao, cap, rfl, -⟩ := id ho.rd
  exact ⟨ao, _, cap, rfl, ho.rd, hk⟩

end Go.Proofs.Ytfpdcljeepjogaa
