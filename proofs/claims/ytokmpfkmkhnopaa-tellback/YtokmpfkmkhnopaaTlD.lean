/- The walk of tell.readStatus. -/
import Derived.Test.YtokmpfkmkhnopaaTlB
namespace Go.Proofs.Ytokmpfkmkhnopaa
open Go.RowKit

/-- Where readStatus stands. -/
structure SS (w wr : World) (p : Nat) (cs : Array Value) (rest : List UInt8) : Prop where
  kb : Kb w wr (some p) none
  lt : p < w.heap.size
  big : w.heap.size + 2 ≤ wr.heap.size
  res : Str wr w.heap.size 41 #[.int .i64 0, .int .i64 0, .int .i64 0, .int .i64 0, .int .i64 0]
  st : Str wr (w.heap.size + 1) 41 cs
  rd : Rdr wr p rest
theorem SS.later {w wr w1 : World} {p : Nat} {cs : Array Value} {rest rest' : List UInt8} (h : SS w wr p cs rest) (hk : Kb wr w1 (some p) none) (hr : Rdr w1 p rest') : SS w w1 p cs rest' := by
  have hlt := h.lt
  exact ⟨h.kb.trans hk, h.lt, Nat.le_trans h.big hk.size, h.res.kb hk (by simp; omega) (by simp), h.st.kb hk (by simp; omega) (by simp), hr⟩
theorem SS.set {w wr : World} {p : Nat} {cs cs' : Array Value} {rest : List UInt8} (h : SS w wr p cs rest) (i : Nat) (u : Value) (hc : cs.setIfInBounds i u = cs') : SS w (wr.setCell ⟨w.heap.size + 1, i, none⟩ u) p cs' rest := by
  subst hc
  have kb := Kb.set wr (w.heap.size + 1) i u none
  have hlt := h.lt
  have hbig := h.big
  exact ⟨⟨kb.os.trans h.kb.os, kb.tape.trans h.kb.tape, kb.output.trans h.kb.output, Nat.le_trans h.kb.size kb.size, fun k hk h1 h2 => (kb.block k (by omega) (by simp; omega) (by simp)).trans (h.kb.block k hk h1 h2)⟩, hlt, Nat.le_trans hbig kb.size, h.res.kb kb (by simp) (by simp), h.st.set i u, h.rd.keep fun k hk => kb.block k (by omega) (by simp; omega) (by simp)⟩
theorem ss_start {w : World} {p : Nat} {bs : List UInt8} (h : Rdr w p bs) : SS w ((w.alloc (.cells #[.int .i64 0, .int .i64 0, .int .i64 0, .int .i64 0, .int .i64 0] 41)).alloc (.cells #[.int .i64 0, .int .i64 0, .int .i64 0, .int .i64 0, .int .i64 0] 41)) p #[.int .i64 0, .int .i64 0, .int .i64 0, .int .i64 0, .int .i64 0] bs := by
  have WB := below_trans (below_alloc w (.cells #[.int .i64 0, .int .i64 0, .int .i64 0, .int .i64 0, .int .i64 0] 41)) (below_alloc _ (.cells #[.int .i64 0, .int .i64 0, .int .i64 0, .int .i64 0, .int .i64 0] 41))
  refine ⟨Kb.of_below WB _ _, h.lt, by rw [box_size, box_size]; omega, (Str.new w _ _).below (below_alloc _ _), ?_, h.below WB⟩
  have := Str.new (w.alloc (.cells #[.int .i64 0, .int .i64 0, .int .i64 0, .int .i64 0, .int .i64 0] 41)) 41 #[.int .i64 0, .int .i64 0, .int .i64 0, .int .i64 0, .int .i64 0]
  rwa [box_size] at this

/-- What readStatus hands over, at its end. -/
def GotS (p : Nat) (w : World) (o : Option (TL.S × List UInt8)) (e : Ending) (w' : World) : Prop :=
  (∃ (s : TL.S) (r : List UInt8), o = some (s, r) ∧ e = .returned (.agg #[.int .i64 s.1, .int .i64 s.2.1, .int .i64 s.2.2.1, .int .i64 s.2.2.2.1, .int .i64 s.2.2.2.2]) ∧ Rdr w' p r ∧ Kb w w' (some p) none) ∨ (o = none ∧ Gave p w e w')

set_option maxHeartbeats 8000000 in
theorem readStatus_any (p : Nat) (bs : List UInt8) (w : World) (hr : Rdr w p bs) :
    Calls Try.prog 50 #[.pointer (some ⟨p, 0, none⟩)] w (GotS p w (TL.stat bs)) := by
  have HS0 := Lib.hid (ss_start hr)
  clear hr
  go_enter Try.func50, Try.ntmps50
  cases h1 : K.num 2 bs with
  | none =>
    have E := Lib.hid (TL.stat_bad1  h1)
    have HN := Lib.hid (number_none p bs 2 (by omega) h1 _ HS0.out.rd)
    clear h1
    go_wp2_with fail
    refine HN.out.mono ?_
    rintro e w2 ⟨rfl, hk2⟩
    exact ⟨rfl, .inr ⟨E.out, rfl, HS0.out.kb.trans hk2⟩⟩
  | some x1 =>
  obtain ⟨a, b1⟩ := x1
  have HI1 := Lib.hid h1
  have HN1 := Lib.hid (number_some p bs 2 (by omega) a b1 h1 _ HS0.out.rd)
  clear h1
  go_wp2_with fail
  refine HN1.out.mono ?_
  rintro e w1 ⟨rfl, hr1, hk1⟩
  have HS1 := Lib.hid (HS0.out.later hk1 hr1)
  clear hr1 hk1 HS0 HN1
  have HT1 := Lib.hid (HS1.out.set 0 (.int .i64 (a : Int)) (cs' := #[.int .i64 (a : Int), .int .i64 0, .int .i64 0, .int .i64 0, .int .i64 0]) (by simp))
  have c0 := HS1.out.st.cell 0
  have f0 := HS1.out.st.frozen 0
  simp only [List.getElem?_toArray, List.getElem?_cons_zero] at c0
  cases h2 : K.num 4294967295 b1 with
  | none =>
    have E := Lib.hid (TL.stat_bad2 HI1.out h2)
    have HN := Lib.hid (number_none p b1 4294967295 (by omega) h2 _ HT1.out.rd)
    clear h2
    go_wp2_with fail
    refine HN.out.mono ?_
    rintro e w2 ⟨rfl, hk2⟩
    exact ⟨rfl, .inr ⟨E.out, rfl, HT1.out.kb.trans hk2⟩⟩
  | some x2 =>
  obtain ⟨b, b2⟩ := x2
  have HI2 := Lib.hid h2
  have HN2 := Lib.hid (number_some p b1 4294967295 (by omega) b b2 h2 _ HT1.out.rd)
  clear h2
  go_wp2_with fail
  refine HN2.out.mono ?_
  rintro e w2 ⟨rfl, hr2, hk2⟩
  have HS2 := Lib.hid (HT1.out.later hk2 hr2)
  clear hr2 hk2 HT1 HN2 c0 f0
  have HT2 := Lib.hid (HS2.out.set 1 (.int .i64 (b : Int)) (cs' := #[.int .i64 (a : Int), .int .i64 (b : Int), .int .i64 0, .int .i64 0, .int .i64 0]) (by simp))
  have c0 := HS2.out.st.cell 1
  have f0 := HS2.out.st.frozen 1
  simp only [List.getElem?_toArray, List.getElem?_cons_zero, List.getElem?_cons_succ] at c0
  cases h3 : K.num 4 b2 with
  | none =>
    have E := Lib.hid (TL.stat_bad3 HI1.out HI2.out h3)
    have HN := Lib.hid (number_none p b2 4 (by omega) h3 _ HT2.out.rd)
    clear h3
    go_wp2_with fail
    refine HN.out.mono ?_
    rintro e w2 ⟨rfl, hk2⟩
    exact ⟨rfl, .inr ⟨E.out, rfl, HT2.out.kb.trans hk2⟩⟩
  | some x3 =>
  obtain ⟨c, b3⟩ := x3
  have HI3 := Lib.hid h3
  have HN3 := Lib.hid (number_some p b2 4 (by omega) c b3 h3 _ HT2.out.rd)
  clear h3
  go_wp2_with fail
  refine HN3.out.mono ?_
  rintro e w3 ⟨rfl, hr3, hk3⟩
  have HS3 := Lib.hid (HT2.out.later hk3 hr3)
  clear hr3 hk3 HT2 HN3 c0 f0
  have HT3 := Lib.hid (HS3.out.set 2 (.int .i64 (c : Int)) (cs' := #[.int .i64 (a : Int), .int .i64 (b : Int), .int .i64 (c : Int), .int .i64 0, .int .i64 0]) (by simp))
  have c0 := HS3.out.st.cell 2
  have f0 := HS3.out.st.frozen 2
  simp only [List.getElem?_toArray, List.getElem?_cons_zero, List.getElem?_cons_succ] at c0
  cases h4 : K.num 4294967295 b3 with
  | none =>
    have E := Lib.hid (TL.stat_bad4 HI1.out HI2.out HI3.out h4)
    have HN := Lib.hid (number_none p b3 4294967295 (by omega) h4 _ HT3.out.rd)
    clear h4
    go_wp2_with fail
    refine HN.out.mono ?_
    rintro e w2 ⟨rfl, hk2⟩
    exact ⟨rfl, .inr ⟨E.out, rfl, HT3.out.kb.trans hk2⟩⟩
  | some x4 =>
  obtain ⟨d, b4⟩ := x4
  have HI4 := Lib.hid h4
  have HN4 := Lib.hid (number_some p b3 4294967295 (by omega) d b4 h4 _ HT3.out.rd)
  clear h4
  go_wp2_with fail
  refine HN4.out.mono ?_
  rintro e w4 ⟨rfl, hr4, hk4⟩
  have HS4 := Lib.hid (HT3.out.later hk4 hr4)
  clear hr4 hk4 HT3 HN4 c0 f0
  have HT4 := Lib.hid (HS4.out.set 3 (.int .i64 (d : Int)) (cs' := #[.int .i64 (a : Int), .int .i64 (b : Int), .int .i64 (c : Int), .int .i64 (d : Int), .int .i64 0]) (by simp))
  have c0 := HS4.out.st.cell 3
  have f0 := HS4.out.st.frozen 3
  simp only [List.getElem?_toArray, List.getElem?_cons_zero, List.getElem?_cons_succ] at c0
  cases h5 : K.num 86400 b4 with
  | none =>
    have E := Lib.hid (TL.stat_bad5 HI1.out HI2.out HI3.out HI4.out h5)
    have HN := Lib.hid (number_none p b4 86400 (by omega) h5 _ HT4.out.rd)
    clear h5
    go_wp2_with fail
    refine HN.out.mono ?_
    rintro e w2 ⟨rfl, hk2⟩
    exact ⟨rfl, .inr ⟨E.out, rfl, HT4.out.kb.trans hk2⟩⟩
  | some x5 =>
  obtain ⟨e, b5⟩ := x5
  have HI5 := Lib.hid h5
  have HN5 := Lib.hid (number_some p b4 86400 (by omega) e b5 h5 _ HT4.out.rd)
  clear h5
  go_wp2_with fail
  refine HN5.out.mono ?_
  rintro e w5 ⟨rfl, hr5, hk5⟩
  have HS5 := Lib.hid (HT4.out.later hk5 hr5)
  clear hr5 hk5 HT4 HN5 c0 f0
  have HT5 := Lib.hid (HS5.out.set 4 (.int .i64 (e : Int)) (cs' := #[.int .i64 (a : Int), .int .i64 (b : Int), .int .i64 (c : Int), .int .i64 (d : Int), .int .i64 (e : Int)]) (by simp))
  have c0 := HS5.out.st.cell 4
  have f0 := HS5.out.st.frozen 4
  simp only [List.getElem?_toArray, List.getElem?_cons_zero, List.getElem?_cons_succ] at c0
  have E := Lib.hid (TL.stat_go HI1.out HI2.out HI3.out HI4.out HI5.out)
  obtain ⟨k0, k1, k2, k3, k4⟩ := HT5.out.st.cells5
  obtain ⟨d0, d1, d2, d3, d4⟩ := HT5.out.res.cells5
  obtain ⟨j0, j1, j2, j3, j4⟩ := HT5.out.res.frozen5
  clear HI1 HI2 HI3 HI4 HI5
  go_wp2
  (try simp only [Exit.inBlock, Exit.then])
  refine bodyPost_ret (ret_cell1 rfl rfl (HT5.out.res.five _ _ _ _ _) Try.underlying41 rfl status_size) rfl ?_
  have kb := Kb.five (w5.setCell ⟨w.heap.size + 1, 4, none⟩ (.int .i64 (e : Int))) w.heap.size (.int .i64 (a : Int)) (.int .i64 (b : Int)) (.int .i64 (c : Int)) (.int .i64 (d : Int)) (.int .i64 (e : Int)) none
  have hlt' := HT5.out.lt
  have hbig := HT5.out.big
  refine .inl ⟨((a : Int), (b : Int), (c : Int), (d : Int), (e : Int)), b5, E.out, rfl, HT5.out.rd.keep fun j hj => kb.block j (by omega) (by simp; omega) (by simp), ?_⟩
  exact ⟨kb.os.trans HT5.out.kb.os, kb.tape.trans HT5.out.kb.tape, kb.output.trans HT5.out.kb.output, Nat.le_trans HT5.out.kb.size kb.size, fun j hj h1 h2 => (kb.block j (by omega) (by simp; omega) (by simp)).trans (HT5.out.kb.block j hj h1 h2)⟩
end Go.Proofs.Ytokmpfkmkhnopaa
