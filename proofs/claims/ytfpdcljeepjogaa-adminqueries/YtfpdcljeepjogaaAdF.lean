/- Walks of readNote, readOops and of the closures that read. -/
import Derived.Test.YtfpdcljeepjogaaAdC
import Derived.Test.YtfpdcljeepjogaaAdB
import Derived.Test.YtfpdcljeepjogaaAkD
namespace Go.Proofs.Ytfpdcljeepjogaa
open Go.RowKit

/-- Where a reader of a struct stands: its result's cells, the struct's own. -/
structure SA (T : TypeId) (z : Array Value) (w wr : World) (p : Nat) (cs : Array Value) (rest : List UInt8) : Prop where
  kb : Kb w wr (some p) none
  lt : p < w.heap.size
  big : w.heap.size + 2 ≤ wr.heap.size
  res : Str wr w.heap.size T z
  st : Str wr (w.heap.size + 1) T cs
  rd : Rdr wr p rest
theorem SA.later {T : TypeId} {z : Array Value} {w wr w1 : World} {p : Nat} {cs : Array Value} {rest rest' : List UInt8} (h : SA T z w wr p cs rest) (hk : Kb wr w1 (some p) none) (hr : Rdr w1 p rest') : SA T z w w1 p cs rest' := by
  have hlt := h.lt
  exact ⟨h.kb.trans hk, h.lt, Nat.le_trans h.big hk.size, h.res.kb hk (by simp; omega) (by simp), h.st.kb hk (by simp; omega) (by simp), hr⟩
theorem SA.calm {T : TypeId} {z : Array Value} {w wr w1 : World} {p : Nat} {cs : Array Value} {rest : List UInt8} (h : SA T z w wr p cs rest) (hb : Below wr.heap.size wr w1) : SA T z w w1 p cs rest :=
  ⟨h.kb.trans (Kb.of_below hb _ _), h.lt, Nat.le_trans h.big hb.size, h.res.below hb, h.st.below hb, h.rd.below hb⟩
theorem SA.set {T : TypeId} {z : Array Value} {w wr : World} {p : Nat} {cs cs' : Array Value} {rest : List UInt8} (h : SA T z w wr p cs rest) (i : Nat) (u : Value) (hc : cs.setIfInBounds i u = cs') : SA T z w (wr.setCell ⟨w.heap.size + 1, i, none⟩ u) p cs' rest := by
  subst hc
  have kb := Kb.set wr (w.heap.size + 1) i u none
  have hlt := h.lt
  have hbig := h.big
  exact ⟨⟨kb.os.trans h.kb.os, kb.tape.trans h.kb.tape, kb.output.trans h.kb.output, Nat.le_trans h.kb.size kb.size, fun k hk h1 h2 => (kb.block k (by omega) (by simp; omega) (by simp)).trans (h.kb.block k hk h1 h2)⟩, hlt, Nat.le_trans hbig kb.size, h.res.kb kb (by simp) (by simp), h.st.set i u, h.rd.keep fun k hk => kb.block k (by omega) (by simp; omega) (by simp)⟩
theorem sa_start (T : TypeId) (z : Array Value) {w : World} {p : Nat} {bs : List UInt8} (h : Rdr w p bs) : SA T z w ((w.alloc (.cells z T)).alloc (.cells z T)) p z bs := by
  have WB := below_trans (below_alloc w (.cells z T)) (below_alloc _ (.cells z T))
  refine ⟨Kb.of_below WB _ _, h.lt, by rw [box_size, box_size]; omega, (Str.new w _ _).below (below_alloc _ _), ?_, h.below WB⟩
  have := Str.new (w.alloc (.cells z T)) T z
  rwa [box_size] at this
/-- The result's cells are laid. -/
theorem SA.done {T : TypeId} {z : Array Value} {w wr w' : World} {p : Nat} {cs : Array Value} {rest : List UInt8} (h : SA T z w wr p cs rest) (kb : Kb wr w' (some w.heap.size) none) : Rdr w' p rest ∧ Kb w w' (some p) none := by
  have hlt := h.lt
  have hbig := h.big
  refine ⟨h.rd.keep fun j hj => kb.block j (by omega) (by simp; omega) (by simp), ?_⟩
  exact ⟨kb.os.trans h.kb.os, kb.tape.trans h.kb.tape, kb.output.trans h.kb.output, Nat.le_trans h.kb.size kb.size, fun j hj h1 h2 => (kb.block j (by omega) (by simp; omega) (by simp)).trans (h.kb.block j hj h1 h2)⟩

/-- What a reader hands over, at its end: cells and what is left; or it gave up. -/
def GotA (p : Nat) (w : World) (o : Option (Array Value × List UInt8)) (e : Ending) (w' : World) : Prop :=
  (∃ (cs : Array Value) (r : List UInt8), o = some (cs, r) ∧ e = .returned (.agg cs) ∧ Rdr w' p r ∧ Kb w w' (some p) none) ∨ (o = none ∧ Gave p w e w')
def cellsN (n : AD.N) : Array Value := #[.int .i64 n.1, .int .i64 n.2.1, .string ⟨n.2.2.toArray⟩]
def cellsO (o : AD.O) : Array Value := #[.int .i64 o.1, .int .i64 o.2.1, .int .i64 o.2.2.1, .int .i64 o.2.2.2]
def rowN (o : Option (AD.N × List UInt8)) : Option (Array Value × List UInt8) := o.map fun p => (cellsN p.1, p.2)
def rowO (o : Option (AD.O × List UInt8)) : Option (Array Value × List UInt8) := o.map fun p => (cellsO p.1, p.2)
theorem GotA.no {p : Nat} {w : World} {o : Option (Array Value × List UInt8)} {w' : World} (ho : o = none) (hk : Kb w w' (some p) none) : GotA p w o (.panicked gaveUp) w' := .inr ⟨ho, rfl, hk⟩
theorem note_size : (Try.prog.info? 47).map (·.size) = some 3 := by kernel_rfl
theorem oops_size : (Try.prog.info? 39).map (·.size) = some 4 := by kernel_rfl

set_option maxHeartbeats 8000000 in
theorem readNote_any (p : Nat) (kd : UInt8) (kz : Int) (hkz : (kd.toNat : Int) = kz) (most : Nat) (hm : most ≤ 1000000) (bs : List UInt8) (w : World) (hr : Rdr w p bs) :
    Calls Try.prog 30 #[.pointer (some ⟨p, 0, none⟩), .int .u8 kz, .int .i64 (most : Int)] w (GotA p w (rowN (AD.parN kd most bs))) := by
  have HS0 := Lib.hid (sa_start 47 #[.int .i64 0, .int .i64 0, .string ⟨#[]⟩] hr)
  have HKZ := Lib.hid hkz
  clear hr hkz
  go_enter Try.func30, Try.ntmps30
  cases h0 : K.firstOf kd bs with
  | none =>
    have E := Lib.hid (AD.parN_bad0 (most := most) h0)
    have HN := Lib.hid (firstk_none p kd kz HKZ.out bs h0 _ HS0.out.rd)
    clear h0
    go_wp2_with fail
    refine HN.out.mono ?_
    rintro e w2 ⟨rfl, hk2⟩
    exact ⟨rfl, GotA.no (by rw [E.out]; rfl) (HS0.out.kb.trans hk2)⟩
  | some b0 =>
  have HI0 := Lib.hid h0
  have HN0 := Lib.hid (firstk_some p kd kz HKZ.out bs b0 h0 _ HS0.out.rd)
  clear h0
  go_wp2_with fail
  refine HN0.out.mono ?_
  rintro e w0 ⟨rfl, hr0, hk0⟩
  have HT0 := Lib.hid (HS0.out.later hk0 hr0)
  clear hr0 hk0 HS0 HN0 HKZ
  cases h1 : K.num 2147483647 b0 with
  | none =>
    have E := Lib.hid (AD.parN_bad1 (most := most) HI0.out h1)
    have HN := Lib.hid (number_none p b0 2147483647 (by omega) h1 _ HT0.out.rd)
    clear h1
    go_wp2_with fail
    refine HN.out.mono ?_
    rintro e w2 ⟨rfl, hk2⟩
    exact ⟨rfl, GotA.no (by rw [E.out]; rfl) (HT0.out.kb.trans hk2)⟩
  | some x1 =>
  obtain ⟨a, b1⟩ := x1
  have HI1 := Lib.hid h1
  have HN1 := Lib.hid (number_some p b0 2147483647 (by omega) a b1 h1 _ HT0.out.rd)
  clear h1
  go_wp2_with fail
  refine HN1.out.mono ?_
  rintro e w1 ⟨rfl, hr1, hk1⟩
  have HS1 := Lib.hid (HT0.out.later hk1 hr1)
  clear hr1 hk1 HT0 HN1
  have HT1 := Lib.hid (HS1.out.set 0 (.int .i64 (a : Int)) (cs' := #[.int .i64 (a : Int), .int .i64 0, .string ⟨#[]⟩]) (by simp))
  have c0 := HS1.out.st.cell 0
  have f0 := HS1.out.st.frozen 0
  simp only [List.getElem?_toArray, List.getElem?_cons_zero] at c0
  cases h2 : K.num 6 b1 with
  | none =>
    have E := Lib.hid (AD.parN_bad2 (most := most) HI0.out HI1.out h2)
    have HN := Lib.hid (number_none p b1 6 (by omega) h2 _ HT1.out.rd)
    clear h2
    go_wp2_with fail
    refine HN.out.mono ?_
    rintro e w2 ⟨rfl, hk2⟩
    exact ⟨rfl, GotA.no (by rw [E.out]; rfl) (HT1.out.kb.trans hk2)⟩
  | some x2 =>
  obtain ⟨b, b2⟩ := x2
  have HI2 := Lib.hid h2
  have HN2 := Lib.hid (number_some p b1 6 (by omega) b b2 h2 _ HT1.out.rd)
  clear h2
  go_wp2_with fail
  refine HN2.out.mono ?_
  rintro e w2 ⟨rfl, hr2, hk2⟩
  have HS2 := Lib.hid (HT1.out.later hk2 hr2)
  clear hr2 hk2 HT1 HN2 c0 f0
  have HT2 := Lib.hid (HS2.out.set 1 (.int .i64 (b : Int)) (cs' := #[.int .i64 (a : Int), .int .i64 (b : Int), .string ⟨#[]⟩]) (by simp))
  have c0 := HS2.out.st.cell 1
  have f0 := HS2.out.st.frozen 1
  simp only [List.getElem?_toArray, List.getElem?_cons_zero, List.getElem?_cons_succ] at c0
  cases h3 : K.text most b2 with
  | none =>
    have E := Lib.hid (AD.parN_bad3 HI0.out HI1.out HI2.out h3)
    have HN := Lib.hid (text_none p b2 most (by omega) h3 _ HT2.out.rd)
    clear h3
    go_wp2_with fail
    refine HN.out.mono ?_
    rintro e w2 ⟨rfl, hk2⟩
    exact ⟨rfl, GotA.no (by rw [E.out]; rfl) (HT2.out.kb.trans hk2)⟩
  | some x3 =>
  obtain ⟨s, b3⟩ := x3
  have HN3 := Lib.hid (text_some p b2 most (by omega) s b3 h3 _ HT2.out.rd)
  have HP := Lib.hid (AD.parN_go HI0.out HI1.out HI2.out h3)
  have hsl := (K.text_some h3).2.1
  clear h3
  go_wp2_with fail
  refine HN3.out.mono ?_
  rintro e w3 ⟨rfl, hr3, hk3⟩
  have HS3 := Lib.hid (HT2.out.later hk3 hr3)
  clear hr3 hk3 HT2 HN3 c0 f0 HI0 HI1 HI2
  have HT3 := Lib.hid (HS3.out.set 2 (.string ⟨s.toArray⟩) (cs' := #[.int .i64 (a : Int), .int .i64 (b : Int), .string ⟨s.toArray⟩]) (by simp))
  have c0 := HS3.out.st.cell 2
  have f0 := HS3.out.st.frozen 2
  simp only [List.getElem?_toArray, List.getElem?_cons_zero, List.getElem?_cons_succ] at c0
  obtain ⟨k0, k1, k2⟩ := HT3.out.st.cells3
  have HMY := Lib.hid (fun x => mayNote_any most ((a : Int), (b : Int), s) (by simp only; omega) x)
  simp only at HMY
  generalize hok : AD.okN most ((a : Int), (b : Int), s) = ok at *
  clear hok hsl
  cases ok
  · rw [if_neg (by simp)] at HP
    go_wp2_with (first
      | (go_at_call 41; refine (HMY.out _).mono ?_; rintro e w4 ⟨rfl, b4⟩; have HD4 := Lib.hid (HT3.out.calm b4); clear b4)
      | (go_at_call 51; refine (must_false _ _).mono ?_; rintro e w5 ⟨rfl, rfl⟩))
    exact ⟨rfl, GotA.no (by rw [HP.out]; rfl) HD4.out.kb⟩
  · rw [if_pos rfl] at HP
    go_wp2_with fail
    refine (HMY.out _).mono ?_
    rintro e w4 ⟨rfl, b4⟩
    have HD4 := Lib.hid (HT3.out.calm b4)
    clear b4 HT3 HS3 HMY k0 k1 k2 c0 f0
    obtain ⟨k0, k1, k2⟩ := HD4.out.st.cells3
    obtain ⟨d0, d1, d2⟩ := HD4.out.res.cells3
    obtain ⟨j0, j1, j2, -⟩ := HD4.out.res.frozen4
    go_wp2_with (go_at_call 51; refine (must_true _ _).mono ?_; rintro e w5 ⟨rfl, rfl⟩)
    (try simp only [Exit.inBlock, Exit.then])
    refine bodyPost_ret (ret_cell1 rfl rfl (HD4.out.res.three _ _ _) Try.underlying47 rfl note_size) rfl ?_
    have hd := HD4.out.done (Kb.three w5 w.heap.size (.int .i64 (a : Int)) (.int .i64 (b : Int)) (.string ⟨s.toArray⟩) none)
    exact .inl ⟨_, b3, by rw [HP.out]; rfl, rfl, hd.1, hd.2⟩
set_option maxHeartbeats 8000000 in
theorem readOops_any (p : Nat) (bs : List UInt8) (w : World) (hr : Rdr w p bs) :
    Calls Try.prog 36 #[.pointer (some ⟨p, 0, none⟩)] w (GotA p w (rowO (AD.parO bs))) := by
  have HS0 := Lib.hid (sa_start 39 #[.int .i64 0, .int .i64 0, .int .i64 0, .int .i64 0] hr)
  clear hr
  go_enter Try.func36, Try.ntmps36
  cases h0 : K.firstOf 5 bs with
  | none =>
    have E := Lib.hid (AD.parO_bad0 h0)
    have HN := Lib.hid (firstk_none p 5 5 rfl bs h0 _ HS0.out.rd)
    clear h0
    go_wp2_with fail
    refine HN.out.mono ?_
    rintro e w2 ⟨rfl, hk2⟩
    exact ⟨rfl, GotA.no (by rw [E.out]; rfl) (HS0.out.kb.trans hk2)⟩
  | some b0 =>
  have HI0 := Lib.hid h0
  have HN0 := Lib.hid (firstk_some p 5 5 rfl bs b0 h0 _ HS0.out.rd)
  clear h0
  go_wp2_with fail
  refine HN0.out.mono ?_
  rintro e w0 ⟨rfl, hr0, hk0⟩
  have HT0 := Lib.hid (HS0.out.later hk0 hr0)
  clear hr0 hk0 HS0 HN0
  cases h1 : K.num 2147483647 b0 with
  | none =>
    have E := Lib.hid (AD.parO_bad1 HI0.out h1)
    have HN := Lib.hid (number_none p b0 2147483647 (by omega) h1 _ HT0.out.rd)
    clear h1
    go_wp2_with fail
    refine HN.out.mono ?_
    rintro e w2 ⟨rfl, hk2⟩
    exact ⟨rfl, GotA.no (by rw [E.out]; rfl) (HT0.out.kb.trans hk2)⟩
  | some x1 =>
  obtain ⟨a, b1⟩ := x1
  have HI1 := Lib.hid h1
  have HN1 := Lib.hid (number_some p b0 2147483647 (by omega) a b1 h1 _ HT0.out.rd)
  clear h1
  go_wp2_with fail
  refine HN1.out.mono ?_
  rintro e w1 ⟨rfl, hr1, hk1⟩
  have HS1 := Lib.hid (HT0.out.later hk1 hr1)
  clear hr1 hk1 HT0 HN1
  have HT1 := Lib.hid (HS1.out.set 0 (.int .i64 (a : Int)) (cs' := #[.int .i64 (a : Int), .int .i64 0, .int .i64 0, .int .i64 0]) (by simp))
  have c0 := HS1.out.st.cell 0
  have f0 := HS1.out.st.frozen 0
  simp only [List.getElem?_toArray, List.getElem?_cons_zero] at c0
  cases h2 : K.num 8 b1 with
  | none =>
    have E := Lib.hid (AD.parO_bad2 HI0.out HI1.out h2)
    have HN := Lib.hid (number_none p b1 8 (by omega) h2 _ HT1.out.rd)
    clear h2
    go_wp2_with fail
    refine HN.out.mono ?_
    rintro e w2 ⟨rfl, hk2⟩
    exact ⟨rfl, GotA.no (by rw [E.out]; rfl) (HT1.out.kb.trans hk2)⟩
  | some x2 =>
  obtain ⟨b, b2⟩ := x2
  have HI2 := Lib.hid h2
  have HN2 := Lib.hid (number_some p b1 8 (by omega) b b2 h2 _ HT1.out.rd)
  clear h2
  go_wp2_with fail
  refine HN2.out.mono ?_
  rintro e w2 ⟨rfl, hr2, hk2⟩
  have HS2 := Lib.hid (HT1.out.later hk2 hr2)
  clear hr2 hk2 HT1 HN2 c0 f0
  have HT2 := Lib.hid (HS2.out.set 1 (.int .i64 (b : Int)) (cs' := #[.int .i64 (a : Int), .int .i64 (b : Int), .int .i64 0, .int .i64 0]) (by simp))
  have c0 := HS2.out.st.cell 1
  have f0 := HS2.out.st.frozen 1
  simp only [List.getElem?_toArray, List.getElem?_cons_zero, List.getElem?_cons_succ] at c0
  cases h3 : K.num 17 b2 with
  | none =>
    have E := Lib.hid (AD.parO_bad3 HI0.out HI1.out HI2.out h3)
    have HN := Lib.hid (number_none p b2 17 (by omega) h3 _ HT2.out.rd)
    clear h3
    go_wp2_with fail
    refine HN.out.mono ?_
    rintro e w2 ⟨rfl, hk2⟩
    exact ⟨rfl, GotA.no (by rw [E.out]; rfl) (HT2.out.kb.trans hk2)⟩
  | some x3 =>
  obtain ⟨c, b3⟩ := x3
  have HI3 := Lib.hid h3
  have HN3 := Lib.hid (number_some p b2 17 (by omega) c b3 h3 _ HT2.out.rd)
  clear h3
  go_wp2_with fail
  refine HN3.out.mono ?_
  rintro e w3 ⟨rfl, hr3, hk3⟩
  have HS3 := Lib.hid (HT2.out.later hk3 hr3)
  clear hr3 hk3 HT2 HN3 c0 f0
  have HT3 := Lib.hid (HS3.out.set 2 (.int .i64 (c : Int)) (cs' := #[.int .i64 (a : Int), .int .i64 (b : Int), .int .i64 (c : Int), .int .i64 0]) (by simp))
  have c0 := HS3.out.st.cell 2
  have f0 := HS3.out.st.frozen 2
  simp only [List.getElem?_toArray, List.getElem?_cons_zero, List.getElem?_cons_succ] at c0
  cases h4 : K.num 4294967295 b3 with
  | none =>
    have E := Lib.hid (AD.parO_bad4 HI0.out HI1.out HI2.out HI3.out h4)
    have HN := Lib.hid (number_none p b3 4294967295 (by omega) h4 _ HT3.out.rd)
    clear h4
    go_wp2_with fail
    refine HN.out.mono ?_
    rintro e w2 ⟨rfl, hk2⟩
    exact ⟨rfl, GotA.no (by rw [E.out]; rfl) (HT3.out.kb.trans hk2)⟩
  | some x4 =>
  obtain ⟨d, b4⟩ := x4
  have HI4 := Lib.hid h4
  have HN4 := Lib.hid (number_some p b3 4294967295 (by omega) d b4 h4 _ HT3.out.rd)
  clear h4
  go_wp2_with fail
  refine HN4.out.mono ?_
  rintro e w4 ⟨rfl, hr4, hk4⟩
  have HS4 := Lib.hid (HT3.out.later hk4 hr4)
  clear hr4 hk4 HT3 HN4 c0 f0
  have HT4 := Lib.hid (HS4.out.set 3 (.int .i64 (d : Int)) (cs' := #[.int .i64 (a : Int), .int .i64 (b : Int), .int .i64 (c : Int), .int .i64 (d : Int)]) (by simp))
  have c0 := HS4.out.st.cell 3
  have f0 := HS4.out.st.frozen 3
  simp only [List.getElem?_toArray, List.getElem?_cons_zero, List.getElem?_cons_succ] at c0
  have HP := Lib.hid (AD.parO_go HI0.out HI1.out HI2.out HI3.out HI4.out)
  obtain ⟨k0, k1, k2, k3⟩ := HT4.out.st.cells4
  have HMY := Lib.hid (fun x => mayOops_any ((a : Int), (b : Int), (c : Int), (d : Int)) x)
  simp only at HMY
  generalize hok : AD.okO ((a : Int), (b : Int), (c : Int), (d : Int)) = ok at *
  clear hok HI0 HI1 HI2 HI3 HI4
  cases ok
  · rw [if_neg (by simp)] at HP
    go_wp2_with (first
      | (go_at_call 33; refine (HMY.out _).mono ?_; rintro e w5 ⟨rfl, b5⟩; have HD5 := Lib.hid (HT4.out.calm b5); clear b5)
      | (go_at_call 51; refine (must_false _ _).mono ?_; rintro e w6 ⟨rfl, rfl⟩))
    exact ⟨rfl, GotA.no (by rw [HP.out]; rfl) HD5.out.kb⟩
  · rw [if_pos rfl] at HP
    go_wp2_with fail
    refine (HMY.out _).mono ?_
    rintro e w5 ⟨rfl, b5⟩
    have HD5 := Lib.hid (HT4.out.calm b5)
    clear b5 HT4 HS4 HMY k0 k1 k2 k3 c0 f0
    obtain ⟨k0, k1, k2, k3⟩ := HD5.out.st.cells4
    obtain ⟨d0, d1, d2, d3⟩ := HD5.out.res.cells4
    obtain ⟨j0, j1, j2, j3⟩ := HD5.out.res.frozen4
    go_wp2_with (go_at_call 51; refine (must_true _ _).mono ?_; rintro e w6 ⟨rfl, rfl⟩)
    (try simp only [Exit.inBlock, Exit.then])
    refine bodyPost_ret (ret_cell1 rfl rfl (HD5.out.res.four _ _ _ _) Try.underlying39 rfl oops_size) rfl ?_
    have hd := HD5.out.done (Kb.four w6 w.heap.size (.int .i64 (a : Int)) (.int .i64 (b : Int)) (.int .i64 (c : Int)) (.int .i64 (d : Int)) none)
    exact .inl ⟨_, b4, by rw [HP.out]; rfl, rfl, hd.1, hd.2⟩

theorem query_size : (Try.prog.info? 23).map (·.size) = some 3 := by kernel_rfl
set_option maxHeartbeats 1600000 in
theorem read_query (p : Nat) (bs : List UInt8) (w : World) (hr : Rdr w p bs) :
    Calls Try.prog 29 #[.pointer (some ⟨p, 0, none⟩)] w (GotA p w (rowN (AD.parN 3 16384 bs))) := by
  have B0 := below_alloc w (.cells #[.int .i64 0, .int .i64 0, .string ⟨#[]⟩] 23)
  have HS := Lib.hid (Str.new w 23 #[.int .i64 0, .int .i64 0, .string ⟨#[]⟩])
  have hlt := hr.lt
  have HN := Lib.hid (readNote_any p 3 3 rfl 16384 (by omega) bs _ (hr.below B0))
  have HB := Lib.hid B0
  have hsz := box_size w (.cells #[.int .i64 0, .int .i64 0, .string ⟨#[]⟩] 23)
  have HLT := Lib.hid hlt
  clear B0 hr hlt
  cases hpar : AD.parN 3 16384 bs with
  | none =>
    rw [hpar] at HN
    clear hpar
    go_enter Try.func29, Try.ntmps29
    go_wp2_with fail
    refine HN.out.mono ?_
    rintro e w1 (⟨_, _, hno, _⟩ | ⟨_, rfl, hk⟩)
    · cases hno
    · exact ⟨rfl, GotA.no rfl ((Kb.of_below HB.out _ _).trans hk)⟩
  | some x =>
    obtain ⟨⟨a, b, s⟩, r⟩ := x
    rw [hpar] at HN
    clear hpar
    go_enter Try.func29, Try.ntmps29
    go_wp2_with fail
    refine HN.out.mono ?_
    rintro e w1 (⟨cs, r', ho, rfl, hr1, hk⟩ | ⟨hno, _⟩)
    case inr => cases hno
    obtain ⟨rfl, rfl⟩ := Prod.mk.inj (Option.some.inj ho)
    simp only [cellsN]
    have HS1 := Lib.hid (HS.out.kb hk (by have := HLT.out; simp; omega) (by simp))
    have HK1 := Lib.hid ((Kb.of_below HB.out (some p) none).trans hk)
    have HR1 := Lib.hid hr1
    have hz1 : w.heap.size < w1.heap.size := by have := hk.size; omega
    clear hr1 hk ho HN HS HB hsz
    obtain ⟨c0, c1, c2⟩ := HS1.out.cells3
    obtain ⟨f0, f1, f2, -⟩ := HS1.out.frozen4
    go_wp2
    (try simp only [Exit.inBlock, Exit.then])
    refine bodyPost_ret (ret_cell1 rfl rfl (HS1.out.three _ _ _) Try.underlying23 rfl query_size) rfl ?_
    have kb := Kb.three w1 w.heap.size (.int .i64 a) (.int .i64 b) (.string ⟨s.toArray⟩) none
    have hlt := HLT.out
    have hk1 := HK1.out
    refine .inl ⟨_, r, rfl, rfl, HR1.out.keep fun j hj => kb.block j (by omega) (by simp; omega) (by simp), ?_⟩
    exact ⟨kb.os.trans hk1.os, kb.tape.trans hk1.tape, kb.output.trans hk1.output, Nat.le_trans hk1.size kb.size, fun j hj h1 h2 => (kb.block j (by omega) (by simp; omega) (by simp)).trans (hk1.block j hj h1 h2)⟩
theorem report_size : (Try.prog.info? 33).map (·.size) = some 3 := by kernel_rfl
set_option maxHeartbeats 1600000 in
theorem read_report (p : Nat) (bs : List UInt8) (w : World) (hr : Rdr w p bs) :
    Calls Try.prog 32 #[.pointer (some ⟨p, 0, none⟩)] w (GotA p w (rowN (AD.parN 4 60000 bs))) := by
  have B0 := below_alloc w (.cells #[.int .i64 0, .int .i64 0, .string ⟨#[]⟩] 33)
  have HS := Lib.hid (Str.new w 33 #[.int .i64 0, .int .i64 0, .string ⟨#[]⟩])
  have hlt := hr.lt
  have HN := Lib.hid (readNote_any p 4 4 rfl 60000 (by omega) bs _ (hr.below B0))
  have HB := Lib.hid B0
  have hsz := box_size w (.cells #[.int .i64 0, .int .i64 0, .string ⟨#[]⟩] 33)
  have HLT := Lib.hid hlt
  clear B0 hr hlt
  cases hpar : AD.parN 4 60000 bs with
  | none =>
    rw [hpar] at HN
    clear hpar
    go_enter Try.func32, Try.ntmps32
    go_wp2_with fail
    refine HN.out.mono ?_
    rintro e w1 (⟨_, _, hno, _⟩ | ⟨_, rfl, hk⟩)
    · cases hno
    · exact ⟨rfl, GotA.no rfl ((Kb.of_below HB.out _ _).trans hk)⟩
  | some x =>
    obtain ⟨⟨a, b, s⟩, r⟩ := x
    rw [hpar] at HN
    clear hpar
    go_enter Try.func32, Try.ntmps32
    go_wp2_with fail
    refine HN.out.mono ?_
    rintro e w1 (⟨cs, r', ho, rfl, hr1, hk⟩ | ⟨hno, _⟩)
    case inr => cases hno
    obtain ⟨rfl, rfl⟩ := Prod.mk.inj (Option.some.inj ho)
    simp only [cellsN]
    have HS1 := Lib.hid (HS.out.kb hk (by have := HLT.out; simp; omega) (by simp))
    have HK1 := Lib.hid ((Kb.of_below HB.out (some p) none).trans hk)
    have HR1 := Lib.hid hr1
    have hz1 : w.heap.size < w1.heap.size := by have := hk.size; omega
    clear hr1 hk ho HN HS HB hsz
    obtain ⟨c0, c1, c2⟩ := HS1.out.cells3
    obtain ⟨f0, f1, f2, -⟩ := HS1.out.frozen4
    go_wp2
    (try simp only [Exit.inBlock, Exit.then])
    refine bodyPost_ret (ret_cell1 rfl rfl (HS1.out.three _ _ _) Try.underlying33 rfl report_size) rfl ?_
    have kb := Kb.three w1 w.heap.size (.int .i64 a) (.int .i64 b) (.string ⟨s.toArray⟩) none
    have hlt := HLT.out
    have hk1 := HK1.out
    refine .inl ⟨_, r, rfl, rfl, HR1.out.keep fun j hj => kb.block j (by omega) (by simp; omega) (by simp), ?_⟩
    exact ⟨kb.os.trans hk1.os, kb.tape.trans hk1.tape, kb.output.trans hk1.output, Nat.le_trans hk1.size kb.size, fun j hj h1 h2 => (kb.block j (by omega) (by simp; omega) (by simp)).trans (hk1.block j hj h1 h2)⟩
end Go.Proofs.Ytfpdcljeepjogaa
