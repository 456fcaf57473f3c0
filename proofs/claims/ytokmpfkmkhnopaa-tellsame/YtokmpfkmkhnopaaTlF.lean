/- The walk of tell.read. -/
import Derived.Test.YtokmpfkmkhnopaaTlD
import Derived.Test.YtokmpfkmkhnopaaTlP
namespace Go.Proofs.Ytokmpfkmkhnopaa
open Go.RowKit

/-- Where read stands. -/
structure TS (w wr : World) (p : Nat) (x0 x1 x2 vs vh : Value) (ss : List TL.S) (hs : List D.E) (rest : List UInt8) : Prop where
  kb : Kb w wr (some p) none
  lt : p < w.heap.size
  big : w.heap.size + 2 ≤ wr.heap.size
  res : Str wr w.heap.size 25 noTell
  a : Str wr (w.heap.size + 1) 25 #[x0, x1, x2, vs, vh]
  own : Ownt wr (w.heap.size + 2) vs vh ss hs
  rd : Rdr wr p rest
theorem TS.later {w wr w1 : World} {p : Nat} {x0 x1 x2 vs vh : Value} {ss : List TL.S} {hs : List D.E} {rest rest' : List UInt8} (h : TS w wr p x0 x1 x2 vs vh ss hs rest) (hk : Kb wr w1 (some p) none) (hr : Rdr w1 p rest') : TS w w1 p x0 x1 x2 vs vh ss hs rest' := by
  have hlt := h.lt
  obtain ⟨v, hs', _, _⟩ := h.rd
  exact ⟨h.kb.trans hk, h.lt, Nat.le_trans h.big hk.size, h.res.kb hk (by simp; omega) (by simp), h.a.kb hk (by simp; omega) (by simp), h.own.kb hs' (by decide) (by decide) hk, hr⟩
theorem TS.calm {w wr w1 : World} {p : Nat} {x0 x1 x2 vs vh : Value} {ss : List TL.S} {hs : List D.E} {rest : List UInt8} (h : TS w wr p x0 x1 x2 vs vh ss hs rest) (hb : Below wr.heap.size wr w1) : TS w w1 p x0 x1 x2 vs vh ss hs rest :=
  ⟨h.kb.trans (Kb.of_below hb _ _), h.lt, Nat.le_trans h.big hb.size, h.res.below hb, h.a.below hb, h.own.below hb, h.rd.below hb⟩
/-- A cell of the reply has been laid. -/
theorem TS.set {w wr : World} {p : Nat} {x0 x1 x2 vs vh : Value} {ss : List TL.S} {hs : List D.E} {rest : List UInt8} (h : TS w wr p x0 x1 x2 vs vh ss hs rest) (i : Nat) (u y0 y1 y2 : Value) (hc : (#[x0, x1, x2, vs, vh] : Array Value).setIfInBounds i u = #[y0, y1, y2, vs, vh]) :
    TS w (wr.setCell ⟨w.heap.size + 1, i, none⟩ u) p y0 y1 y2 vs vh ss hs rest := by
  have kb := Kb.set wr (w.heap.size + 1) i u none
  have hlt := h.lt
  have hbig := h.big
  refine ⟨⟨kb.os.trans h.kb.os, kb.tape.trans h.kb.tape, kb.output.trans h.kb.output, Nat.le_trans h.kb.size kb.size, fun k hk h1 h2 => (kb.block k (by omega) (by simp; omega) (by simp)).trans (h.kb.block k hk h1 h2)⟩, hlt, Nat.le_trans hbig kb.size, h.res.kb kb (by simp) (by simp), ?_, h.own.kb h.a (by decide) (by decide) kb, h.rd.keep fun k hk => kb.block k (by omega) (by simp; omega) (by simp)⟩
  have := h.a.set i u
  rwa [hc] at this
/-- One of both rows has grown, and is laid. -/
theorem TS.grown {w wr w1 : World} {p : Nat} {x0 x1 x2 vs vh : Value} {ss : List TL.S} {hs : List D.E} {rest : List UInt8} (h : TS w wr p x0 x1 x2 vs vh ss hs rest) {v : Value} (hv : v = vs ∨ v = vh) (hg : wr.grownBy w1 v.ownBlock) {i : Nat} {u vs' vh' : Value} {ss' : List TL.S} {hs' : List D.E} (ho : Ownt w1 (w.heap.size + 2) vs' vh' ss' hs') (hc : (#[x0, x1, x2, vs, vh] : Array Value).setIfInBounds i u = #[x0, x1, x2, vs', vh']) :
    Str w1 (w.heap.size + 1) 25 #[x0, x1, x2, vs, vh] ∧ TS w (w1.setCell ⟨w.heap.size + 1, i, none⟩ u) p x0 x1 x2 vs' vh' ss' hs' rest := by
  have hlt := h.lt
  have hbig := h.big
  have far : ∀ k, k < w.heap.size + 2 → w1.heap[k]? = wr.heap[k]? := fun k hk => hg.block k (by omega) (by
    intro e
    rcases hv with rfl | rfl
    · have := (h.own.s.ownBlock e.symm).2
      omega
    · have := (h.own.h.ownBlock e.symm).2
      omega)
  have hb : Below (w.heap.size + 2) wr w1 := ⟨hg.os, hg.tape, hg.output, hg.size, far⟩
  have ha : Str w1 (w.heap.size + 1) 25 #[x0, x1, x2, vs, vh] := (far _ (by omega)).trans h.a
  have hres : Str w1 w.heap.size 25 noTell := (far _ (by omega)).trans h.res
  have kb := Kb.set w1 (w.heap.size + 1) i u none
  have hsz := hb.size
  refine ⟨ha, ?_⟩
  refine ⟨⟨kb.os.trans (hb.os.trans h.kb.os), kb.tape.trans (hb.tape.trans h.kb.tape), kb.output.trans (hb.output.trans h.kb.output), Nat.le_trans h.kb.size (Nat.le_trans hb.size kb.size), fun k hk h1 h2 => ?_⟩, h.lt, Nat.le_trans h.big (Nat.le_trans hb.size kb.size), hres.kb kb (by simp) (by simp), ?_, ho.kb ha (by decide) (by decide) kb, ?_⟩
  · rw [kb.block k (by omega) (by simp; omega) (by simp), far k (by omega)]
    exact h.kb.block k hk h1 h2
  · have := ha.set i u
    rwa [hc] at this
  · refine h.rd.keep fun k hk => ?_
    rw [kb.block k (by omega) (by simp; omega) (by simp), far k (by omega)]
theorem TS.grownS {w wr w1 : World} {p : Nat} {x0 x1 x2 vs vh vs' : Value} {ss ss' : List TL.S} {hs : List D.E} {rest : List UInt8} (h : TS w wr p x0 x1 x2 vs vh ss hs rest) (hg : wr.grownBy w1 vs.ownBlock) (ho : Owns w1 (w.heap.size + 2) 41 vs' ss') :
    Str w1 (w.heap.size + 1) 25 #[x0, x1, x2, vs, vh] ∧ TS w (w1.setCell ⟨w.heap.size + 1, 3, none⟩ vs') p x0 x1 x2 vs' vh ss' hs rest := h.grown (.inl rfl) hg (h.own.grownS hg ho) (by simp)
theorem TS.grownH {w wr w1 : World} {p : Nat} {x0 x1 x2 vs vh vh' : Value} {ss : List TL.S} {hs hs' : List D.E} {rest : List UInt8} (h : TS w wr p x0 x1 x2 vs vh ss hs rest) (hg : wr.grownBy w1 vh.ownBlock) (ho : Owne w1 (w.heap.size + 2) 39 vh' hs') :
    Str w1 (w.heap.size + 1) 25 #[x0, x1, x2, vs, vh] ∧ TS w (w1.setCell ⟨w.heap.size + 1, 4, none⟩ vh') p x0 x1 x2 vs vh' ss hs' rest := h.grown (.inr rfl) hg (h.own.grownH hg ho) (by simp)
theorem ts_start {w : World} {p : Nat} {bs : List UInt8} (h : Rdr w p bs) : TS w ((w.alloc (.cells noTell 25)).alloc (.cells noTell 25)) p (.int .i64 0) (.int .i64 0) (.bool false) (.slice none 0 0) (.slice none 0 0) [] [] bs := by
  have WB := below_trans (below_alloc w (.cells noTell 25)) (below_alloc _ (.cells noTell 25))
  refine ⟨Kb.of_below WB _ _, h.lt, by rw [box_size, box_size]; omega, (Str.new w _ _).below (below_alloc _ _), ?_, Ownt.nil _ _, h.below WB⟩
  have := Str.new (w.alloc (.cells noTell 25)) 25 noTell
  rwa [box_size] at this

/-- What read hands over, at its end. -/
def GotT (p : Nat) (w : World) (o : Option (TL.T × List UInt8)) (e : Ending) (w' : World) : Prop :=
  (∃ (t : TL.T) (r : List UInt8) (vs vh : Value), o = some (t, r) ∧ e = .returned (.agg #[.int .i64 t.1, .int .i64 t.2.1, .bool t.2.2.1, vs, vh]) ∧ Ownt w' w.heap.size vs vh t.2.2.2.1 t.2.2.2.2 ∧ Rdr w' p r ∧ Kb w w' (some p) none) ∨ (o = none ∧ Gave p w e w')
theorem eq_one (f : Nat) : ((f : Int) == 1) = decide (f = 1) := by
  rw [Bool.eq_iff_iff]
  simp
  omega

set_option maxHeartbeats 16000000 in
theorem tread_any (p : Nat) (bs : List UInt8) (w : World) (hr : Rdr w p bs) :
    Calls Try.prog 34 #[.pointer (some ⟨p, 0, none⟩)] w (GotT p w (TL.par bs)) := by
  have HS0 := Lib.hid (ts_start hr)
  unfold noTell at HS0
  clear hr
  go_enter Try.func34, Try.ntmps34
  cases h0 : K.firstOf 2 bs with
  | none =>
    have E := Lib.hid (TL.par_bad0 h0)
    have HC := Lib.hid (firstk_none p 2 2 rfl bs h0 _ HS0.out.rd)
    clear h0
    go_wp2_with fail
    refine HC.out.mono ?_
    rintro e w1 ⟨rfl, hk⟩
    exact ⟨rfl, .inr ⟨E.out, rfl, HS0.out.kb.trans hk⟩⟩
  | some b0 =>
  have HI := Lib.hid h0
  have HC0 := Lib.hid (firstk_some p 2 2 rfl bs b0 h0 _ HS0.out.rd)
  clear h0
  go_wp2_with fail
  refine HC0.out.mono ?_
  rintro e w1 ⟨rfl, hr1, hk1⟩
  have HS1 := Lib.hid (HS0.out.later hk1 hr1)
  clear hr1 hk1 HC0 HS0
  cases h1 : K.num 2147483647 b0 with
  | none =>
    have E := Lib.hid (TL.par_bad1 HI.out h1)
    have HN := Lib.hid (number_none p b0 2147483647 (by omega) h1 _ HS1.out.rd)
    clear h1
    go_wp2_with fail
    refine HN.out.mono ?_
    rintro e w2 ⟨rfl, hk2⟩
    exact ⟨rfl, .inr ⟨E.out, rfl, HS1.out.kb.trans hk2⟩⟩
  | some x1 =>
  obtain ⟨id, b1⟩ := x1
  have HI1 := Lib.hid h1
  have HN1 := Lib.hid (number_some p b0 2147483647 (by omega) id b1 h1 _ HS1.out.rd)
  clear h1
  go_wp2_with fail
  refine HN1.out.mono ?_
  rintro e w2 ⟨rfl, hr2, hk2⟩
  have HS2 := Lib.hid (HS1.out.later hk2 hr2)
  clear hr2 hk2 HS1 HN1
  have HS3 := Lib.hid (HS2.out.set 0 (.int .i64 (id : Int)) (.int .i64 (id : Int)) (.int .i64 0) (.bool false) (by simp))
  obtain ⟨c0, c1, c2, c3, c4⟩ := HS2.out.a.cells5
  have f0 := HS2.out.a.frozen 0
  cases h2 : K.num 2 b1 with
  | none =>
    have E := Lib.hid (TL.par_bad2 HI.out HI1.out h2)
    have HN := Lib.hid (number_none p b1 2 (by omega) h2 _ HS3.out.rd)
    clear h2
    go_wp2_with fail
    refine HN.out.mono ?_
    rintro e w3 ⟨rfl, hk3⟩
    exact ⟨rfl, .inr ⟨E.out, rfl, HS3.out.kb.trans hk3⟩⟩
  | some x2 =>
  obtain ⟨code, b2⟩ := x2
  have HI2 := Lib.hid h2
  have HN2 := Lib.hid (number_some p b1 2 (by omega) code b2 h2 _ HS3.out.rd)
  clear h2
  go_wp2_with fail
  refine HN2.out.mono ?_
  rintro e w3 ⟨rfl, hr3, hk3⟩
  have HS4 := Lib.hid (HS3.out.later hk3 hr3)
  clear hr3 hk3 HS3 HS2 HN2 c0 c1 c2 c3 c4 f0
  have HS5 := Lib.hid (HS4.out.set 1 (.int .i64 (code : Int)) (.int .i64 (id : Int)) (.int .i64 (code : Int)) (.bool false) (by simp))
  obtain ⟨c0, c1, c2, c3, c4⟩ := HS4.out.a.cells5
  have f0 := HS4.out.a.frozen 1
  cases h3 : K.num 1 b2 with
  | none =>
    have E := Lib.hid (TL.par_bad3 HI.out HI1.out HI2.out h3)
    have HN := Lib.hid (number_none p b2 1 (by omega) h3 _ HS5.out.rd)
    clear h3
    go_wp2_with fail
    refine HN.out.mono ?_
    rintro e w4 ⟨rfl, hk4⟩
    exact ⟨rfl, .inr ⟨E.out, rfl, HS5.out.kb.trans hk4⟩⟩
  | some x3 =>
  obtain ⟨f, b3⟩ := x3
  have HI3 := Lib.hid h3
  have HN3 := Lib.hid (number_some p b2 1 (by omega) f b3 h3 _ HS5.out.rd)
  clear h3
  go_wp2_with fail
  refine HN3.out.mono ?_
  rintro e w4 ⟨rfl, hr4, hk4⟩
  have HS6 := Lib.hid (HS5.out.later hk4 hr4)
  clear hr4 hk4 HS4 HS5 HN3 c0 c1 c2 c3 c4 f0
  have he1 := eq_one f
  obtain ⟨fb, hfb⟩ : ∃ fb, decide (f = 1) = fb := ⟨_, rfl⟩
  rw [hfb] at he1
  have HFB := Lib.hid hfb
  clear hfb
  have HS7 := Lib.hid (HS6.out.set 2 (.bool fb) (.int .i64 (id : Int)) (.int .i64 (code : Int)) (.bool fb) (by simp))
  obtain ⟨c0, c1, c2, c3, c4⟩ := HS6.out.a.cells5
  have f0 := HS6.out.a.frozen 2
  cases h4 : K.num 16 b3 with
  | none =>
    have E := Lib.hid (TL.par_bad4 HI.out HI1.out HI2.out HI3.out h4)
    have HN := Lib.hid (number_none p b3 16 (by omega) h4 _ HS7.out.rd)
    clear h4
    go_wp2_with fail
    refine HN.out.mono ?_
    rintro e w5 ⟨rfl, hk5⟩
    exact ⟨rfl, .inr ⟨E.out, rfl, HS7.out.kb.trans hk5⟩⟩
  | some x4 =>
  obtain ⟨n, b4⟩ := x4
  have HP := Lib.hid (TL.par_go HI.out HI1.out HI2.out HI3.out h4)
  rw [HFB.out] at HP
  have hn16 : n ≤ 16 := (K.num_some h4).2.1
  have HN4 := Lib.hid (number_some p b3 16 (by omega) n b4 h4 _ HS7.out.rd)
  clear h4 HI HI1 HI2 HI3
  go_wp2_with fail
  refine HN4.out.mono ?_
  rintro e w5 ⟨rfl, hr5, hk5⟩
  have HS8 := Lib.hid (HS7.out.later hk5 hr5)
  clear hr5 hk5 HS6 HS7 HN4 c0 c1 c2 c3 c4 f0 he1 HFB
  go_wp2
  go_loopw [19] (fun i wr => ∃ (k : Nat), i = .int .i64 (k : Int) ∧ k ≤ n ∧ Hid (∃ vs ss rest, TS w wr p (.int .i64 (id : Int)) (.int .i64 (code : Int)) (.bool fb) vs (.slice none 0 0) ss [] rest ∧ ss.length = k ∧ TL.Am TL.stat (TL.many TL.stat n b4) ss (n - k) rest)) (fun i _ => n - (intOf i).toNat)
  case atStart => exact ⟨0, rfl, Nat.zero_le _, _, _, _, HS8.out, rfl, TL.Am.start _ n b4⟩
  case round =>
    obtain ⟨k, rfl, hk, HK⟩ := hrel
    obtain ⟨vs, ss, rest, has, hlen, hat⟩ := HK.out
    have HR := Lib.hid has
    have HLN := Lib.hid hlen
    obtain ⟨ao, cp, rfl⟩ := has.own.s.slice
    obtain ⟨c0, c1, c2, c3, c4⟩ := has.a.cells5
    clear has HK hlen
    by_cases hlt : k < n
    · have g0 : (k : Int) < (n : Int) := by omega
      obtain ⟨m, hm⟩ : ∃ m, n - k = m + 1 := ⟨n - k - 1, by omega⟩
      rw [hm] at hat
      have HRW := Lib.hid (HR.out.calm (below_drew wr))
      have HRD := Lib.hid (readStatus_any p rest wr.drew HRW.out.rd)
      cases hd : TL.stat rest with
      | none =>
        rw [hd] at HRD
        have E := Lib.hid (hat.bad hd)
        clear hd hat
        go_wp2
        refine wp_region_any (by kernel_rfl) ?_
        change wpAny _ _ _ _ _ _ _ (World.drew _)
        refine wpAny_take (i := 0) (v := ?v0) rfl (by kernel_rfl) (by kernel_rfl) (by kernel_rfl) (fun _ _ _ h => h) (Or.inl ⟨by rfl, ?h0⟩) ?r0
        case h0 => intro w; go_simp; with_reducible rfl
        refine wpAny_take (i := 2) (v := ?v2) rfl (by kernel_rfl) (by kernel_rfl) (by kernel_rfl) (fun _ _ _ h => h) (Or.inl ⟨by rfl, ?h2⟩) ?r2
        case h2 => intro w; go_simp; with_reducible rfl
        refine wpAny_ready (rs := [1, 3]) (by kernel_rfl) (by simp) ?_
        refine AllReady.cons rfl (fun K hK => ?_) ?_
        · go_simp
          refine hK _ _ ?_
          clear hK K
          refine wpAny_ready (rs := [3]) (by kernel_rfl) (by simp) ?_
          refine AllReady.cons rfl (fun K hK => ?_) AllReady.nil
          go_simp
          go_at_call 50
          refine HRD.out.mono ?_
          rintro e w3 (⟨_, _, hno, _⟩ | ⟨_, rfl, hk3⟩)
          · cases hno
          · exact ⟨rfl, .inr ⟨by rw [HP.out, E.out]; rfl, rfl, HRW.out.kb.trans hk3⟩⟩
        · refine AllReady.cons rfl (fun K hK => ?_) AllReady.nil
          go_simp
          go_at_call 50
          refine HRD.out.mono ?_
          rintro e w3 (⟨_, _, hno, _⟩ | ⟨_, rfl, hk3⟩)
          · cases hno
          · exact ⟨rfl, .inr ⟨by rw [HP.out, E.out]; rfl, rfl, HRW.out.kb.trans hk3⟩⟩
      | some y =>
        obtain ⟨s, r1⟩ := y
        rw [hd] at HRD
        have HAT := Lib.hid (hat.more hd)
        have HRD2 : Hid (Calls Try.prog 50 #[.pointer (some ⟨p, 0, none⟩)] wr.drew fun e w' => e = .returned (.agg #[.int .i64 s.1, .int .i64 s.2.1, .int .i64 s.2.2.1, .int .i64 s.2.2.2.1, .int .i64 s.2.2.2.2]) ∧ Rdr w' p r1 ∧ Kb wr.drew w' (some p) none) := by
          refine Lib.hid (HRD.out.mono ?_)
          rintro e w3 (⟨es, r, ho, rfl, h4, h5⟩ | ⟨hno, _⟩)
          · obtain ⟨rfl, rfl⟩ := Prod.mk.inj (Option.some.inj ho)
            exact ⟨rfl, h4, h5⟩
          · cases hno
        have HLE : Hid (ss.length ≤ 100) := by have := HLN.out; show _ ≤ _; omega
        clear hd hat HRD
        go_wp2
        go_region_law (first
          | (go_simp; go_at_call 50; refine HRD2.out.mono ?_; rintro e w3 ⟨rfl, hr3, hk3⟩; have HR3 := Lib.hid (HRW.out.later hk3 hr3); have c3 : w3.cell? ⟨w.heap.size + 1, 3, none⟩ = some (.slice ao ss.length cp) := HR3.out.a.cell 3; have e3 : (w3.alloc (.cells #[.int .i64 s.1, .int .i64 s.2.1, .int .i64 s.2.2.1, .int .i64 s.2.2.2.1, .int .i64 s.2.2.2.2] 41)).cell? ⟨w.heap.size + 1, 3, none⟩ = some (.slice ao ss.length cp) := (HR3.out.calm (below_alloc _ _)).a.cell 3; clear hr3 hk3)
          | (refine step_append_status (by rfl) (.tmp 22) (.tmp 25) 22 (by rfl) (w.heap.size + 2) 41 _ Try.underlying22 Try.info_status rfl (by rfl) (HR3.out.calm (below_alloc _ _)).own.s (by rfl) (Str.new w3 _ _).at5 HLE.out (HR3.out.calm (below_alloc _ _)).big ?_; intro g cap4 w4 ho4 hg4; obtain ⟨s4, hd4⟩ := (HR3.out.calm (below_alloc _ _)).grownS hg4 ho4; have HD4 := Lib.hid hd4; have k0 := s4.cell 3; have j0 := s4.frozen 3; simp only [List.getElem?_toArray, List.getElem?_cons_zero, List.getElem?_cons_succ] at k0; clear ho4 hg4 s4 hd4))
        all_goals
          go_wp2
          go_roundw
          case rel => exact ⟨k + 1, by go_num, by omega, _, _, _, HD4.out, by rw [List.length_append, HLN.out]; rfl, by rw [show n - (k + 1) = m by omega]; exact HAT.out⟩
          case measure => simp [intOf]; omega
    · have g0 : ¬ (k : Int) < (n : Int) := by omega
      rw [show n - k = 0 by omega] at hat
      have HP2 := Lib.hid (show TL.par bs = TL.tail (id : Int) (code : Int) fb (ss, rest) by rw [HP.out, hat.over]; rfl)
      clear hat c0 c1 c2 c3 c4 HP HS8
      cases h5 : K.num 4 rest with
      | none =>
        have E := Lib.hid (HP2.out.trans (TL.tail_bad h5))
        have HN := Lib.hid (number_none p rest 4 (by omega) h5 _ HR.out.rd)
        clear h5
        go_wp2_with fail
        refine HN.out.mono ?_
        rintro e w5 ⟨rfl, hk5⟩
        exact ⟨rfl, .inr ⟨E.out, rfl, HR.out.kb.trans hk5⟩⟩
      | some x5 =>
      obtain ⟨m, b5⟩ := x5
      have HP3 := Lib.hid (HP2.out.trans (TL.tail_go h5))
      have hm4 : m ≤ 4 := (K.num_some h5).2.1
      have HN5 := Lib.hid (number_some p rest 4 (by omega) m b5 h5 _ HR.out.rd)
      clear h5 HP2
      go_wp2_with fail
      refine HN5.out.mono ?_
      rintro e w6 ⟨rfl, hr6, hk6⟩
      have HS9 := Lib.hid (HR.out.later hk6 hr6)
      clear hr6 hk6 HN5 HR
      obtain ⟨vS, hvS⟩ : ∃ v, Value.slice ao ss.length cp = v := ⟨_, rfl⟩
      rw [hvS] at HS9
      go_wp2
      go_loopw [31] (fun i wr => ∃ (k : Nat), i = .int .i64 (k : Int) ∧ k ≤ m ∧ Hid (∃ vh hs rest, TS w wr p (.int .i64 (id : Int)) (.int .i64 (code : Int)) (.bool fb) vS vh ss hs rest ∧ hs.length = k ∧ TL.Am TL.hd (TL.many TL.hd m b5) hs (m - k) rest)) (fun i _ => m - (intOf i).toNat)
      case atStart => exact ⟨0, rfl, Nat.zero_le _, _, _, _, HS9.out, rfl, TL.Am.start _ m b5⟩
      case round =>
        obtain ⟨j, rfl, hj, HK⟩ := hrel
        obtain ⟨vh, hs, rest', hts, hlen, hat⟩ := HK.out
        have HR := Lib.hid hts
        have HLN := Lib.hid hlen
        obtain ⟨ah, ch, rfl⟩ := own_slice hts.own.h
        clear hts HK hlen HS9
        by_cases hlt2 : j < m
        · have g1 : (j : Int) < (m : Int) := by omega
          obtain ⟨q, hq⟩ : ∃ q, m - j = q + 1 := ⟨m - j - 1, by omega⟩
          rw [hq] at hat
          cases ht : K.text 64 rest' with
          | none =>
            have E := Lib.hid (hat.bad (TL.hd_bad1 ht))
            have HT := Lib.hid (text_none p rest' 64 (by omega) ht wr HR.out.rd)
            clear ht hat
            go_wp2_with fail
            refine HT.out.mono ?_
            rintro e w2 ⟨rfl, hk2⟩
            exact ⟨rfl, .inr ⟨by rw [HP3.out, E.out]; rfl, rfl, HR.out.kb.trans hk2⟩⟩
          | some x =>
            obtain ⟨key, r1⟩ := x
            have HT := Lib.hid (text_some p rest' 64 (by omega) key r1 ht wr HR.out.rd)
            cases ht2 : K.text 400 r1 with
            | none =>
              have E := Lib.hid (hat.bad (TL.hd_bad2 ht ht2))
              clear ht hat
              go_wp2_with fail
              refine HT.out.mono ?_
              rintro e w2 ⟨rfl, hr2, hk2⟩
              have HR2 := Lib.hid (HR.out.later hk2 hr2)
              have HT2 := Lib.hid (text_none p r1 400 (by omega) ht2 w2.drew (hr2.below (below_drew _)))
              have c0 : w2.cell? ⟨w.heap.size + 1, 4, none⟩ = some (.slice ah hs.length ch) := HR2.out.a.cell 4
              clear ht2 hr2 hk2 HT
              go_wp2
              refine wp_region_any (by kernel_rfl) ?_
              change wpAny _ _ _ _ _ _ _ (World.drew _)
              refine wpAny_take (i := 0) (v := ?v0b) rfl (by kernel_rfl) (by kernel_rfl) (by kernel_rfl) (fun _ _ _ h => h) (Or.inl ⟨by rfl, ?h0b⟩) ?r0b
              case h0b => intro w; go_simp; with_reducible rfl
              refine wpAny_take (i := 2) (v := ?v2b) rfl (by kernel_rfl) (by kernel_rfl) (by kernel_rfl) (fun _ _ _ h => h) (Or.inl ⟨by rfl, ?h2b⟩) ?r2b
              case h2b => intro w; go_simp; with_reducible rfl
              refine wpAny_take (i := 3) (v := ?v3b) rfl (by kernel_rfl) (by kernel_rfl) (by kernel_rfl) (fun _ _ _ h => h) (Or.inl ⟨by rfl, ?h3b⟩) ?r3b
              case h3b => intro w; go_simp; with_reducible rfl
              refine wpAny_ready (rs := [1, 4]) (by kernel_rfl) (by simp) ?_
              refine AllReady.cons rfl (fun K hK => ?_) ?_
              · go_simp
                refine hK _ _ ?_
                clear hK K
                refine wpAny_ready (rs := [4]) (by kernel_rfl) (by simp) ?_
                refine AllReady.cons rfl (fun K hK => ?_) AllReady.nil
                go_simp
                go_at_call 51
                refine HT2.out.mono ?_
                rintro e w3 ⟨rfl, hk3⟩
                exact ⟨rfl, .inr ⟨by rw [HP3.out, E.out]; rfl, rfl, HR2.out.kb.trans ((kb_drew w2 _ _).trans hk3)⟩⟩
              · refine AllReady.cons rfl (fun K hK => ?_) AllReady.nil
                go_simp
                go_at_call 51
                refine HT2.out.mono ?_
                rintro e w3 ⟨rfl, hk3⟩
                exact ⟨rfl, .inr ⟨by rw [HP3.out, E.out]; rfl, rfl, HR2.out.kb.trans ((kb_drew w2 _ _).trans hk3)⟩⟩
            | some y =>
              obtain ⟨val, r2⟩ := y
              have HAT := Lib.hid (hat.more (TL.hd_go ht ht2))
              clear ht hat
              go_wp2_with fail
              refine HT.out.mono ?_
              rintro e w2 ⟨rfl, hr2, hk2⟩
              have HR2 := Lib.hid (HR.out.later hk2 hr2)
              have HT2 := Lib.hid (text_some p r1 400 (by omega) val r2 ht2 w2.drew (hr2.below (below_drew _)))
              have c0 : w2.cell? ⟨w.heap.size + 1, 4, none⟩ = some (.slice ah hs.length ch) := HR2.out.a.cell 4
              have HRD := Lib.hid (HR2.out.calm (below_drew w2))
              have HLE : Hid (hs.length ≤ 100) := by have := HLN.out; show _ ≤ _; omega
              clear ht2 hr2 hk2 HT
              go_wp2
              go_region_law (first
                | (go_simp; go_at_call 51; refine HT2.out.mono ?_; rintro e w3 ⟨rfl, hr3, hk3⟩; have HR3 := Lib.hid (HRD.out.later hk3 hr3); have c3 : w3.cell? ⟨w.heap.size + 1, 4, none⟩ = some (.slice ah hs.length ch) := HR3.out.a.cell 4; have e3 : (w3.alloc (.cells #[.string ⟨key.toArray⟩, .string ⟨val.toArray⟩] 39)).cell? ⟨w.heap.size + 1, 4, none⟩ = some (.slice ah hs.length ch) := (HR3.out.calm (below_alloc _ _)).a.cell 4; clear hr3 hk3)
                | (refine step_append_entry (k := key) (u := val) (by rfl) (.tmp 36) (.tmp 41) 23 (by rfl) (w.heap.size + 2) 39 _ Try.underlying23 Try.info_head rfl (by rfl) (HR3.out.calm (below_alloc _ _)).own.h (by rfl) (two_cells w3 _ _ _) HLE.out (HR3.out.calm (below_alloc _ _)).big ?_; intro g cap4 w4 ho4 hg4; obtain ⟨s4, hd4⟩ := (HR3.out.calm (below_alloc _ _)).grownH hg4 ho4; have HD4 := Lib.hid hd4; have k0 := s4.cell 4; have j0 := s4.frozen 4; simp only [List.getElem?_toArray, List.getElem?_cons_zero, List.getElem?_cons_succ] at k0; clear ho4 hg4 s4 hd4))
              all_goals
                go_wp2
                go_roundw
                case rel => exact ⟨j + 1, by go_num, by omega, _, _, _, HD4.out, by rw [List.length_append, HLN.out]; rfl, by rw [show m - (j + 1) = q by omega]; exact HAT.out⟩
                case measure => simp [intOf]; omega
        · have g1 : ¬ (j : Int) < (m : Int) := by omega
          rw [show m - j = 0 by omega] at hat
          have E := Lib.hid hat.over
          subst hvS
          obtain ⟨c0, c1, c2, c3, c4⟩ := HR.out.a.cells5
          obtain ⟨d0, d1, d2, d3, d4⟩ := HR.out.res.cells5
          obtain ⟨f0, f1, f2, f3, f4⟩ := HR.out.res.frozen5
          clear hat
          go_wp2
          (try simp only [Exit.inBlock, Exit.then])
          refine bodyPost_ret (ret_cell1 rfl rfl (HR.out.res.five _ _ _ _ _) Try.underlying25 rfl tell_size) rfl ?_
          have kb := Kb.five wr w.heap.size (.int .i64 (id : Int)) (.int .i64 (code : Int)) (.bool fb) (.slice ao ss.length cp) (.slice ah hs.length ch) none
          have hlt' := HR.out.lt
          have hbig := HR.out.big
          refine .inl ⟨((id : Int), (code : Int), fb, ss, hs), rest', _, _, by rw [HP3.out, E.out]; rfl, rfl, (HR.out.own.base (Nat.le_add_right _ 2)).kb HR.out.res (by decide) (by decide) kb, HR.out.rd.keep fun j hj => kb.block j (by omega) (by simp; omega) (by simp), ?_⟩
          exact ⟨kb.os.trans HR.out.kb.os, kb.tape.trans HR.out.kb.tape, kb.output.trans HR.out.kb.output, Nat.le_trans HR.out.kb.size kb.size, fun j hj h1 h2 => (kb.block j (by omega) (by simp; omega) (by simp)).trans (HR.out.kb.block j hj h1 h2)⟩
end Go.Proofs.Ytokmpfkmkhnopaa
