/- The walk of ask.read. -/
import Derived.Test.YthbmmnjpiflgdaaAkE
namespace Go.Proofs.Ythbmmnjpiflgdaa
open Go.RowKit

/-- Where read stands. -/
structure AS (w wr : World) (p : Nat) (x0 x1 x2 vs : Value) (ds : List (List D.E)) (rest : List UInt8) : Prop where
  kb : Kb w wr (some p) none
  lt : p < w.heap.size
  big : w.heap.size + 2 ≤ wr.heap.size
  res : Str wr w.heap.size 24 noAsk
  a : Str wr (w.heap.size + 1) 24 #[x0, x1, x2, vs]
  own : Ownd wr (w.heap.size + 2) vs ds
  rd : Rdr wr p rest
theorem AS.later {w wr w1 : World} {p : Nat} {x0 x1 x2 vs : Value} {ds : List (List D.E)} {rest rest' : List UInt8} (h : AS w wr p x0 x1 x2 vs ds rest) (hk : Kb wr w1 (some p) none) (hr : Rdr w1 p rest') : AS w w1 p x0 x1 x2 vs ds rest' := by
  have hlt := h.lt
  obtain ⟨v, hs, _, _⟩ := h.rd
  exact ⟨h.kb.trans hk, h.lt, Nat.le_trans h.big hk.size, h.res.kb hk (by simp; omega) (by simp), h.a.kb hk (by simp; omega) (by simp), h.own.kb hs (by decide) (by decide) hk, hr⟩
theorem AS.calm {w wr w1 : World} {p : Nat} {x0 x1 x2 vs : Value} {ds : List (List D.E)} {rest : List UInt8} (h : AS w wr p x0 x1 x2 vs ds rest) (hb : Below wr.heap.size wr w1) : AS w w1 p x0 x1 x2 vs ds rest :=
  ⟨h.kb.trans (Kb.of_below hb _ _), h.lt, Nat.le_trans h.big hb.size, h.res.below hb, h.a.below hb, h.own.below hb, h.rd.below hb⟩
/-- A cell of the request has been laid. -/
theorem AS.set {w wr : World} {p : Nat} {x0 x1 x2 vs : Value} {ds : List (List D.E)} {rest : List UInt8} (h : AS w wr p x0 x1 x2 vs ds rest) (i : Nat) (u y0 y1 y2 vs' : Value) (ds' : List (List D.E)) (hc : (#[x0, x1, x2, vs] : Array Value).setIfInBounds i u = #[y0, y1, y2, vs']) (ho : Ownd wr (w.heap.size + 2) vs' ds') :
    AS w (wr.setCell ⟨w.heap.size + 1, i, none⟩ u) p y0 y1 y2 vs' ds' rest := by
  have kb := Kb.set wr (w.heap.size + 1) i u none
  have hlt := h.lt
  have hbig := h.big
  refine ⟨⟨kb.os.trans h.kb.os, kb.tape.trans h.kb.tape, kb.output.trans h.kb.output, Nat.le_trans h.kb.size kb.size, fun k hk h1 h2 => (kb.block k (by omega) (by simp; omega) (by simp)).trans (h.kb.block k hk h1 h2)⟩, hlt, Nat.le_trans hbig kb.size, h.res.kb kb (by simp) (by simp), ?_, ho.kb h.a (by decide) (by decide) kb, h.rd.keep fun k hk => kb.block k (by omega) (by simp; omega) (by simp)⟩
  have := h.a.set i u
  rwa [hc] at this
theorem AS.set0 {w wr : World} {p : Nat} {x0 x1 x2 vs : Value} {ds : List (List D.E)} {rest : List UInt8} (h : AS w wr p x0 x1 x2 vs ds rest) (u : Value) : AS w (wr.setCell ⟨w.heap.size + 1, 0, none⟩ u) p u x1 x2 vs ds rest := h.set 0 u _ _ _ _ _ (by simp) h.own
theorem AS.set1 {w wr : World} {p : Nat} {x0 x1 x2 vs : Value} {ds : List (List D.E)} {rest : List UInt8} (h : AS w wr p x0 x1 x2 vs ds rest) (u : Value) : AS w (wr.setCell ⟨w.heap.size + 1, 1, none⟩ u) p x0 u x2 vs ds rest := h.set 1 u _ _ _ _ _ (by simp) h.own
theorem AS.set2 {w wr : World} {p : Nat} {x0 x1 x2 vs : Value} {ds : List (List D.E)} {rest : List UInt8} (h : AS w wr p x0 x1 x2 vs ds rest) (u : Value) : AS w (wr.setCell ⟨w.heap.size + 1, 2, none⟩ u) p x0 x1 u vs ds rest := h.set 2 u _ _ _ _ _ (by simp) h.own
/-- The row has grown. -/
theorem AS.grown {w wr w1 : World} {p : Nat} {x0 x1 x2 vs v' : Value} {ds ds' : List (List D.E)} {rest : List UInt8} (h : AS w wr p x0 x1 x2 vs ds rest) (hg : wr.grownBy w1 vs.ownBlock) (ho : Ownd w1 (w.heap.size + 2) v' ds') :
    Str w1 (w.heap.size + 1) 24 #[x0, x1, x2, vs] ∧ AS w (w1.setCell ⟨w.heap.size + 1, 3, none⟩ v') p x0 x1 x2 v' ds' rest := by
  have hlt := h.lt
  have hbig := h.big
  have far : ∀ k, k < w.heap.size + 2 → w1.heap[k]? = wr.heap[k]? := fun k hk => hg.block k (by omega) (by
    intro e
    have := h.own.ownBlock e.symm
    omega)
  have hb : Below (w.heap.size + 2) wr w1 := ⟨hg.os, hg.tape, hg.output, hg.size, far⟩
  have ha : Str w1 (w.heap.size + 1) 24 #[x0, x1, x2, vs] := (far _ (by omega)).trans h.a
  have hres : Str w1 w.heap.size 24 noAsk := (far _ (by omega)).trans h.res
  have kb := Kb.set w1 (w.heap.size + 1) 3 v' none
  have hsz := hb.size
  refine ⟨ha, ?_⟩
  refine ⟨⟨kb.os.trans (hb.os.trans h.kb.os), kb.tape.trans (hb.tape.trans h.kb.tape), kb.output.trans (hb.output.trans h.kb.output), Nat.le_trans h.kb.size (Nat.le_trans hb.size kb.size), fun k hk h1 h2 => ?_⟩, h.lt, Nat.le_trans h.big (Nat.le_trans hb.size kb.size), hres.kb kb (by simp) (by simp), by simpa using ha.set 3 v', ho.kb ha (by decide) (by decide) kb, ?_⟩
  · rw [kb.block k (by omega) (by simp; omega) (by simp), far k (by omega)]
    exact h.kb.block k hk h1 h2
  · refine h.rd.keep fun k hk => ?_
    rw [kb.block k (by omega) (by simp; omega) (by simp), far k (by omega)]
theorem as_start {w : World} {p : Nat} {bs : List UInt8} (h : Rdr w p bs) : AS w ((w.alloc (.cells noAsk 24)).alloc (.cells noAsk 24)) p (.int .i64 0) (.string ⟨#[]⟩) (.int .i64 0) (.slice none 0 0) [] bs := by
  have WB := below_trans (below_alloc w (.cells noAsk 24)) (below_alloc _ (.cells noAsk 24))
  refine ⟨Kb.of_below WB _ _, h.lt, by rw [box_size, box_size]; omega, (Str.new w _ _).below (below_alloc _ _), ?_, Ownd.nil _ _, h.below WB⟩
  have := Str.new (w.alloc (.cells noAsk 24)) 24 noAsk
  rwa [box_size] at this

/-- A whole request is laid in a block. -/
def four (w : World) (p : Nat) (x y z u : Value) : World := (((w.setCell ⟨p, 0, none⟩ x).setCell ⟨p, 1, none⟩ y).setCell ⟨p, 2, none⟩ z).setCell ⟨p, 3, none⟩ u
theorem Str.four {w : World} {p : Nat} {T : TypeId} {a b c d : Value} (h : Str w p T #[a, b, c, d]) (x y z u : Value) : Str (four w p x y z u) p T #[x, y, z, u] := by
  have := (((h.set 0 x).set 1 y).set 2 z).set 3 u
  unfold Go.Proofs.Ythbmmnjpiflgdaa.four
  simpa using this
theorem Kb.four (w : World) (p : Nat) (x y z u : Value) (q : Option Nat) : Kb w (four w p x y z u) (some p) q := (((Kb.set w p 0 x q).trans (Kb.set _ p 1 y q)).trans (Kb.set _ p 2 z q)).trans (Kb.set _ p 3 u q)

/-- What read hands over, at its end. -/
def GotA (p : Nat) (w : World) (o : Option (K.A × List UInt8)) (e : Ending) (w' : World) : Prop :=
  (∃ (a : K.A) (r : List UInt8) (vs : Value), o = some (a, r) ∧ e = .returned (.agg #[.int .i64 a.1, .string ⟨a.2.1.toArray⟩, .int .i64 a.2.2.1, vs]) ∧ Ownd w' w.heap.size vs a.2.2.2 ∧ Rdr w' p r ∧ Kb w w' (some p) none) ∨ (o = none ∧ Gave p w e w')

set_option maxHeartbeats 8000000 in
theorem read_any (p : Nat) (bs : List UInt8) (w : World) (hr : Rdr w p bs) :
    Calls Try.prog 34 #[.pointer (some ⟨p, 0, none⟩)] w (GotA p w (K.par bs)) := by
  have HS0 := Lib.hid (as_start hr)
  unfold noAsk at HS0
  clear hr
  cases h0 : K.first bs with
  | none =>
    have E := Lib.hid (K.par_bad0 h0)
    have HC := Lib.hid (first_none p bs h0 _ HS0.out.rd)
    clear h0
    go_enter Try.func34, Try.ntmps34
    go_wp2_with fail
    refine HC.out.mono ?_
    rintro e w1 ⟨rfl, hk⟩
    exact ⟨rfl, .inr ⟨E.out, rfl, HS0.out.kb.trans hk⟩⟩
  | some b0 =>
  have HC0 := Lib.hid (first_some p bs b0 h0 _ HS0.out.rd)
  cases h1 : K.num 2147483647 b0 with
  | none =>
    have E := Lib.hid (K.par_bad1 h0 h1)
    have HF := Lib.hid h1
    clear h0 h1
    go_enter Try.func34, Try.ntmps34
    go_wp2_with fail
    refine HC0.out.mono ?_
    rintro e w1 ⟨rfl, hr1, hk1⟩
    have HS1 := Lib.hid (HS0.out.later hk1 hr1)
    have HN := Lib.hid (number_none p b0 2147483647 (by omega) HF.out _ HS1.out.rd)
    clear hr1 hk1
    go_wp2_with fail
    refine HN.out.mono ?_
    rintro e w2 ⟨rfl, hk2⟩
    exact ⟨rfl, .inr ⟨E.out, rfl, HS1.out.kb.trans hk2⟩⟩
  | some x1 =>
  obtain ⟨id, b1⟩ := x1
  have HI := Lib.hid h0
  have HI1 := Lib.hid h1
  clear h0 h1
  go_enter Try.func34, Try.ntmps34
  go_wp2_with fail
  refine HC0.out.mono ?_
  rintro e w1 ⟨rfl, hr1, hk1⟩
  have HS1 := Lib.hid (HS0.out.later hk1 hr1)
  have HN1 := Lib.hid (number_some p b0 2147483647 (by omega) id b1 HI1.out _ HS1.out.rd)
  clear hr1 hk1 HC0 HS0
  go_wp2_with fail
  refine HN1.out.mono ?_
  rintro e w2 ⟨rfl, hr2, hk2⟩
  have HS2 := Lib.hid (HS1.out.later hk2 hr2)
  clear hr2 hk2 HS1 HN1
  have HS3 := Lib.hid (HS2.out.set0 (.int .i64 (id : Int)))
  have c0 := HS2.out.a.cell 0
  have f0 := HS2.out.a.frozen 0
  simp only [List.getElem?_toArray, List.getElem?_cons_zero] at c0
  cases h2 : K.text 64 b1 with
  | none =>
    have E := Lib.hid (K.par_bad2 HI.out HI1.out h2)
    have HN := Lib.hid (text_none p b1 64 (by omega) h2 _ HS3.out.rd)
    clear h2
    go_wp2_with fail
    refine HN.out.mono ?_
    rintro e w3 ⟨rfl, hk3⟩
    exact ⟨rfl, .inr ⟨E.out, rfl, HS3.out.kb.trans hk3⟩⟩
  | some x2 =>
  obtain ⟨dom, b2⟩ := x2
  have HI2 := Lib.hid h2
  have HN2 := Lib.hid (text_some p b1 64 (by omega) dom b2 h2 _ HS3.out.rd)
  clear h2
  go_wp2_with fail
  refine HN2.out.mono ?_
  rintro e w3 ⟨rfl, hr3, hk3⟩
  have HS4 := Lib.hid (HS3.out.later hk3 hr3)
  clear hr3 hk3 HS3 HS2 HN2 c0 f0
  have HS5 := Lib.hid (HS4.out.set1 (.string ⟨dom.toArray⟩))
  have c0 := HS4.out.a.cell 1
  have f0 := HS4.out.a.frozen 1
  simp only [List.getElem?_toArray, List.getElem?_cons_zero, List.getElem?_cons_succ] at c0
  cases h3 : K.num 4294967295 b2 with
  | none =>
    have E := Lib.hid (K.par_bad3 HI.out HI1.out HI2.out h3)
    have HN := Lib.hid (number_none p b2 4294967295 (by omega) h3 _ HS5.out.rd)
    clear h3
    go_wp2_with fail
    refine HN.out.mono ?_
    rintro e w4 ⟨rfl, hk4⟩
    exact ⟨rfl, .inr ⟨E.out, rfl, HS5.out.kb.trans hk4⟩⟩
  | some x3 =>
  obtain ⟨hs, b3⟩ := x3
  have HI3 := Lib.hid h3
  have HN3 := Lib.hid (number_some p b2 4294967295 (by omega) hs b3 h3 _ HS5.out.rd)
  clear h3
  go_wp2_with fail
  refine HN3.out.mono ?_
  rintro e w4 ⟨rfl, hr4, hk4⟩
  have HS6 := Lib.hid (HS5.out.later hk4 hr4)
  clear hr4 hk4 HS4 HS5 HN3 c0 f0
  have HS7 := Lib.hid (HS6.out.set2 (.int .i64 (hs : Int)))
  have c0 := HS6.out.a.cell 2
  have f0 := HS6.out.a.frozen 2
  simp only [List.getElem?_toArray, List.getElem?_cons_zero, List.getElem?_cons_succ] at c0
  cases h4 : K.num 16 b3 with
  | none =>
    have E := Lib.hid (K.par_bad4 HI.out HI1.out HI2.out HI3.out h4)
    have HN := Lib.hid (number_none p b3 16 (by omega) h4 _ HS7.out.rd)
    clear h4
    go_wp2_with fail
    refine HN.out.mono ?_
    rintro e w5 ⟨rfl, hk5⟩
    exact ⟨rfl, .inr ⟨E.out, rfl, HS7.out.kb.trans hk5⟩⟩
  | some x4 =>
  obtain ⟨n, b4⟩ := x4
  have HP := Lib.hid (K.par_go HI.out HI1.out HI2.out HI3.out h4)
  have hn16 : n ≤ 16 := (K.num_some h4).2.1
  have HN4 := Lib.hid (number_some p b3 16 (by omega) n b4 h4 _ HS7.out.rd)
  clear h4 HI HI1 HI2 HI3
  go_wp2_with fail
  refine HN4.out.mono ?_
  rintro e w5 ⟨rfl, hr5, hk5⟩
  have HS8 := Lib.hid (HS7.out.later hk5 hr5)
  clear hr5 hk5 HS6 HS7 HN4 c0 f0
  go_wp2
  go_loopw [17] (fun i wr => ∃ (k : Nat), i = .int .i64 (k : Int) ∧ k ≤ n ∧ Hid (∃ vs ds rest, AS w wr p (.int .i64 (id : Int)) (.string ⟨dom.toArray⟩) (.int .i64 (hs : Int)) vs ds rest ∧ ds.length = k ∧ K.Ats (K.descs n b4) ds (n - k) rest)) (fun i _ => n - (intOf i).toNat)
  case atStart => exact ⟨0, rfl, Nat.zero_le _, _, _, _, HS8.out, rfl, K.Ats.start n b4⟩
  case round =>
    obtain ⟨k, rfl, hk, HK⟩ := hrel
    obtain ⟨vs, ds, rest, has, hlen, hat⟩ := HK.out
    have HR := Lib.hid has
    have HLN := Lib.hid hlen
    obtain ⟨ao, cp, rfl⟩ := has.own.slice
    have c0 := has.a.cell 3
    simp only [List.getElem?_toArray, List.getElem?_cons_zero, List.getElem?_cons_succ] at c0
    clear has HK hlen
    by_cases hlt : k < n
    · have g0 : (k : Int) < (n : Int) := by omega
      obtain ⟨m, hm⟩ : ∃ m, n - k = m + 1 := ⟨n - k - 1, by omega⟩
      rw [hm] at hat
      have HRW := Lib.hid (HR.out.calm (below_drew wr))
      have HRD := Lib.hid (readDesc_any p rest wr.drew HRW.out.rd)
      cases hd : K.desc rest with
      | none =>
        rw [hd] at HRD
        have E := Lib.hid (hat.bad hd)
        clear hd hat
        go_wp2
        refine wp_region_any (by kernel_rfl) ?_
        change wpAny _ _ _ _ _ _ _ (World.drew _)
        refine wpAny_take (i := 0) (v := ?v0) rfl (by kernel_rfl) (by kernel_rfl) (by kernel_rfl) (fun _ _ _ h => h) (Or.inl ⟨by rfl, ?h0⟩) ?r0
        case h0 => intro w; go_simp; with_reducible rfl
        refine wpAny_take (i := 2) (v := ?v2) rfl (by kernel_rfl) (by kernel_rfl) (by kernel_rfl) (fun _ _ _ h => h) (Or.inl ⟨by rfl, ?h2⟩) ?r2
        case h2 => intro w; go_simp; with_reducible rfl
        refine wpAny_ready (rs := [1, 3]) (by kernel_rfl) (by simp) ?_
        refine AllReady.cons rfl (fun K hK => ?_) ?_
        · go_simp
          refine hK _ _ ?_
          clear hK K
          refine wpAny_ready (rs := [3]) (by kernel_rfl) (by simp) ?_
          refine AllReady.cons rfl (fun K hK => ?_) AllReady.nil
          go_simp
          go_at_call 49
          refine HRD.out.mono ?_
          rintro e w3 (⟨_, _, _, hno, _⟩ | ⟨_, rfl, hk3⟩)
          · cases hno
          · exact ⟨rfl, .inr ⟨by rw [HP.out, E.out]; rfl, rfl, HRW.out.kb.trans hk3⟩⟩
        · refine AllReady.cons rfl (fun K hK => ?_) AllReady.nil
          go_simp
          go_at_call 49
          refine HRD.out.mono ?_
          rintro e w3 (⟨_, _, _, hno, _⟩ | ⟨_, rfl, hk3⟩)
          · cases hno
          · exact ⟨rfl, .inr ⟨by rw [HP.out, E.out]; rfl, rfl, HRW.out.kb.trans hk3⟩⟩
      | some y =>
        obtain ⟨d, r1⟩ := y
        rw [hd] at HRD
        have HAT := Lib.hid (hat.more hd)
        have HRD2 : Hid (Calls Try.prog 49 #[.pointer (some ⟨p, 0, none⟩)] wr.drew fun e w' => ∃ ad cd, e = .returned (.agg #[.slice ad d.length cd]) ∧ Owne w' wr.heap.size 44 (.slice ad d.length cd) d ∧ Rdr w' p r1 ∧ Kb wr.drew w' (some p) none) := by
          refine Lib.hid (HRD.out.mono ?_)
          rintro e w3 (⟨es, r, vs, ho, rfl, h3, h4, h5⟩ | ⟨hno, _⟩)
          · obtain ⟨rfl, rfl⟩ := Prod.mk.inj (Option.some.inj ho)
            obtain ⟨ad, cd, rfl⟩ := own_slice h3
            exact ⟨ad, cd, rfl, h3, h4, h5⟩
          · cases hno
        have HLE : Hid (ds.length ≤ 100) := by have := HLN.out; show _ ≤ _; omega
        have HBG : Hid (w.heap.size + 2 ≤ wr.heap.size) := Lib.hid HR.out.big
        clear hd hat HRD
        go_wp2
        go_region_law (first
          | (go_simp; go_at_call 49; refine HRD2.out.mono ?_; rintro e w3 ⟨ad, cd, rfl, ho3, hr3, hk3⟩; have HO3 := Lib.hid (ho3.base HBG.out); have HR3 := Lib.hid (HRW.out.later hk3 hr3); have c3 : w3.cell? ⟨w.heap.size + 1, 3, none⟩ = some (.slice ao ds.length cp) := HR3.out.a.cell 3; have e3 : (w3.alloc (.cells #[.slice ad d.length cd] 42)).cell? ⟨w.heap.size + 1, 3, none⟩ = some (.slice ao ds.length cp) := (HR3.out.calm (below_alloc _ _)).a.cell 3; clear hr3 hk3 ho3)
          | (refine step_append_desc (by rfl) (.tmp 20) (.tmp 23) 22 (by rfl) (w.heap.size + 2) _ Try.underlying22 Try.info_desc rfl (by rfl) (HR3.out.calm (below_alloc _ _)).own (by rfl) (box_cell w3 _ _) (HO3.out.below (below_alloc _ _)) HLE.out (HR3.out.calm (below_alloc _ _)).big ?_; intro g cap4 w4 ho4 hg4; obtain ⟨s4, hd4⟩ := (HR3.out.calm (below_alloc _ _)).grown hg4 ho4; have HD4 := Lib.hid hd4; have k0 := s4.cell 3; have j0 := s4.frozen 3; simp only [List.getElem?_toArray, List.getElem?_cons_zero, List.getElem?_cons_succ] at k0; clear ho4 hg4 s4 hd4))
        all_goals
          go_wp2
          go_roundw
          case rel => exact ⟨k + 1, by go_num, by omega, _, _, _, HD4.out, by rw [List.length_append, HLN.out]; rfl, by rw [show n - (k + 1) = m by omega]; exact HAT.out⟩
          case measure => simp [intOf]; omega
    · have g0 : ¬ (k : Int) < (n : Int) := by omega
      rw [show n - k = 0 by omega] at hat
      have E := Lib.hid hat.over
      clear hat c0
      have c0 := HR.out.a.cell 0
      have c1 := HR.out.a.cell 1
      have c2 := HR.out.a.cell 2
      have c3 := HR.out.a.cell 3
      have d0 := HR.out.res.cell 0
      have d1 := HR.out.res.cell 1
      have d2 := HR.out.res.cell 2
      have d3 := HR.out.res.cell 3
      have f0 := HR.out.res.frozen 0
      have f1 := HR.out.res.frozen 1
      have f2 := HR.out.res.frozen 2
      have f3 := HR.out.res.frozen 3
      unfold noAsk at d0 d1 d2 d3
      simp only [List.getElem?_toArray, List.getElem?_cons_zero, List.getElem?_cons_succ] at c0 c1 c2 c3 d0 d1 d2 d3
      go_wp2
      (try simp only [Exit.inBlock, Exit.then])
      refine bodyPost_ret (ret_cell1 rfl rfl (HR.out.res.four _ _ _ _) Try.underlying24 rfl ask_size) rfl ?_
      have kb := Kb.four wr w.heap.size (.int .i64 (id : Int)) (.string ⟨dom.toArray⟩) (.int .i64 (hs : Int)) (.slice ao ds.length cp) none
      have hlt' := HR.out.lt
      have hbig := HR.out.big
      refine .inl ⟨((id : Int), dom, (hs : Int), ds), rest, _, by rw [HP.out, E.out]; rfl, rfl, (HR.out.own.base (Nat.le_add_right _ 2)).kb HR.out.res (by decide) (by decide) kb, HR.out.rd.keep fun j hj => kb.block j (by omega) (by simp; omega) (by simp), ?_⟩
      exact ⟨kb.os.trans HR.out.kb.os, kb.tape.trans HR.out.kb.tape, kb.output.trans HR.out.kb.output, Nat.le_trans HR.out.kb.size kb.size, fun j hj h1 h2 => (kb.block j (by omega) (by simp; omega) (by simp)).trans (HR.out.kb.block j hj h1 h2)⟩
end Go.Proofs.Ythbmmnjpiflgdaa
