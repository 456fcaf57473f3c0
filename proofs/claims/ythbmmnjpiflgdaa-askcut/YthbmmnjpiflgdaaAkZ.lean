/- What the document's own DecodeAsk stands on, round for round. -/
import Derived.Test.YthbmmnjpiflgdaaAkY
import Derived.Test.YthbmmnjpiflgdaaAkJ
namespace Go.Proofs.Ythbmmnjpiflgdaa
open Go.RowKit

/-- 'append(l, e)' of entries, l the call's own, for a walk. -/
theorem wpList_append_entry2 {P : Program} {w : World} {ops : Array Oper} {rest : List Oper} {o : Oper} {a : Act} {Q : Exit → Act → World → Prop} (hgd : o.guard = none) (s x : Operand) (t : TypeId)
    (ho : o.op = .call { callee := .builtin .append, args := #[s, x], argTypes := #[t, t] })
    (base : Nat) (e : TypeId) (z : Value) (ht : P.underlying t = some (.slice e)) (hinfo : (P.info? e).map (fun i => (i.zero, i.size, i.bytes)) = some (some z, 2, 32)) (hz : z.cells.size = 2)
    {v : Value} {es : List D.E} {k u : List UInt8} {g0 c : Nat} (hs : a.eval s = v) (hown : Owne w base e v es) (hx : a.eval x = .slice (some ⟨g0, 0, none⟩) 1 c) (hc : w.cell? ⟨g0, 0, none⟩ = some (.string ⟨k.toArray⟩) ∧ w.cell? ⟨g0, 1, none⟩ = some (.string ⟨u.toArray⟩))
    (hlen : es.length ≤ 100) (hbase : base ≤ w.heap.size)
    (h : ∀ g cap w', Owne w' base e (.slice (some ⟨g, 0, none⟩) (es.length + 1) cap) (es ++ [(k, u)]) → w.grownBy w' v.ownBlock → wpList P ops Q rest (a.put o.dst (.slice (some ⟨g, 0, none⟩) (es.length + 1) cap)) w') : wpList P ops Q (o :: rest) a w := by
  obtain ⟨i, hi, hz0, hz1, hz2⟩ := info_parts hinfo
  refine wpList_append_lies _ hgd s x t ho base e i z 2 32 ht hi hz0 hz1 hz2 hz (by decide) v es.length (ev es) hs hown ⟨g0, 0, none⟩ 1 c (ev [(k, u)]) hx rfl ?_ ev_one (by decide) (by unfold maxLen; omega) (by omega) hbase _ rfl ?_
  · intro j y hy
    rw [Addr.add_lit, Nat.zero_add]
    match j, hy with
    | 0, hy =>
      have : tv k = y := by simpa [ev] using hy
      rw [← this]; exact hc.1
    | 1, hy =>
      have : tv u = y := by simpa [ev] using hy
      rw [← this]; exact hc.2
    | j + 2, hy => simp [ev] at hy
  · intro g cap' w' ho' hg _ _
    refine h g cap' w' ?_ hg
    show w'.ownsRow base e 2 _ (es ++ [(k, u)]).length (ev (es ++ [(k, u)]))
    rw [ev_app, List.length_append]; exact ho'
/-- 'append(l, d)' of descriptors, l and d the call's own, for a walk. -/
theorem wpList_append_desc {P : Program} {w : World} {ops : Array Oper} {rest : List Oper} {o : Oper} {a : Act} {Q : Exit → Act → World → Prop} (hgd : o.guard = none) (s x : Operand) (t : TypeId)
    (ho : o.op = .call { callee := .builtin .append, args := #[s, x], argTypes := #[t, t] })
    (base : Nat) (z : Value) (ht : P.underlying t = some (.slice 42)) (hinfo : (P.info? 42).map (fun i => (i.zero, i.size, i.bytes)) = some (some z, 1, 24)) (hz : z.cells.size = 1)
    {v u : Value} {ds : List (List D.E)} {d : List D.E} {g0 c : Nat} (hs : a.eval s = v) (hown : Ownd w base v ds) (hx : a.eval x = .slice (some ⟨g0, 0, none⟩) 1 c) (hc : w.cell? ⟨g0, 0, none⟩ = some u) (hu : Owne w base 44 u d)
    (hlen : ds.length ≤ 100) (hbase : base ≤ w.heap.size)
    (h : ∀ g cap w', Ownd w' base (.slice (some ⟨g, 0, none⟩) (ds.length + 1) cap) (ds ++ [d]) → w.grownBy w' v.ownBlock → wpList P ops Q rest (a.put o.dst (.slice (some ⟨g, 0, none⟩) (ds.length + 1) cap)) w') : wpList P ops Q (o :: rest) a w := by
  obtain ⟨i, hi, hz0, hz1, hz2⟩ := info_parts hinfo
  obtain ⟨vs, k1, k2, k3⟩ := hown
  refine wpList_append_lies _ hgd s x t ho base _ i z 1 24 ht hi hz0 hz1 hz2 hz (by decide) v vs.length vs hs k1 ⟨g0, 0, none⟩ 1 c [u] hx rfl ?_ (by simpa using hu.one) (by decide) (by unfold maxLen; omega) (by omega) hbase _ rfl ?_
  · intro j y hy
    cases j with
    | zero =>
      have : u = y := by simpa using hy
      rw [← this]; exact hc
    | succ j => simp at hy
  · intro g cap' w' ho' hg _ _
    rw [k2] at ho' ⊢
    refine h g cap' w' ?_ hg
    refine Ownd.grown k1 k2 k3 hu hg ?_
    show w'.ownsRow base _ 1 _ (vs ++ [u]).length (vs ++ [u])
    rw [List.length_append, k2]; exact ho'

/-- Where DecodeAsk stands. -/
structure OA (w wr : World) (x0 x1 x2 vs : Value) (ds : List (List D.E)) (s : Option (List UInt8)) : Prop where
  below : Below w.heap.size w wr
  big : w.heap.size + 3 ≤ wr.heap.size
  res : Str wr w.heap.size 24 noAsk
  rd : RS wr (w.heap.size + 1) s
  a : Str wr (w.heap.size + 2) 24 #[x0, x1, x2, vs]
  own : Ownd wr (w.heap.size + 3) vs ds
theorem OA.later {w wr w1 : World} {x0 x1 x2 vs : Value} {ds : List (List D.E)} {s s' : Option (List UInt8)} (h : OA w wr x0 x1 x2 vs ds s) (hk : Kb wr w1 (some (w.heap.size + 1)) none) (hr : RS w1 (w.heap.size + 1) s') : OA w w1 x0 x1 x2 vs ds s' := by
  have hbig := h.big
  obtain ⟨v, hs, _⟩ := h.rd.str
  exact ⟨h.below.trans (hk.below (by omega) (fun g hg => by have := Option.some.inj hg; omega) (fun g hg => by cases hg)), Nat.le_trans h.big hk.size, h.res.kb hk (by simp) (by simp), hr, h.a.kb hk (by simp) (by simp), h.own.kb hs (by decide) (by decide) hk⟩
theorem OA.calm {w wr w1 : World} {x0 x1 x2 vs : Value} {ds : List (List D.E)} {s : Option (List UInt8)} (h : OA w wr x0 x1 x2 vs ds s) (hb : Below wr.heap.size wr w1) : OA w w1 x0 x1 x2 vs ds s :=
  ⟨below_trans h.below hb, Nat.le_trans h.big hb.size, h.res.below hb, h.rd.below hb, h.a.below hb, h.own.below hb⟩
theorem OA.set {w wr : World} {x0 x1 x2 vs : Value} {ds : List (List D.E)} {s : Option (List UInt8)} (h : OA w wr x0 x1 x2 vs ds s) (i : Nat) (u y0 y1 y2 vs' : Value) (hc : (#[x0, x1, x2, vs] : Array Value).setIfInBounds i u = #[y0, y1, y2, vs']) (ho : Ownd wr (w.heap.size + 3) vs' ds) :
    OA w (wr.setCell ⟨w.heap.size + 2, i, none⟩ u) y0 y1 y2 vs' ds s := by
  have kb := Kb.set wr (w.heap.size + 2) i u none
  have hbig := h.big
  refine ⟨h.below.trans (kb.below (by omega) (fun g hg => by have := Option.some.inj hg; omega) (fun g hg => by cases hg)), Nat.le_trans hbig kb.size, h.res.kb kb (by simp) (by simp), h.rd.keep fun k hk => kb.block k (by omega) (by simp; omega) (by simp), ?_, ho.kb h.a (by decide) (by decide) kb⟩
  have := h.a.set i u
  rwa [hc] at this
theorem OA.set0 {w wr : World} {x0 x1 x2 vs : Value} {ds : List (List D.E)} {s : Option (List UInt8)} (h : OA w wr x0 x1 x2 vs ds s) (u : Value) : OA w (wr.setCell ⟨w.heap.size + 2, 0, none⟩ u) u x1 x2 vs ds s := h.set 0 u _ _ _ _ (by simp) h.own
theorem OA.set1 {w wr : World} {x0 x1 x2 vs : Value} {ds : List (List D.E)} {s : Option (List UInt8)} (h : OA w wr x0 x1 x2 vs ds s) (u : Value) : OA w (wr.setCell ⟨w.heap.size + 2, 1, none⟩ u) x0 u x2 vs ds s := h.set 1 u _ _ _ _ (by simp) h.own
theorem OA.set2 {w wr : World} {x0 x1 x2 vs : Value} {ds : List (List D.E)} {s : Option (List UInt8)} (h : OA w wr x0 x1 x2 vs ds s) (u : Value) : OA w (wr.setCell ⟨w.heap.size + 2, 2, none⟩ u) x0 x1 u vs ds s := h.set 2 u _ _ _ _ (by simp) h.own
theorem OA.grown {w wr w1 : World} {x0 x1 x2 vs v' : Value} {ds ds' : List (List D.E)} {s : Option (List UInt8)} (h : OA w wr x0 x1 x2 vs ds s) (hg : wr.grownBy w1 vs.ownBlock) (ho : Ownd w1 (w.heap.size + 3) v' ds') :
    Str w1 (w.heap.size + 2) 24 #[x0, x1, x2, vs] ∧ OA w (w1.setCell ⟨w.heap.size + 2, 3, none⟩ v') x0 x1 x2 v' ds' s := by
  have hbig := h.big
  have far : ∀ k, k < w.heap.size + 3 → w1.heap[k]? = wr.heap[k]? := fun k hk => hg.block k (by omega) (by
    intro e
    have := h.own.ownBlock e.symm
    omega)
  have hb : Below (w.heap.size + 3) wr w1 := ⟨hg.os, hg.tape, hg.output, hg.size, far⟩
  have ha : Str w1 (w.heap.size + 2) 24 #[x0, x1, x2, vs] := (far _ (by omega)).trans h.a
  have kb := Kb.set w1 (w.heap.size + 2) 3 v' none
  have hsz := hb.size
  have hres : Str w1 w.heap.size 24 noAsk := (far _ (by omega)).trans h.res
  refine ⟨ha, ⟨(h.below.trans (hb.mono (by omega))).trans (kb.below (by omega) (fun g hg => by have := Option.some.inj hg; omega) (fun g hg => by cases hg)), Nat.le_trans h.big (Nat.le_trans hb.size kb.size), hres.kb kb (by simp) (by simp), ?_, by simpa using ha.set 3 v', ho.kb ha (by decide) (by decide) kb⟩⟩
  refine h.rd.keep fun k hk => ?_
  rw [kb.block k (by omega) (by simp; omega) (by simp), far k (by omega)]

/-- Where its inner loop stands, begun in w0. -/
structure IA (w0 wr : World) (p : Nat) (ve : Value) (es : List D.E) (s : Option (List UInt8)) : Prop where
  kb : Kb w0 wr (some p) none
  lt : p < w0.heap.size
  big : w0.heap.size + 1 ≤ wr.heap.size
  d : Str wr w0.heap.size 42 #[ve]
  own : Owne wr (w0.heap.size + 1) 44 ve es
  rd : RS wr p s
theorem IA.later {w0 wr w1 : World} {p : Nat} {ve : Value} {es : List D.E} {s s' : Option (List UInt8)} (h : IA w0 wr p ve es s) (hk : Kb wr w1 (some p) none) (hr : RS w1 p s') : IA w0 w1 p ve es s' := by
  have hlt := h.lt
  obtain ⟨v, hs, _⟩ := h.rd.str
  exact ⟨h.kb.trans hk, hlt, Nat.le_trans h.big hk.size, h.d.kb hk (by simp; omega) (by simp), h.own.kb1 hs (by decide) hk, hr⟩
theorem IA.calm {w0 wr w1 : World} {p : Nat} {ve : Value} {es : List D.E} {s : Option (List UInt8)} (h : IA w0 wr p ve es s) (hb : Below wr.heap.size wr w1) : IA w0 w1 p ve es s :=
  ⟨h.kb.trans (Kb.of_below hb _ _), h.lt, Nat.le_trans h.big hb.size, h.d.below hb, h.own.below hb, h.rd.below hb⟩
theorem IA.grown {w0 wr w1 : World} {p : Nat} {ve v' : Value} {es es' : List D.E} {s : Option (List UInt8)} (h : IA w0 wr p ve es s) (hg : wr.grownBy w1 ve.ownBlock) (ho : Owne w1 (w0.heap.size + 1) 44 v' es') :
    Str w1 w0.heap.size 42 #[ve] ∧ IA w0 (w1.setCell ⟨w0.heap.size, 0, none⟩ v') p v' es' s := by
  have hbig := h.big
  have hlt := h.lt
  have far : ∀ k, k < w0.heap.size + 1 → w1.heap[k]? = wr.heap[k]? := fun k hk => hg.block k (by omega) (by
    intro e
    have := (h.own.ownBlock e.symm).2
    omega)
  have hb : Below (w0.heap.size + 1) wr w1 := ⟨hg.os, hg.tape, hg.output, hg.size, far⟩
  have hd : Str w1 w0.heap.size 42 #[ve] := (far _ (by omega)).trans h.d
  have kb := Kb.set w1 w0.heap.size 0 v' none
  have hsz := hb.size
  refine ⟨hd, ⟨⟨kb.os.trans (hb.os.trans h.kb.os), kb.tape.trans (hb.tape.trans h.kb.tape), kb.output.trans (hb.output.trans h.kb.output), Nat.le_trans h.kb.size (Nat.le_trans hb.size kb.size), fun k hk h1 h2 => ?_⟩, hlt, Nat.le_trans h.big (Nat.le_trans hb.size kb.size), hd.one v', ho.kb kb (ho.off hd (by decide)) (by cases hh : v'.ownBlock <;> simp), ?_⟩⟩
  · rw [kb.block k (by omega) (by simp; omega) (by simp), far k (by omega)]
    exact h.kb.block k hk h1 h2
  · refine h.rd.keep fun k hk => ?_
    rw [kb.block k (by omega) (by simp; omega) (by simp), far k (by omega)]

/-- What is known of the bytes, in the outer loop. -/
def OI (bs : List UInt8) (id : Int) (dom : List UInt8) (hs : Int) (n : Nat) (ds : List (List D.E)) (k : Nat) (s : Option (List UInt8)) : Prop :=
  (∀ rest, s = some rest → K.par bs = (K.descs (n - k) rest).map fun t => ((id, dom, hs, ds ++ t.1), t.2)) ∧ (s = none → K.par bs = none)
theorem OI.start (bs : List UInt8) {s0 : Option (List UInt8)} {o1 : Option (Nat × List UInt8)} {o2 : Option (List UInt8 × List UInt8)} {o3 o4 : Option (Nat × List UInt8)} (h0 : K.first bs = s0) (h1 : numS 2147483647 s0 = o1) (h2 : textS 64 (o1.map (·.2)) = o2) (h3 : numS 4294967295 (o2.map (·.2)) = o3) (h4 : numS 16 (o3.map (·.2)) = o4) :
    OI bs (nv o1 : Int) (tvl o2) (nv o3 : Int) (nv o4) [] 0 (o4.map (·.2)) := by
  cases s0 with
  | none => subst h1 h2 h3 h4; exact ⟨fun _ h => (by cases h), fun _ => K.par_bad0 h0⟩
  | some b0 =>
  cases o1 with
  | none => subst h2 h3 h4; exact ⟨fun _ h => (by cases h), fun _ => K.par_bad1 h0 h1⟩
  | some x1 =>
  obtain ⟨id, b1⟩ := x1
  cases o2 with
  | none => subst h3 h4; exact ⟨fun _ h => (by cases h), fun _ => K.par_bad2 h0 h1 h2⟩
  | some x2 =>
  obtain ⟨dom, b2⟩ := x2
  cases o3 with
  | none => subst h4; exact ⟨fun _ h => (by cases h), fun _ => K.par_bad3 h0 h1 h2 h3⟩
  | some x3 =>
  obtain ⟨hs, b3⟩ := x3
  cases o4 with
  | none => exact ⟨fun _ h => (by cases h), fun _ => K.par_bad4 h0 h1 h2 h3 h4⟩
  | some x4 =>
  obtain ⟨n, b4⟩ := x4
  refine ⟨fun rest h => ?_, fun h => by cases h⟩
  obtain rfl : b4 = rest := Option.some.inj h
  have := K.par_go h0 h1 h2 h3 h4
  simpa [nv, tvl] using this
theorem OI.more {bs : List UInt8} {id : Int} {dom : List UInt8} {hs : Int} {n k : Nat} {ds : List (List D.E)} {rest r1 : List UInt8} {d : List D.E} (h : OI bs id dom hs n ds k (some rest)) (hk : k < n) (hd : K.desc rest = some (d, r1)) : OI bs id dom hs n (ds ++ [d]) (k + 1) (some r1) := by
  refine ⟨fun r hr => ?_, fun h => by cases h⟩
  obtain rfl := Option.some.inj hr
  obtain ⟨m, hm⟩ : ∃ m, n - k = m + 1 := ⟨n - k - 1, by omega⟩
  have := h.1 rest rfl
  rw [hm, K.descs, hd] at this
  rw [this, show n - (k + 1) = m by omega]
  simp only [Option.bind_some, Option.map_map]
  congr 1
  funext t
  simp
theorem OI.bad {bs : List UInt8} {id : Int} {dom : List UInt8} {hs : Int} {n k : Nat} {ds ds' : List (List D.E)} {rest : List UInt8} (h : OI bs id dom hs n ds k (some rest)) (hk : k < n) (hd : K.desc rest = none) (k' : Nat) : OI bs id dom hs n ds' k' none := by
  refine ⟨fun r hr => (by cases hr), fun _ => ?_⟩
  obtain ⟨m, hm⟩ : ∃ m, n - k = m + 1 := ⟨n - k - 1, by omega⟩
  have := h.1 rest rfl
  rw [hm, K.descs, hd] at this
  rw [this]; rfl
theorem OI.over {bs : List UInt8} {id : Int} {dom : List UInt8} {hs : Int} {n k : Nat} {ds : List (List D.E)} {rest : List UInt8} (h : OI bs id dom hs n ds k (some rest)) (hk : n ≤ k) : K.par bs = some ((id, dom, hs, ds), rest) := by
  have := h.1 rest rfl
  rw [show n - k = 0 by omega] at this
  rw [this]
  simp [K.descs]
/-- What is known of the bytes, in the inner loop. -/
def II (rest : List UInt8) (m : Nat) (es : List D.E) (j : Nat) (s : Option (List UInt8)) : Prop := (∀ r, s = some r → K.At (K.desc rest) es (m - j) r) ∧ (s = none → K.desc rest = none)
theorem II.start (rest : List UInt8) {o : Option (Nat × List UInt8)} (h : numS 8 (some rest) = o) : II rest (nv o) [] 0 (o.map (·.2)) := by
  cases o with
  | none => exact ⟨fun _ h' => (by cases h'), fun _ => K.desc_bad h⟩
  | some x =>
    obtain ⟨m, r⟩ := x
    refine ⟨fun r' h' => ?_, fun h => by cases h⟩
    obtain rfl : r = r' := Option.some.inj h'
    exact K.At.start h
theorem II.more {rest r : List UInt8} {m j : Nat} {es : List D.E} (h : II rest m es j (some r)) (hj : j < m) {o1 o2 : Option (List UInt8 × List UInt8)} (h1 : textS 64 (some r) = o1) (h2 : textS 128 (o1.map (·.2)) = o2) : II rest m (es ++ [(tvl o1, tvl o2)]) (j + 1) (o2.map (·.2)) := by
  obtain ⟨q, hq⟩ : ∃ q, m - j = q + 1 := ⟨m - j - 1, by omega⟩
  have hat := h.1 r rfl
  rw [hq] at hat
  cases o1 with
  | none => subst h2; exact ⟨fun _ h => (by cases h), fun _ => hat.bad1 h1⟩
  | some x =>
    obtain ⟨key, r1⟩ := x
    cases o2 with
    | none => exact ⟨fun _ h => (by cases h), fun _ => hat.bad2 h1 h2⟩
    | some y =>
      obtain ⟨val, r2⟩ := y
      refine ⟨fun r' h' => ?_, fun h => by cases h⟩
      obtain rfl : r2 = r' := Option.some.inj h'
      rw [show m - (j + 1) = q by omega]
      exact hat.more h1 h2
theorem II.over {rest r : List UInt8} {m j : Nat} {es : List D.E} (h : II rest m es j (some r)) (hj : m ≤ j) : K.desc rest = some (es, r) := by
  have := h.1 r rfl
  rw [show m - j = 0 by omega] at this
  exact this.over
theorem nv_le {most : Nat} {s : Option (List UInt8)} {o : Option (Nat × List UInt8)} (h : numS most s = o) : nv o ≤ most := by
  cases o with
  | none => exact Nat.zero_le _
  | some x =>
    obtain ⟨v, r⟩ := x
    cases s with
    | none => cases h
    | some bs => exact (K.num_some h).2.1
theorem dec_of_par {bs : List UInt8} (h : K.par bs = none) : K.dec bs = none := by unfold K.dec; rw [h]; rfl
theorem dec_of_par2 {bs r : List UInt8} {a : K.A} (h : K.par bs = some (a, r)) : K.dec bs = if r = [] ∧ K.chk a = true then some a else none := by unfold K.dec; rw [h]; rfl
end Go.Proofs.Ythbmmnjpiflgdaa
