/- What the document's own DecodeTell stands on, round for round. -/
import Derived.Test.YtokmpfkmkhnopaaTlG
import Derived.Test.YtokmpfkmkhnopaaTlJ
import Derived.Test.YtokmpfkmkhnopaaAkY
namespace Go.Proofs.Ytokmpfkmkhnopaa
open Go.RowKit

/-- Where DecodeTell stands. -/
structure OT (w wr : World) (x0 x1 x2 vs vh : Value) (ss : List TL.S) (hs : List D.E) (s : Option (List UInt8)) : Prop where
  below : Below w.heap.size w wr
  big : w.heap.size + 3 ≤ wr.heap.size
  res : Str wr w.heap.size 25 noTell
  rd : RS wr (w.heap.size + 1) s
  a : Str wr (w.heap.size + 2) 25 #[x0, x1, x2, vs, vh]
  own : Ownt wr (w.heap.size + 3) vs vh ss hs
theorem OT.later {w wr w1 : World} {x0 x1 x2 vs vh : Value} {ss : List TL.S} {hs : List D.E} {s s' : Option (List UInt8)} (h : OT w wr x0 x1 x2 vs vh ss hs s) (hk : Kb wr w1 (some (w.heap.size + 1)) none) (hr : RS w1 (w.heap.size + 1) s') : OT w w1 x0 x1 x2 vs vh ss hs s' := by
  have hbig := h.big
  obtain ⟨v, hs', _⟩ := h.rd.str
  exact ⟨h.below.trans (hk.below (by omega) (fun g hg => by have := Option.some.inj hg; omega) (fun g hg => by cases hg)), Nat.le_trans h.big hk.size, h.res.kb hk (by simp) (by simp), hr, h.a.kb hk (by simp) (by simp), h.own.kb hs' (by decide) (by decide) hk⟩
theorem OT.calm {w wr w1 : World} {x0 x1 x2 vs vh : Value} {ss : List TL.S} {hs : List D.E} {s : Option (List UInt8)} (h : OT w wr x0 x1 x2 vs vh ss hs s) (hb : Below wr.heap.size wr w1) : OT w w1 x0 x1 x2 vs vh ss hs s :=
  ⟨below_trans h.below hb, Nat.le_trans h.big hb.size, h.res.below hb, h.rd.below hb, h.a.below hb, h.own.below hb⟩
theorem OT.set {w wr : World} {x0 x1 x2 vs vh : Value} {ss : List TL.S} {hs : List D.E} {s : Option (List UInt8)} (h : OT w wr x0 x1 x2 vs vh ss hs s) (i : Nat) (u y0 y1 y2 : Value) (hc : (#[x0, x1, x2, vs, vh] : Array Value).setIfInBounds i u = #[y0, y1, y2, vs, vh]) :
    OT w (wr.setCell ⟨w.heap.size + 2, i, none⟩ u) y0 y1 y2 vs vh ss hs s := by
  have kb := Kb.set wr (w.heap.size + 2) i u none
  have hbig := h.big
  refine ⟨h.below.trans (kb.below (by omega) (fun g hg => by have := Option.some.inj hg; omega) (fun g hg => by cases hg)), Nat.le_trans hbig kb.size, h.res.kb kb (by simp) (by simp), h.rd.keep fun k hk => kb.block k (by omega) (by simp; omega) (by simp), ?_, h.own.kb h.a (by decide) (by decide) kb⟩
  have := h.a.set i u
  rwa [hc] at this
theorem OT.grown {w wr w1 : World} {x0 x1 x2 vs vh : Value} {ss : List TL.S} {hs : List D.E} {s : Option (List UInt8)} (h : OT w wr x0 x1 x2 vs vh ss hs s) {v : Value} (hv : v = vs ∨ v = vh) (hg : wr.grownBy w1 v.ownBlock) {i : Nat} {u vs' vh' : Value} {ss' : List TL.S} {hs' : List D.E} (ho : Ownt w1 (w.heap.size + 3) vs' vh' ss' hs') (hc : (#[x0, x1, x2, vs, vh] : Array Value).setIfInBounds i u = #[x0, x1, x2, vs', vh']) :
    Str w1 (w.heap.size + 2) 25 #[x0, x1, x2, vs, vh] ∧ OT w (w1.setCell ⟨w.heap.size + 2, i, none⟩ u) x0 x1 x2 vs' vh' ss' hs' s := by
  have hbig := h.big
  have far : ∀ k, k < w.heap.size + 3 → w1.heap[k]? = wr.heap[k]? := fun k hk => hg.block k (by omega) (by
    intro e
    rcases hv with rfl | rfl
    · have := (h.own.s.ownBlock e.symm).2
      omega
    · have := (h.own.h.ownBlock e.symm).2
      omega)
  have hb : Below (w.heap.size + 3) wr w1 := ⟨hg.os, hg.tape, hg.output, hg.size, far⟩
  have ha : Str w1 (w.heap.size + 2) 25 #[x0, x1, x2, vs, vh] := (far _ (by omega)).trans h.a
  have kb := Kb.set w1 (w.heap.size + 2) i u none
  have hsz := hb.size
  have hres : Str w1 w.heap.size 25 noTell := (far _ (by omega)).trans h.res
  refine ⟨ha, ⟨(h.below.trans (hb.mono (by omega))).trans (kb.below (by omega) (fun g hg => by have := Option.some.inj hg; omega) (fun g hg => by cases hg)), Nat.le_trans h.big (Nat.le_trans hb.size kb.size), hres.kb kb (by simp) (by simp), ?_, ?_, ho.kb ha (by decide) (by decide) kb⟩⟩
  · refine h.rd.keep fun k hk => ?_
    rw [kb.block k (by omega) (by simp; omega) (by simp), far k (by omega)]
  · have := ha.set i u
    rwa [hc] at this
theorem OT.grownS {w wr w1 : World} {x0 x1 x2 vs vh vs' : Value} {ss ss' : List TL.S} {hs : List D.E} {s : Option (List UInt8)} (h : OT w wr x0 x1 x2 vs vh ss hs s) (hg : wr.grownBy w1 vs.ownBlock) (ho : Owns w1 (w.heap.size + 3) 41 vs' ss') :
    Str w1 (w.heap.size + 2) 25 #[x0, x1, x2, vs, vh] ∧ OT w (w1.setCell ⟨w.heap.size + 2, 3, none⟩ vs') x0 x1 x2 vs' vh ss' hs s := h.grown (.inl rfl) hg (h.own.grownS hg ho) (by simp)
theorem OT.grownH {w wr w1 : World} {x0 x1 x2 vs vh vh' : Value} {ss : List TL.S} {hs hs' : List D.E} {s : Option (List UInt8)} (h : OT w wr x0 x1 x2 vs vh ss hs s) (hg : wr.grownBy w1 vh.ownBlock) (ho : Owne w1 (w.heap.size + 3) 39 vh' hs') :
    Str w1 (w.heap.size + 2) 25 #[x0, x1, x2, vs, vh] ∧ OT w (w1.setCell ⟨w.heap.size + 2, 4, none⟩ vh') x0 x1 x2 vs vh' ss hs' s := h.grown (.inr rfl) hg (h.own.grownH hg ho) (by simp)
theorem OT.start {w w1 : World} {s : Option (List UInt8)} (hb : Begun (w.alloc (.cells noTell 25)) s (.returned (.pointer (some ⟨w.heap.size + 1, 0, none⟩))) w1) : OT w (w1.alloc (.cells noTell 25)) (.int .i64 0) (.int .i64 0) (.bool false) (.slice none 0 0) (.slice none 0 0) [] [] s := by
  obtain ⟨_, h2, h3, h4⟩ := hb
  rw [box_size] at h2 h4
  have B0 := below_alloc w (.cells noTell 25)
  have B2 := below_alloc w1 (.cells noTell 25)
  refine ⟨below_trans (below_trans B0 h3) B2, by rw [box_size]; omega, ((Str.new w _ _).below h3).below B2, h2.below B2, ?_, Ownt.nil _ _⟩
  have := Str.new w1 25 noTell
  rwa [h4] at this

/-- A status that is being read, begun in w0. -/
structure IT (w0 wr : World) (p : Nat) (cs : Array Value) (s : Option (List UInt8)) : Prop where
  kb : Kb w0 wr (some p) none
  lt : p < w0.heap.size
  big : w0.heap.size + 1 ≤ wr.heap.size
  st : Str wr w0.heap.size 41 cs
  rd : RS wr p s
theorem IT.later {w0 wr w1 : World} {p : Nat} {cs : Array Value} {s s' : Option (List UInt8)} (h : IT w0 wr p cs s) (hk : Kb wr w1 (some p) none) (hr : RS w1 p s') : IT w0 w1 p cs s' := by
  have hlt := h.lt
  exact ⟨h.kb.trans hk, hlt, Nat.le_trans h.big hk.size, h.st.kb hk (by simp; omega) (by simp), hr⟩
theorem IT.set {w0 wr : World} {p : Nat} {cs cs' : Array Value} {s : Option (List UInt8)} (h : IT w0 wr p cs s) (i : Nat) (u : Value) (hc : cs.setIfInBounds i u = cs') : IT w0 (wr.setCell ⟨w0.heap.size, i, none⟩ u) p cs' s := by
  subst hc
  have kb := Kb.set wr w0.heap.size i u none
  have hlt := h.lt
  have hbig := h.big
  exact ⟨⟨kb.os.trans h.kb.os, kb.tape.trans h.kb.tape, kb.output.trans h.kb.output, Nat.le_trans h.kb.size kb.size, fun k hk h1 h2 => (kb.block k (by omega) (by simp; omega) (by simp)).trans (h.kb.block k hk h1 h2)⟩, hlt, Nat.le_trans hbig kb.size, h.st.set i u, h.rd.keep fun k hk => kb.block k (by omega) (by simp; omega) (by simp)⟩

/-- What is known of the bytes, in the first loop. -/
def OI1 (bs : List UInt8) (tl : List TL.S × List UInt8 → Option (TL.T × List UInt8)) (n : Nat) (ss : List TL.S) (k : Nat) (s : Option (List UInt8)) : Prop :=
  ∃ o, TL.par bs = o.bind tl ∧ (∀ rest, s = some rest → TL.Am TL.stat o ss (n - k) rest) ∧ (s = none → o = none)
theorem OI1.more {bs : List UInt8} {tl : List TL.S × List UInt8 → Option (TL.T × List UInt8)} {n k : Nat} {ss : List TL.S} {rest : List UInt8} {x : TL.S} {s' : Option (List UInt8)} (h : OI1 bs tl n ss k (some rest)) (hk : k < n) (h1 : ∀ r, s' = some r → TL.stat rest = some (x, r)) (h2 : s' = none → TL.stat rest = none) : OI1 bs tl n (ss ++ [x]) (k + 1) s' := by
  obtain ⟨o, hp, ha, _⟩ := h
  obtain ⟨m, hm⟩ : ∃ m, n - k = m + 1 := ⟨n - k - 1, by omega⟩
  have hat := ha rest rfl
  rw [hm] at hat
  refine ⟨o, hp, fun r hr => ?_, fun hn => hat.bad (h2 hn)⟩
  rw [show n - (k + 1) = m by omega]
  exact hat.more (h1 r hr)
theorem OI1.over {bs : List UInt8} {tl : List TL.S × List UInt8 → Option (TL.T × List UInt8)} {n k : Nat} {ss : List TL.S} {rest : List UInt8} (h : OI1 bs tl n ss k (some rest)) (hk : n ≤ k) : TL.par bs = tl (ss, rest) := by
  obtain ⟨o, hp, ha, _⟩ := h
  have hat := ha rest rfl
  rw [show n - k = 0 by omega] at hat
  rw [hp, hat.over]; rfl
theorem OI1.gone {bs : List UInt8} {tl : List TL.S × List UInt8 → Option (TL.T × List UInt8)} {n k : Nat} {ss : List TL.S} (h : OI1 bs tl n ss k none) : TL.par bs = none := by
  obtain ⟨o, hp, _, hn⟩ := h
  rw [hp, hn rfl]; rfl
theorem OI1.start (bs : List UInt8) {s0 : Option (List UInt8)} {o1 o2 o3 o4 : Option (Nat × List UInt8)} (h0 : K.firstOf 2 bs = s0) (h1 : numS 2147483647 s0 = o1) (h2 : numS 2 (o1.map (·.2)) = o2) (h3 : numS 1 (o2.map (·.2)) = o3) (h4 : numS 16 (o3.map (·.2)) = o4) :
    OI1 bs (TL.tail (nv o1 : Int) (nv o2 : Int) (decide (nv o3 = 1))) (nv o4) [] 0 (o4.map (·.2)) := by
  cases s0 with
  | none => subst h1 h2 h3 h4; exact ⟨none, TL.par_bad0 h0, fun _ h => (by cases h), fun _ => rfl⟩
  | some b0 =>
  cases o1 with
  | none => subst h2 h3 h4; exact ⟨none, TL.par_bad1 h0 h1, fun _ h => (by cases h), fun _ => rfl⟩
  | some x1 =>
  obtain ⟨id, b1⟩ := x1
  cases o2 with
  | none => subst h3 h4; exact ⟨none, TL.par_bad2 h0 h1 h2, fun _ h => (by cases h), fun _ => rfl⟩
  | some x2 =>
  obtain ⟨code, b2⟩ := x2
  cases o3 with
  | none => subst h4; exact ⟨none, TL.par_bad3 h0 h1 h2 h3, fun _ h => (by cases h), fun _ => rfl⟩
  | some x3 =>
  obtain ⟨f, b3⟩ := x3
  cases o4 with
  | none => exact ⟨none, TL.par_bad4 h0 h1 h2 h3 h4, fun _ h => (by cases h), fun _ => rfl⟩
  | some x4 =>
  obtain ⟨n, b4⟩ := x4
  refine ⟨_, TL.par_go h0 h1 h2 h3 h4, fun rest h => ?_, fun h => by cases h⟩
  obtain rfl : b4 = rest := Option.some.inj h
  exact TL.Am.start _ n b4
/-- What is known of the bytes, in the second loop. -/
def OI2 (bs : List UInt8) (id code : Int) (full : Bool) (ss : List TL.S) (m : Nat) (hs : List D.E) (k : Nat) (s : Option (List UInt8)) : Prop :=
  ∃ o, TL.par bs = o.map (fun h : List D.E × List UInt8 => ((id, code, full, ss, h.1), h.2)) ∧ (∀ rest, s = some rest → TL.Am TL.hd o hs (m - k) rest) ∧ (s = none → o = none)
theorem OI2.more {bs : List UInt8} {id code : Int} {full : Bool} {ss : List TL.S} {m k : Nat} {hs : List D.E} {rest : List UInt8} {x : D.E} {s' : Option (List UInt8)} (h : OI2 bs id code full ss m hs k (some rest)) (hk : k < m) (h1 : ∀ r, s' = some r → TL.hd rest = some (x, r)) (h2 : s' = none → TL.hd rest = none) : OI2 bs id code full ss m (hs ++ [x]) (k + 1) s' := by
  obtain ⟨o, hp, ha, _⟩ := h
  obtain ⟨q, hq⟩ : ∃ q, m - k = q + 1 := ⟨m - k - 1, by omega⟩
  have hat := ha rest rfl
  rw [hq] at hat
  refine ⟨o, hp, fun r hr => ?_, fun hn => hat.bad (h2 hn)⟩
  rw [show m - (k + 1) = q by omega]
  exact hat.more (h1 r hr)
theorem OI2.over {bs : List UInt8} {id code : Int} {full : Bool} {ss : List TL.S} {m k : Nat} {hs : List D.E} {rest : List UInt8} (h : OI2 bs id code full ss m hs k (some rest)) (hk : m ≤ k) : TL.par bs = some ((id, code, full, ss, hs), rest) := by
  obtain ⟨o, hp, ha, _⟩ := h
  have hat := ha rest rfl
  rw [show m - k = 0 by omega] at hat
  rw [hp, hat.over]; rfl
theorem OI2.gone {bs : List UInt8} {id code : Int} {full : Bool} {ss : List TL.S} {m k : Nat} {hs : List D.E} (h : OI2 bs id code full ss m hs k none) : TL.par bs = none := by
  obtain ⟨o, hp, _, hn⟩ := h
  rw [hp, hn rfl]; rfl
theorem OI2.start {bs : List UInt8} {id code : Int} {full : Bool} {n k : Nat} {ss : List TL.S} {s : Option (List UInt8)} (h : OI1 bs (TL.tail id code full) n ss k s) (hk : ∀ rest, s = some rest → n ≤ k) {o : Option (Nat × List UInt8)} (ho : numS 4 s = o) : OI2 bs id code full ss (nv o) [] 0 (o.map (·.2)) := by
  cases s with
  | none =>
    subst ho
    exact ⟨none, h.gone, fun _ h => (by cases h), fun _ => rfl⟩
  | some rest =>
    have hp := h.over (hk rest rfl)
    cases o with
    | none => exact ⟨none, hp.trans (TL.tail_bad ho), fun _ h => (by cases h), fun _ => rfl⟩
    | some x =>
      obtain ⟨m, r⟩ := x
      refine ⟨_, hp.trans (TL.tail_go ho), fun r' h' => ?_, fun h => by cases h⟩
      obtain rfl : r = r' := Option.some.inj h'
      exact TL.Am.start _ m r

/-- What a call of the reader's num hands over. -/
def NumIs (p : Nat) (x : World) (v : Nat) (s : Option (List UInt8)) (e : Ending) (w' : World) : Prop := e = .returned (.int .i64 (v : Int)) ∧ RS w' p s ∧ Kb x w' (some p) none
def TextIs (p : Nat) (x : World) (v : List UInt8) (s : Option (List UInt8)) (e : Ending) (w' : World) : Prop := e = .returned (.string ⟨v.toArray⟩) ∧ RS w' p s ∧ Kb x w' (some p) none
/-- What the bytes begin with, in letters. -/
theorem tbegin_letters (bs : List UInt8) : ∃ (s0 s1 s2 s3 s4 : Option (List UInt8)) (id code f n : Nat), K.firstOf 2 bs = s0 ∧ n ≤ 16 ∧ OI1 bs (TL.tail (id : Int) (code : Int) (decide (f = 1))) n [] 0 s4 ∧
    (∀ p x, RS x p s0 → Calls Try.prog 42 #[.pointer (some ⟨p, 0, none⟩), .int .i64 2147483647] x (NumIs p x id s1)) ∧
    (∀ p x, RS x p s1 → Calls Try.prog 42 #[.pointer (some ⟨p, 0, none⟩), .int .i64 2] x (NumIs p x code s2)) ∧
    (∀ p x, RS x p s2 → Calls Try.prog 42 #[.pointer (some ⟨p, 0, none⟩), .int .i64 1] x (NumIs p x f s3)) ∧
    (∀ p x, RS x p s3 → Calls Try.prog 42 #[.pointer (some ⟨p, 0, none⟩), .int .i64 16] x (NumIs p x n s4)) := by
  refine ⟨_, _, _, _, _, _, _, _, _, rfl, nv_le (o := numS 16 _) rfl, OI1.start bs rfl rfl rfl rfl rfl, fun p x hx => rrnumE (by decide) rfl rfl rfl x hx, fun p x hx => rrnumE (by decide) rfl rfl rfl x hx, fun p x hx => rrnumE (by decide) rfl rfl rfl x hx, fun p x hx => rrnumE (by decide) rfl rfl rfl x hx⟩
theorem stat_of (rest : List UInt8) {o1 o2 o3 o4 o5 : Option (Nat × List UInt8)} (h1 : numS 2 (some rest) = o1) (h2 : numS 4294967295 (o1.map (·.2)) = o2) (h3 : numS 4 (o2.map (·.2)) = o3) (h4 : numS 4294967295 (o3.map (·.2)) = o4) (h5 : numS 86400 (o4.map (·.2)) = o5) :
    (∀ r, o5.map (·.2) = some r → TL.stat rest = some (((nv o1 : Int), (nv o2 : Int), (nv o3 : Int), (nv o4 : Int), (nv o5 : Int)), r)) ∧ (o5.map (·.2) = none → TL.stat rest = none) := by
  cases o1 with
  | none => subst h2 h3 h4 h5; exact ⟨fun _ h => (by cases h), fun _ => TL.stat_bad1 h1⟩
  | some x1 =>
  obtain ⟨a, b1⟩ := x1
  cases o2 with
  | none => subst h3 h4 h5; exact ⟨fun _ h => (by cases h), fun _ => TL.stat_bad2 h1 h2⟩
  | some x2 =>
  obtain ⟨b, b2⟩ := x2
  cases o3 with
  | none => subst h4 h5; exact ⟨fun _ h => (by cases h), fun _ => TL.stat_bad3 h1 h2 h3⟩
  | some x3 =>
  obtain ⟨c, b3⟩ := x3
  cases o4 with
  | none => subst h5; exact ⟨fun _ h => (by cases h), fun _ => TL.stat_bad4 h1 h2 h3 h4⟩
  | some x4 =>
  obtain ⟨d, b4⟩ := x4
  cases o5 with
  | none => exact ⟨fun _ h => (by cases h), fun _ => TL.stat_bad5 h1 h2 h3 h4 h5⟩
  | some x5 =>
  obtain ⟨e, b5⟩ := x5
  refine ⟨fun r h => ?_, fun h => by cases h⟩
  obtain rfl : b5 = r := Option.some.inj h
  exact TL.stat_go h1 h2 h3 h4 h5
/-- A status, in letters. -/
theorem tstat_letters (rest : List UInt8) : ∃ (s1 s2 s3 s4 s5 : Option (List UInt8)) (a b c d e : Nat), (∀ r, s5 = some r → TL.stat rest = some (((a : Int), (b : Int), (c : Int), (d : Int), (e : Int)), r)) ∧ (s5 = none → TL.stat rest = none) ∧
    (∀ p x, RS x p (some rest) → Calls Try.prog 42 #[.pointer (some ⟨p, 0, none⟩), .int .i64 2] x (NumIs p x a s1)) ∧
    (∀ p x, RS x p s1 → Calls Try.prog 42 #[.pointer (some ⟨p, 0, none⟩), .int .i64 4294967295] x (NumIs p x b s2)) ∧
    (∀ p x, RS x p s2 → Calls Try.prog 42 #[.pointer (some ⟨p, 0, none⟩), .int .i64 4] x (NumIs p x c s3)) ∧
    (∀ p x, RS x p s3 → Calls Try.prog 42 #[.pointer (some ⟨p, 0, none⟩), .int .i64 4294967295] x (NumIs p x d s4)) ∧
    (∀ p x, RS x p s4 → Calls Try.prog 42 #[.pointer (some ⟨p, 0, none⟩), .int .i64 86400] x (NumIs p x e s5)) := by
  have h := stat_of rest rfl rfl rfl rfl rfl
  exact ⟨_, _, _, _, _, _, _, _, _, _, h.1, h.2, fun p x hx => rrnumE (by decide) rfl rfl rfl x hx, fun p x hx => rrnumE (by decide) rfl rfl rfl x hx, fun p x hx => rrnumE (by decide) rfl rfl rfl x hx, fun p x hx => rrnumE (by decide) rfl rfl rfl x hx, fun p x hx => rrnumE (by decide) rfl rfl rfl x hx⟩
theorem hd_of (rest : List UInt8) {o1 o2 : Option (List UInt8 × List UInt8)} (h1 : textS 64 (some rest) = o1) (h2 : textS 400 (o1.map (·.2)) = o2) :
    (∀ r, o2.map (·.2) = some r → TL.hd rest = some ((tvl o1, tvl o2), r)) ∧ (o2.map (·.2) = none → TL.hd rest = none) := by
  cases o1 with
  | none => subst h2; exact ⟨fun _ h => (by cases h), fun _ => TL.hd_bad1 h1⟩
  | some x1 =>
  obtain ⟨a, b1⟩ := x1
  cases o2 with
  | none => exact ⟨fun _ h => (by cases h), fun _ => TL.hd_bad2 h1 h2⟩
  | some x2 =>
  obtain ⟨b, b2⟩ := x2
  refine ⟨fun r h => ?_, fun h => by cases h⟩
  obtain rfl : b2 = r := Option.some.inj h
  exact TL.hd_go h1 h2
/-- A header, in letters. -/
theorem thd_letters (rest : List UInt8) : ∃ (s1 s2 : Option (List UInt8)) (key val : List UInt8), (∀ r, s2 = some r → TL.hd rest = some ((key, val), r)) ∧ (s2 = none → TL.hd rest = none) ∧
    (∀ p x, RS x p (some rest) → Calls Try.prog 43 #[.pointer (some ⟨p, 0, none⟩), .int .i64 64] x (TextIs p x key s1)) ∧
    (∀ p x, RS x p s1 → Calls Try.prog 43 #[.pointer (some ⟨p, 0, none⟩), .int .i64 400] x (TextIs p x val s2)) := by
  have h := hd_of rest rfl rfl
  exact ⟨_, _, _, _, h.1, h.2, fun p x hx => rrtextE (by decide) rfl rfl rfl x hx, fun p x hx => rrtextE (by decide) rfl rfl rfl x hx⟩
/-- How many headers, in letters. -/
theorem tmid_letters {bs : List UInt8} {id code : Int} {full : Bool} {n k : Nat} {ss : List TL.S} {s : Option (List UInt8)} (h : OI1 bs (TL.tail id code full) n ss k s) (hk : ∀ rest, s = some rest → n ≤ k) : ∃ (s' : Option (List UInt8)) (m : Nat), m ≤ 4 ∧ OI2 bs id code full ss m [] 0 s' ∧
    (∀ p x, RS x p s → Calls Try.prog 42 #[.pointer (some ⟨p, 0, none⟩), .int .i64 4] x (NumIs p x m s')) :=
  ⟨_, _, nv_le (o := numS 4 _) rfl, OI2.start h hk rfl, fun p x hx => rrnumE (by decide) rfl rfl rfl x hx⟩

/-- The result, laid: nothing. -/
theorem tnone_laid {w wr : World} {x0 x1 x2 vs vh : Value} {ss : List TL.S} {hs : List D.E} {s : Option (List UInt8)} (h : OT w wr x0 x1 x2 vs vh ss hs s) : Str (five wr w.heap.size (.int .i64 0) (.int .i64 0) (.bool false) (.slice none 0 0) (.slice none 0 0)) w.heap.size 25 noTell ∧ Below w.heap.size w (five wr w.heap.size (.int .i64 0) (.int .i64 0) (.bool false) (.slice none 0 0) (.slice none 0 0)) := by
  have hbig := h.big
  have kb := Kb.five wr w.heap.size (.int .i64 0) (.int .i64 0) (.bool false) (.slice none 0 0) (.slice none 0 0) none
  exact ⟨h.res.five _ _ _ _ _, h.below.trans (kb.below (by omega) (fun g hg => by have := Option.some.inj hg; omega) (fun g hg => by cases hg))⟩
theorem tsome_laid {w wr : World} {x0 x1 x2 vs vh : Value} {ss : List TL.S} {hs : List D.E} {s : Option (List UInt8)} (h : OT w wr x0 x1 x2 vs vh ss hs s) : Str (five wr w.heap.size x0 x1 x2 vs vh) w.heap.size 25 #[x0, x1, x2, vs, vh] ∧ Below w.heap.size w (five wr w.heap.size x0 x1 x2 vs vh) ∧ Rdt (five wr w.heap.size x0 x1 x2 vs vh) vs vh ss hs := by
  have hbig := h.big
  have kb := Kb.five wr w.heap.size x0 x1 x2 vs vh none
  exact ⟨h.res.five _ _ _ _ _, h.below.trans (kb.below (by omega) (fun g hg => by have := Option.some.inj hg; omega) (fun g hg => by cases hg)), (h.own.kb h.res (by decide) (by decide) kb).rd⟩
end Go.Proofs.Ytokmpfkmkhnopaa
