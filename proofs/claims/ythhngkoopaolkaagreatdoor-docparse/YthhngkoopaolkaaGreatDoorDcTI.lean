/- Where the document's own block stands: its piece, its keys and kids so far in rows of their own. -/
import Derived.Test.YthhngkoopaolkaaGreatDoorDcT
namespace Go.Proofs.YthhngkoopaolkaaGreatDoor
open Go.RowKit

abbrev bareT (y : DC.Nd) : Nv := (y, .slice none 0 0, .slice none 0 0)
/-- The document's own block, called at w, now at wr: the piece at P = w.heap.size, the reader, the keys and kids so far. -/
structure TbS (w0 w wr : World) (p : Nat) (nv lv nv' kv v : Value) (x : LX.Pc) (L : List LX.Pc) (t : Nat) (ns : List DC.Nd) (fk fl : Int) (S Sk : Nat → Prop) (ks : List LX.B) (is : List Nat) : Prop where
  rs : Rst w0 wr p lv L t nv' ns fk fl Sk
  kb : Kb w wr (some p) nv.ownBlock
  nr : Near w nv nv'
  fi : Str wr w.heap.size 110 (pc x)
  keys : Own wr w.heap.size 9 kv (sv ks)
  kids : Own wr w.heap.size 3 v (nats is)
  sub : ∀ g, Sk g → More S w wr g
  ak : ∀ g, kv.ownBlock = some g → ¬ Sk g
  ai : ∀ g, v.ownBlock = some g → ¬ Sk g
  gz : w0.heap.size ≤ w.heap.size
section
variable {w0 w wr : World} {p : Nat} {nv lv nv' kv v : Value} {x : LX.Pc} {L : List LX.Pc} {t : Nat} {ns : List DC.Nd} {fk fl : Int} {S Sk : Nat → Prop} {ks : List LX.B} {is : List Nat}
theorem TbS.start (h : Rst w0 w p lv L t nv ns fk fl S) (x : LX.Pc) : TbS w0 w ((w.alloc (.cells (pc x) 110)).drew) p nv lv nv (.slice none 0 0) (.slice none 0 0) x L t ns fk fl S S [] [] := by
  have b := below_trans (below_alloc w (.cells (pc x) 110)) (below_drew _)
  exact ⟨h.calm b, Kb.of_below b _ _, Near.refl _ _, (Str.new w 110 (pc x)).below (below_drew _), Own.nil _ _ _, Own.nil _ _ _, fun g hg => .inl hg, (by intro g h; cases h), (by intro g h; cases h), h.bl.size⟩
theorem TbS.calm (h : TbS w0 w wr p nv lv nv' kv v x L t ns fk fl S Sk ks is) {w' : World} (hb : Below wr.heap.size wr w') : TbS w0 w w' p nv lv nv' kv v x L t ns fk fl S Sk ks is :=
  ⟨h.rs.calm hb, h.kb.trans (Kb.of_below hb _ _), h.nr, h.fi.below hb, h.keys.below hb, h.kids.below hb, fun g hg => (h.sub g hg).imp id fun hg => ⟨hg.1, Nat.lt_of_lt_of_le hg.2 hb.size⟩, h.ak, h.ai, h.gz⟩
/-- The reader's own block, or its row of nodes, has turned; rows beyond may have been made. -/
theorem TbS.fed (h : TbS w0 w wr p nv lv nv' kv v x L t ns fk fl S Sk ks is) {w2 : World} {nv2 : Value} {t2 : Nat} {ns2 : List DC.Nd} {gk gl : Int} {S2 : Nat → Prop} (hk : Kb wr w2 (some p) nv'.ownBlock) (hp : Rst w0 w2 p lv L t2 nv2 ns2 gk gl S2) (hn : Near wr nv' nv2) (hs : ∀ g, S2 g → More Sk wr w2 g) :
    TbS w0 w w2 p nv lv nv2 kv v x L t2 ns2 gk gl S S2 ks is := by
  have hpf : p ≠ w.heap.size := h.rs.st.apart_str h.fi (by decide)
  refine ⟨hp, h.kb.near h.nr hk, h.nr.trans hn h.kb.size, h.fi.kb hk (fun e => hpf (Option.some.inj e).symm) ?_, h.keys.kb hk (h.keys.ne_str h.rs.st (by decide)) (h.keys.ne_nds h.rs.nd (by decide)).1, h.kids.kb hk (h.kids.ne_str h.rs.st (by decide)) (h.kids.ne_nds h.rs.nd (by decide)).1, fun g hg => ?_, fun g hg h2 => ?_, fun g hg h2 => ?_, h.gz⟩
  · intro e
    rcases h.rs.nd.off h.fi (by decide) with h1 | h1
    · rw [h1] at e; cases e
    · exact h1 e.symm
  · rcases hs g hg with hg | hg
    · rcases h.sub g hg with h1 | h1
      · exact .inl h1
      · exact .inr ⟨h1.1, Nat.lt_of_lt_of_le h1.2 hk.size⟩
    · exact .inr ⟨Nat.le_trans h.kb.size hg.1, hg.2⟩
  · rcases hs g h2 with h1 | h1
    · exact h.ak g hg h1
    · have := (h.keys.lt hg).2; omega
  · rcases hs g h2 with h1 | h1
    · exact h.ai g hg h1
    · have := (h.kids.lt hg).2; omega
theorem TbS.own_turn (h : TbS w0 w wr p nv lv nv' kv v x L t ns fk fl S Sk ks is) {w' : World} {u : Value} {e : TypeId} {xs : List Value} (hx : Own wr w.heap.size e u xs) (he1 : e ≠ 108) (he2 : e ≠ 52) (he3 : e ≠ 110) (hs : ∀ g, u.ownBlock = some g → ¬ Sk g) (hg : wr.grownBy w' u.ownBlock) :
    Rst w0 w' p lv L t nv' ns fk fl Sk ∧ Kb w w' (some p) nv.ownBlock ∧ Str w' w.heap.size 110 (pc x) := by
  have hkb := Kb.of_grown hg none
  have np : some p ≠ u.ownBlock := fun e1 => by
    rcases hx.ne_str h.rs.st (fun e => he1 e.symm) with h1 | h1
    · rw [h1] at e1; cases e1
    · exact h1 e1.symm
  have nf : some w.heap.size ≠ u.ownBlock := fun e1 => by
    rcases hx.ne_str h.fi (fun e => he3 e.symm) with h1 | h1
    · rw [h1] at e1; cases e1
    · exact h1 e1.symm
  exact ⟨h.rs.kb hkb (Far.none _ _) (Far.not hs) (by simp) np no_or (hx.ne_nds h.rs.nd he2).2 (by simp) (fun g hg => Nat.le_trans h.gz (hx.lt hg).1), h.kb.trans_new (q' := u.ownBlock) (Kb.of_grown hg _) (fun g hg => .inr (hx.lt hg).1), h.fi.kb hkb (by simp) nf⟩
theorem TbS.key (h : TbS w0 w wr p nv lv nv' kv v x L t ns fk fl S Sk ks is) {w' : World} {kv' : Value} {ks' : List LX.B} (hg : wr.grownBy w' kv.ownBlock) (ho : Own w' w.heap.size 9 kv' (sv ks')) (hn : Near wr kv kv') : TbS w0 w w' p nv lv nv' kv' v x L t ns fk fl S Sk ks' is := by
  obtain ⟨h1, h2, h3⟩ := h.own_turn h.keys (by decide) (by decide) (by decide) h.ak hg
  refine ⟨h1, h2, h.nr, h3, ho, h.kids.kb (Kb.of_grown hg none) no_or (h.kids.apart h.keys (by decide)), fun g hg' => (h.sub g hg').imp id fun h3 => ⟨h3.1, Nat.lt_of_lt_of_le h3.2 hg.size⟩, fun g hg' => ?_, h.ai, h.gz⟩
  rcases hn with hn | hn
  · exact h.ak g (by rw [← hn]; exact hg')
  · intro hs; have := hn g hg'; have := h.rs.sb g hs; omega
theorem TbS.kid (h : TbS w0 w wr p nv lv nv' kv v x L t ns fk fl S Sk ks is) {w' : World} {v' : Value} {is' : List Nat} (hg : wr.grownBy w' v.ownBlock) (ho : Own w' w.heap.size 3 v' (nats is')) (hn : Near wr v v') : TbS w0 w w' p nv lv nv' kv v' x L t ns fk fl S Sk ks is' := by
  obtain ⟨h1, h2, h3⟩ := h.own_turn h.kids (by decide) (by decide) (by decide) h.ai hg
  refine ⟨h1, h2, h.nr, h3, h.keys.kb (Kb.of_grown hg none) no_or (h.keys.apart h.kids (by decide)), ho, fun g hg' => (h.sub g hg').imp id fun h3 => ⟨h3.1, Nat.lt_of_lt_of_le h3.2 hg.size⟩, h.ak, fun g hg' => ?_, h.gz⟩
  rcases hn with hn | hn
  · exact h.ai g (by rw [← hn]; exact hg')
  · intro hs; have := hn g hg'; have := h.rs.sb g hs; omega
/-- One node more. -/
theorem TbS.push (h : TbS w0 w wr p nv lv nv' kv v x L t ns fk fl S Sk ks is) {vs : List Nv} (hvs : vs.map (·.1) = ns) (ho : Ownv wr w0.heap.size nv' vs) (hn : ∀ a ∈ vs, Nk wr w0.heap.size Sk a) {w1 : World} {nv2 : Value} {a : Nv} (hg : wr.grownBy w1 nv'.ownBlock) (ho' : Ownv w1 w0.heap.size nv2 (vs ++ [a])) (ha : Nk w1 w0.heap.size Sk a) (hnr : Near wr nv' nv2) :
    Str w1 p 108 #[lv, .int .i64 (t : Int), nv', .int .i64 fk, .int .i64 fl] ∧ TbS w0 w (w1.setCell ⟨p, 2, none⟩ nv2) p nv lv nv2 kv v x L t (ns ++ [a.1]) fk fl S Sk ks is := by
  subst hvs
  obtain ⟨s1, s2, s3⟩ := h.rs.push hn ho hg ho' ha
  exact ⟨s1, h.fed s3 s2 hnr fun g hg => .inl hg⟩
theorem TbS.rst (h : TbS w0 w wr p nv lv nv' kv v x L t ns fk fl S Sk ks is) (hS : ∀ g, S g → g < w.heap.size) : Rst w0 wr p lv L t nv' ns fk fl (More S w wr) :=
  h.rs.mono h.sub fun g hg => by
    rcases hg with hg | hg
    · exact Nat.lt_of_lt_of_le (hS g hg) h.kb.size
    · exact hg.2
end
end Go.Proofs.YthhngkoopaolkaaGreatDoor
