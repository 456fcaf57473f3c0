/- A part of the proof. -/
import Derived.Test.YtgfhabofhefaaaaGreatDoorSB37
import Derived.Test.YtgfhabofhefaaaaGreatDoorSB19
import Derived.Lib.AppendStr
import Derived.Test.YtgfhabofhefaaaaGreatDoorSB13
import Derived.Deep.AppendLies
import Derived.Deep.RegionLaw
import Derived.Deep.LoopGhost
import Derived.Test.YtgfhabofhefaaaaGreatDoorSB03
import Derived.Test.YtgfhabofhefaaaaGreatDoorSB24
import Derived.BigQuiet
import Derived.BigRegion
import Derived.Deep.DeepCutAuto
import Derived.Deep.CutBlock
namespace Go.Proofs.YtgfhabofhefaaaaGreatDoor
open Go.RowKit
def Kt (wa w : World) (p : Nat) : Prop := ∀ g cs T, wa.heap[g]? = some (.cells cs T (0, 0)) → g ≠ p → T ≠ 5 → w.heap[g]? = some (.cells cs T (0, 0))
theorem Kt.refl (w : World) (p : Nat) : Kt w w p := fun _ _ _ h _ _ => h
theorem Kt.trans {a b c : World} {p : Nat} (h : Kt a b p) (k : Kt b c p) : Kt a c p := fun g cs T h1 h2 h3 => k g cs T (h g cs T h1 h2 h3) h2 h3
theorem Kt.calm {a w w' : World} {p : Nat} (h : Kt a w p) (hb : Below w.heap.size w w') : Kt a w' p := fun g cs T h1 h2 h3 => by
  have := h g cs T h1 h2 h3
  exact (hb.block g (Array.getElem?_eq_some_iff.1 this).1).trans this
theorem Kt.str {a w : World} {p g : Nat} {T : TypeId} {cs : Array Value} (h : Kt a w p) (hs : Str a g T cs) (h1 : g ≠ p) (h2 : T ≠ 5) : Str w g T cs := h g cs T hs h1 h2
structure Wrs (w0 wa w : World) (p : Nat) (v ov : Value) (bs : List UInt8) : Prop where
  bl : Below w0.heap.size w0 w
  lo : w0.heap.size ≤ p
  kt : Kt wa w p
  st : Str w p 75 #[v, ov]
  own : Own w w0.heap.size 5 ov (bv bs)
theorem Wrs.off {w0 wa w : World} {p : Nat} {v ov : Value} {bs : List UInt8} (h : Wrs w0 wa w p v ov bs) : ov.ownBlock = none ∨ ov.ownBlock ≠ some p := .inr (h.st.apart h.own (by decide))
theorem Wrs.size {w0 wa w : World} {p : Nat} {v ov : Value} {bs : List UInt8} (h : Wrs w0 wa w p v ov bs) : w0.heap.size ≤ w.heap.size := h.bl.size
theorem Wrs.calm {w0 wa w w' : World} {p : Nat} {v ov : Value} {bs : List UInt8} (h : Wrs w0 wa w p v ov bs) (hb : Below w.heap.size w w') : Wrs w0 wa w' p v ov bs :=
  ⟨h.bl.trans (hb.mono h.bl.size), h.lo, h.kt.calm hb, h.st.below hb, h.own.below hb⟩
theorem Wrs.here {w0 wa w : World} {p : Nat} {v ov : Value} {bs : List UInt8} (h : Wrs w0 wa w p v ov bs) : Wrs w0 w w p v ov bs := ⟨h.bl, h.lo, Kt.refl _ _, h.st, h.own⟩
theorem Wrs.back {w0 wa wb w : World} {p : Nat} {v ov : Value} {bs : List UInt8} (h : Wrs w0 wb w p v ov bs) (k : Kt wa wb p) : Wrs w0 wa w p v ov bs := ⟨h.bl, h.lo, k.trans h.kt, h.st, h.own⟩
theorem Wrs.grown {w0 wa w w1 : World} {p : Nat} {v ov ov' : Value} {bs bs' : List UInt8} (h : Wrs w0 wa w p v ov bs) (hg : w.grownBy w1 ov.ownBlock) (ho : Own w1 w0.heap.size 5 ov' (bv bs')) :
    Str w1 p 75 #[v, ov] ∧ Wrs w0 wa (w1.setCell ⟨p, 1, none⟩ ov') p v ov' bs' := by
  have hs1 : Str w1 p 75 #[v, ov] := h.st.kb (Kb.of_grown hg none) (by simp) (by
    rcases h.off with h1 | h1
    · rw [h1]; simp
    · exact fun e => h1 e.symm)
  have kb := Kb.set w1 p 1 ov' none
  have hb : Below w0.heap.size w0 w1 := h.bl.trans (below_of_grown h.own hg h.size)
  refine ⟨hs1, ⟨hb.trans (kb.below hb.size (by intro g e; cases e; exact h.lo) (by simp)), h.lo, ?_, by simpa using hs1.set 1 ov', ho.kb kb (.inr (hs1.apart ho (by decide))) no_or⟩⟩
  intro g cs T h1 h2 h3
  have k := h.kt g cs T h1 h2 h3
  have k1 : w1.heap[g]? = some (.cells cs T (0, 0)) := (hg.block g (Array.getElem?_eq_some_iff.1 k).1 (by
    intro e
    obtain ⟨c, hc⟩ := h.own.block e.symm
    rw [hc] at k
    simp at k
    exact h3 k.2.symm)).trans k
  exact (kb.block g (Array.getElem?_eq_some_iff.1 k1).1 (by intro e; exact h2 (Option.some.inj e)) (by simp)).trans k1
end Go.Proofs.YtgfhabofhefaaaaGreatDoor
namespace Go.Proofs.YtgfhabofhefaaaaGreatDoor
open Go.RowKit
theorem step_append_turned {P : Program} {w : World} {ops : Array Oper} {o : Oper} {a : Act} {K : Act → World → Prop} {Q : Exit → Act → World → Prop} {E : Prop} (hgd : o.guard = none) (s x : Operand) (t : TypeId)
    (ho : o.op = .call { callee := .builtin .append, args := #[s, x], argTypes := #[t, t] })
    (base : Nat) (e : TypeId) (ht : P.underlying t = some (.slice e)) (hinfo : (P.info? e).map (fun i => (i.zero, i.size, i.bytes)) = some (some (.int .u8 0), 1, 1))
    {v vx : Value} {xs news : List UInt8} (hs : a.eval s = v) (hown : Own w base e v (bv xs)) (hx : a.eval x = vx) (hrd : Rdv w vx (bv news)) (hne : 0 < news.length)
    (hlen : xs.length + news.length ≤ 140737488355328) (hbase : base ≤ w.heap.size)
    (h : ∀ g cap w', Own w' base e (.slice (some ⟨g, 0, none⟩) (xs.length + news.length) cap) (bv (xs ++ news)) → w.grownBy w' v.ownBlock → K (a.put o.dst (.slice (some ⟨g, 0, none⟩) (xs.length + news.length) cap)) w') :
    if Region.wanted o (yielded ops a.tmps) = true then Oper.wp P o a w K Q else E := by
  obtain ⟨i, hi, hz0, hz1, hz2⟩ := info_parts hinfo
  obtain ⟨b, off, cap, rfl, _, hc⟩ := hrd.at hne
  refine step_append_lies _ hgd s x t ho base e i (.int .u8 0) 1 1 ht hi hz0 hz1 hz2 rfl (by decide) v (bv xs).length (bv xs) hs hown ⟨b, off, none⟩ news.length cap (bv news) hx (by simp [bv_len]) ?_ bv_one hne (by rw [bv_len]; unfold maxLen; omega) (by rw [bv_len]; omega) hbase _ rfl ?_
  · intro j u hu
    have hj : j < news.length := by
      have := (List.getElem?_eq_some_iff.1 hu).1
      rwa [bv_len] at this
    rw [bv_get hj] at hu
    rw [Addr.add_lit, hc j hj, ← hu]
  · intro g cap' w' ho' hg _ _
    rw [bv_len] at ho' ⊢
    refine h g cap' w' ?_ hg
    show w'.ownsRow base e 1 _ (bv (xs ++ news)).length (bv (xs ++ news))
    rw [bv_len, bv_app, List.length_append]; exact ho'
end Go.Proofs.YtgfhabofhefaaaaGreatDoor
namespace Go.Proofs.YtgfhabofhefaaaaGreatDoor
open Go.RowKit
end Go.Proofs.YtgfhabofhefaaaaGreatDoor
namespace Go.Proofs.YtgfhabofhefaaaaGreatDoor
open Go.RowKit
end Go.Proofs.YtgfhabofhefaaaaGreatDoor
namespace Go.Proofs.YtgfhabofhefaaaaGreatDoor
open Go.RowKit
namespace SH
end SH
end Go.Proofs.YtgfhabofhefaaaaGreatDoor
namespace Go.Proofs.YtgfhabofhefaaaaGreatDoor
open Go.RowKit
end Go.Proofs.YtgfhabofhefaaaaGreatDoor
namespace Go.Proofs.YtgfhabofhefaaaaGreatDoor
open Go.RowKit
end Go.Proofs.YtgfhabofhefaaaaGreatDoor
namespace Go.Proofs.YtgfhabofhefaaaaGreatDoor
open Go.RowKit
end Go.Proofs.YtgfhabofhefaaaaGreatDoor
namespace Go.Proofs.YtgfhabofhefaaaaGreatDoor
open Go.RowKit
end Go.Proofs.YtgfhabofhefaaaaGreatDoor
namespace Go.Proofs.YtgfhabofhefaaaaGreatDoor
open Go.RowKit
structure Rst (w0 w : World) (p : Nat) (lv : Value) (L : List LX.Pc) (t : Nat) (nv : Value) (ns : List DC.Nd) (fk fl : Int) (S : Nat → Prop) : Prop where
  bl : Below w0.heap.size w0 w
  hp : w0.heap.size ≤ p
  st : Str w p 115 #[lv, .int .i64 (t : Int), nv, .int .i64 fk, .int .i64 fl]
  rd : Rdp w0 lv L
  le : t ≤ L.length
  nd : Nds w w0.heap.size S nv ns
  sb : ∀ g, S g → g < w.heap.size
section
variable {w0 w w' : World} {p : Nat} {lv nv : Value} {L : List LX.Pc} {t : Nat} {ns : List DC.Nd} {fk fl : Int} {S : Nat → Prop}
theorem Rst.off (h : Rst w0 w p lv L t nv ns fk fl S) : nv.ownBlock = none ∨ nv.ownBlock ≠ some p := h.nd.off h.st (by decide)
theorem Rst.farp (h : Rst w0 w p lv L t nv ns fk fl S) {S' : Nat → Prop} : Far w S' (some p) := Far.str h.st (by decide) (by decide)
theorem Rst.size (h : Rst w0 w p lv L t nv ns fk fl S) : w0.heap.size ≤ w.heap.size := h.bl.size
theorem Rst.kb (h : Rst w0 w p lv L t nv ns fk fl S) {q r : Option Nat} (hk : Kb w w' q r) (hq : Far w S q) (hr : Far w S r) (q1 : some p ≠ q) (r1 : some p ≠ r) (q2 : nv.ownBlock = none ∨ nv.ownBlock ≠ q) (r2 : nv.ownBlock = none ∨ nv.ownBlock ≠ r) (q3 : ∀ g, q = some g → w0.heap.size ≤ g) (r3 : ∀ g, r = some g → w0.heap.size ≤ g) : Rst w0 w' p lv L t nv ns fk fl S :=
  ⟨h.bl.trans (hk.below h.size q3 r3), h.hp, h.st.kb hk q1 r1, h.rd, h.le, h.nd.kb hk hq hr q2 r2, fun g hg => Nat.lt_of_lt_of_le (h.sb g hg) hk.size⟩
theorem Rst.calm (h : Rst w0 w p lv L t nv ns fk fl S) (hb : Below w.heap.size w w') : Rst w0 w' p lv L t nv ns fk fl S :=
  h.kb (Kb.of_below hb none none) (Far.none _ _) (Far.none _ _) (by simp) (by simp) no_or no_or (by simp) (by simp)
theorem Rst.mono (h : Rst w0 w p lv L t nv ns fk fl S) {S' : Nat → Prop} (hs : ∀ g, S g → S' g) (hb : ∀ g, S' g → g < w.heap.size) : Rst w0 w p lv L t nv ns fk fl S' := ⟨h.bl, h.hp, h.st, h.rd, h.le, h.nd.mono hs, hb⟩
theorem Rst.turn (h : Rst w0 w p lv L t nv ns fk fl S) {t' : Nat} {gk gl : Int} (hk : Kb w w' (some p) none) (hs : Str w' p 115 #[lv, .int .i64 (t' : Int), nv, .int .i64 gk, .int .i64 gl]) (ht : t' ≤ L.length) : Rst w0 w' p lv L t' nv ns gk gl S :=
  ⟨h.bl.trans (hk.below h.size (fun g hg => by have := Option.some.inj hg; have := h.hp; omega) (by simp)), h.hp, hs, h.rd, ht, h.nd.kb hk h.farp (Far.none _ _) h.off no_or, fun g hg => Nat.lt_of_lt_of_le (h.sb g hg) hk.size⟩
theorem Rst.fail (h : Rst w0 w p lv L t nv ns fk fl S) (k n : Int) : Rst w0 ((w.setCell ⟨p, 3, none⟩ (.int .i64 k)).setCell ⟨p, 4, none⟩ (.int .i64 n)) p lv L t nv ns k n S ∧ Kb w ((w.setCell ⟨p, 3, none⟩ (.int .i64 k)).setCell ⟨p, 4, none⟩ (.int .i64 n)) (some p) nv.ownBlock :=
  ⟨h.turn ((Kb.set w p 3 _ none).trans (Kb.set _ p 4 _ none)) ((h.st.set 3 (.int .i64 k)).set 4 (.int .i64 n)) h.le, (Kb.set w p 3 _ _).trans (Kb.set _ p 4 _ _)⟩
theorem Rst.next (h : Rst w0 w p lv L t nv ns fk fl S) (ht : t + 1 ≤ L.length) : Rst w0 (w.setCell ⟨p, 1, none⟩ (.int .i64 ((t + 1 : Nat) : Int))) p lv L (t + 1) nv ns fk fl S ∧ Kb w (w.setCell ⟨p, 1, none⟩ (.int .i64 ((t + 1 : Nat) : Int))) (some p) nv.ownBlock :=
  ⟨h.turn (Kb.set w p 1 _ none) (h.st.set 1 (.int .i64 ((t + 1 : Nat) : Int))) ht, Kb.set w p 1 _ _⟩
theorem Rst.push {vs : List Nv} (h : Rst w0 w p lv L t nv (vs.map (·.1)) fk fl S) {nv' : Value} {a : Nv} (hn : ∀ a ∈ vs, Nk w w0.heap.size S a) (ho : Ownv w w0.heap.size nv vs) {w1 : World} (hg : w.grownBy w1 nv.ownBlock) (ho' : Ownv w1 w0.heap.size nv' (vs ++ [a])) (ha : Nk w1 w0.heap.size S a) :
    Str w1 p 115 #[lv, .int .i64 (t : Int), nv, .int .i64 fk, .int .i64 fl] ∧ Rst w0 (w1.setCell ⟨p, 2, none⟩ nv') p lv L t nv' (vs.map (·.1) ++ [a.1]) fk fl S ∧ Kb w (w1.setCell ⟨p, 2, none⟩ nv') (some p) nv.ownBlock := by
  have k1 := Kb.of_grown hg (some p)
  have s1 : Str w1 p 115 #[lv, .int .i64 (t : Int), nv, .int .i64 fk, .int .i64 fl] := h.st.kb (Kb.of_grown hg none) (by simp) (by
    rcases h.off with e | e
    · rw [e]; simp
    · exact fun e2 => e e2.symm)
  have kb := Kb.set w1 p 2 nv' none
  have b1 : Below w0.heap.size w0 w1 := h.bl.trans ((Kb.of_grown hg none).below h.size (by simp) (fun g hg => (h.nd.ge hg).1))
  have n1 := Nds.push hn ho hg ho' ha
  have f1 : Far w1 S (some p) := Far.str s1 (by decide) (by decide)
  exact ⟨s1, ⟨b1.trans (kb.below b1.size (fun g hg => by have := Option.some.inj hg; have := h.hp; omega) (by simp)), h.hp, s1.set 2 nv', h.rd, h.le, n1.kb kb f1 (Far.none _ _) (ho'.off s1 (.inl (by decide))) no_or, fun g hg => Nat.lt_of_lt_of_le (h.sb g hg) (Nat.le_trans k1.size kb.size)⟩, k1.trans (Kb.set w1 p 2 nv' _)⟩
end
theorem Rst.at {w0 w : World} {p : Nat} {lv nv : Value} {L : List LX.Pc} {t : Nat} {ns : List DC.Nd} {fk fl : Int} {S : Nat → Prop} (h : Rst w0 w p lv L t nv ns fk fl S) {j : Nat} {x : LX.Pc} (hx : L[j]? = some x) : ∃ b off cap, lv = .slice (some ⟨b, off, none⟩) L.length cap ∧ At5 w b (off + j * 5) x := by
  obtain ⟨ao, cap, e, _, _, _, h4⟩ := h.rd
  obtain ⟨b, off, rfl, c⟩ := h4 j x hx
  exact ⟨b, off, cap, e, c.below h.bl⟩
def RbE (w0 w : World) (p : Nat) (lv : Value) (L : List LX.Pc) (nv : Value) (ns : List DC.Nd) (S : Nat → Prop) (r : DC.BR) (e : Ending) (w' : World) : Prop :=
  ∃ (z t' : Nat) (nv' : Value) (ns' : List DC.Nd) (k l : Int), e = .returned (.int .i64 (z : Int)) ∧ Rst w0 w' p lv L t' nv' ns' k l (More S w w') ∧ Kb w w' (some p) nv.ownBlock ∧ Near w nv nv' ∧ match r with
  | .bad a b => k = a ∧ l = b ∧ (∃ ms, ns' = ns ++ ms) ∧ ns'.length ≤ 2000
  | .ok a => k = 0 ∧ l = 0 ∧ z = ns.length ∧ ns' = ns ++ a.1 ∧ L.drop t' = a.2
theorem RbE.from {w0 w w1 w' : World} {p : Nat} {lv nv : Value} {L : List LX.Pc} {ns : List DC.Nd} {S : Nat → Prop} {r : DC.BR} {e : Ending} (hk : Kb w w1 (some p) nv.ownBlock) (h : RbE w0 w1 p lv L nv ns S r e w') : RbE w0 w p lv L nv ns S r e w' := by
  obtain ⟨z, t', nv', ns', k, l, he, hp, hkb, hn, hr⟩ := h
  refine ⟨z, t', nv', ns', k, l, he, hp.mono (fun g hg => hg.imp id fun hg => ⟨Nat.le_trans hk.size hg.1, hg.2⟩) (fun g hg => ?_), hk.trans hkb, ?_, hr⟩
  · rcases hg with hg | hg
    · exact hp.sb g (.inl hg)
    · exact hg.2
  · rcases hn with hn | hn
    · exact .inl hn
    · exact .inr fun g hg => Nat.le_trans hk.size (hn g hg)
end Go.Proofs.YtgfhabofhefaaaaGreatDoor
namespace Go.Proofs.YtgfhabofhefaaaaGreatDoor
open Go.RowKit
structure TbS (w0 w wr : World) (p : Nat) (nv lv nv' kv v : Value) (x : LX.Pc) (L : List LX.Pc) (t : Nat) (ns : List DC.Nd) (fk fl : Int) (S Sk : Nat → Prop) (ks : List LX.B) (is : List Nat) : Prop where
  rs : Rst w0 wr p lv L t nv' ns fk fl Sk
  kb : Kb w wr (some p) nv.ownBlock
  nr : Near w nv nv'
  fi : Str wr w.heap.size 117 (pc x)
  keys : Own wr w.heap.size 9 kv (sv ks)
  kids : Own wr w.heap.size 3 v (nats is)
  sub : ∀ g, Sk g → More S w wr g
  ak : ∀ g, kv.ownBlock = some g → ¬ Sk g
  ai : ∀ g, v.ownBlock = some g → ¬ Sk g
  gz : w0.heap.size ≤ w.heap.size
section
variable {w0 w wr : World} {p : Nat} {nv lv nv' kv v : Value} {x : LX.Pc} {L : List LX.Pc} {t : Nat} {ns : List DC.Nd} {fk fl : Int} {S Sk : Nat → Prop} {ks : List LX.B} {is : List Nat}
theorem TbS.start (h : Rst w0 w p lv L t nv ns fk fl S) (x : LX.Pc) : TbS w0 w ((w.alloc (.cells (pc x) 117)).drew) p nv lv nv (.slice none 0 0) (.slice none 0 0) x L t ns fk fl S S [] [] := by
  have b := below_trans (below_alloc w (.cells (pc x) 117)) (below_drew _)
  exact ⟨h.calm b, Kb.of_below b _ _, Near.refl _ _, (Str.new w 117 (pc x)).below (below_drew _), Own.nil _ _ _, Own.nil _ _ _, fun g hg => .inl hg, (by intro g h; cases h), (by intro g h; cases h), h.bl.size⟩
theorem TbS.calm (h : TbS w0 w wr p nv lv nv' kv v x L t ns fk fl S Sk ks is) {w' : World} (hb : Below wr.heap.size wr w') : TbS w0 w w' p nv lv nv' kv v x L t ns fk fl S Sk ks is :=
  ⟨h.rs.calm hb, h.kb.trans (Kb.of_below hb _ _), h.nr, h.fi.below hb, h.keys.below hb, h.kids.below hb, fun g hg => (h.sub g hg).imp id fun hg => ⟨hg.1, Nat.lt_of_lt_of_le hg.2 hb.size⟩, h.ak, h.ai, h.gz⟩
theorem TbS.fed (h : TbS w0 w wr p nv lv nv' kv v x L t ns fk fl S Sk ks is) {w2 : World} {nv2 : Value} {t2 : Nat} {ns2 : List DC.Nd} {gk gl : Int} {S2 : Nat → Prop} (hk : Kb wr w2 (some p) nv'.ownBlock) (hp : Rst w0 w2 p lv L t2 nv2 ns2 gk gl S2) (hn : Near wr nv' nv2) (hs : ∀ g, S2 g → More Sk wr w2 g) :
    TbS w0 w w2 p nv lv nv2 kv v x L t2 ns2 gk gl S S2 ks is := by
  have hpf : p ≠ w.heap.size := h.rs.st.apart_str h.fi (by decide)
  refine ⟨hp, h.kb.near h.nr hk, h.nr.trans hn h.kb.size, h.fi.kb hk (fun e => hpf (Option.some.inj e).symm) ?_, h.keys.kb hk (h.keys.ne_str h.rs.st (by decide)) (h.keys.ne_nds h.rs.nd (by decide)).1, h.kids.kb hk (h.kids.ne_str h.rs.st (by decide)) (h.kids.ne_nds h.rs.nd (by decide)).1, fun g hg => ?_, fun g hg h2 => ?_, fun g hg h2 => ?_, h.gz⟩
  · intro e
    rcases h.rs.nd.off h.fi (by decide) with h1 | h1
    · rw [h1] at e; cases e
    · exact h1 e.symm
  · rcases hs g hg with hg | hg
    · rcases h.sub g hg with h1 | h1
      · exact .inl h1
      · exact .inr ⟨h1.1, Nat.lt_of_lt_of_le h1.2 hk.size⟩
    · exact .inr ⟨Nat.le_trans h.kb.size hg.1, hg.2⟩
  · rcases hs g h2 with h1 | h1
    · exact h.ak g hg h1
    · have := (h.keys.lt hg).2; omega
  · rcases hs g h2 with h1 | h1
    · exact h.ai g hg h1
    · have := (h.kids.lt hg).2; omega
theorem TbS.own_turn (h : TbS w0 w wr p nv lv nv' kv v x L t ns fk fl S Sk ks is) {w' : World} {u : Value} {e : TypeId} {xs : List Value} (hx : Own wr w.heap.size e u xs) (he1 : e ≠ 115) (he2 : e ≠ 48) (he3 : e ≠ 117) (hs : ∀ g, u.ownBlock = some g → ¬ Sk g) (hg : wr.grownBy w' u.ownBlock) :
    Rst w0 w' p lv L t nv' ns fk fl Sk ∧ Kb w w' (some p) nv.ownBlock ∧ Str w' w.heap.size 117 (pc x) := by
  have hkb := Kb.of_grown hg none
  have np : some p ≠ u.ownBlock := fun e1 => by
    rcases hx.ne_str h.rs.st (fun e => he1 e.symm) with h1 | h1
    · rw [h1] at e1; cases e1
    · exact h1 e1.symm
  have nf : some w.heap.size ≠ u.ownBlock := fun e1 => by
    rcases hx.ne_str h.fi (fun e => he3 e.symm) with h1 | h1
    · rw [h1] at e1; cases e1
    · exact h1 e1.symm
  exact ⟨h.rs.kb hkb (Far.none _ _) (Far.not hs) (by simp) np no_or (hx.ne_nds h.rs.nd he2).2 (by simp) (fun g hg => Nat.le_trans h.gz (hx.lt hg).1), h.kb.trans_new (q' := u.ownBlock) (Kb.of_grown hg _) (fun g hg => .inr (hx.lt hg).1), h.fi.kb hkb (by simp) nf⟩
theorem TbS.key (h : TbS w0 w wr p nv lv nv' kv v x L t ns fk fl S Sk ks is) {w' : World} {kv' : Value} {ks' : List LX.B} (hg : wr.grownBy w' kv.ownBlock) (ho : Own w' w.heap.size 9 kv' (sv ks')) (hn : Near wr kv kv') : TbS w0 w w' p nv lv nv' kv' v x L t ns fk fl S Sk ks' is := by
  obtain ⟨h1, h2, h3⟩ := h.own_turn h.keys (by decide) (by decide) (by decide) h.ak hg
  refine ⟨h1, h2, h.nr, h3, ho, h.kids.kb (Kb.of_grown hg none) no_or (h.kids.apart h.keys (by decide)), fun g hg' => (h.sub g hg').imp id fun h3 => ⟨h3.1, Nat.lt_of_lt_of_le h3.2 hg.size⟩, fun g hg' => ?_, h.ai, h.gz⟩
  rcases hn with hn | hn
  · exact h.ak g (by rw [← hn]; exact hg')
  · intro hs; have := hn g hg'; have := h.rs.sb g hs; omega
theorem TbS.kid (h : TbS w0 w wr p nv lv nv' kv v x L t ns fk fl S Sk ks is) {w' : World} {v' : Value} {is' : List Nat} (hg : wr.grownBy w' v.ownBlock) (ho : Own w' w.heap.size 3 v' (nats is')) (hn : Near wr v v') : TbS w0 w w' p nv lv nv' kv v' x L t ns fk fl S Sk ks is' := by
  obtain ⟨h1, h2, h3⟩ := h.own_turn h.kids (by decide) (by decide) (by decide) h.ai hg
  refine ⟨h1, h2, h.nr, h3, h.keys.kb (Kb.of_grown hg none) no_or (h.keys.apart h.kids (by decide)), ho, fun g hg' => (h.sub g hg').imp id fun h3 => ⟨h3.1, Nat.lt_of_lt_of_le h3.2 hg.size⟩, h.ak, fun g hg' => ?_, h.gz⟩
  rcases hn with hn | hn
  · exact h.ai g (by rw [← hn]; exact hg')
  · intro hs; have := hn g hg'; have := h.rs.sb g hs; omega
theorem TbS.push (h : TbS w0 w wr p nv lv nv' kv v x L t ns fk fl S Sk ks is) {vs : List Nv} (hvs : vs.map (·.1) = ns) (ho : Ownv wr w0.heap.size nv' vs) (hn : ∀ a ∈ vs, Nk wr w0.heap.size Sk a) {w1 : World} {nv2 : Value} {a : Nv} (hg : wr.grownBy w1 nv'.ownBlock) (ho' : Ownv w1 w0.heap.size nv2 (vs ++ [a])) (ha : Nk w1 w0.heap.size Sk a) (hnr : Near wr nv' nv2) :
    Str w1 p 115 #[lv, .int .i64 (t : Int), nv', .int .i64 fk, .int .i64 fl] ∧ TbS w0 w (w1.setCell ⟨p, 2, none⟩ nv2) p nv lv nv2 kv v x L t (ns ++ [a.1]) fk fl S Sk ks is := by
  subst hvs
  obtain ⟨s1, s2, s3⟩ := h.rs.push hn ho hg ho' ha
  exact ⟨s1, h.fed s3 s2 hnr fun g hg => .inl hg⟩
end
end Go.Proofs.YtgfhabofhefaaaaGreatDoor
namespace Go.Proofs.YtgfhabofhefaaaaGreatDoor
open Go.RowKit
theorem ncs_set1 : ∀ {ls : List Nv} {j : Nat} {x : Nv} (i : Nat) (u : Value) (y : Nv), i < 6 → (nc1 x).set i u = nc1 y → ls[j]? = some x → (ncs ls).set (j * 6 + i) u = ncs (ls.set j y)
  | [], _, _, _, _, _, _, _, h => by simp at h
  | x :: ls, 0, s, i, u, y, hi, hy, h => by
    have : x = s := by simpa using h
    subst this
    rw [List.set_cons_zero, ncs_cons, ncs_cons, Nat.zero_mul, Nat.zero_add, List.set_append_left _ _ (by simpa [nc1] using hi), hy]
  | x :: ls, j + 1, s, i, u, y, hi, hy, h => by
    have h' : ls[j]? = some s := by simpa using h
    have e : (nc1 x).length = 6 := rfl
    rw [List.set_cons_succ, ncs_cons, ncs_cons, ← ncs_set1 i u y hi hy h', List.set_append_right _ _ (by rw [e]; omega), e]
    congr 2
    omega
theorem Ownv.put1 {w : World} {base g cap : Nat} {ls : List Nv} {j : Nat} {x : Nv} (h : Ownv w base (.slice (some ⟨g, 0, none⟩) ls.length cap) ls) (hj : ls[j]? = some x) (i : Nat) (hi : i < 6) (u : Value) (y : Nv) (hy : (nc1 x).set i u = nc1 y) :
    Ownv (w.setCell ⟨g, j * 6 + i, none⟩ u) base (.slice (some ⟨g, 0, none⟩) (ls.set j y).length cap) (ls.set j y) := by
  have s := (World.ownsRow.stored h (j * 6 + i) u).1
  rw [ncs_set1 i u y hi hy hj] at s
  show World.ownsRow _ _ _ _ _ _ _
  rw [List.length_set]
  exact s
structure Ndv (w : World) (base : Nat) (S : Nat → Prop) (g cap : Nat) (vs : List Nv) : Prop where
  own : Ownv w base (.slice (some ⟨g, 0, none⟩) vs.length cap) vs
  nk : ∀ a ∈ vs, Nk w base S a
theorem Ndv.set1 {w : World} {base g cap : Nat} {S : Nat → Prop} {vs : List Nv} (h : Ndv w base S g cap vs) {j : Nat} {x : Nv} (hj : vs[j]? = some x) (i : Nat) (hi : i < 6) (u : Value) (y : Nv) (hy : (nc1 x).set i u = nc1 y) (hk : Nk w base S y) :
    Ndv (w.setCell ⟨g, j * 6 + i, none⟩ u) base S g cap (vs.set j y) ∧ (vs.set j y)[j]? = some y := by
  have kb := Kb.set w g (j * 6 + i) u none
  have hf : Far w S (some g) := Far.nodes h.own
  refine ⟨⟨h.own.put1 hj i hi u y hy, fun b hb => ?_⟩, ?_⟩
  · rcases List.mem_or_eq_of_mem_set hb with hb | rfl
    · exact (h.nk b hb).kb kb hf (Far.none _ _)
    · exact hk.kb kb hf (Far.none _ _)
  · rw [List.getElem?_set_self (List.getElem?_eq_some_iff.1 hj).1]
theorem Ndv.nds {w : World} {base g cap : Nat} {S : Nat → Prop} {vs : List Nv} {ns : List DC.Nd} (h : Ndv w base S g cap vs) (e : vs.map (·.1) = ns) : Nds w base S (.slice (some ⟨g, 0, none⟩) ns.length cap) ns := by
  subst e
  exact ⟨vs, rfl, by rw [List.length_map]; exact h.own, h.nk⟩
theorem Nds.node {w : World} {base : Nat} {S : Nat → Prop} {v : Value} {ns : List DC.Nd} {j : Nat} {z : DC.Nd} (h : Nds w base S v ns) (hj : ns[j]? = some z) :
    ∃ g cap vs x, v = .slice (some ⟨g, 0, none⟩) ns.length cap ∧ vs.map (·.1) = ns ∧ vs[j]? = some x ∧ x.1 = z ∧ Ndv w base S g cap vs ∧ base ≤ g ∧ g < w.heap.size ∧ At6 w g (j * 6) x ∧ ∀ i, w.frozen? ⟨g, i, none⟩ = false := by
  obtain ⟨vs, rfl, ho, hn⟩ := h
  rw [List.getElem?_map] at hj
  obtain ⟨x, hx, hz⟩ := Option.map_eq_some_iff.1 hj
  obtain ⟨g, cap, rfl, h0, h1, h2, h3⟩ := ho.at hx
  exact ⟨g, cap, vs, x, by rw [List.length_map], rfl, hx, hz, ⟨ho, hn⟩, h0, h1, h2, h3⟩
theorem Kb.own {w w' : World} {g : Nat} (h : Kb w w' (some g) none) (p : Option Nat) : Kb w w' p (some g) := ⟨h.os, h.tape, h.output, h.size, fun k h1 _ h3 => h.block k h1 h3 (by simp)⟩
theorem TbS.row {w0 w wr w' : World} {p n g cap : Nat} {nv lv kv v : Value} {x : LX.Pc} {L : List LX.Pc} {t : Nat} {ns ns' : List DC.Nd} {fk fl : Int} {S Sk : Nat → Prop} {ks : List LX.B} {is : List Nat}
    (h : TbS w0 w wr p nv lv (.slice (some ⟨g, 0, none⟩) n cap) kv v x L t ns fk fl S Sk ks is) (hg : w0.heap.size ≤ g) (hk : Kb wr w' (some g) none) (hn : Nds w' w0.heap.size Sk (.slice (some ⟨g, 0, none⟩) n cap) ns') :
    TbS w0 w w' p nv lv (.slice (some ⟨g, 0, none⟩) n cap) kv v x L t ns' fk fl S Sk ks is := by
  have op := h.rs.off
  have np : some p ≠ some g := by
    rcases op with e | e
    · cases e
    · exact fun e2 => e e2.symm
  have nf : some w.heap.size ≠ some g := by
    rcases h.rs.nd.off h.fi (by decide) with e | e
    · cases e
    · exact fun e2 => e e2.symm
  have hr : Rst w0 w' p lv L t (.slice (some ⟨g, 0, none⟩) n cap) ns' fk fl Sk :=
    ⟨h.rs.bl.trans (hk.below h.rs.size (fun g' hg' => by obtain rfl := Option.some.inj hg'; exact hg) (by simp)), h.rs.hp, h.rs.st.kb hk np (by simp), h.rs.rd, h.rs.le, hn, fun g' hg' => Nat.lt_of_lt_of_le (h.rs.sb g' hg') hk.size⟩
  exact h.fed (hk.own (some p)) hr (Near.refl _ _) fun g hg => .inl hg
theorem TbS.apart {w0 w wr : World} {p n g cap : Nat} {nv lv kv v : Value} {x : LX.Pc} {L : List LX.Pc} {t : Nat} {ns : List DC.Nd} {fk fl : Int} {S Sk : Nat → Prop} {ks : List LX.B} {is : List Nat}
    (h : TbS w0 w wr p nv lv (.slice (some ⟨g, 0, none⟩) n cap) kv v x L t ns fk fl S Sk ks is) : g ≠ p ∧ g ≠ w.heap.size := by
  constructor
  · intro e
    rcases h.rs.off with e1 | e1
    · cases e1
    · exact e1 (congrArg some e)
  · intro e
    rcases h.rs.nd.off h.fi (by decide) with e1 | e1
    · cases e1
    · exact e1 (congrArg some e)
theorem Nk.as {w : World} {base : Nat} {S : Nat → Prop} {z z' : DC.Nd} {a b : Value} (h : Nk w base S (z, a, b)) (h1 : z'.keys = z.keys) (h2 : z'.kids = z.kids) : Nk w base S (z', a, b) :=
  ⟨by rw [h1]; exact h.keys, by rw [h2]; exact h.kids, h.sk, h.si⟩
theorem getElem_len {l : List DC.Nd} {j : Nat} (y : DC.Nd) : (l.set j y).length = l.length := List.length_set
theorem TbS.text {w0 w wr : World} {p : Nat} {nv lv nv' kv v : Value} {x : LX.Pc} {L : List LX.Pc} {t : Nat} {ns : List DC.Nd} {fk fl : Int} {S Sk : Nat → Prop} {ks : List LX.B} {is : List Nat}
    (h : TbS w0 w wr p nv lv nv' kv v x L t ns fk fl S Sk ks is) {j : Nat} {ln : Int} (hj : ns[j]? = some ⟨0, ln, [], false, [], []⟩) (tx : LX.B) (q : Bool) :
    ∃ g cap y, nv' = .slice (some ⟨g, 0, none⟩) ns.length cap ∧ g ≠ p ∧ g ≠ w.heap.size ∧ At6 wr g (j * 6) y ∧ (∀ i, wr.frozen? ⟨g, i, none⟩ = false) ∧
      TbS w0 w (((wr.setCell ⟨g, j * 6, none⟩ (.int .i64 1)).setCell ⟨g, j * 6 + 2, none⟩ (.string ⟨tx.toArray⟩)).setCell ⟨g, j * 6 + 3, none⟩ (.bool q)) p nv lv (.slice (some ⟨g, 0, none⟩) ns.length cap) kv v x L t (ns.set j ⟨1, ln, tx, q, [], []⟩) fk fl S Sk ks is := by
  obtain ⟨g, cap, vs, ⟨z, ak, ai⟩, rfl, hvs, hy, hz, hd, h0, h1, h2, h3⟩ := h.rs.nd.node hj
  simp only at hz
  subst hz
  obtain ⟨n1, n2⟩ := h.apart
  have hk := hd.nk _ (List.mem_of_getElem? hy)
  obtain ⟨d1, e1⟩ := hd.set1 hy 0 (by decide) (.int .i64 1) (⟨1, ln, [], false, [], []⟩, ak, ai) rfl (hk.as rfl rfl)
  obtain ⟨d2, e2⟩ := d1.set1 e1 2 (by decide) (.string ⟨tx.toArray⟩) (⟨1, ln, tx, false, [], []⟩, ak, ai) rfl ((d1.nk _ (List.mem_of_getElem? e1)).as rfl rfl)
  obtain ⟨d3, e3⟩ := d2.set1 e2 3 (by decide) (.bool q) (⟨1, ln, tx, q, [], []⟩, ak, ai) rfl ((d2.nk _ (List.mem_of_getElem? e2)).as rfl rfl)
  rw [Nat.add_zero] at d3
  refine ⟨g, cap, _, rfl, n1, n2, h2, h3, h.row h0 (((Kb.set wr g _ _ none).trans (Kb.set _ g _ _ none)).trans (Kb.set _ g _ _ none)) ?_⟩
  have := d3.nds (ns := ns.set j ⟨1, ln, tx, q, [], []⟩) (by simp only [List.set_set, List.map_set, hvs])
  rwa [getElem_len] at this
theorem TbS.kind {w0 w wr : World} {p : Nat} {nv lv nv' kv v : Value} {x : LX.Pc} {L : List LX.Pc} {t : Nat} {ns : List DC.Nd} {fk fl : Int} {S Sk : Nat → Prop} {ks : List LX.B} {is : List Nat}
    (h : TbS w0 w wr p nv lv nv' kv v x L t ns fk fl S Sk ks is) {j : Nat} {k0 ln : Int} (hj : ns[j]? = some ⟨k0, ln, [], false, [], []⟩) (k : Int) :
    ∃ g cap y, nv' = .slice (some ⟨g, 0, none⟩) ns.length cap ∧ g ≠ p ∧ g ≠ w.heap.size ∧ At6 wr g (j * 6) y ∧ (∀ i, wr.frozen? ⟨g, i, none⟩ = false) ∧
      TbS w0 w (wr.setCell ⟨g, j * 6, none⟩ (.int .i64 k)) p nv lv (.slice (some ⟨g, 0, none⟩) ns.length cap) kv v x L t (ns.set j ⟨k, ln, [], false, [], []⟩) fk fl S Sk ks is := by
  obtain ⟨g, cap, vs, ⟨z, ak, ai⟩, rfl, hvs, hy, hz, hd, h0, h1, h2, h3⟩ := h.rs.nd.node hj
  simp only at hz
  subst hz
  obtain ⟨n1, n2⟩ := h.apart
  have hk := hd.nk _ (List.mem_of_getElem? hy)
  obtain ⟨d1, e1⟩ := hd.set1 hy 0 (by decide) (.int .i64 k) (⟨k, ln, [], false, [], []⟩, ak, ai) rfl (hk.as rfl rfl)
  rw [Nat.add_zero] at d1
  refine ⟨g, cap, _, rfl, n1, n2, h2, h3, h.row h0 (Kb.set wr g _ _ none) ?_⟩
  have := d1.nds (ns := ns.set j ⟨k, ln, [], false, [], []⟩) (by simp only [List.map_set, hvs])
  rwa [getElem_len] at this
theorem TbS.done {w0 w wr : World} {p : Nat} {nv lv nv' kv v : Value} {x : LX.Pc} {L : List LX.Pc} {t : Nat} {ns : List DC.Nd} {fk fl : Int} {S Sk : Nat → Prop} {ks : List LX.B} {is : List Nat}
    (h : TbS w0 w wr p nv lv nv' kv v x L t ns fk fl S Sk ks is) {j : Nat} {k ln : Int} (hj : ns[j]? = some ⟨k, ln, [], false, [], []⟩) (hS : ∀ g, S g → g < w.heap.size) :
    ∃ g cap y, nv' = .slice (some ⟨g, 0, none⟩) ns.length cap ∧ g ≠ p ∧ g ≠ w.heap.size ∧ At6 wr g (j * 6) y ∧ (∀ i, wr.frozen? ⟨g, i, none⟩ = false) ∧
      ∃ w', w' = (wr.setCell ⟨g, j * 6 + 4, none⟩ kv).setCell ⟨g, j * 6 + 5, none⟩ v ∧ Rst w0 w' p lv L t (.slice (some ⟨g, 0, none⟩) ns.length cap) (ns.set j ⟨k, ln, [], false, ks, is⟩) fk fl (More S w w') ∧ Kb w w' (some p) nv.ownBlock ∧ Near w nv (.slice (some ⟨g, 0, none⟩) ns.length cap) := by
  obtain ⟨g, cap, vs, ⟨z, ak, ai⟩, rfl, hvs, hy, hz, hd, h0, h1, h2, h3⟩ := h.rs.nd.node hj
  simp only at hz
  subst hz
  obtain ⟨n1, n2⟩ := h.apart
  obtain ⟨S1, hS1⟩ : ∃ S1 : Nat → Prop, ∀ g, S1 g ↔ (Sk g ∨ kv.ownBlock = some g ∨ v.ownBlock = some g) := ⟨fun g => Sk g ∨ kv.ownBlock = some g ∨ v.ownBlock = some g, fun g => Iff.rfl⟩
  have hd1 : Ndv wr w0.heap.size S1 g cap vs := ⟨hd.own, fun a ha => (hd.nk a ha).mono fun g hg => (hS1 g).2 (.inl hg)⟩
  have hk := hd1.nk _ (List.mem_of_getElem? hy)
  have kb1 := Kb.set wr g (j * 6 + 4) kv none
  have kb2 := Kb.set (wr.setCell ⟨g, j * 6 + 4, none⟩ kv) g (j * 6 + 5) v none
  obtain ⟨d1, e1⟩ := hd1.set1 hy 4 (by decide) kv (⟨k, ln, [], false, ks, []⟩, kv, ai) rfl ⟨h.keys.base h.gz, hk.kids, fun g hg => (hS1 g).2 (.inr (.inl hg)), hk.si⟩
  have hk1 := d1.nk _ (List.mem_of_getElem? e1)
  have hv1 := h.kids.kb kb1 (h.kids.ne_nds h.rs.nd (by decide)).1 no_or
  obtain ⟨d2, e2⟩ := d1.set1 e1 5 (by decide) v (⟨k, ln, [], false, ks, is⟩, kv, v) rfl ⟨hk1.keys, hv1.base h.gz, hk1.sk, fun g hg => (hS1 g).2 (.inr (.inr hg))⟩
  have hn := d2.nds (ns := ns.set j ⟨k, ln, [], false, ks, is⟩) (by simp only [List.set_set, List.map_set, hvs])
  rw [getElem_len] at hn
  have kb := kb1.trans kb2
  have hm : ∀ g', S1 g' → More S w ((wr.setCell ⟨g, j * 6 + 4, none⟩ kv).setCell ⟨g, j * 6 + 5, none⟩ v) g' := fun g' hg' => by
    rcases (hS1 g').1 hg' with e | e | e
    · rcases h.sub g' e with e | e
      · exact .inl e
      · exact .inr ⟨e.1, Nat.lt_of_lt_of_le e.2 kb.size⟩
    · exact .inr ⟨(h.keys.lt e).1, Nat.lt_of_lt_of_le (h.keys.lt e).2 kb.size⟩
    · exact .inr ⟨(h.kids.lt e).1, Nat.lt_of_lt_of_le (h.kids.lt e).2 kb.size⟩
  have kbw := h.kb.near h.nr (kb.own (some p))
  refine ⟨g, cap, _, rfl, n1, n2, h2, h3, _, rfl, ⟨h.rs.bl.trans (kb.below h.rs.size (fun g' hg' => by obtain rfl := Option.some.inj hg'; exact h0) (by simp)), h.rs.hp, h.rs.st.kb kb (fun e => n1 (Option.some.inj e).symm) (by simp), h.rs.rd, h.rs.le, hn.mono hm, fun g' hg' => ?_⟩, kbw, h.nr⟩
  rcases hg' with e | e
  · exact Nat.lt_of_lt_of_le (hS g' e) kbw.size
  · exact e.2
def Fin (k ln : Int) (o : DC.IR) : DC.BR := o.bind fun a => .ok (⟨DC.nk k, ln, [], false, a.1, a.2.1⟩ :: a.2.2.1, a.2.2.2)
end Go.Proofs.YtgfhabofhefaaaaGreatDoor
namespace Go.Proofs.YtgfhabofhefaaaaGreatDoor
open Go.RowKit
end Go.Proofs.YtgfhabofhefaaaaGreatDoor
