/- A part of the proof. -/
import Derived.Test.YtgfhabofhefaaaaGreatDoorSA46
import Derived.Deep.RegionLaw
import Derived.BigRegion
import Derived.Deep.DeepCutAuto
import Derived.Deep.CutBlock
import Derived.Deep.RegionHeld3
namespace Go.Proofs.YtgfhabofhefaaaaGreatDoor
open Go.RowKit
structure BkS (w0 w wr : World) (p : Nat) (nv lv' nv' : Value) (x : LX.Pc) (y : Nv) (l' : List LX.Pc) (ns : List DC.Nd) (S : Nat → Prop) : Prop where
  ps : Pst w0 wr p lv' nv' l' ns S
  kb : Kb w wr (some p) nv.ownBlock
  nr : Near w nv nv'
  fi : Str wr w.heap.size 117 (pc x)
  nd : Str wr (w.heap.size + 1) 48 (nc y)
  nn : nv'.ownBlock = none ∨ nv'.ownBlock ≠ some (w.heap.size + 1)
  gz : w0.heap.size ≤ w.heap.size
def node0 (x : LX.Pc) : DC.Nd := ⟨DC.nk x.1, x.2.1, [], false, [], []⟩
abbrev bare (y : DC.Nd) : Nv := (y, .slice none 0 0, .slice none 0 0)
theorem BkS.start {w0 w : World} {p : Nat} {lv nv : Value} {x : LX.Pc} {l : List LX.Pc} {ns : List DC.Nd} {S : Nat → Prop} (h : Pst w0 w p lv nv (x :: l) ns S) :
    BkS w0 w (((w.alloc (.cells (pc x) 117)).alloc (.cells (nc (bare (node0 x))) 48)).drew) p nv lv nv x (bare (node0 x)) (x :: l) ns S := by
  have b1 := (below_alloc w (.cells (pc x) 117))
  have b3 := below_alloc (w.alloc (.cells (pc x) 117)) (.cells (nc (bare (node0 x))) 48)
  have b4 := below_trans (below_trans b1 b3) (below_drew _)
  have n2 := (Str.new (w.alloc (.cells (pc x) 117)) 48 (nc (bare (node0 x)))).below (below_drew _)
  have z : (w.alloc (.cells (pc x) 117)).heap.size = w.heap.size + 1 := bx_size _ _
  rw [z] at n2
  refine ⟨h.calm b4, Kb.of_below b4 _ _, Near.refl _ _, ((Str.new w 117 (pc x)).below b3).below (below_drew _), n2, ?_, h.bl.size⟩
  cases hg : nv.ownBlock with
  | none => exact .inl rfl
  | some g =>
    right
    intro e
    have := (h.nd.ge hg).2
    have := Option.some.inj e
    omega
section
variable {w0 w wr : World} {p : Nat} {nv lv' nv' : Value} {x : LX.Pc} {y : Nv} {l' : List LX.Pc} {ns : List DC.Nd} {S : Nat → Prop}
theorem BkS.fed (h : BkS w0 w wr p nv lv' nv' x y l' ns S) {w2 : World} {lv2 nv2 : Value} {r : List LX.Pc} {ns2 : List DC.Nd} {S2 : Nat → Prop} (hk : Kb wr w2 (some p) nv'.ownBlock) (hp : Pst w0 w2 p lv2 nv2 r ns2 S2) (hn : Near wr nv' nv2) : BkS w0 w w2 p nv lv2 nv2 x y r ns2 S2 := by
  have hpf : p ≠ w.heap.size := h.ps.st.apart_str h.fi (by decide)
  have hpn : p ≠ w.heap.size + 1 := h.ps.st.apart_str h.nd (by decide)
  refine ⟨hp, h.kb.near h.nr hk, h.nr.trans hn h.kb.size, h.fi.kb hk (fun e => hpf (Option.some.inj e).symm) ?_, h.nd.kb hk (fun e => hpn (Option.some.inj e).symm) ?_, ?_, h.gz⟩
  · intro e
    rcases h.ps.nd.off h.fi (by decide) with h1 | h1
    · rw [h1] at e; cases e
    · exact h1 e.symm
  · intro e
    rcases h.nn with h1 | h1
    · rw [h1] at e; cases e
    · exact h1 e.symm
  · rcases hn with hn | hn
    · rw [hn]; exact h.nn
    · cases hg : nv2.ownBlock with
      | none => exact .inl rfl
      | some g =>
        right
        intro e
        have h1 := hn g hg
        have h2 := h.nd.lt
        have h3 := Option.some.inj e
        omega
theorem BkS.calm (h : BkS w0 w wr p nv lv' nv' x y l' ns S) {w' : World} (hb : Below wr.heap.size wr w') : BkS w0 w w' p nv lv' nv' x y l' ns S :=
  ⟨h.ps.calm hb, h.kb.trans (Kb.of_below hb _ _), h.nr, h.fi.below hb, h.nd.below hb, h.nn, h.gz⟩
theorem BkS.push (h : BkS w0 w wr p nv lv' nv' x y l' ns S) {vs : List Nv} (hvs : vs.map (·.1) = ns) (ho : Ownv wr w0.heap.size nv' vs) (hn : ∀ a ∈ vs, Nk wr w0.heap.size S a) {w1 : World} {nv2 : Value} {a : Nv} (hg : wr.grownBy w1 nv'.ownBlock) (ho' : Ownv w1 w0.heap.size nv2 (vs ++ [a])) (ha : Nk w1 w0.heap.size S a) (hnr : Near wr nv' nv2) :
    Str w1 p 84 #[lv', nv'] ∧ BkS w0 w (w1.setCell ⟨p, 1, none⟩ nv2) p nv lv' nv2 x y l' (ns ++ [a.1]) S := by
  subst hvs
  obtain ⟨s1, s2, s3⟩ := h.ps.push hn ho hg ho' ha
  exact ⟨s1, h.fed s3 s2 hnr⟩
theorem BkS.turn (h : BkS w0 w wr p nv lv' nv' x y l' ns S) {w' : World} {y' : Nv} (hk : Kb wr w' (some (w.heap.size + 1)) none) (hs : Str w' (w.heap.size + 1) 48 (nc y')) : BkS w0 w w' p nv lv' nv' x y' l' ns S := by
  have hpn : p ≠ w.heap.size + 1 := h.ps.st.apart_str h.nd (by decide)
  exact ⟨h.ps.kb hk (Far.str h.nd (by decide) (by decide)) (Far.none _ _) (fun e => hpn (Option.some.inj e)) (by simp) h.nn no_or (fun g hg => by have := Option.some.inj hg; have := h.gz; omega) (by simp), h.kb.trans_new (q' := some (w.heap.size + 1)) ⟨hk.os, hk.tape, hk.output, hk.size, fun k h1 h2 h3 => hk.block k h1 h3 (by simp)⟩ (fun g hg => .inr (by have := Option.some.inj hg; omega)), h.nr, h.fi.kb hk (by simp) (by simp), hs, h.nn, h.gz⟩
end
end Go.Proofs.YtgfhabofhefaaaaGreatDoor
