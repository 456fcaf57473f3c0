/- A part of the proof. -/
import Derived.Test.YtgfhabofhefaaaaGreatDoorSA41
import Derived.Test.YtgfhabofhefaaaaGreatDoorSA42
import Derived.Test.YtgfhabofhefaaaaGreatDoorSA44
import Derived.Test.YtgfhabofhefaaaaGreatDoorSA45
import Derived.Test.YtgfhabofhefaaaaGreatDoorSA23
import Derived.Test.YtgfhabofhefaaaaGreatDoorSA36
namespace Go.Proofs.YtgfhabofhefaaaaGreatDoor
open Go.RowKit
theorem rblock_any {f : Nat} (hb : ∀ f', f' < f → RbC f') : RbC (f + 1) := by
  intro w0 w p lv nv L t ns S d h ht hL hf hN hd
  obtain ⟨x, hx, hdr⟩ := dropt_at ht
  by_cases hk : DC.nk x.1 = 0
  · exact rblock0_any hb w0 w p lv nv L t ns S d x hx hdr hk h ht hL hf hN hd
  rcases DC.nk_three hk with hk | hk | hk
  · exact rblock1_any hb w0 w p lv nv L t ns S d x hx hdr hk h ht hL hf hN hd
  · exact rblock2_any hb w0 w p lv nv L t ns S d x hx hdr hk h ht hL hf hN hd
  · exact rblock3_any hb w0 w p lv nv L t ns S d x hx hdr hk h ht hL hf hN hd
theorem rbc_all (f : Nat) : RbC f := by
  induction f using Nat.strongRecOn with
  | ind f ih =>
    cases f with
    | zero => intro w0 w p lv nv L t ns S d h ht hL hf; exact absurd hf (by omega)
    | succ f => exact rblock_any fun f' hf' => ih f' (by omega)
end Go.Proofs.YtgfhabofhefaaaaGreatDoor
namespace Go.Proofs.YtgfhabofhefaaaaGreatDoor
open Go.RowKit Go.Maps Go.WideMaps
theorem Seen.ne_nds {w : World} {b base : Nat} {S : Nat → Prop} {ks : List LX.B} {v : Value} {ns : List DC.Nd} (h : Seen w b ks) (ho : Nds w base S v ns) : some b ≠ v.ownBlock := by
  obtain ⟨es, clock, hb⟩ := h.obj
  obtain ⟨vs, _, ho, _⟩ := ho
  intro e1
  obtain ⟨⟨c, hc⟩, _⟩ := ho.ownBlock e1.symm
  rw [hb] at hc; cases hc
structure EnS (w0 w wr : World) (p : Nat) (nv lv' nv' kv v : Value) (l' : List LX.Pc) (ns : List DC.Nd) (S Sk : Nat → Prop) (ks ss : List LX.B) (is : List Nat) : Prop where
  it : ItS w0 w wr p nv lv' nv' kv v l' ns S Sk ks is
  sn : Seen wr w.heap.size ss
section
variable {w0 w wr : World} {p : Nat} {nv lv' nv' kv v : Value} {l' : List LX.Pc} {ns : List DC.Nd} {S Sk : Nat → Prop} {ks ss : List LX.B} {is : List Nat}
theorem EnS.start {lv : Value} {l : List LX.Pc} (h : Pst w0 w p lv nv l ns S) : EnS w0 w (w.alloc (.map #[] 0)) p nv lv nv (.slice none 0 0) (.slice none 0 0) l ns S S [] [] [] :=
  ⟨(ItS.start h).calm (below_alloc _ _), Seen.new w⟩
theorem EnS.calm (h : EnS w0 w wr p nv lv' nv' kv v l' ns S Sk ks ss is) {w' : World} (hb : Below wr.heap.size wr w') : EnS w0 w w' p nv lv' nv' kv v l' ns S Sk ks ss is := ⟨h.it.calm hb, h.sn.below hb⟩
theorem EnS.fed (h : EnS w0 w wr p nv lv' nv' kv v l' ns S Sk ks ss is) {w2 : World} {lv2 nv2 : Value} {r : List LX.Pc} {ns2 : List DC.Nd} (hk : Kb wr w2 (some p) nv'.ownBlock) (hp : Pst w0 w2 p lv2 nv2 r ns2 (More Sk wr w2)) (hn : Near wr nv' nv2) :
    EnS w0 w w2 p nv lv2 nv2 kv v r ns2 S (More Sk wr w2) ks ss is :=
  ⟨h.it.fed hk hp hn, h.sn.kb hk (by have := h.sn.ne_str h.it.ps.st; simpa using this) (h.sn.ne_nds h.it.ps.nd)⟩
theorem EnS.key (h : EnS w0 w wr p nv lv' nv' kv v l' ns S Sk ks ss is) {w' : World} {kv' : Value} {ks' : List LX.B} (hg : wr.grownBy w' kv.ownBlock) (ho : Own w' w.heap.size 9 kv' (sv ks')) (hn : Near wr kv kv') : EnS w0 w w' p nv lv' nv' kv' v l' ns S Sk ks' ss is :=
  ⟨h.it.key hg ho hn, h.sn.kb (Kb.of_grown hg none) (by simp) (h.sn.ne_own h.it.keys)⟩
theorem EnS.kid (h : EnS w0 w wr p nv lv' nv' kv v l' ns S Sk ks ss is) {w' : World} {v' : Value} {is' : List Nat} (hg : wr.grownBy w' v.ownBlock) (ho : Own w' w.heap.size 3 v' (nats is')) (hn : Near wr v v') : EnS w0 w w' p nv lv' nv' kv v' l' ns S Sk ks ss is' :=
  ⟨h.it.kid hg ho hn, h.sn.kb (Kb.of_grown hg none) (by simp) (h.sn.ne_own h.it.kids)⟩
end
end Go.Proofs.YtgfhabofhefaaaaGreatDoor
