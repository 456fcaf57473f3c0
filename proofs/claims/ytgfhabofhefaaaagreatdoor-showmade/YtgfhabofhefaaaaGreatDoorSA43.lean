/- A part of the proof. -/
import Derived.Test.YtgfhabofhefaaaaGreatDoorSA11
import Derived.BigQuiet
import Derived.Deep.LoopGhost
import Derived.Deep.DeepCutAuto
namespace Go.Proofs.YtgfhabofhefaaaaGreatDoor
open Go.RowKit
structure Kin (x y : DC.Nd) : Prop where
  kind : x.kind = y.kind
  text : x.text = y.text
  quoted : x.quoted = y.quoted
  keys : x.keys = y.keys
  kids : x.kids = y.kids
theorem Kin.refl (x : DC.Nd) : Kin x x := ⟨rfl, rfl, rfl, rfl, rfl⟩
structure SaD (w wx : World) (v v' : Value) : Prop where
  bl : Below w.heap.size w wx
  d0 : Str wx w.heap.size 26 #[v]
  d1 : Str wx (w.heap.size + 1) 26 #[v']
theorem SaD.calm {w wx w' : World} {v v' : Value} (h : SaD w wx v v') (hb : Below wx.heap.size wx w') : SaD w w' v v' := ⟨below_trans h.bl hb, h.d0.below hb, h.d1.below hb⟩
theorem SaD.start (w : World) (v v' : Value) : SaD w ((w.alloc (.cells #[v] 26)).alloc (.cells #[v'] 26)) v v' := by
  have b1 := below_alloc w (.cells #[v] 26)
  have b2 := below_alloc (w.alloc (.cells #[v] 26)) (.cells #[v'] 26)
  have s2 := Str.new (w.alloc (.cells #[v] 26)) 26 #[v']
  rw [bx_size] at s2
  exact ⟨below_trans b1 b2, (Str.new w 26 #[v]).below b2, s2⟩
structure SaN (w wx : World) (v v' : Value) (a b : Nat) (x y : Nv) : Prop where
  sd : SaD w wx v v'
  na : Str wx a 48 (nc x)
  nb : Str wx b 48 (nc y)
theorem SaN.calm {w wx w' : World} {v v' : Value} {a b : Nat} {x y : Nv} (h : SaN w wx v v' a b x y) (hb : Below wx.heap.size wx w') : SaN w w' v v' a b x y := ⟨h.sd.calm hb, h.na.below hb, h.nb.below hb⟩
theorem SaD.two {w wr : World} {v v' : Value} (h : SaD w wr v v') (x y : Nv) : SaN w (((wr.alloc (.cells (nc x) 48)).alloc (.cells (nc y) 48)).drew) v v' wr.heap.size (wr.heap.size + 1) x y ∧ SaN w (((wr.alloc (.cells (nc y) 48)).alloc (.cells (nc x) 48)).drew) v v' (wr.heap.size + 1) wr.heap.size x y := by
  have key : ∀ a b : Nv, SaD w (((wr.alloc (.cells (nc a) 48)).alloc (.cells (nc b) 48)).drew) v v' ∧ Str (((wr.alloc (.cells (nc a) 48)).alloc (.cells (nc b) 48)).drew) wr.heap.size 48 (nc a) ∧ Str (((wr.alloc (.cells (nc a) 48)).alloc (.cells (nc b) 48)).drew) (wr.heap.size + 1) 48 (nc b) := fun a b => by
    have b1 := below_alloc wr (.cells (nc a) 48)
    have b2 := below_alloc (wr.alloc (.cells (nc a) 48)) (.cells (nc b) 48)
    have s2 := (Str.new (wr.alloc (.cells (nc a) 48)) 48 (nc b)).below (below_drew _)
    rw [bx_size] at s2
    exact ⟨h.calm (below_trans (below_trans b1 b2) (below_drew _)), ((Str.new wr 48 (nc a)).below b2).below (below_drew _), s2⟩
  exact ⟨⟨(key x y).1, (key x y).2.1, (key x y).2.2⟩, ⟨(key y x).1, (key y x).2.2, (key y x).2.1⟩⟩
end Go.Proofs.YtgfhabofhefaaaaGreatDoor
