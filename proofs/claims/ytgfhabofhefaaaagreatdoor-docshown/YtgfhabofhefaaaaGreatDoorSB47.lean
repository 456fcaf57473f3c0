/- A part of the proof. -/
import Derived.Test.YtgfhabofhefaaaaGreatDoorSB46
import Derived.Test.YtgfhabofhefaaaaGreatDoorSB17
namespace Go.Proofs.YtgfhabofhefaaaaGreatDoor
open Go.RowKit
namespace LN
theorem tl_drop {r : List UInt8} {m : Nat} (hm : m ≤ r.length) (h1 : ∀ j, j < m → r[j]? = some 32) (h2 : ∀ c, r[m]? = some c → c ≠ 32) : tl r = r.drop m := by
  unfold tl
  exact Lib.trimLeftB_drop r 32 m hm (fun j b hj hb => by rw [h1 j hj] at hb; exact (Option.some.inj hb).symm) h2
end LN
structure LJ (w wr : World) (s4 : Value) (acc : List LN.Ln) : Prop where
  bl : Below (w.heap.size + 1) (w.alloc (.cells #[.int .i64 0, .int .i64 0] 39)) wr
  own : Ownn wr (w.heap.size + 1) s4 acc
theorem LJ.big {w wr : World} {s4 : Value} {acc : List LN.Ln} (h : LJ w wr s4 acc) : w.heap.size + 1 ≤ wr.heap.size := by
  have := h.bl.size
  rwa [bx_size] at this
theorem LJ.calm {w wr w' : World} {s4 : Value} {acc : List LN.Ln} (h : LJ w wr s4 acc) (hb : Below wr.heap.size wr w') : LJ w w' s4 acc := ⟨h.bl.trans (hb.mono h.big), h.own.below hb⟩
theorem LJ.grown {w wr w' : World} {s4 s4' : Value} {acc acc' : List LN.Ln} (h : LJ w wr s4 acc) (hg : wr.grownBy w' s4.ownBlock) (ho : Ownn w' (w.heap.size + 1) s4' acc') : LJ w w' s4' acc' :=
  ⟨h.bl.grown hg h.big (fun _ hk => (h.own.ownBlock hk).2.1), ho⟩
theorem LJ.st {w wr : World} {s4 : Value} {acc : List LN.Ln} (h : LJ w wr s4 acc) : Str wr w.heap.size 39 #[.int .i64 0, .int .i64 0] := by
  have hb := h.bl
  rw [← bx_size w (.cells #[.int .i64 0, .int .i64 0] 39)] at hb
  exact (Str.new w 39 #[.int .i64 0, .int .i64 0]).below hb
end Go.Proofs.YtgfhabofhefaaaaGreatDoor
