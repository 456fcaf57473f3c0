/- The walk of the document's own block. -/
import Derived.Test.YtmgalfdiiegjjaaGreatDoorSeg44
import Derived.Test.YtmgalfdiiegjjaaGreatDoorDcT1
import Derived.Test.YtmgalfdiiegjjaaGreatDoorDcT2
import Derived.Test.YtmgalfdiiegjjaaGreatDoorDcT3
namespace Go.Proofs.YtmgalfdiiegjjaaGreatDoor
open Go.RowKit

theorem rblock_any {f : Nat} (hb : ∀ f', f' < f → RbC f') : RbC (f + 1) := by
  intro w0 w p lv nv L t ns S d h ht hL hf hN hd
  obtain ⟨x, hx, hdr⟩ := dropt_at ht
  by_cases hk : DC.nk x.1 = 0
  · exact rblock0_any hb w0 w p lv nv L t ns S d x hx hdr hk h ht hL hf hN hd
  rcases DC.nk_three hk with hk | hk | hk
  · exact rblock1_any hb w0 w p lv nv L t ns S d x hx hdr hk h ht hL hf hN hd
  · exact rblock2_any hb w0 w p lv nv L t ns S d x hx hdr hk h ht hL hf hN hd
  · exact rblock3_any hb w0 w p lv nv L t ns S d x hx hdr hk h ht hL hf hN hd
theorem rbc_all (f : Nat) : RbC f := by
  induction f using Nat.strongRecOn with
  | ind f ih =>
    cases f with
    | zero => intro w0 w p lv nv L t ns S d h ht hL hf; exact absurd hf (by omega)
    | succ f => exact rblock_any fun f' hf' => ih f' (by omega)
end Go.Proofs.YtmgalfdiiegjjaaGreatDoor
