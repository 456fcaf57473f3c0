/- Slices of numbers: what one reads as. No program is named here. -/
import Derived.Test.YtaajdodicepbdaaSlc
namespace Go.Proofs.Ytaajdodicepbdaa
open Go.RowKit
def iv (q : IntKind) (zs : List Int) : List Value := zs.map (Value.int q)
theorem iv_len (q : IntKind) (zs : List Int) : (iv q zs).length = zs.length := by simp [iv]
theorem iv_get {q : IntKind} {zs : List Int} {j : Nat} (h : j < zs.length) : (iv q zs)[j]? = some (.int q zs[j]) := by simp [iv, h]
/-- What is known of a cell of what reads as numbers. -/
theorem Rdv.ati {w : World} {v : Value} {q : IntKind} {zs : List Int} (h : Rdv w v (iv q zs)) {j : Nat} (hj : j < zs.length) :
    ∃ b off cap, v = .slice (some ⟨b, off, none⟩) zs.length cap ∧ b < w.heap.size ∧ w.cell? ⟨b, off + j, none⟩ = some (.int q zs[j]) := by
  obtain ⟨ao, cap, rfl, h1, h2, h3, h4⟩ := h
  obtain ⟨⟨b, off, spot⟩, rfl, hc0⟩ := h4 0 _ (iv_get (by omega))
  have hspot : spot = none := by simpa [Addr.add] using World.cell?_spot hc0
  subst hspot
  obtain ⟨y, hy, hc⟩ := h4 j _ (iv_get hj)
  obtain rfl := Option.some.inj hy
  rw [Addr.add_lit] at hc
  exact ⟨b, off, cap, by rw [iv_len], cell_lt hc, hc⟩
end Go.Proofs.Ytaajdodicepbdaa
