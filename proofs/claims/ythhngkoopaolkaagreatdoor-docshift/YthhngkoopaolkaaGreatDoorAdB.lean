/- Structs of three and of four cells. No program is named here. -/
import Derived.Test.YthhngkoopaolkaaGreatDoorStr
namespace Go.Proofs.YthhngkoopaolkaaGreatDoor
open Go.RowKit

theorem Str.cells3 {x : World} {p : Nat} {T : TypeId} {a b c : Value} (h : Str x p T #[a, b, c]) : x.cell? ⟨p, 0, none⟩ = some a ∧ x.cell? ⟨p, 1, none⟩ = some b ∧ x.cell? ⟨p, 2, none⟩ = some c := ⟨h.cell 0, h.cell 1, h.cell 2⟩
theorem Str.cells4 {x : World} {p : Nat} {T : TypeId} {a b c d : Value} (h : Str x p T #[a, b, c, d]) : x.cell? ⟨p, 0, none⟩ = some a ∧ x.cell? ⟨p, 1, none⟩ = some b ∧ x.cell? ⟨p, 2, none⟩ = some c ∧ x.cell? ⟨p, 3, none⟩ = some d := ⟨h.cell 0, h.cell 1, h.cell 2, h.cell 3⟩
theorem Str.frozen4 {x : World} {p : Nat} {T : TypeId} {cs : Array Value} (h : Str x p T cs) : x.frozen? ⟨p, 0, none⟩ = false ∧ x.frozen? ⟨p, 1, none⟩ = false ∧ x.frozen? ⟨p, 2, none⟩ = false ∧ x.frozen? ⟨p, 3, none⟩ = false := ⟨h.frozen 0, h.frozen 1, h.frozen 2, h.frozen 3⟩
/-- A store of three cells, of four. -/
def three (w : World) (p : Nat) (x y z : Value) : World := ((w.setCell ⟨p, 0, none⟩ x).setCell ⟨p, 1, none⟩ y).setCell ⟨p, 2, none⟩ z
def four (w : World) (p : Nat) (x y z u : Value) : World := (((w.setCell ⟨p, 0, none⟩ x).setCell ⟨p, 1, none⟩ y).setCell ⟨p, 2, none⟩ z).setCell ⟨p, 3, none⟩ u
theorem Str.three {w : World} {p : Nat} {T : TypeId} {a b c : Value} (h : Str w p T #[a, b, c]) (x y z : Value) : Str (three w p x y z) p T #[x, y, z] := by
  have h1 := ((h.set 0 x).set 1 y).set 2 z
  simp only [List.setIfInBounds_toArray, List.set_cons_zero, List.set_cons_succ] at h1
  exact h1
theorem Str.four {w : World} {p : Nat} {T : TypeId} {a b c d : Value} (h : Str w p T #[a, b, c, d]) (x y z u : Value) : Str (four w p x y z u) p T #[x, y, z, u] := by
  have h1 := (((h.set 0 x).set 1 y).set 2 z).set 3 u
  simp only [List.setIfInBounds_toArray, List.set_cons_zero, List.set_cons_succ] at h1
  exact h1
theorem Kb.three (w : World) (p : Nat) (x y z : Value) (q : Option Nat) : Kb w (three w p x y z) (some p) q := ((Kb.set w p 0 x q).trans (Kb.set _ p 1 y q)).trans (Kb.set _ p 2 z q)
theorem Kb.four (w : World) (p : Nat) (x y z u : Value) (q : Option Nat) : Kb w (four w p x y z u) (some p) q := (((Kb.set w p 0 x q).trans (Kb.set _ p 1 y q)).trans (Kb.set _ p 2 z q)).trans (Kb.set _ p 3 u q)
end Go.Proofs.YthhngkoopaolkaaGreatDoor
