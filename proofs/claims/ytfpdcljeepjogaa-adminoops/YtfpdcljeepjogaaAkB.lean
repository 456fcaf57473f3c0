/- Slices of descriptors: what one reads as. Rows of bytes that lie apart from a struct. -/
import Derived.Test.YtfpdcljeepjogaaDsC
import Derived.Test.YtfpdcljeepjogaaStr
import Derived.Test.YtfpdcljeepjogaaAkMath
namespace Go.Proofs.Ytfpdcljeepjogaa
open Go.RowKit

theorem rde_slice {w : World} {v : Value} {es : List D.E} (h : Rde w v es) : ∃ ao cap, v = .slice ao es.length cap ∧ es.length ≤ cap ∧ cap ≤ maxLen := by
  obtain ⟨ao, cap, hv, h1, h2, _⟩ := h
  exact ⟨ao, cap, hv, h1, h2⟩

theorem Owne.ownBlock {w : World} {base : Nat} {t : TypeId} {v : Value} {es : List D.E} (h : Owne w base t v es) {g : Nat} (hg : v.ownBlock = some g) : (∃ cur, w.heap[g]? = some (.cells cur t (0, 0))) ∧ base ≤ g ∧ g < w.heap.size := by
  rcases h.2 with ⟨hv, _⟩ | ⟨g', cap, cur, hv, hb, hc, _⟩
  · rw [hv] at hg; cases hg
  · rw [hv] at hg
    obtain rfl : g' = g := Option.some.inj hg
    exact ⟨⟨cur, hc⟩, hb, (Array.getElem?_eq_some_iff.1 hc).1⟩
theorem Owne.kb {w w' : World} {base : Nat} {t : TypeId} {v : Value} {es : List D.E} {p q : Option Nat} (h : Owne w base t v es) (hk : Kb w w' p q) (h1 : v.ownBlock = none ∨ v.ownBlock ≠ p) (h2 : v.ownBlock = none ∨ v.ownBlock ≠ q) : Owne w' base t v es := by
  refine ⟨h.1, ?_⟩
  rcases h.2 with hn | ⟨g, cap, cur, rfl, hb, hgg, rest⟩
  · exact .inl hn
  · refine .inr ⟨g, cap, cur, rfl, hb, ?_, rest⟩
    rw [hk.block g (Array.getElem?_eq_some_iff.1 hgg).1 (by simpa [Value.ownBlock] using h1) (by simpa [Value.ownBlock] using h2)]
    exact hgg
/-- A row of one type lies apart from a block of another. -/
theorem Owne.off {w : World} {base : Nat} {t T : TypeId} {v : Value} {es : List D.E} {p : Nat} {cs : Array Value} (h : Owne w base t v es) (hs : Str w p T cs) (hne : t ≠ T) : v.ownBlock = none ∨ v.ownBlock ≠ some p := by
  cases hg : v.ownBlock with
  | none => exact .inl rfl
  | some g =>
    right
    intro e
    obtain rfl := Option.some.inj e
    obtain ⟨⟨cur, hc⟩, _⟩ := h.ownBlock hg
    have h' : w.heap[g]? = some (.cells cs T (0, 0)) := hs
    rw [h'] at hc
    simp at hc
    exact hne hc.2.symm
theorem Own.off {w : World} {base : Nat} {t T : TypeId} {v : Value} {xs : List Value} {p : Nat} {cs : Array Value} (h : Own w base t v xs) (hs : Str w p T cs) (hne : t ≠ T) : v.ownBlock = none ∨ v.ownBlock ≠ some p := by
  cases hg : v.ownBlock with
  | none => exact .inl rfl
  | some g =>
    right
    intro e
    obtain rfl := Option.some.inj e
    obtain ⟨cur, hc⟩ := h.block hg
    have h' : w.heap[g]? = some (.cells cs T (0, 0)) := hs
    rw [h'] at hc
    simp at hc
    exact hne hc.2.symm
/-- Bytes that are read do not lie in a struct's block that holds none. -/
theorem Rdv.kb {w w' : World} {p : Nat} {T : TypeId} {cs : Array Value} {v : Value} {bs : List UInt8} (h : Rdv w v (bv bs)) (hs : Str w p T cs) (hcs : ∀ (i : Nat) (z : Int), cs[i]? ≠ some (Value.int .u8 z)) (hk : Kb w w' (some p) none) : Rdv w' v (bv bs) := by
  obtain ⟨ao, cap, hv, h1, h2, h3, h4⟩ := h
  refine ⟨ao, cap, hv, h1, h2, h3, fun j u hu => ?_⟩
  have hpos : 0 < (bv bs).length := by
    have := (List.getElem?_eq_some_iff.1 hu).1
    omega
  obtain ⟨⟨b, off, spot⟩, hx, hc0⟩ := h4 0 (bv bs)[0] (List.getElem?_eq_getElem hpos)
  have hspot : spot = none := by simpa [Addr.add] using World.cell?_spot hc0
  subst hspot
  obtain ⟨y, hy, hc⟩ := h4 j u hu
  rw [hx] at hy
  obtain rfl := Option.some.inj hy
  refine ⟨_, hx, ?_⟩
  rw [Addr.add_lit] at hc ⊢
  have hne : b ≠ p := by
    rintro rfl
    rw [hs.cell] at hc
    obtain ⟨x, _, rfl⟩ := List.mem_map.1 (List.mem_of_getElem? hu)
    exact hcs _ _ hc
  rw [← hc]
  exact World.cell?_of_block (hk.block b (cell_lt hc) (by simpa using hne) (by simp))
theorem Kb.widen {w w' : World} {p : Option Nat} (h : Kb w w' none none) : Kb w w' p none := ⟨h.os, h.tape, h.output, h.size, fun k hk _ h2 => h.block k hk (by simp) h2⟩
theorem Kb.to_below {w w' : World} (h : Kb w w' none none) : Below w.heap.size w w' := ⟨h.os, h.tape, h.output, h.size, fun k hk => h.block k hk (by simp) (by simp)⟩
end Go.Proofs.Ytfpdcljeepjogaa
