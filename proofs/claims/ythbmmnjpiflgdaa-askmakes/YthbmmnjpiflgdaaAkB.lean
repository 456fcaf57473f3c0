/- Slices of descriptors: what one reads as. Rows of bytes that lie apart from a struct. -/
import Derived.Test.YthbmmnjpiflgdaaDsQ
import Derived.Test.YthbmmnjpiflgdaaStr
import Derived.Test.YthbmmnjpiflgdaaAkMath
namespace Go.Proofs.Ythbmmnjpiflgdaa
open Go.RowKit

/-- The slice value v reads, in w, as the descriptors ds. -/
def Rdd (w : World) (v : Value) (ds : List (List D.E)) : Prop :=
  ∃ ao cap, v = .slice ao ds.length cap ∧ ds.length ≤ cap ∧ cap ≤ maxLen ∧ (ao = none → cap = 0) ∧
    ∀ j d, ds[j]? = some d → ∃ b off u, ao = some ⟨b, off, none⟩ ∧ w.cell? ⟨b, off + j, none⟩ = some u ∧ Rde w u d
theorem Rdd.below {w w' : World} {v : Value} {ds : List (List D.E)} (h : Rdd w v ds) (hb : Below w.heap.size w w') : Rdd w' v ds := by
  obtain ⟨ao, cap, hv, h1, h2, h3, h4⟩ := h
  refine ⟨ao, cap, hv, h1, h2, h3, fun j d hd => ?_⟩
  obtain ⟨b, off, u, hx, c1, c2⟩ := h4 j d hd
  exact ⟨b, off, u, hx, (hb.cell (cell_lt c1)).trans c1, c2.below hb⟩
theorem Rdd.nil (w : World) : Rdd w (.slice none 0 0) [] := ⟨none, 0, rfl, by simp, by simp [maxLen], fun _ => rfl, by simp⟩
theorem Rdd.len_le {w : World} {v : Value} {ds : List (List D.E)} (h : Rdd w v ds) : ds.length ≤ maxLen := by
  obtain ⟨ao, cap, hv, h1, h2, _⟩ := h
  omega
theorem rde_slice {w : World} {v : Value} {es : List D.E} (h : Rde w v es) : ∃ ao cap, v = .slice ao es.length cap ∧ es.length ≤ cap ∧ cap ≤ maxLen := by
  obtain ⟨ao, cap, hv, h1, h2, _⟩ := h
  exact ⟨ao, cap, hv, h1, h2⟩

/-- The slice value v is a row of the call's own, of descriptors of its own. -/
def Ownd (w : World) (base : Nat) (v : Value) (ds : List (List D.E)) : Prop :=
  ∃ vs, Own w base 42 v vs ∧ vs.length = ds.length ∧ ∀ (j : Nat) u d, vs[j]? = some u → ds[j]? = some d → Owne w base 44 u d
theorem Ownd.nil (w : World) (base : Nat) : Ownd w base (.slice none 0 0) [] := ⟨[], Own.nil w base _, rfl, by simp⟩
theorem Ownd.below {w w' : World} {base : Nat} {v : Value} {ds : List (List D.E)} (h : Ownd w base v ds) (hb : Below w.heap.size w w') : Ownd w' base v ds := by
  obtain ⟨vs, h1, h2, h3⟩ := h
  exact ⟨vs, h1.below hb, h2, fun j u d hu hd => (h3 j u d hu hd).below hb⟩
theorem Ownd.rd {w : World} {base : Nat} {v : Value} {ds : List (List D.E)} (h : Ownd w base v ds) : Rdd w v ds := by
  obtain ⟨vs, h1, h2, h3⟩ := h
  obtain ⟨ao, cap, rfl, k1, k2, k3, k4⟩ := h1.rd
  refine ⟨ao, cap, by rw [h2], by omega, k2, k3, fun j d hd => ?_⟩
  have hj : j < vs.length := by
    have := (List.getElem?_eq_some_iff.1 hd).1
    omega
  have hu : vs[j]? = some vs[j] := List.getElem?_eq_getElem hj
  obtain ⟨⟨b, off, spot⟩, rfl, hc0⟩ := k4 0 vs[0] (List.getElem?_eq_getElem (by omega))
  have hspot : spot = none := by simpa [Addr.add] using World.cell?_spot hc0
  subst hspot
  obtain ⟨y, hy, hc⟩ := k4 j _ hu
  obtain rfl := Option.some.inj hy
  rw [Addr.add_lit] at hc
  exact ⟨b, off, vs[j], rfl, hc, (h3 j _ d hu hd).rd⟩
theorem Owne.ownBlock {w : World} {base : Nat} {t : TypeId} {v : Value} {es : List D.E} (h : Owne w base t v es) {g : Nat} (hg : v.ownBlock = some g) : (∃ cur, w.heap[g]? = some (.cells cur t (0, 0))) ∧ base ≤ g ∧ g < w.heap.size := by
  rcases h.2 with ⟨hv, _⟩ | ⟨g', cap, cur, hv, hb, hc, _⟩
  · rw [hv] at hg; cases hg
  · rw [hv] at hg
    obtain rfl : g' = g := Option.some.inj hg
    exact ⟨⟨cur, hc⟩, hb, (Array.getElem?_eq_some_iff.1 hc).1⟩
theorem Owne.kb {w w' : World} {base : Nat} {t : TypeId} {v : Value} {es : List D.E} {p q : Option Nat} (h : Owne w base t v es) (hk : Kb w w' p q) (h1 : v.ownBlock = none ∨ v.ownBlock ≠ p) (h2 : v.ownBlock = none ∨ v.ownBlock ≠ q) : Owne w' base t v es := by
  refine ⟨h.1, ?_⟩
  rcases h.2 with hn | ⟨g, cap, cur, rfl, hb, hgg, rest⟩
  · exact .inl hn
  · refine .inr ⟨g, cap, cur, rfl, hb, ?_, rest⟩
    rw [hk.block g (Array.getElem?_eq_some_iff.1 hgg).1 (by simpa [Value.ownBlock] using h1) (by simpa [Value.ownBlock] using h2)]
    exact hgg
/-- A row of one type lies apart from a block of another. -/
theorem Owne.off {w : World} {base : Nat} {t T : TypeId} {v : Value} {es : List D.E} {p : Nat} {cs : Array Value} (h : Owne w base t v es) (hs : Str w p T cs) (hne : t ≠ T) : v.ownBlock = none ∨ v.ownBlock ≠ some p := by
  cases hg : v.ownBlock with
  | none => exact .inl rfl
  | some g =>
    right
    intro e
    obtain rfl := Option.some.inj e
    obtain ⟨⟨cur, hc⟩, _⟩ := h.ownBlock hg
    have h' : w.heap[g]? = some (.cells cs T (0, 0)) := hs
    rw [h'] at hc
    simp at hc
    exact hne hc.2.symm
theorem Own.off {w : World} {base : Nat} {t T : TypeId} {v : Value} {xs : List Value} {p : Nat} {cs : Array Value} (h : Own w base t v xs) (hs : Str w p T cs) (hne : t ≠ T) : v.ownBlock = none ∨ v.ownBlock ≠ some p := by
  cases hg : v.ownBlock with
  | none => exact .inl rfl
  | some g =>
    right
    intro e
    obtain rfl := Option.some.inj e
    obtain ⟨cur, hc⟩ := h.block hg
    have h' : w.heap[g]? = some (.cells cs T (0, 0)) := hs
    rw [h'] at hc
    simp at hc
    exact hne hc.2.symm
theorem Ownd.kb {w w' : World} {base : Nat} {v : Value} {ds : List (List D.E)} {p : Nat} {T : TypeId} {cs : Array Value} (h : Ownd w base v ds) (hs : Str w p T cs) (h1 : 42 ≠ T) (h2 : 44 ≠ T) (hk : Kb w w' (some p) none) : Ownd w' base v ds := by
  obtain ⟨vs, k1, k2, k3⟩ := h
  refine ⟨vs, k1.kb hk (k1.off hs h1) (by cases hh : v.ownBlock <;> simp), k2, fun j u d hu hd => ?_⟩
  have := k3 j u d hu hd
  exact this.kb hk (this.off hs h2) (by cases hh : u.ownBlock <;> simp)
theorem Owne.kb1 {w w' : World} {base : Nat} {v : Value} {es : List D.E} {p : Nat} {T : TypeId} {cs : Array Value} (h : Owne w base 44 v es) (hs : Str w p T cs) (h2 : 44 ≠ T) (hk : Kb w w' (some p) none) : Owne w' base 44 v es :=
  h.kb hk (h.off hs h2) (by cases hh : v.ownBlock <;> simp)

/-- Bytes that are read do not lie in a struct's block that holds none. -/
theorem Rdv.kb {w w' : World} {p : Nat} {T : TypeId} {cs : Array Value} {v : Value} {bs : List UInt8} (h : Rdv w v (bv bs)) (hs : Str w p T cs) (hcs : ∀ (i : Nat) (z : Int), cs[i]? ≠ some (Value.int .u8 z)) (hk : Kb w w' (some p) none) : Rdv w' v (bv bs) := by
  obtain ⟨ao, cap, hv, h1, h2, h3, h4⟩ := h
  refine ⟨ao, cap, hv, h1, h2, h3, fun j u hu => ?_⟩
  have hpos : 0 < (bv bs).length := by
    have := (List.getElem?_eq_some_iff.1 hu).1
    omega
  obtain ⟨⟨b, off, spot⟩, hx, hc0⟩ := h4 0 (bv bs)[0] (List.getElem?_eq_getElem hpos)
  have hspot : spot = none := by simpa [Addr.add] using World.cell?_spot hc0
  subst hspot
  obtain ⟨y, hy, hc⟩ := h4 j u hu
  rw [hx] at hy
  obtain rfl := Option.some.inj hy
  refine ⟨_, hx, ?_⟩
  rw [Addr.add_lit] at hc ⊢
  have hne : b ≠ p := by
    rintro rfl
    rw [hs.cell] at hc
    obtain ⟨x, _, rfl⟩ := List.mem_map.1 (List.mem_of_getElem? hu)
    exact hcs _ _ hc
  rw [← hc]
  exact World.cell?_of_block (hk.block b (cell_lt hc) (by simpa using hne) (by simp))
theorem Kb.widen {w w' : World} {p : Option Nat} (h : Kb w w' none none) : Kb w w' p none := ⟨h.os, h.tape, h.output, h.size, fun k hk _ h2 => h.block k hk (by simp) h2⟩
theorem Kb.to_below {w w' : World} (h : Kb w w' none none) : Below w.heap.size w w' := ⟨h.os, h.tape, h.output, h.size, fun k hk => h.block k hk (by simp) (by simp)⟩
end Go.Proofs.Ythbmmnjpiflgdaa
