/- Entries: slices of structs of two texts. What one reads as, what a call's own one holds. No program is named here. -/
import Derived.Test.YtfpdcljeepjogaaDsN
namespace Go.Proofs.Ytfpdcljeepjogaa
open Go.RowKit

def tv (l : List UInt8) : Value := .string ⟨l.toArray⟩
/-- The cells of entries. -/
def ev (es : List D.E) : List Value := es.flatMap fun e => [tv e.1, tv e.2]
theorem ev_len (es : List D.E) : (ev es).length = es.length * 2 := by
  induction es with
  | nil => rfl
  | cons e es ih => simp only [ev, List.flatMap_cons, List.length_append] at ih ⊢; simp only [List.length_cons, List.length_nil]; omega
theorem ev_app (a b : List D.E) : ev (a ++ b) = ev a ++ ev b := by simp [ev]
theorem ev_at : ∀ {es : List D.E} {j : Nat} {e : D.E}, es[j]? = some e → (ev es)[j * 2]? = some (tv e.1) ∧ (ev es)[j * 2 + 1]? = some (tv e.2)
  | [], _, _, h => by simp at h
  | x :: es, 0, e, h => by
    have : x = e := by simpa using h
    subst this
    exact ⟨rfl, rfl⟩
  | x :: es, j + 1, e, h => by
    have h' : es[j]? = some e := by simpa using h
    obtain ⟨h1, h2⟩ := ev_at h'
    have e1 : ev (x :: es) = tv x.1 :: tv x.2 :: ev es := rfl
    refine ⟨?_, ?_⟩
    · rw [e1, show (j + 1) * 2 = (j * 2) + 1 + 1 by omega]; simpa using h1
    · rw [e1, show (j + 1) * 2 + 1 = (j * 2 + 1) + 1 + 1 by omega]; simpa using h2
theorem ev_one {es : List D.E} : ∀ u ∈ ev es, u.oneCell' = true := by
  intro u hu
  obtain ⟨e, _, h⟩ := List.mem_flatMap.1 hu
  simp at h
  rcases h with rfl | rfl <;> rfl

/-- The slice value v reads, in w, as the entries es. -/
def Rde (w : World) (v : Value) (es : List D.E) : Prop :=
  ∃ ao cap, v = .slice ao es.length cap ∧ es.length ≤ cap ∧ cap ≤ maxLen ∧ (ao = none → cap = 0) ∧
    ∀ j e, es[j]? = some e → ∃ b off, ao = some ⟨b, off, none⟩ ∧ w.cell? ⟨b, off + j * 2, none⟩ = some (tv e.1) ∧ w.cell? ⟨b, off + j * 2 + 1, none⟩ = some (tv e.2)
theorem Rde.below {w w' : World} {v : Value} {es : List D.E} (h : Rde w v es) (hb : Below w.heap.size w w') : Rde w' v es := by
  obtain ⟨ao, cap, hv, h1, h2, h3, h4⟩ := h
  refine ⟨ao, cap, hv, h1, h2, h3, fun j e he => ?_⟩
  obtain ⟨b, off, hx, c1, c2⟩ := h4 j e he
  exact ⟨b, off, hx, (hb.cell (cell_lt c1)).trans c1, (hb.cell (cell_lt c2)).trans c2⟩
theorem Rde.nil (w : World) : Rde w (.slice none 0 0) [] := ⟨none, 0, rfl, by simp, by simp [maxLen], fun _ => rfl, by simp⟩
/-- What is known of a slice that has an element. -/
theorem Rde.form {w : World} {v : Value} {es : List D.E} (h : Rde w v es) (hne : es ≠ []) :
    ∃ b off cap, v = .slice (some ⟨b, off, none⟩) es.length cap ∧ es.length ≤ cap ∧ cap ≤ maxLen ∧ ∀ j e, es[j]? = some e → w.cell? ⟨b, off + j * 2, none⟩ = some (tv e.1) ∧ w.cell? ⟨b, off + j * 2 + 1, none⟩ = some (tv e.2) := by
  obtain ⟨ao, cap, hv, h1, h2, h3, h4⟩ := h
  have hpos : 0 < es.length := List.length_pos_iff.2 hne
  obtain ⟨b, off, rfl, _⟩ := h4 0 es[0] (by simp)
  refine ⟨b, off, cap, hv, h1, h2, fun j e he => ?_⟩
  obtain ⟨b', off', hx, c1, c2⟩ := h4 j e he
  obtain ⟨rfl, rfl⟩ : b = b' ∧ off = off' := by simpa using hx
  exact ⟨c1, c2⟩
theorem Rde.void {w : World} {v : Value} (h : Rde w v []) : ∃ ao cap, v = .slice ao 0 cap ∧ cap ≤ maxLen := by
  obtain ⟨ao, cap, hv, h1, h2, _⟩ := h
  exact ⟨ao, cap, hv, h2⟩
theorem Rde.len_le {w : World} {v : Value} {es : List D.E} (h : Rde w v es) : es.length ≤ maxLen := by
  obtain ⟨ao, cap, hv, h1, h2, _⟩ := h
  omega

/-- The slice value v is a row of the call's own, whose elements are the entries es. -/
def Owne (w : World) (base : Nat) (t : TypeId) (v : Value) (es : List D.E) : Prop := w.ownsRow base t 2 v es.length (ev es)
theorem Owne.nil (w : World) (base : Nat) (t : TypeId) : Owne w base t (.slice none 0 0) [] := World.ownsRow_nil w base t 2
theorem Owne.below {w w' : World} {base : Nat} {t : TypeId} {v : Value} {es : List D.E} (h : Owne w base t v es) (hb : Below w.heap.size w w') : Owne w' base t v es := by
  refine ⟨h.1, ?_⟩
  rcases h.2 with hn | ⟨g, cap, cur, hv, hbg, hg, rest⟩
  · exact .inl hn
  · exact .inr ⟨g, cap, cur, hv, hbg, (hb.block g (Array.getElem?_eq_some_iff.1 hg).1).trans hg, rest⟩
theorem Owne.rd {w : World} {base : Nat} {t : TypeId} {v : Value} {es : List D.E} (h : Owne w base t v es) : Rde w v es := by
  rcases h.2 with ⟨hv, hn⟩ | ⟨g, cap, cur, hv, hb, hg, hnc, hcm, hcs, ht⟩
  · obtain rfl : es = [] := List.length_eq_zero_iff.1 hn
    rw [hv]; exact Rde.nil w
  · refine ⟨some ⟨g, 0, none⟩, cap, hv, hnc, hcm, (by intro h; cases h), fun j e he => ⟨g, 0, rfl, ?_, ?_⟩⟩
    · have := World.ownsRow.cells h (by rw [hv]; rfl) (j * 2) _ (ev_at he).1
      rwa [Addr.add_lit] at this
    · have := World.ownsRow.cells h (by rw [hv]; rfl) (j * 2 + 1) _ (ev_at he).2
      rwa [Addr.add_lit, ← Nat.add_assoc] at this

/-- Every text of it fits in an int. -/
def Fits (es : List D.E) : Prop := ∀ e ∈ es, e.1.length ≤ 9223372036854775807 ∧ e.2.length ≤ 9223372036854775807
/-- It is looked at. -/
def Light (es : List D.E) : Prop := es.length ≤ 5000 ∧ ∀ e ∈ es, e.1.length ≤ 5000 ∧ e.2.length ≤ 5000
theorem Light.fits {es : List D.E} (h : Light es) : Fits es := fun e he => by have := h.2 e he; omega
theorem take_entry {es : List D.E} {k : Nat} {e : D.E} {p : D.E → Prop} (h : es[k]? = some e) (hd : ∀ x ∈ es.take k, p x) (he : p e) : ∀ x ∈ es.take (k + 1), p x := by
  intro x hm
  rw [List.take_add_one, h] at hm
  rcases List.mem_append.1 hm with h1 | h1
  · exact hd x h1
  · have : x = e := by simpa using h1
    rw [this]; exact he
end Go.Proofs.Ytfpdcljeepjogaa
