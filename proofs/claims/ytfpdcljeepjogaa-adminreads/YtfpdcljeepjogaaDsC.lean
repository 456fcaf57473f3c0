/- Walks of heavy, Check, and the document's own CheckDesc. -/
import Derived.Test.YtfpdcljeepjogaaDsE
namespace Go.Proofs.Ytfpdcljeepjogaa
open Go.RowKit

theorem box_cell (w : World) (t : TypeId) (x : Value) : (w.alloc (.cells #[x] t)).cell? ⟨w.heap.size, 0, none⟩ = some x := by
  have h : (w.alloc (.cells #[x] t)).heap[w.heap.size]? = some (.cells #[x] t) := heap_alloc_new w _
  unfold World.cell?
  simp only [h]
  simp
theorem box_below {w wr : World} {t : TypeId} {x : Value} (h : Below (w.heap.size + 1) (w.alloc (.cells #[x] t)) wr) : wr.cell? ⟨w.heap.size, 0, none⟩ = some x :=
  (h.cell (Nat.lt_succ_self _)).trans (box_cell w t x)
theorem box_size (w : World) (o : Obj) : (w.alloc o).heap.size = w.heap.size + 1 := Array.size_push ..
theorem below_box {w wr : World} {o : Obj} (h : Below (w.heap.size + 1) (w.alloc o) wr) : Below w.heap.size w wr := (below_alloc w o).trans (h.mono (Nat.le_succ _))
theorem step_box {w wr w1 : World} {o : Obj} (h : Below (w.heap.size + 1) (w.alloc o) wr) (k : Below wr.heap.size wr w1) : Below (w.heap.size + 1) (w.alloc o) w1 :=
  h.trans (k.mono (by have := h.size; rw [box_size] at this; exact this))
theorem old_below {w wr : World} {o : Obj} {a : Addr} {v : Value} (h : Below (w.heap.size + 1) (w.alloc o) wr) (hc : w.cell? a = some v) : wr.cell? a = some v := ((below_box h).cell (cell_lt hc)).trans hc

theorem two_later {wr w1 : World} {t : TypeId} {x y : Value} (h : Below (wr.alloc (.cells #[x, y] t)).heap.size (wr.alloc (.cells #[x, y] t)) w1) : w1.cell? ⟨wr.heap.size, 1, none⟩ = some y := by
  have hh : (wr.alloc (.cells #[x, y] t)).heap[wr.heap.size]? = some (.cells #[x, y] t) := heap_alloc_new wr _
  have hc : (wr.alloc (.cells #[x, y] t)).cell? ⟨wr.heap.size, 1, none⟩ = some y := by
    unfold World.cell?
    simp only [hh]
    simp
  exact (h.cell (cell_lt hc)).trans hc
def errOf (b : Bool) : Int := if b then 0 else 1
theorem chk_empty : D.chk [] = false := rfl
theorem chk_long {es : List D.E} (h : 8 < es.length) : D.chk es = false := by
  unfold D.chk
  have : decide (es.length ≤ 8) = false := by simp; omega
  rw [this]; simp
theorem chk_bad {es : List D.E} {j : Nat} {e : D.E} (h : es[j]? = some e) (he : D.okE e = false) : D.chk es = false := by
  unfold D.chk
  have : es.all D.okE = false := by
    rw [List.all_eq_false]
    exact ⟨e, List.mem_of_getElem? h, by simp [he]⟩
  rw [this]; simp
theorem chk_good {es : List D.E} (h0 : 1 ≤ es.length) (h1 : es.length ≤ 8) (h : ∀ e ∈ es, D.okE e = true) : D.chk es = true := by
  unfold D.chk
  have e2 : es.all D.okE = true := List.all_eq_true.2 h
  rw [e2]; simp [h0, h1]
theorem okE_cases (e : D.E) : (D.nm e.1 = false ∧ D.okE e = false) ∨ (D.nm e.1 = true ∧ 128 < e.2.length ∧ D.okE e = false) ∨ (D.nm e.1 = true ∧ e.2.length ≤ 128 ∧ D.okE e = true) := by
  unfold D.okE
  cases D.nm e.1
  · exact .inl ⟨rfl, rfl⟩
  · by_cases h : e.2.length ≤ 128
    · exact .inr (.inr ⟨rfl, h, by simp [h]⟩)
    · exact .inr (.inl ⟨rfl, by omega, by simp; omega⟩)
theorem ret_i {a b : Int} {P : Prop} (h : a = b) (hp : P) : Ending.returned (.int .i64 a) = .returned (.int .i64 b) ∧ P := ⟨by rw [h], hp⟩

end Go.Proofs.Ytfpdcljeepjogaa
