/- Results that lie in cells; the library's own bound; faults. -/
import Derived.Test.YthhngkoopaolkaaGreatDoorDsA
import Derived.Test.YthhngkoopaolkaaGreatDoorAdB
import Derived.Laws.ResultCell
namespace Go.Proofs.YthhngkoopaolkaaGreatDoor
open Go.RowKit

theorem bx_size (w : World) (o : Obj) : (w.alloc o).heap.size = w.heap.size + 1 := Array.size_push ..
theorem no_or {v : Value} : v.ownBlock = none ∨ v.ownBlock ≠ none := by cases hh : v.ownBlock <;> simp

theorem infoparts {P : Program} {e : TypeId} {z : Value} {a b : Nat} (h : (P.info? e).map (fun i => (i.zero, i.size, i.bytes)) = some (some z, a, b)) : ∃ i, P.info? e = some i ∧ i.zero = some z ∧ i.size = a ∧ i.bytes = b := by
  obtain ⟨i, hi, hx⟩ := Option.map_eq_some_iff.1 h
  simp only [Prod.mk.injEq] at hx
  exact ⟨i, hi, hx.1, hx.2.1, hx.2.2⟩
theorem Str.two' {w : World} {p : Nat} {T : TypeId} {x y : Value} (h : Str w p T #[x, y]) (u v : Value) : Str ((w.setCell ⟨p, 0, none⟩ u).setCell ⟨p, 1, none⟩ v) p T #[u, v] := by
  have := (h.set 0 u).set 1 v
  simpa using this
theorem ret_cb {P : Program} {fn : Func} {p u : Tmp} {ty : TypeId} (h : fn.results = #[.cell p ty, .tmp u]) {tmps : Array Value} {w : World} {g : Nat} {T : TypeId} {cs : Array Value} {d : TypeDesc} {b : Value} (hp : tmps.getD p undef = .pointer (some ⟨g, 0, none⟩)) (hb : tmps.getD u undef = b) (hs : Str w g T cs)
    (hu : P.underlying ty = some d) (hd : (match d with | .struct _ | .array _ _ => true | _ => false) = true) (hi : (P.info? ty).map (·.size) = some cs.size) :
    (results fn tmps).run P w = .ok (.tuple #[.agg cs, b]) w := by
  rw [results_cell_tmp h, hp, hb]
  have hs' : w.heap[g]? = some (.cells cs T (0, 0)) := hs
  simp [asAddr, run_loadVar_row w g T ty cs (0, 0) d hs' hu hd hi]
/-- A slot and a cell are handed back. -/
theorem ret_bc {P : Program} {fn : Func} {p u : Tmp} {ty : TypeId} (h : fn.results = #[.tmp u, .cell p ty]) {tmps : Array Value} {w : World} {g : Nat} {T : TypeId} {cs : Array Value} {d : TypeDesc} {b : Value} (hp : tmps.getD p undef = .pointer (some ⟨g, 0, none⟩)) (hb : tmps.getD u undef = b) (hs : Str w g T cs)
    (hu : P.underlying ty = some d) (hd : (match d with | .struct _ | .array _ _ => true | _ => false) = true) (hi : (P.info? ty).map (·.size) = some cs.size) :
    (results fn tmps).run P w = .ok (.tuple #[b, .agg cs]) w := by
  have hs' : w.heap[g]? = some (.cells cs T (0, 0)) := hs
  have hp' : (asAddr (tmps.getD p undef)).run P w = .ok ⟨g, 0, none⟩ w := by rw [hp]; simp [asAddr]
  have hl := run_loadVar_row w g T ty cs (0, 0) d hs' hu hd hi
  simp only [results, h]
  simp only [Array.getD_eq_getD_getElem?] at hp' hb
  simp [Sem.run_bind, Result.andThen, hp', hl, hb]

/-- The library's own bound lies there as a number. -/
def MaxIs (w : World) : Prop := ∃ m, w.cell? ⟨1, 0, none⟩ = some (.int .i64 m)
theorem MaxIs.below {w w' : World} (h : MaxIs w) (hb : Below w.heap.size w w') : MaxIs w' := by
  obtain ⟨m, hm⟩ := h
  exact ⟨m, (hb.cell (cell_lt hm)).trans hm⟩

theorem fault_size : (Tryz.prog.info? 28).map (·.size) = some 2 := by kernel_rfl
theorem Str.cells2 {x : World} {p : Nat} {T : TypeId} {a b : Value} (h : Str x p T #[a, b]) : x.cell? ⟨p, 0, none⟩ = some a ∧ x.cell? ⟨p, 1, none⟩ = some b := ⟨h.cell 0, h.cell 1⟩
end Go.Proofs.YthhngkoopaolkaaGreatDoor
