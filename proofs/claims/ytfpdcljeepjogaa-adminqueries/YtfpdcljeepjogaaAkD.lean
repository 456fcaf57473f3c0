/- The walk of ask.readDesc. -/
import Derived.Test.YtfpdcljeepjogaaAkR
import Derived.Laws.ResultCell
import Derived.Deep.AppendLies
import Derived.Deep.RegionLaw
namespace Go.Proofs.Ytfpdcljeepjogaa
open Go.RowKit

theorem two_cells (w : World) (t : TypeId) (x y : Value) : (w.alloc (.cells #[x, y] t)).cell? ⟨w.heap.size, 0, none⟩ = some x ∧ (w.alloc (.cells #[x, y] t)).cell? ⟨w.heap.size, 1, none⟩ = some y := by
  have hh : (w.alloc (.cells #[x, y] t)).heap[w.heap.size]? = some (.cells #[x, y] t) := heap_alloc_new w _
  unfold World.cell?
  simp only [hh]
  simp
theorem own_slice {w : World} {base : Nat} {t : TypeId} {v : Value} {es : List D.E} (h : Owne w base t v es) : ∃ ao cap, v = .slice ao es.length cap := by
  rcases h.2 with ⟨hv, hn⟩ | ⟨g, cap, cur, hv, _⟩
  · exact ⟨none, 0, by rw [hv, hn]⟩
  · exact ⟨_, cap, hv⟩
/-- 'append(l, e)' of entries, l the call's own, at a step of a region that draws. -/
theorem step_append_entry {P : Program} {w : World} {ops : Array Oper} {o : Oper} {a : Act} {K : Act → World → Prop} {Q : Exit → Act → World → Prop} {E : Prop} (hgd : o.guard = none) (s x : Operand) (t : TypeId)
    (ho : o.op = .call { callee := .builtin .append, args := #[s, x], argTypes := #[t, t] })
    (base : Nat) (e : TypeId) (z : Value) (ht : P.underlying t = some (.slice e)) (hinfo : (P.info? e).map (fun i => (i.zero, i.size, i.bytes)) = some (some z, 2, 32)) (hz : z.cells.size = 2)
    {v : Value} {es : List D.E} {k u : List UInt8} {g0 c : Nat} (hs : a.eval s = v) (hown : Owne w base e v es) (hx : a.eval x = .slice (some ⟨g0, 0, none⟩) 1 c) (hc : w.cell? ⟨g0, 0, none⟩ = some (.string ⟨k.toArray⟩) ∧ w.cell? ⟨g0, 1, none⟩ = some (.string ⟨u.toArray⟩))
    (hlen : es.length ≤ 100) (hbase : base ≤ w.heap.size)
    (h : ∀ g cap w', Owne w' base e (.slice (some ⟨g, 0, none⟩) (es.length + 1) cap) (es ++ [(k, u)]) → w.grownBy w' v.ownBlock → K (a.put o.dst (.slice (some ⟨g, 0, none⟩) (es.length + 1) cap)) w') :
    if Region.wanted o (yielded ops a.tmps) = true then Oper.wp P o a w K Q else E := by
  obtain ⟨i, hi, hz0, hz1, hz2⟩ := info_parts hinfo
  refine step_append_lies _ hgd s x t ho base e i z 2 32 ht hi hz0 hz1 hz2 hz (by decide) v es.length (ev es) hs hown ⟨g0, 0, none⟩ 1 c (ev [(k, u)]) hx rfl ?_ ev_one (by decide) (by unfold maxLen; omega) (by omega) hbase _ rfl ?_
  · intro j y hy
    rw [Addr.add_lit, Nat.zero_add]
    match j, hy with
    | 0, hy =>
      have : tv k = y := by simpa [ev] using hy
      rw [← this]; exact hc.1
    | 1, hy =>
      have : tv u = y := by simpa [ev] using hy
      rw [← this]; exact hc.2
    | j + 2, hy => simp [ev] at hy
  · intro g cap' w' ho' hg _ _
    refine h g cap' w' ?_ hg
    show w'.ownsRow base e 2 _ (es ++ [(k, u)]).length (ev (es ++ [(k, u)]))
    rw [ev_app, List.length_append]; exact ho'

/-- A result that is a struct, alone. -/
theorem ret_cell1 {P : Program} {fn : Func} {p : Tmp} {ty : TypeId} (h : fn.results = #[.cell p ty]) {tmps : Array Value} {w : World} {g : Nat} {T : TypeId} {cs : Array Value} {d : TypeDesc} (hp : tmps.getD p undef = .pointer (some ⟨g, 0, none⟩)) (hs : Str w g T cs)
    (hu : P.underlying ty = some d) (hd : (match d with | .struct _ | .array _ _ => true | _ => false) = true) (hi : (P.info? ty).map (·.size) = some cs.size) :
    (results fn tmps).run P w = .ok (.agg cs) w := by
  have hs' : w.heap[g]? = some (.cells cs T (0, 0)) := hs
  have hp' : (asAddr (tmps.getD p undef)).run P w = .ok ⟨g, 0, none⟩ w := by rw [hp]; simp [asAddr]
  have hl := run_loadVar_row w g T ty cs (0, 0) d hs' hu hd hi
  simp only [results, h]
  simp only [Array.getD_eq_getD_getElem?] at hp'
  simp [Sem.run_bind, Result.andThen, hp', hl]
theorem Str.one {w : World} {p : Nat} {T : TypeId} {x : Value} (h : Str w p T #[x]) (u : Value) : Str (w.setCell ⟨p, 0, none⟩ u) p T #[u] := by
  have := h.set 0 u
  simpa using this

theorem Owne.base {w : World} {b b' : Nat} {t : TypeId} {v : Value} {es : List D.E} (h : Owne w b t v es) (hb : b' ≤ b) : Owne w b' t v es := by
  refine ⟨h.1, ?_⟩
  rcases h.2 with hn | ⟨g, cap, cur, hv, hbg, rest⟩
  · exact .inl hn
  · exact .inr ⟨g, cap, cur, hv, Nat.le_trans hb hbg, rest⟩

end Go.Proofs.Ytfpdcljeepjogaa
