/- The walk of ask.read. -/
import Derived.Test.YthbmmnjpiflgdaaAkD
namespace Go.Proofs.Ythbmmnjpiflgdaa
open Go.RowKit

theorem Try.info_desc : (Try.prog.info? 42).map (fun i => (i.zero, i.size, i.bytes)) = some (some (.agg #[.slice none 0 0]), 1, 24) := by kernel_rfl
theorem ask_size : (Try.prog.info? 24).map (·.size) = some 4 := by kernel_rfl
theorem Owne.one {w : World} {base : Nat} {t : TypeId} {v : Value} {es : List D.E} (h : Owne w base t v es) : v.oneCell' = true := by
  obtain ⟨ao, cap, rfl⟩ := own_slice h
  rfl
theorem Ownd.slice {w : World} {base : Nat} {v : Value} {ds : List (List D.E)} (h : Ownd w base v ds) : ∃ ao cap, v = .slice ao ds.length cap := by
  obtain ⟨ao, cap, hv, _⟩ := h.rd
  exact ⟨ao, cap, hv⟩
theorem Ownd.base {w : World} {b b' : Nat} {v : Value} {ds : List (List D.E)} (h : Ownd w b v ds) (hb : b' ≤ b) : Ownd w b' v ds := by
  obtain ⟨vs, h1, h2, h3⟩ := h
  exact ⟨vs, h1.base hb, h2, fun j u d hu hd => (h3 j u d hu hd).base hb⟩
theorem Ownd.ownBlock {w : World} {base : Nat} {v : Value} {ds : List (List D.E)} (h : Ownd w base v ds) {g : Nat} (hg : v.ownBlock = some g) : base ≤ g ∧ g < w.heap.size := by
  obtain ⟨vs, h1, _⟩ := h
  exact h1.lt hg
/-- A row of descriptors has grown by one. -/
theorem Ownd.grown {w w' : World} {base : Nat} {v v' u : Value} {ds : List (List D.E)} {d : List D.E} {vs : List Value} (h1 : Own w base 42 v vs) (h2 : vs.length = ds.length) (h3 : ∀ (j : Nat) u d, vs[j]? = some u → ds[j]? = some d → Owne w base 44 u d)
    (hu : Owne w base 44 u d) (hg : w.grownBy w' v.ownBlock) (ho : Own w' base 42 v' (vs ++ [u])) : Ownd w' base v' (ds ++ [d]) := by
  have keep : ∀ x es, Owne w base 44 x es → Owne w' base 44 x es := by
    intro x es hx
    refine hx.kb (Kb.of_grown hg none) (by cases hh : x.ownBlock <;> simp) ?_
    cases hh : x.ownBlock with
    | none => exact .inl rfl
    | some g =>
      right
      intro e
      obtain ⟨⟨cur, hc⟩, _⟩ := hx.ownBlock hh
      obtain ⟨cur', hc'⟩ := h1.block e.symm
      rw [hc] at hc'
      simp at hc'
  refine ⟨vs ++ [u], ho, by simp [h2], fun j x es hx hes => ?_⟩
  by_cases hj : j < vs.length
  · rw [List.getElem?_append_left hj] at hx
    rw [List.getElem?_append_left (by omega)] at hes
    exact keep x es (h3 j x es hx hes)
  · have hj1 := (List.getElem?_eq_some_iff.1 hx).1
    rw [List.length_append] at hj1
    obtain rfl : j = vs.length := by simp at hj1; omega
    rw [List.getElem?_append_right (Nat.le_refl _)] at hx
    rw [h2, List.getElem?_append_right (Nat.le_refl _)] at hes
    simp at hx hes
    subst hx hes
    exact keep _ _ hu
/-- 'append(l, d)' of descriptors, l and d the call's own, at a step of a region that draws. -/
theorem step_append_desc {P : Program} {w : World} {ops : Array Oper} {o : Oper} {a : Act} {K : Act → World → Prop} {Q : Exit → Act → World → Prop} {E : Prop} (hgd : o.guard = none) (s x : Operand) (t : TypeId)
    (ho : o.op = .call { callee := .builtin .append, args := #[s, x], argTypes := #[t, t] })
    (base : Nat) (z : Value) (ht : P.underlying t = some (.slice 42)) (hinfo : (P.info? 42).map (fun i => (i.zero, i.size, i.bytes)) = some (some z, 1, 24)) (hz : z.cells.size = 1)
    {v u : Value} {ds : List (List D.E)} {d : List D.E} {g0 c : Nat} (hs : a.eval s = v) (hown : Ownd w base v ds) (hx : a.eval x = .slice (some ⟨g0, 0, none⟩) 1 c) (hc : w.cell? ⟨g0, 0, none⟩ = some u) (hu : Owne w base 44 u d)
    (hlen : ds.length ≤ 100) (hbase : base ≤ w.heap.size)
    (h : ∀ g cap w', Ownd w' base (.slice (some ⟨g, 0, none⟩) (ds.length + 1) cap) (ds ++ [d]) → w.grownBy w' v.ownBlock → K (a.put o.dst (.slice (some ⟨g, 0, none⟩) (ds.length + 1) cap)) w') :
    if Region.wanted o (yielded ops a.tmps) = true then Oper.wp P o a w K Q else E := by
  obtain ⟨i, hi, hz0, hz1, hz2⟩ := info_parts hinfo
  obtain ⟨vs, k1, k2, k3⟩ := hown
  refine step_append_lies _ hgd s x t ho base _ i z 1 24 ht hi hz0 hz1 hz2 hz (by decide) v vs.length vs hs k1 ⟨g0, 0, none⟩ 1 c [u] hx rfl ?_ (by simpa using hu.one) (by decide) (by unfold maxLen; omega) (by omega) hbase _ rfl ?_
  · intro j y hy
    cases j with
    | zero =>
      have : u = y := by simpa using hy
      rw [← this]; exact hc
    | succ j => simp at hy
  · intro g cap' w' ho' hg _ _
    rw [k2] at ho'
    rw [k2]; refine h g cap' w' ?_ hg
    refine Ownd.grown k1 k2 k3 hu hg ?_
    show w'.ownsRow base _ 1 _ (vs ++ [u]).length (vs ++ [u])
    rw [List.length_append, k2]; exact ho'
end Go.Proofs.Ythbmmnjpiflgdaa
