/- Slices of pieces: what one reads as, what a call's own one holds; append. Slices of lines, as they are handed in. -/
import Derived.Test.YtmgalfdiiegjjaaGreatDoorSeg00
import Derived.Test.YtmgalfdiiegjjaaGreatDoorSeg01
import Derived.Deep.AppendLies
namespace Go.Proofs.YtmgalfdiiegjjaaGreatDoor
open Go.RowKit

/-- The cells of a piece, of pieces. -/
def pc (x : LX.Pc) : Array Value := #[.int .i64 x.1, .int .i64 x.2.1, .int .i64 x.2.2.1, .string ⟨x.2.2.2.1.toArray⟩, .bool x.2.2.2.2]
def pv1 (x : LX.Pc) : List Value := [.int .i64 x.1, .int .i64 x.2.1, .int .i64 x.2.2.1, .string ⟨x.2.2.2.1.toArray⟩, .bool x.2.2.2.2]
def pv (ls : List LX.Pc) : List Value := ls.flatMap pv1
theorem pv_app (a b : List LX.Pc) : pv (a ++ b) = pv a ++ pv b := by simp [pv]
theorem pv_len (a : List LX.Pc) : (pv a).length = a.length * 5 := by
  induction a with
  | nil => rfl
  | cons x t ih =>
    have e0 : pv (x :: t) = pv1 x ++ pv t := rfl
    rw [e0, List.length_append, ih]
    simp [pv1]; omega
theorem pv_at : ∀ {ls : List LX.Pc} {j : Nat} {x : LX.Pc}, ls[j]? = some x → ∀ i, i < 5 → (pv ls)[j * 5 + i]? = (pv1 x)[i]?
  | [], _, _, h => by simp at h
  | x :: ls, 0, s, h => by
    have : x = s := by simpa using h
    subst this
    intro i hi
    have e0 : pv (x :: ls) = pv1 x ++ pv ls := rfl
    rw [e0, List.getElem?_append_left (by simp [pv1]; omega)]
    congr 1
    omega
  | x :: ls, j + 1, s, h => by
    have h' : ls[j]? = some s := by simpa using h
    intro i hi
    rw [← pv_at h' i hi]
    have e0 : pv (x :: ls) = pv1 x ++ pv ls := rfl
    rw [e0, List.getElem?_append_right (by simp [pv1]; omega)]
    congr 1
    simp [pv1]; omega
theorem pv_one {ls : List LX.Pc} : ∀ u ∈ pv ls, u.oneCell' = true := by
  intro u hu
  obtain ⟨s, _, h⟩ := List.mem_flatMap.1 hu
  simp [pv1] at h
  rcases h with rfl | rfl | rfl | rfl | rfl <;> rfl
/-- A piece lies at b, from cell o on. -/
structure At5 (w : World) (b o : Nat) (x : LX.Pc) : Prop where
  c0 : w.cell? ⟨b, o, none⟩ = some (.int .i64 x.1)
  c1 : w.cell? ⟨b, o + 1, none⟩ = some (.int .i64 x.2.1)
  c2 : w.cell? ⟨b, o + 2, none⟩ = some (.int .i64 x.2.2.1)
  c3 : w.cell? ⟨b, o + 3, none⟩ = some (.string ⟨x.2.2.2.1.toArray⟩)
  c4 : w.cell? ⟨b, o + 4, none⟩ = some (.bool x.2.2.2.2)
theorem At5.below {w w' : World} {b o : Nat} {x : LX.Pc} (h : At5 w b o x) (hb : Below w.heap.size w w') : At5 w' b o x :=
  ⟨(hb.cell (cell_lt h.c0)).trans h.c0, (hb.cell (cell_lt h.c1)).trans h.c1, (hb.cell (cell_lt h.c2)).trans h.c2, (hb.cell (cell_lt h.c3)).trans h.c3, (hb.cell (cell_lt h.c4)).trans h.c4⟩
theorem Str.at5 {x : World} {p : Nat} {T : TypeId} {l : LX.Pc} (h : Str x p T (pc l)) : At5 x p 0 l := ⟨h.cell 0, h.cell 1, h.cell 2, h.cell 3, h.cell 4⟩

/-- The slice value v reads, in w, as the pieces ls. -/
def Rdp (w : World) (v : Value) (ls : List LX.Pc) : Prop :=
  ∃ ao cap, v = .slice ao ls.length cap ∧ ls.length ≤ cap ∧ cap ≤ maxLen ∧ (ao = none → cap = 0) ∧ ∀ j x, ls[j]? = some x → ∃ b off, ao = some ⟨b, off, none⟩ ∧ At5 w b (off + j * 5) x
theorem Rdp.below {w w' : World} {v : Value} {ls : List LX.Pc} (h : Rdp w v ls) (hb : Below w.heap.size w w') : Rdp w' v ls := by
  obtain ⟨ao, cap, hv, h1, h2, h3, h4⟩ := h
  refine ⟨ao, cap, hv, h1, h2, h3, fun j s hs => ?_⟩
  obtain ⟨b, off, hx, c⟩ := h4 j s hs
  exact ⟨b, off, hx, c.below hb⟩
theorem Rdp.nil (w : World) : Rdp w (.slice none 0 0) [] := ⟨none, 0, rfl, by simp, by simp [maxLen], fun _ => rfl, by simp⟩

/-- The slice value v is a row of the call's own, whose elements are the pieces ls. -/
def Ownp (w : World) (base : Nat) (v : Value) (ls : List LX.Pc) : Prop := w.ownsRow base 119 5 v ls.length (pv ls)
theorem Ownp.nil (w : World) (base : Nat) : Ownp w base (.slice none 0 0) [] := World.ownsRow_nil w base _ 5
theorem Ownp.below {w w' : World} {base : Nat} {v : Value} {ls : List LX.Pc} (h : Ownp w base v ls) (hb : Below w.heap.size w w') : Ownp w' base v ls := by
  refine ⟨h.1, ?_⟩
  rcases h.2 with hn | ⟨g, cap, cur, hv, hbg, hg, rest⟩
  · exact .inl hn
  · exact .inr ⟨g, cap, cur, hv, hbg, (hb.block g (Array.getElem?_eq_some_iff.1 hg).1).trans hg, rest⟩
theorem Ownp.rd {w : World} {base : Nat} {v : Value} {ls : List LX.Pc} (h : Ownp w base v ls) : Rdp w v ls := by
  rcases h.2 with ⟨hv, hn⟩ | ⟨g, cap, cur, hv, hb, hg, hnc, hcm, hcs, ht⟩
  · obtain rfl : ls = [] := List.length_eq_zero_iff.1 hn
    rw [hv]; exact Rdp.nil w
  · refine ⟨some ⟨g, 0, none⟩, cap, hv, hnc, hcm, (by intro h; cases h), fun j s hs => ⟨g, 0, rfl, ?_⟩⟩
    have k := pv_at hs
    have q0 := World.ownsRow.cells h (by rw [hv]; rfl) _ _ (k 0 (by decide))
    have q1 := World.ownsRow.cells h (by rw [hv]; rfl) _ _ (k 1 (by decide))
    have q2 := World.ownsRow.cells h (by rw [hv]; rfl) _ _ (k 2 (by decide))
    have q3 := World.ownsRow.cells h (by rw [hv]; rfl) _ _ (k 3 (by decide))
    have q4 := World.ownsRow.cells h (by rw [hv]; rfl) _ _ (k 4 (by decide))
    rw [Addr.add_lit] at q0 q1 q2 q3 q4
    simp only [Nat.zero_add, Nat.add_zero] at q0 q1 q2 q3 q4 ⊢
    exact ⟨q0, q1, q2, q3, q4⟩
theorem Ownp.slice {w : World} {base : Nat} {v : Value} {ls : List LX.Pc} (h : Ownp w base v ls) : ∃ ao cap, v = .slice ao ls.length cap := by
  rcases h.2 with ⟨hv, hn⟩ | ⟨g, cap, cur, hv, _⟩
  · exact ⟨none, 0, by rw [hv, hn]⟩
  · exact ⟨_, cap, hv⟩
theorem Ownp.ownBlock {w : World} {base : Nat} {v : Value} {ls : List LX.Pc} (h : Ownp w base v ls) {g : Nat} (hg : v.ownBlock = some g) : (∃ cur, w.heap[g]? = some (.cells cur 119 (0, 0))) ∧ base ≤ g ∧ g < w.heap.size := by
  rcases h.2 with ⟨hv, _⟩ | ⟨g', cap, cur, hv, hb, hc, _⟩
  · rw [hv] at hg; cases hg
  · rw [hv] at hg
    obtain rfl : g' = g := Option.some.inj hg
    exact ⟨⟨cur, hc⟩, hb, (Array.getElem?_eq_some_iff.1 hc).1⟩
theorem Ownp.kb {w w' : World} {base : Nat} {v : Value} {ls : List LX.Pc} {p q : Option Nat} (h : Ownp w base v ls) (hk : Kb w w' p q) (h1 : v.ownBlock = none ∨ v.ownBlock ≠ p) (h2 : v.ownBlock = none ∨ v.ownBlock ≠ q) : Ownp w' base v ls := by
  refine ⟨h.1, ?_⟩
  rcases h.2 with hn | ⟨g, cap, cur, rfl, hb, hgg, rest⟩
  · exact .inl hn
  · refine .inr ⟨g, cap, cur, rfl, hb, ?_, rest⟩
    rw [hk.block g (Array.getElem?_eq_some_iff.1 hgg).1 (by simpa [Value.ownBlock] using h1) (by simpa [Value.ownBlock] using h2)]
    exact hgg
theorem Ownp.off {w : World} {base : Nat} {T : TypeId} {v : Value} {ls : List LX.Pc} {p : Nat} {cs : Array Value} (h : Ownp w base v ls) (hs : Str w p T cs) (hne : 119 ≠ T) : v.ownBlock = none ∨ v.ownBlock ≠ some p := by
  cases hg : v.ownBlock with
  | none => exact .inl rfl
  | some g =>
    right
    intro e
    obtain rfl := Option.some.inj e
    obtain ⟨⟨cur, hc⟩, _⟩ := h.ownBlock hg
    have h' : w.heap[g]? = some (.cells cs T (0, 0)) := hs
    rw [h'] at hc
    simp at hc
    exact hne hc.2.symm
theorem Ownp.base {w : World} {b b' : Nat} {v : Value} {ls : List LX.Pc} (h : Ownp w b v ls) (hb : b' ≤ b) : Ownp w b' v ls := by
  refine ⟨h.1, ?_⟩
  rcases h.2 with hn | ⟨g, cap, cur, hv, hbg, rest⟩
  · exact .inl hn
  · exact .inr ⟨g, cap, cur, hv, Nat.le_trans hb hbg, rest⟩
/-- Pieces that were written out. -/
theorem Ownp.lit (w : World) {base : Nat} (ls : List LX.Pc) (hb : base ≤ w.heap.size) (hm : ls.length ≤ maxLen) :
    Ownp (w.alloc (.cells (pv ls).toArray 119)) base (.slice (some ⟨w.heap.size, 0, none⟩) ls.length ls.length) ls := by
  have := World.ownsRow_lit (e := 119) (size := 5) (base := base) w (pv ls).toArray ls.length hb hm (by simp [pv_len])
  show (w.alloc (.cells (pv ls).toArray 119)).ownsRow base 119 5 _ ls.length (pv ls)
  simpa using this

theorem Tryz.info_piece : (Tryz.prog.info? 119).map (fun i => (i.zero, i.size, i.bytes)) = some (some (.agg #[.int .i64 0, .int .i64 0, .int .i64 0, .string ⟨#[]⟩, .bool false]), 5, 48) := by kernel_rfl
theorem piece_size : (Tryz.prog.info? 119).map (·.size) = some 5 := by kernel_rfl
theorem piece_news {w : World} {g0 : Nat} {x : LX.Pc} (hc : At5 w g0 0 x) : ∀ j u, (pv [x])[j]? = some u → w.cell? ((⟨g0, 0, none⟩ : Addr).add j) = some u := by
  intro j y hy
  rw [Addr.add_lit, Nat.zero_add]
  match j, hy with
  | 0, hy => have : Value.int .i64 x.1 = y := by simpa [pv, pv1] using hy
             rw [← this]; exact hc.c0
  | 1, hy => have : Value.int .i64 x.2.1 = y := by simpa [pv, pv1] using hy
             rw [← this]; exact hc.c1
  | 2, hy => have : Value.int .i64 x.2.2.1 = y := by simpa [pv, pv1] using hy
             rw [← this]; exact hc.c2
  | 3, hy => have : Value.string ⟨x.2.2.2.1.toArray⟩ = y := by simpa [pv, pv1] using hy
             rw [← this]; exact hc.c3
  | 4, hy => have : Value.bool x.2.2.2.2 = y := by simpa [pv, pv1] using hy
             rw [← this]; exact hc.c4
  | j + 5, hy => simp [pv, pv1] at hy
/-- 'append(l, x)' of pieces, l the call's own. -/
theorem wpList_append_piece {w : World} {ops : Array Oper} {rest : List Oper} {o : Oper} {a : Act} {Q : Exit → Act → World → Prop} (hgd : o.guard = none) (s x : Operand)
    (ho : o.op = .call { callee := .builtin .append, args := #[s, x], argTypes := #[72, 72] })
    (base : Nat) {v : Value} {ls : List LX.Pc} {l : LX.Pc} {g0 c : Nat} (hs : a.eval s = v) (hown : Ownp w base v ls) (hx : a.eval x = .slice (some ⟨g0, 0, none⟩) 1 c) (hc : At5 w g0 0 l)
    (hlen : ls.length ≤ 20000) (hbase : base ≤ w.heap.size)
    (h : ∀ g cap w', Ownp w' base (.slice (some ⟨g, 0, none⟩) (ls.length + 1) cap) (ls ++ [l]) → w.grownBy w' v.ownBlock → wpList Tryz.prog ops Q rest (a.put o.dst (.slice (some ⟨g, 0, none⟩) (ls.length + 1) cap)) w') : wpList Tryz.prog ops Q (o :: rest) a w := by
  obtain ⟨i, hi, hz0, hz1, hz2⟩ := infoparts Tryz.info_piece
  refine wpList_append_lies _ hgd s x _ ho base _ i _ 5 48 Tryz.underlying72 hi hz0 hz1 hz2 rfl (by decide) v ls.length (pv ls) hs hown ⟨g0, 0, none⟩ 1 c (pv [l]) hx rfl (piece_news hc) pv_one (by decide) (by unfold maxLen; omega) (by omega) hbase _ rfl ?_
  intro g cap' w' ho' hg _ _
  refine h g cap' w' ?_ hg
  show w'.ownsRow base _ 5 _ (ls ++ [l]).length (pv (ls ++ [l]))
  rw [pv_app, List.length_append]; exact ho'
/-- The same at a step of a region that draws. -/
theorem step_append_piece {w : World} {ops : Array Oper} {o : Oper} {a : Act} {K : Act → World → Prop} {Q : Exit → Act → World → Prop} {E : Prop} (hgd : o.guard = none) (s x : Operand)
    (ho : o.op = .call { callee := .builtin .append, args := #[s, x], argTypes := #[72, 72] })
    (base : Nat) {v : Value} {ls : List LX.Pc} {l : LX.Pc} {g0 c : Nat} (hs : a.eval s = v) (hown : Ownp w base v ls) (hx : a.eval x = .slice (some ⟨g0, 0, none⟩) 1 c) (hc : At5 w g0 0 l)
    (hlen : ls.length ≤ 20000) (hbase : base ≤ w.heap.size)
    (h : ∀ g cap w', Ownp w' base (.slice (some ⟨g, 0, none⟩) (ls.length + 1) cap) (ls ++ [l]) → w.grownBy w' v.ownBlock → K (a.put o.dst (.slice (some ⟨g, 0, none⟩) (ls.length + 1) cap)) w') :
    if Region.wanted o (yielded ops a.tmps) = true then Oper.wp Tryz.prog o a w K Q else E := by
  obtain ⟨i, hi, hz0, hz1, hz2⟩ := infoparts Tryz.info_piece
  refine step_append_lies _ hgd s x _ ho base _ i _ 5 48 Tryz.underlying72 hi hz0 hz1 hz2 rfl (by decide) v ls.length (pv ls) hs hown ⟨g0, 0, none⟩ 1 c (pv [l]) hx rfl (piece_news hc) pv_one (by decide) (by unfold maxLen; omega) (by omega) hbase _ rfl ?_
  intro g cap' w' ho' hg _ _
  refine h g cap' w' ?_ hg
  show w'.ownsRow base _ 5 _ (ls ++ [l]).length (pv (ls ++ [l]))
  rw [pv_app, List.length_append]; exact ho'
/-- 'append(l, x...)' of pieces, l the call's own, x whatever reads. -/
theorem wpList_append_pieces {w : World} {ops : Array Oper} {rest : List Oper} {o : Oper} {a : Act} {Q : Exit → Act → World → Prop} (hgd : o.guard = none) (s x : Operand)
    (ho : o.op = .call { callee := .builtin .append, args := #[s, x], argTypes := #[72, 72] })
    (base : Nat) {v vx : Value} {ls ms : List LX.Pc} (hs : a.eval s = v) (hown : Ownp w base v ls) (hx : a.eval x = vx) (hrd : Rdp w vx ms)
    (hlen : ls.length + ms.length ≤ 1000000) (hbase : base ≤ w.heap.size)
    (h : ∀ v' w', Ownp w' base v' (ls ++ ms) → w.grownBy w' v.ownBlock → wpList Tryz.prog ops Q rest (a.put o.dst v') w') : wpList Tryz.prog ops Q (o :: rest) a w := by
  obtain ⟨i, hi, hz0, hz1, hz2⟩ := infoparts Tryz.info_piece
  obtain ⟨ao, cap, rfl, h1', h2, h3, h4⟩ := hrd
  cases ao with
  | none =>
    have hc := h3 rfl
    have hn : ms = [] := List.length_eq_zero_iff.1 (by omega)
    subst hn
    subst hc
    refine wpList_append_own_none hgd s x _ ho base _ i 5 Tryz.underlying72 hi v ls.length (pv ls) hs hown hx ?_
    exact h v w (by simpa using hown) (World.grownBy.refl _ _)
  | some ad =>
    refine wpList_append_own _ hgd s x _ ho base _ i _ 5 48 Tryz.underlying72 hi hz0 hz1 hz2 rfl (by decide) v ls.length (pv ls) hs hown ad ms.length cap (pv ms) hx (by simp [pv_len]) (fun j u hu => ?_) pv_one (by unfold maxLen; omega) (by omega) hbase ?_
    · have hj := (List.getElem?_eq_some_iff.1 hu).1
      rw [pv_len] at hj
      have hd : j / 5 < ms.length := by omega
      obtain ⟨b, off, hb, hc⟩ := h4 (j / 5) ms[j / 5] (by simp [hd])
      obtain rfl := Option.some.inj hb
      rw [Addr.add_lit]
      have k := pv_at (ls := ms) (j := j / 5) (x := ms[j / 5]) (by simp [hd]) (j % 5) (Nat.mod_lt _ (by decide))
      rw [show j / 5 * 5 + j % 5 = j by omega, hu] at k
      have e : off + j = off + j / 5 * 5 + j % 5 := by omega
      rw [e]
      have hm : j % 5 < 5 := Nat.mod_lt _ (by decide)
      generalize j % 5 = m at *
      match m, hm, k with
      | 0, _, k => obtain rfl : u = _ := Option.some.inj k
                   exact hc.c0
      | 1, _, k => obtain rfl : u = _ := Option.some.inj k
                   exact hc.c1
      | 2, _, k => obtain rfl : u = _ := Option.some.inj k
                   exact hc.c2
      | 3, _, k => obtain rfl : u = _ := Option.some.inj k
                   exact hc.c3
      | 4, _, k => obtain rfl : u = _ := Option.some.inj k
                   exact hc.c4
    · intro v' w' ho' hg _
      refine h v' w' ?_ hg
      show w'.ownsRow base _ 5 v' (ls ++ ms).length (pv (ls ++ ms))
      rw [List.length_append, pv_app]; exact ho'

/-- A line lies at b, from cell o on. -/
structure Az (w : World) (b o : Nat) (x : LX.Lz) : Prop where
  c0 : w.cell? ⟨b, o, none⟩ = some (.int .i64 x.1)
  c1 : w.cell? ⟨b, o + 1, none⟩ = some (.int .i64 x.2.1)
  c2 : w.cell? ⟨b, o + 2, none⟩ = some (.string ⟨x.2.2.toArray⟩)
theorem Az.below {w w' : World} {b o : Nat} {x : LX.Lz} (h : Az w b o x) (hb : Below w.heap.size w w') : Az w' b o x :=
  ⟨(hb.cell (cell_lt h.c0)).trans h.c0, (hb.cell (cell_lt h.c1)).trans h.c1, (hb.cell (cell_lt h.c2)).trans h.c2⟩
/-- The slice value v reads, in w, as the lines ls. -/
def Rdz (w : World) (v : Value) (ls : List LX.Lz) : Prop :=
  ∃ ao cap, v = .slice ao ls.length cap ∧ ls.length ≤ cap ∧ cap ≤ maxLen ∧ (ao = none → cap = 0) ∧ ∀ j x, ls[j]? = some x → ∃ b off, ao = some ⟨b, off, none⟩ ∧ Az w b (off + j * 3) x
theorem Rdz.below {w w' : World} {v : Value} {ls : List LX.Lz} (h : Rdz w v ls) (hb : Below w.heap.size w w') : Rdz w' v ls := by
  obtain ⟨ao, cap, hv, h1, h2, h3, h4⟩ := h
  refine ⟨ao, cap, hv, h1, h2, h3, fun j s hs => ?_⟩
  obtain ⟨b, off, hx, c⟩ := h4 j s hs
  exact ⟨b, off, hx, c.below hb⟩
end Go.Proofs.YtmgalfdiiegjjaaGreatDoor
