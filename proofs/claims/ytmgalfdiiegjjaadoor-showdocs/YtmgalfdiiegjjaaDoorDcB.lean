/- Slices of nodes: what a call's own one holds; append; a node laid in its place; documents that read. -/
import Derived.Test.YtmgalfdiiegjjaaDoorSeg13
import Derived.Test.YtmgalfdiiegjjaaDoorLxB
namespace Go.Proofs.YtmgalfdiiegjjaaDoor
open Go.RowKit

def sv (ls : List LX.B) : List Value := ls.map fun l => .string ⟨l.toArray⟩
def nats (l : List Nat) : List Value := l.map fun n : Nat => .int .i64 (n : Int)
theorem sv_len (l : List LX.B) : (sv l).length = l.length := by simp [sv]
theorem nats_len (l : List Nat) : (nats l).length = l.length := by simp [nats]
theorem sv_app (a b : List LX.B) : sv (a ++ b) = sv a ++ sv b := by simp [sv]
theorem nats_app (a b : List Nat) : nats (a ++ b) = nats a ++ nats b := by simp [nats]
theorem sv_one {l : List LX.B} : ∀ u ∈ sv l, u.oneCell' = true := by
  intro u hu
  obtain ⟨s, _, rfl⟩ := List.mem_map.1 hu
  rfl
theorem nats_one {l : List Nat} : ∀ u ∈ nats l, u.oneCell' = true := by
  intro u hu
  obtain ⟨s, _, rfl⟩ := List.mem_map.1 hu
  rfl
/-- A node as it lies: it, and the values of its keys and kids. -/
abbrev Nv := DC.Nd × Value × Value
def nc (a : Nv) : Array Value := #[.int .i64 a.1.kind, .int .i64 a.1.line, .string ⟨a.1.text.toArray⟩, .bool a.1.quoted, a.2.1, a.2.2]
def nc1 (a : Nv) : List Value := [.int .i64 a.1.kind, .int .i64 a.1.line, .string ⟨a.1.text.toArray⟩, .bool a.1.quoted, a.2.1, a.2.2]
def ncs (ls : List Nv) : List Value := ls.flatMap nc1
theorem ncs_cons (x : Nv) (t : List Nv) : ncs (x :: t) = nc1 x ++ ncs t := rfl
theorem ncs_app (a b : List Nv) : ncs (a ++ b) = ncs a ++ ncs b := by simp [ncs]
theorem ncs_len (a : List Nv) : (ncs a).length = a.length * 6 := by
  induction a with
  | nil => rfl
  | cons x t ih =>
    rw [ncs_cons, List.length_append, ih]
    simp [nc1]; omega
theorem ncs_at : ∀ {ls : List Nv} {j : Nat} {x : Nv}, ls[j]? = some x → ∀ i, i < 6 → (ncs ls)[j * 6 + i]? = (nc1 x)[i]?
  | [], _, _, h => by simp at h
  | x :: ls, 0, s, h => by
    have : x = s := by simpa using h
    subst this
    intro i hi
    rw [ncs_cons, List.getElem?_append_left (by simp [nc1]; omega)]
    congr 1
    omega
  | x :: ls, j + 1, s, h => by
    have h' : ls[j]? = some s := by simpa using h
    intro i hi
    rw [← ncs_at h' i hi, ncs_cons, List.getElem?_append_right (by simp [nc1]; omega)]
    congr 1
    simp [nc1]; omega
theorem ncs_set : ∀ {ls : List Nv} {j : Nat} {x : Nv} (y : Nv), ls[j]? = some x →
    ((((((ncs ls).set (j * 6) (.int .i64 y.1.kind)).set (j * 6 + 1) (.int .i64 y.1.line)).set (j * 6 + 2) (.string ⟨y.1.text.toArray⟩)).set (j * 6 + 3) (.bool y.1.quoted)).set (j * 6 + 4) y.2.1).set (j * 6 + 5) y.2.2 = ncs (ls.set j y)
  | [], _, _, _, h => by simp at h
  | x :: ls, 0, s, y, h => by
    rw [ncs_cons, List.set_cons_zero, ncs_cons]
    simp [nc1]
  | x :: ls, j + 1, s, y, h => by
    have h' : ls[j]? = some s := by simpa using h
    rw [List.set_cons_succ, ncs_cons, ncs_cons, ← ncs_set y h']
    have e : (nc1 x).length = 6 := rfl
    have st : ∀ (l : List Value) (k : Nat) (u : Value), (nc1 x ++ l).set ((j + 1) * 6 + k) u = nc1 x ++ l.set (j * 6 + k) u := fun l k u => by
      rw [List.set_append_right _ _ (by rw [e]; omega), e]
      congr 2
      omega
    have s0 := st (ncs ls) 0 (.int .i64 y.1.kind)
    simp only [Nat.add_zero] at s0
    rw [s0, st, st, st, st, st]
/-- A node lies at b, from cell o on. -/
structure At6 (w : World) (b o : Nat) (x : Nv) : Prop where
  c0 : w.cell? ⟨b, o, none⟩ = some (.int .i64 x.1.kind)
  c1 : w.cell? ⟨b, o + 1, none⟩ = some (.int .i64 x.1.line)
  c2 : w.cell? ⟨b, o + 2, none⟩ = some (.string ⟨x.1.text.toArray⟩)
  c3 : w.cell? ⟨b, o + 3, none⟩ = some (.bool x.1.quoted)
  c4 : w.cell? ⟨b, o + 4, none⟩ = some x.2.1
  c5 : w.cell? ⟨b, o + 5, none⟩ = some x.2.2
theorem At6.below {w w' : World} {b o : Nat} {x : Nv} (h : At6 w b o x) (hb : Below w.heap.size w w') : At6 w' b o x :=
  ⟨(hb.cell (cell_lt h.c0)).trans h.c0, (hb.cell (cell_lt h.c1)).trans h.c1, (hb.cell (cell_lt h.c2)).trans h.c2, (hb.cell (cell_lt h.c3)).trans h.c3, (hb.cell (cell_lt h.c4)).trans h.c4, (hb.cell (cell_lt h.c5)).trans h.c5⟩
theorem Str.at6 {x : World} {p : Nat} {T : TypeId} {l : Nv} (h : Str x p T (nc l)) : At6 x p 0 l := ⟨h.cell 0, h.cell 1, h.cell 2, h.cell 3, h.cell 4, h.cell 5⟩

/-- The slice value v reads, in w, as those nodes as they lie. -/
def Rdnv (w : World) (v : Value) (ls : List Nv) : Prop :=
  ∃ ao cap, v = .slice ao ls.length cap ∧ ls.length ≤ cap ∧ cap ≤ maxLen ∧ (ao = none → cap = 0) ∧ ∀ j x, ls[j]? = some x → ∃ b off, ao = some ⟨b, off, none⟩ ∧ At6 w b (off + j * 6) x
theorem Rdnv.below {w w' : World} {v : Value} {ls : List Nv} (h : Rdnv w v ls) (hb : Below w.heap.size w w') : Rdnv w' v ls := by
  obtain ⟨ao, cap, hv, h1, h2, h3, h4⟩ := h
  refine ⟨ao, cap, hv, h1, h2, h3, fun j s hs => ?_⟩
  obtain ⟨b, off, hx, c⟩ := h4 j s hs
  exact ⟨b, off, hx, c.below hb⟩
/-- The slice value v reads, in w, as a document's nodes. -/
def Rdoc (w : World) (v : Value) (ns : List DC.Nd) : Prop :=
  ∃ vs : List Nv, vs.map (·.1) = ns ∧ Rdnv w v vs ∧ ∀ a ∈ vs, Rdv w a.2.1 (sv a.1.keys) ∧ Rdv w a.2.2 (nats a.1.kids)
theorem Rdoc.below {w w' : World} {v : Value} {ns : List DC.Nd} (h : Rdoc w v ns) (hb : Below w.heap.size w w') : Rdoc w' v ns := by
  obtain ⟨vs, h1, h2, h3⟩ := h
  exact ⟨vs, h1, h2.below hb, fun a ha => ⟨(h3 a ha).1.below hb, (h3 a ha).2.below hb⟩⟩
theorem Rdnv.nil (w : World) : Rdnv w (.slice none 0 0) [] := ⟨none, 0, rfl, by simp, by simp [maxLen], fun _ => rfl, by simp⟩
theorem Rdoc.nil (w : World) : Rdoc w (.slice none 0 0) [] := ⟨[], rfl, Rdnv.nil w, by simp⟩

/-- The slice value v is a row of the call's own, whose elements are those nodes as they lie. -/
def Ownv (w : World) (base : Nat) (v : Value) (ls : List Nv) : Prop := w.ownsRow base 37 6 v ls.length (ncs ls)
theorem Ownv.nil (w : World) (base : Nat) : Ownv w base (.slice none 0 0) [] := World.ownsRow_nil w base _ 6
theorem Ownv.below {w w' : World} {base : Nat} {v : Value} {ls : List Nv} (h : Ownv w base v ls) (hb : Below w.heap.size w w') : Ownv w' base v ls := by
  refine ⟨h.1, ?_⟩
  rcases h.2 with hn | ⟨g, cap, cur, hv, hbg, hg, rest⟩
  · exact .inl hn
  · exact .inr ⟨g, cap, cur, hv, hbg, (hb.block g (Array.getElem?_eq_some_iff.1 hg).1).trans hg, rest⟩
theorem Ownv.rd {w : World} {base : Nat} {v : Value} {ls : List Nv} (h : Ownv w base v ls) : Rdnv w v ls := by
  rcases h.2 with ⟨hv, hn⟩ | ⟨g, cap, cur, hv, hb, hg, hnc, hcm, hcs, ht⟩
  · obtain rfl : ls = [] := List.length_eq_zero_iff.1 hn
    rw [hv]; exact Rdnv.nil w
  · refine ⟨some ⟨g, 0, none⟩, cap, hv, hnc, hcm, (by intro h; cases h), fun j s hs => ⟨g, 0, rfl, ?_⟩⟩
    have k := ncs_at hs
    have q0 := World.ownsRow.cells h (by rw [hv]; rfl) _ _ (k 0 (by decide))
    have q1 := World.ownsRow.cells h (by rw [hv]; rfl) _ _ (k 1 (by decide))
    have q2 := World.ownsRow.cells h (by rw [hv]; rfl) _ _ (k 2 (by decide))
    have q3 := World.ownsRow.cells h (by rw [hv]; rfl) _ _ (k 3 (by decide))
    have q4 := World.ownsRow.cells h (by rw [hv]; rfl) _ _ (k 4 (by decide))
    have q5 := World.ownsRow.cells h (by rw [hv]; rfl) _ _ (k 5 (by decide))
    rw [Addr.add_lit] at q0 q1 q2 q3 q4 q5
    simp only [Nat.zero_add, Nat.add_zero] at q0 q1 q2 q3 q4 q5 ⊢
    exact ⟨q0, q1, q2, q3, q4, q5⟩
theorem Ownv.slice {w : World} {base : Nat} {v : Value} {ls : List Nv} (h : Ownv w base v ls) : ∃ ao cap, v = .slice ao ls.length cap := by
  rcases h.2 with ⟨hv, hn⟩ | ⟨g, cap, cur, hv, _⟩
  · exact ⟨none, 0, by rw [hv, hn]⟩
  · exact ⟨_, cap, hv⟩
theorem Ownv.ownBlock {w : World} {base : Nat} {v : Value} {ls : List Nv} (h : Ownv w base v ls) {g : Nat} (hg : v.ownBlock = some g) : (∃ cur, w.heap[g]? = some (.cells cur 37 (0, 0))) ∧ base ≤ g ∧ g < w.heap.size := by
  rcases h.2 with ⟨hv, _⟩ | ⟨g', cap, cur, hv, hb, hc, _⟩
  · rw [hv] at hg; cases hg
  · rw [hv] at hg
    obtain rfl : g' = g := Option.some.inj hg
    exact ⟨⟨cur, hc⟩, hb, (Array.getElem?_eq_some_iff.1 hc).1⟩
theorem Ownv.kb {w w' : World} {base : Nat} {v : Value} {ls : List Nv} {p q : Option Nat} (h : Ownv w base v ls) (hk : Kb w w' p q) (h1 : v.ownBlock = none ∨ v.ownBlock ≠ p) (h2 : v.ownBlock = none ∨ v.ownBlock ≠ q) : Ownv w' base v ls := by
  refine ⟨h.1, ?_⟩
  rcases h.2 with hn | ⟨g, cap, cur, rfl, hb, hgg, rest⟩
  · exact .inl hn
  · refine .inr ⟨g, cap, cur, rfl, hb, ?_, rest⟩
    rw [hk.block g (Array.getElem?_eq_some_iff.1 hgg).1 (by simpa [Value.ownBlock] using h1) (by simpa [Value.ownBlock] using h2)]
    exact hgg
theorem Ownv.off {w : World} {base : Nat} {T : TypeId} {v : Value} {ls : List Nv} {p : Nat} {cs : Array Value} (h : Ownv w base v ls) (hs : Str w p T cs) (hne : 37 ≠ T ∨ base > p) : v.ownBlock = none ∨ v.ownBlock ≠ some p := by
  cases hg : v.ownBlock with
  | none => exact .inl rfl
  | some g =>
    right
    intro e
    obtain rfl := Option.some.inj e
    obtain ⟨⟨cur, hc⟩, hb, _⟩ := h.ownBlock hg
    have h' : w.heap[g]? = some (.cells cs T (0, 0)) := hs
    rw [h'] at hc
    simp at hc
    rcases hne with hne | hne
    · exact hne hc.2.symm
    · omega
theorem Ownv.base {w : World} {b b' : Nat} {v : Value} {ls : List Nv} (h : Ownv w b v ls) (hb : b' ≤ b) : Ownv w b' v ls := by
  refine ⟨h.1, ?_⟩
  rcases h.2 with hn | ⟨g, cap, cur, hv, hbg, rest⟩
  · exact .inl hn
  · exact .inr ⟨g, cap, cur, hv, Nat.le_trans hb hbg, rest⟩
/-- Where a node lies, and that it may be stored into. -/
theorem Ownv.at {w : World} {base : Nat} {v : Value} {ls : List Nv} {j : Nat} {x : Nv} (h : Ownv w base v ls) (hj : ls[j]? = some x) :
    ∃ g cap, v = .slice (some ⟨g, 0, none⟩) ls.length cap ∧ base ≤ g ∧ g < w.heap.size ∧ At6 w g (j * 6) x ∧ ∀ i, w.frozen? ⟨g, i, none⟩ = false := by
  rcases h.2 with ⟨hv, hn⟩ | ⟨g, cap, cur, rfl, hb, hg, hnc, hcm, hcs, ht⟩
  · obtain rfl : ls = [] := List.length_eq_zero_iff.1 hn
    simp at hj
  · refine ⟨g, cap, rfl, hb, (Array.getElem?_eq_some_iff.1 hg).1, ?_, fun i => World.ownsRow.frozenAt h i⟩
    obtain ⟨ao, c, e, _, _, _, h4⟩ := Ownv.rd h
    obtain ⟨b, off, rfl, c⟩ := h4 j x hj
    simp only [Value.slice.injEq, Option.some.injEq, Addr.mk.injEq, and_true] at e
    obtain ⟨⟨rfl, rfl⟩, _⟩ := e
    simpa using c
/-- The six cells of a node that is laid anew. -/
def six (w : World) (g o : Nat) (y : Nv) : World :=
  (((((w.setCell ⟨g, o, none⟩ (.int .i64 y.1.kind)).setCell ⟨g, o + 1, none⟩ (.int .i64 y.1.line)).setCell ⟨g, o + 2, none⟩ (.string ⟨y.1.text.toArray⟩)).setCell ⟨g, o + 3, none⟩ (.bool y.1.quoted)).setCell ⟨g, o + 4, none⟩ y.2.1).setCell ⟨g, o + 5, none⟩ y.2.2
theorem Ownv.put {w : World} {base g cap : Nat} {ls : List Nv} {j : Nat} {x : Nv} (h : Ownv w base (.slice (some ⟨g, 0, none⟩) ls.length cap) ls) (hj : ls[j]? = some x) (y : Nv) :
    Ownv (six w g (j * 6) y) base (.slice (some ⟨g, 0, none⟩) ls.length cap) (ls.set j y) ∧ Kb w (six w g (j * 6) y) (some g) none := by
  have s0 := World.ownsRow.stored h (j * 6) (.int .i64 y.1.kind)
  have s1 := World.ownsRow.stored s0.1 (j * 6 + 1) (.int .i64 y.1.line)
  have s2 := World.ownsRow.stored s1.1 (j * 6 + 2) (.string ⟨y.1.text.toArray⟩)
  have s3 := World.ownsRow.stored s2.1 (j * 6 + 3) (.bool y.1.quoted)
  have s4 := World.ownsRow.stored s3.1 (j * 6 + 4) y.2.1
  have s5 := World.ownsRow.stored s4.1 (j * 6 + 5) y.2.2
  refine ⟨?_, (((((Kb.set w g _ _ none).trans (Kb.set _ g _ _ none)).trans (Kb.set _ g _ _ none)).trans (Kb.set _ g _ _ none)).trans (Kb.set _ g _ _ none)).trans (Kb.set _ g _ _ none)⟩
  have := s5.1
  rw [ncs_set y hj] at this
  show World.ownsRow _ _ _ _ _ _ _
  rw [List.length_set]
  exact this
theorem Tryd.info_node : (Tryd.prog.info? 37).map (fun i => (i.zero, i.size, i.bytes)) = some (some (.agg #[.int .i64 0, .int .i64 0, .string ⟨#[]⟩, .bool false, .slice none 0 0, .slice none 0 0]), 6, 88) := by kernel_rfl
theorem node_size : (Tryd.prog.info? 37).map (·.size) = some 6 := by kernel_rfl
theorem node_news {w : World} {g0 : Nat} {x : Nv} (hc : At6 w g0 0 x) : ∀ j u, (ncs [x])[j]? = some u → w.cell? ((⟨g0, 0, none⟩ : Addr).add j) = some u := by
  intro j y hy
  rw [Addr.add_lit, Nat.zero_add]
  match j, hy with
  | 0, hy => have : Value.int .i64 x.1.kind = y := by simpa [ncs, nc1] using hy
             rw [← this]; exact hc.c0
  | 1, hy => have : Value.int .i64 x.1.line = y := by simpa [ncs, nc1] using hy
             rw [← this]; exact hc.c1
  | 2, hy => have : Value.string ⟨x.1.text.toArray⟩ = y := by simpa [ncs, nc1] using hy
             rw [← this]; exact hc.c2
  | 3, hy => have : Value.bool x.1.quoted = y := by simpa [ncs, nc1] using hy
             rw [← this]; exact hc.c3
  | 4, hy => have : x.2.1 = y := by simpa [ncs, nc1] using hy
             rw [← this]; exact hc.c4
  | 5, hy => have : x.2.2 = y := by simpa [ncs, nc1] using hy
             rw [← this]; exact hc.c5
  | j + 6, hy => simp [ncs, nc1] at hy
theorem node_one {x : Nv} (h4 : x.2.1.oneCell' = true) (h5 : x.2.2.oneCell' = true) : ∀ u ∈ ncs [x], u.oneCell' = true := by
  intro u hu
  simp [ncs, nc1] at hu
  rcases hu with rfl | rfl | rfl | rfl | rfl | rfl
  · rfl
  · rfl
  · rfl
  · rfl
  · exact h4
  · exact h5
/-- 'append(l, x)' of nodes, l the call's own, at a step of a region that draws. -/
theorem step_append_node {w : World} {ops : Array Oper} {o : Oper} {a : Act} {K : Act → World → Prop} {Q : Exit → Act → World → Prop} {E : Prop} (hgd : o.guard = none) (s x : Operand)
    (ho : o.op = .call { callee := .builtin .append, args := #[s, x], argTypes := #[22, 22] })
    (base : Nat) {v : Value} {ls : List Nv} {l : Nv} {g0 c : Nat} (hs : a.eval s = v) (hown : Ownv w base v ls) (hx : a.eval x = .slice (some ⟨g0, 0, none⟩) 1 c) (hc : At6 w g0 0 l) (h4 : l.2.1.oneCell' = true) (h5 : l.2.2.oneCell' = true)
    (hlen : ls.length ≤ 20000) (hbase : base ≤ w.heap.size)
    (h : ∀ g cap w', Ownv w' base (.slice (some ⟨g, 0, none⟩) (ls.length + 1) cap) (ls ++ [l]) → w.grownBy w' v.ownBlock → Near w v (.slice (some ⟨g, 0, none⟩) (ls.length + 1) cap) → K (a.put o.dst (.slice (some ⟨g, 0, none⟩) (ls.length + 1) cap)) w') :
    if Region.wanted o (yielded ops a.tmps) = true then Oper.wp Tryd.prog o a w K Q else E := by
  obtain ⟨i, hi, hz0, hz1, hz2⟩ := infoparts Tryd.info_node
  refine step_append_lies _ hgd s x _ ho base _ i _ 6 88 Tryd.underlying22 hi hz0 hz1 hz2 rfl (by decide) v ls.length (ncs ls) hs hown ⟨g0, 0, none⟩ 1 c (ncs [l]) hx rfl (node_news hc) (node_one h4 h5) (by decide) (by unfold maxLen; omega) (by omega) hbase _ rfl ?_
  intro g cap' w' ho' hg h6 h7
  refine h g cap' w' ?_ hg ?_
  · show w'.ownsRow base _ 6 _ (ls ++ [l]).length (ncs (ls ++ [l]))
    rw [ncs_app, List.length_append]; exact ho'
  · rcases h6 with h6 | h6
    · exact .inl h6.symm
    · refine .inr fun g' hg' => ?_
      have := Option.some.inj hg'
      subst this
      exact Nat.le_of_eq h6.symm
end Go.Proofs.YtmgalfdiiegjjaaDoor
