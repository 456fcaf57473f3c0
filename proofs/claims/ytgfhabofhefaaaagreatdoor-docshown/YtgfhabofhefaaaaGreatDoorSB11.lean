/- A part of the proof. -/
import Derived.Test.YtgfhabofhefaaaaGreatDoorSB00
import Derived.Test.YtgfhabofhefaaaaGreatDoorSB10
import Derived.BigQuiet
namespace Go.Proofs.YtgfhabofhefaaaaGreatDoor
open Go.RowKit
def sv (ls : List LX.B) : List Value := ls.map fun l => .string ⟨l.toArray⟩
def nats (l : List Nat) : List Value := l.map fun n : Nat => .int .i64 (n : Int)
theorem sv_len (l : List LX.B) : (sv l).length = l.length := by simp [sv]
theorem nats_len (l : List Nat) : (nats l).length = l.length := by simp [nats]
theorem sv_app (a b : List LX.B) : sv (a ++ b) = sv a ++ sv b := by simp [sv]
theorem nats_app (a b : List Nat) : nats (a ++ b) = nats a ++ nats b := by simp [nats]
abbrev Nv := DC.Nd × Value × Value
def nc (a : Nv) : Array Value := #[.int .i64 a.1.kind, .int .i64 a.1.line, .string ⟨a.1.text.toArray⟩, .bool a.1.quoted, a.2.1, a.2.2]
def nc1 (a : Nv) : List Value := [.int .i64 a.1.kind, .int .i64 a.1.line, .string ⟨a.1.text.toArray⟩, .bool a.1.quoted, a.2.1, a.2.2]
def ncs (ls : List Nv) : List Value := ls.flatMap nc1
theorem ncs_cons (x : Nv) (t : List Nv) : ncs (x :: t) = nc1 x ++ ncs t := rfl
theorem ncs_app (a b : List Nv) : ncs (a ++ b) = ncs a ++ ncs b := by simp [ncs]
theorem ncs_at : ∀ {ls : List Nv} {j : Nat} {x : Nv}, ls[j]? = some x → ∀ i, i < 6 → (ncs ls)[j * 6 + i]? = (nc1 x)[i]?
  | [], _, _, h => by simp at h
  | x :: ls, 0, s, h => by
    have : x = s := by simpa using h
    subst this
    intro i hi
    rw [ncs_cons, List.getElem?_append_left (by simp [nc1]; omega)]
    congr 1
    omega
  | x :: ls, j + 1, s, h => by
    have h' : ls[j]? = some s := by simpa using h
    intro i hi
    rw [← ncs_at h' i hi, ncs_cons, List.getElem?_append_right (by simp [nc1]; omega)]
    congr 1
    simp [nc1]; omega
theorem ncs_set : ∀ {ls : List Nv} {j : Nat} {x : Nv} (y : Nv), ls[j]? = some x →
    ((((((ncs ls).set (j * 6) (.int .i64 y.1.kind)).set (j * 6 + 1) (.int .i64 y.1.line)).set (j * 6 + 2) (.string ⟨y.1.text.toArray⟩)).set (j * 6 + 3) (.bool y.1.quoted)).set (j * 6 + 4) y.2.1).set (j * 6 + 5) y.2.2 = ncs (ls.set j y)
  | [], _, _, _, h => by simp at h
  | x :: ls, 0, s, y, h => by
    rw [ncs_cons, List.set_cons_zero, ncs_cons]
    simp [nc1]
  | x :: ls, j + 1, s, y, h => by
    have h' : ls[j]? = some s := by simpa using h
    rw [List.set_cons_succ, ncs_cons, ncs_cons, ← ncs_set y h']
    have e : (nc1 x).length = 6 := rfl
    have st : ∀ (l : List Value) (k : Nat) (u : Value), (nc1 x ++ l).set ((j + 1) * 6 + k) u = nc1 x ++ l.set (j * 6 + k) u := fun l k u => by
      rw [List.set_append_right _ _ (by rw [e]; omega), e]
      congr 2
      omega
    have s0 := st (ncs ls) 0 (.int .i64 y.1.kind)
    simp only [Nat.add_zero] at s0
    rw [s0, st, st, st, st, st]
structure At6 (w : World) (b o : Nat) (x : Nv) : Prop where
  c0 : w.cell? ⟨b, o, none⟩ = some (.int .i64 x.1.kind)
  c1 : w.cell? ⟨b, o + 1, none⟩ = some (.int .i64 x.1.line)
  c2 : w.cell? ⟨b, o + 2, none⟩ = some (.string ⟨x.1.text.toArray⟩)
  c3 : w.cell? ⟨b, o + 3, none⟩ = some (.bool x.1.quoted)
  c4 : w.cell? ⟨b, o + 4, none⟩ = some x.2.1
  c5 : w.cell? ⟨b, o + 5, none⟩ = some x.2.2
theorem At6.below {w w' : World} {b o : Nat} {x : Nv} (h : At6 w b o x) (hb : Below w.heap.size w w') : At6 w' b o x :=
  ⟨(hb.cell (cell_lt h.c0)).trans h.c0, (hb.cell (cell_lt h.c1)).trans h.c1, (hb.cell (cell_lt h.c2)).trans h.c2, (hb.cell (cell_lt h.c3)).trans h.c3, (hb.cell (cell_lt h.c4)).trans h.c4, (hb.cell (cell_lt h.c5)).trans h.c5⟩
theorem Str.at6 {x : World} {p : Nat} {T : TypeId} {l : Nv} (h : Str x p T (nc l)) : At6 x p 0 l := ⟨h.cell 0, h.cell 1, h.cell 2, h.cell 3, h.cell 4, h.cell 5⟩
def Rdnv (w : World) (v : Value) (ls : List Nv) : Prop :=
  ∃ ao cap, v = .slice ao ls.length cap ∧ ls.length ≤ cap ∧ cap ≤ maxLen ∧ (ao = none → cap = 0) ∧ ∀ j x, ls[j]? = some x → ∃ b off, ao = some ⟨b, off, none⟩ ∧ At6 w b (off + j * 6) x
theorem Rdnv.below {w w' : World} {v : Value} {ls : List Nv} (h : Rdnv w v ls) (hb : Below w.heap.size w w') : Rdnv w' v ls := by
  obtain ⟨ao, cap, hv, h1, h2, h3, h4⟩ := h
  refine ⟨ao, cap, hv, h1, h2, h3, fun j s hs => ?_⟩
  obtain ⟨b, off, hx, c⟩ := h4 j s hs
  exact ⟨b, off, hx, c.below hb⟩
def Rdoc (w : World) (v : Value) (ns : List DC.Nd) : Prop :=
  ∃ vs : List Nv, vs.map (·.1) = ns ∧ Rdnv w v vs ∧ ∀ a ∈ vs, Rdv w a.2.1 (sv a.1.keys) ∧ Rdv w a.2.2 (nats a.1.kids)
theorem Rdoc.below {w w' : World} {v : Value} {ns : List DC.Nd} (h : Rdoc w v ns) (hb : Below w.heap.size w w') : Rdoc w' v ns := by
  obtain ⟨vs, h1, h2, h3⟩ := h
  exact ⟨vs, h1, h2.below hb, fun a ha => ⟨(h3 a ha).1.below hb, (h3 a ha).2.below hb⟩⟩
theorem Rdnv.nil (w : World) : Rdnv w (.slice none 0 0) [] := ⟨none, 0, rfl, by simp, by simp [maxLen], fun _ => rfl, by simp⟩
theorem Rdoc.nil (w : World) : Rdoc w (.slice none 0 0) [] := ⟨[], rfl, Rdnv.nil w, by simp⟩
def Ownv (w : World) (base : Nat) (v : Value) (ls : List Nv) : Prop := w.ownsRow base 48 6 v ls.length (ncs ls)
theorem Ownv.nil (w : World) (base : Nat) : Ownv w base (.slice none 0 0) [] := World.ownsRow_nil w base _ 6
theorem Ownv.below {w w' : World} {base : Nat} {v : Value} {ls : List Nv} (h : Ownv w base v ls) (hb : Below w.heap.size w w') : Ownv w' base v ls := by
  refine ⟨h.1, ?_⟩
  rcases h.2 with hn | ⟨g, cap, cur, hv, hbg, hg, rest⟩
  · exact .inl hn
  · exact .inr ⟨g, cap, cur, hv, hbg, (hb.block g (Array.getElem?_eq_some_iff.1 hg).1).trans hg, rest⟩
theorem Ownv.rd {w : World} {base : Nat} {v : Value} {ls : List Nv} (h : Ownv w base v ls) : Rdnv w v ls := by
  rcases h.2 with ⟨hv, hn⟩ | ⟨g, cap, cur, hv, hb, hg, hnc, hcm, hcs, ht⟩
  · obtain rfl : ls = [] := List.length_eq_zero_iff.1 hn
    rw [hv]; exact Rdnv.nil w
  · refine ⟨some ⟨g, 0, none⟩, cap, hv, hnc, hcm, (by intro h; cases h), fun j s hs => ⟨g, 0, rfl, ?_⟩⟩
    have k := ncs_at hs
    have q0 := World.ownsRow.cells h (by rw [hv]; rfl) _ _ (k 0 (by decide))
    have q1 := World.ownsRow.cells h (by rw [hv]; rfl) _ _ (k 1 (by decide))
    have q2 := World.ownsRow.cells h (by rw [hv]; rfl) _ _ (k 2 (by decide))
    have q3 := World.ownsRow.cells h (by rw [hv]; rfl) _ _ (k 3 (by decide))
    have q4 := World.ownsRow.cells h (by rw [hv]; rfl) _ _ (k 4 (by decide))
    have q5 := World.ownsRow.cells h (by rw [hv]; rfl) _ _ (k 5 (by decide))
    rw [Addr.add_lit] at q0 q1 q2 q3 q4 q5
    simp only [Nat.zero_add, Nat.add_zero] at q0 q1 q2 q3 q4 q5 ⊢
    exact ⟨q0, q1, q2, q3, q4, q5⟩
theorem Ownv.slice {w : World} {base : Nat} {v : Value} {ls : List Nv} (h : Ownv w base v ls) : ∃ ao cap, v = .slice ao ls.length cap := by
  rcases h.2 with ⟨hv, hn⟩ | ⟨g, cap, cur, hv, _⟩
  · exact ⟨none, 0, by rw [hv, hn]⟩
  · exact ⟨_, cap, hv⟩
theorem Ownv.ownBlock {w : World} {base : Nat} {v : Value} {ls : List Nv} (h : Ownv w base v ls) {g : Nat} (hg : v.ownBlock = some g) : (∃ cur, w.heap[g]? = some (.cells cur 48 (0, 0))) ∧ base ≤ g ∧ g < w.heap.size := by
  rcases h.2 with ⟨hv, _⟩ | ⟨g', cap, cur, hv, hb, hc, _⟩
  · rw [hv] at hg; cases hg
  · rw [hv] at hg
    obtain rfl : g' = g := Option.some.inj hg
    exact ⟨⟨cur, hc⟩, hb, (Array.getElem?_eq_some_iff.1 hc).1⟩
theorem Ownv.kb {w w' : World} {base : Nat} {v : Value} {ls : List Nv} {p q : Option Nat} (h : Ownv w base v ls) (hk : Kb w w' p q) (h1 : v.ownBlock = none ∨ v.ownBlock ≠ p) (h2 : v.ownBlock = none ∨ v.ownBlock ≠ q) : Ownv w' base v ls := by
  refine ⟨h.1, ?_⟩
  rcases h.2 with hn | ⟨g, cap, cur, rfl, hb, hgg, rest⟩
  · exact .inl hn
  · refine .inr ⟨g, cap, cur, rfl, hb, ?_, rest⟩
    rw [hk.block g (Array.getElem?_eq_some_iff.1 hgg).1 (by simpa [Value.ownBlock] using h1) (by simpa [Value.ownBlock] using h2)]
    exact hgg
theorem Ownv.off {w : World} {base : Nat} {T : TypeId} {v : Value} {ls : List Nv} {p : Nat} {cs : Array Value} (h : Ownv w base v ls) (hs : Str w p T cs) (hne : 48 ≠ T ∨ base > p) : v.ownBlock = none ∨ v.ownBlock ≠ some p := by
  cases hg : v.ownBlock with
  | none => exact .inl rfl
  | some g =>
    right
    intro e
    obtain rfl := Option.some.inj e
    obtain ⟨⟨cur, hc⟩, hb, _⟩ := h.ownBlock hg
    have h' : w.heap[g]? = some (.cells cs T (0, 0)) := hs
    rw [h'] at hc
    simp at hc
    rcases hne with hne | hne
    · exact hne hc.2.symm
    · omega
theorem Ownv.base {w : World} {b b' : Nat} {v : Value} {ls : List Nv} (h : Ownv w b v ls) (hb : b' ≤ b) : Ownv w b' v ls := by
  refine ⟨h.1, ?_⟩
  rcases h.2 with hn | ⟨g, cap, cur, hv, hbg, rest⟩
  · exact .inl hn
  · exact .inr ⟨g, cap, cur, hv, Nat.le_trans hb hbg, rest⟩
theorem Ownv.at {w : World} {base : Nat} {v : Value} {ls : List Nv} {j : Nat} {x : Nv} (h : Ownv w base v ls) (hj : ls[j]? = some x) :
    ∃ g cap, v = .slice (some ⟨g, 0, none⟩) ls.length cap ∧ base ≤ g ∧ g < w.heap.size ∧ At6 w g (j * 6) x ∧ ∀ i, w.frozen? ⟨g, i, none⟩ = false := by
  rcases h.2 with ⟨hv, hn⟩ | ⟨g, cap, cur, rfl, hb, hg, hnc, hcm, hcs, ht⟩
  · obtain rfl : ls = [] := List.length_eq_zero_iff.1 hn
    simp at hj
  · refine ⟨g, cap, rfl, hb, (Array.getElem?_eq_some_iff.1 hg).1, ?_, fun i => World.ownsRow.frozenAt h i⟩
    obtain ⟨ao, c, e, _, _, _, h4⟩ := Ownv.rd h
    obtain ⟨b, off, rfl, c⟩ := h4 j x hj
    simp only [Value.slice.injEq, Option.some.injEq, Addr.mk.injEq, and_true] at e
    obtain ⟨⟨rfl, rfl⟩, _⟩ := e
    simpa using c
def six (w : World) (g o : Nat) (y : Nv) : World :=
  (((((w.setCell ⟨g, o, none⟩ (.int .i64 y.1.kind)).setCell ⟨g, o + 1, none⟩ (.int .i64 y.1.line)).setCell ⟨g, o + 2, none⟩ (.string ⟨y.1.text.toArray⟩)).setCell ⟨g, o + 3, none⟩ (.bool y.1.quoted)).setCell ⟨g, o + 4, none⟩ y.2.1).setCell ⟨g, o + 5, none⟩ y.2.2
theorem Ownv.put {w : World} {base g cap : Nat} {ls : List Nv} {j : Nat} {x : Nv} (h : Ownv w base (.slice (some ⟨g, 0, none⟩) ls.length cap) ls) (hj : ls[j]? = some x) (y : Nv) :
    Ownv (six w g (j * 6) y) base (.slice (some ⟨g, 0, none⟩) ls.length cap) (ls.set j y) ∧ Kb w (six w g (j * 6) y) (some g) none := by
  have s0 := World.ownsRow.stored h (j * 6) (.int .i64 y.1.kind)
  have s1 := World.ownsRow.stored s0.1 (j * 6 + 1) (.int .i64 y.1.line)
  have s2 := World.ownsRow.stored s1.1 (j * 6 + 2) (.string ⟨y.1.text.toArray⟩)
  have s3 := World.ownsRow.stored s2.1 (j * 6 + 3) (.bool y.1.quoted)
  have s4 := World.ownsRow.stored s3.1 (j * 6 + 4) y.2.1
  have s5 := World.ownsRow.stored s4.1 (j * 6 + 5) y.2.2
  refine ⟨?_, (((((Kb.set w g _ _ none).trans (Kb.set _ g _ _ none)).trans (Kb.set _ g _ _ none)).trans (Kb.set _ g _ _ none)).trans (Kb.set _ g _ _ none)).trans (Kb.set _ g _ _ none)⟩
  have := s5.1
  rw [ncs_set y hj] at this
  show World.ownsRow _ _ _ _ _ _ _
  rw [List.length_set]
  exact this
theorem Tryz.info_node : (Tryz.prog.info? 48).map (fun i => (i.zero, i.size, i.bytes)) = some (some (.agg #[.int .i64 0, .int .i64 0, .string ⟨#[]⟩, .bool false, .slice none 0 0, .slice none 0 0]), 6, 88) := by kernel_rfl
theorem node_news {w : World} {g0 : Nat} {x : Nv} (hc : At6 w g0 0 x) : ∀ j u, (ncs [x])[j]? = some u → w.cell? ((⟨g0, 0, none⟩ : Addr).add j) = some u := by
  intro j y hy
  rw [Addr.add_lit, Nat.zero_add]
  match j, hy with
  | 0, hy => have : Value.int .i64 x.1.kind = y := by simpa [ncs, nc1] using hy
             rw [← this]; exact hc.c0
  | 1, hy => have : Value.int .i64 x.1.line = y := by simpa [ncs, nc1] using hy
             rw [← this]; exact hc.c1
  | 2, hy => have : Value.string ⟨x.1.text.toArray⟩ = y := by simpa [ncs, nc1] using hy
             rw [← this]; exact hc.c2
  | 3, hy => have : Value.bool x.1.quoted = y := by simpa [ncs, nc1] using hy
             rw [← this]; exact hc.c3
  | 4, hy => have : x.2.1 = y := by simpa [ncs, nc1] using hy
             rw [← this]; exact hc.c4
  | 5, hy => have : x.2.2 = y := by simpa [ncs, nc1] using hy
             rw [← this]; exact hc.c5
  | j + 6, hy => simp [ncs, nc1] at hy
theorem node_one {x : Nv} (h4 : x.2.1.oneCell' = true) (h5 : x.2.2.oneCell' = true) : ∀ u ∈ ncs [x], u.oneCell' = true := by
  intro u hu
  simp [ncs, nc1] at hu
  rcases hu with rfl | rfl | rfl | rfl | rfl | rfl
  · rfl
  · rfl
  · rfl
  · rfl
  · exact h4
  · exact h5
theorem step_append_node {w : World} {ops : Array Oper} {o : Oper} {a : Act} {K : Act → World → Prop} {Q : Exit → Act → World → Prop} {E : Prop} (hgd : o.guard = none) (s x : Operand)
    (ho : o.op = .call { callee := .builtin .append, args := #[s, x], argTypes := #[24, 24] })
    (base : Nat) {v : Value} {ls : List Nv} {l : Nv} {g0 c : Nat} (hs : a.eval s = v) (hown : Ownv w base v ls) (hx : a.eval x = .slice (some ⟨g0, 0, none⟩) 1 c) (hc : At6 w g0 0 l) (h4 : l.2.1.oneCell' = true) (h5 : l.2.2.oneCell' = true)
    (hlen : ls.length ≤ 20000) (hbase : base ≤ w.heap.size)
    (h : ∀ g cap w', Ownv w' base (.slice (some ⟨g, 0, none⟩) (ls.length + 1) cap) (ls ++ [l]) → w.grownBy w' v.ownBlock → Near w v (.slice (some ⟨g, 0, none⟩) (ls.length + 1) cap) → K (a.put o.dst (.slice (some ⟨g, 0, none⟩) (ls.length + 1) cap)) w') :
    if Region.wanted o (yielded ops a.tmps) = true then Oper.wp Tryz.prog o a w K Q else E := by
  obtain ⟨i, hi, hz0, hz1, hz2⟩ := infoparts Tryz.info_node
  refine step_append_lies _ hgd s x _ ho base _ i _ 6 88 Tryz.underlying24 hi hz0 hz1 hz2 rfl (by decide) v ls.length (ncs ls) hs hown ⟨g0, 0, none⟩ 1 c (ncs [l]) hx rfl (node_news hc) (node_one h4 h5) (by decide) (by unfold maxLen; omega) (by omega) hbase _ rfl ?_
  intro g cap' w' ho' hg h6 h7
  refine h g cap' w' ?_ hg ?_
  · show w'.ownsRow base _ 6 _ (ls ++ [l]).length (ncs (ls ++ [l]))
    rw [ncs_app, List.length_append]; exact ho'
  · rcases h6 with h6 | h6
    · exact .inl h6.symm
    · refine .inr fun g' hg' => ?_
      have := Option.some.inj hg'
      subst this
      exact Nat.le_of_eq h6.symm
end Go.Proofs.YtgfhabofhefaaaaGreatDoor
namespace Go.Proofs.YtgfhabofhefaaaaGreatDoor
open Go.RowKit
theorem Rdv.atv {w : World} {v : Value} {xs : List Value} (h : Rdv w v xs) {j : Nat} {u : Value} (hj : xs[j]? = some u) :
    ∃ b off cap, v = .slice (some ⟨b, off, none⟩) xs.length cap ∧ w.cell? ⟨b, off + j, none⟩ = some u := by
  obtain ⟨ao, cap, rfl, h1, h2, h3, h4⟩ := h
  have hl := (List.getElem?_eq_some_iff.1 hj).1
  obtain ⟨⟨b, off, spot⟩, rfl, hc0⟩ := h4 0 xs[0] (List.getElem?_eq_getElem (by omega))
  have hspot : spot = none := by simpa [Addr.add] using World.cell?_spot hc0
  subst hspot
  obtain ⟨y, hy, hc⟩ := h4 j u hj
  obtain rfl := Option.some.inj hy
  rw [Addr.add_lit] at hc
  exact ⟨b, off, cap, rfl, hc⟩
theorem Rdv.slice {w : World} {v : Value} {xs : List Value} (h : Rdv w v xs) : ∃ ao cap, v = .slice ao xs.length cap := by
  obtain ⟨ao, cap, e, _⟩ := h
  exact ⟨ao, cap, e⟩
end Go.Proofs.YtgfhabofhefaaaaGreatDoor
namespace Go.Proofs.YtgfhabofhefaaaaGreatDoor
open Go.RowKit
theorem lcut_front (l : List UInt8) (k : Nat) : (⟨l.toArray⟩ : ByteArray).extract 0 k = ⟨(l.take k).toArray⟩ := by
  rw [ByteArray.extract_mk]
  simp
theorem lcut_back {l : List UInt8} {L : Nat} (h : l.length = L) (k : Nat) : (⟨l.toArray⟩ : ByteArray).extract k L = ⟨(l.drop k).toArray⟩ := by
  rw [ByteArray.extract_mk]
  subst h
  simp [List.take_of_length_le]
theorem ret_n {a b : Nat} {P : Prop} (h : a = b) (hp : P) : Ending.returned (.int .i64 (a : Int)) = .returned (.int .i64 (b : Int)) ∧ P := ⟨by rw [h], hp⟩
theorem ret_0 {b : Nat} {P : Prop} (h : b = 0) (hp : P) : Ending.returned (.int .i64 0) = .returned (.int .i64 (b : Int)) ∧ P := ⟨by rw [h]; rfl, hp⟩
theorem hasp_0 (w : World) : Calls Tryz.prog 120 #[.string ByteArray.empty, .string ⟨#[58, 32]⟩] w fun e w' => e = .returned (.bool false) ∧ w' = w := hasp_any [] [58, 32] false rfl w
theorem kend_cases (l : List UInt8) : (l = [58] ∧ LX.kend l = true) ∨ (l ≠ [58] ∧ [58, 32].isPrefixOf l = LX.kend l) := by
  match l with
  | [] => exact .inr ⟨by simp, rfl⟩
  | [c] =>
    by_cases h : c = 58
    · subst h; exact .inl ⟨rfl, rfl⟩
    · exact .inr ⟨by simpa using h, by simp [LX.kend, List.isPrefixOf, h]⟩
  | c :: d :: t =>
    refine .inr ⟨by simp, ?_⟩
    show (58 == c && (32 == d && true)) = (c == 58 && d == 32)
    rw [Bool.and_true, Bool.beq_comm, Bool.beq_comm (a := (32 : UInt8))]
theorem key_yes {l : List UInt8} {k : Nat} (h : LX.run l = k) (hk : LX.kend (l.drop k) = true) : LX.key l = k := by
  unfold LX.key; rw [h, if_pos hk]
theorem key_no {l : List UInt8} {k : Nat} (h : LX.run l = k) (hk : LX.kend (l.drop k) = false) : LX.key l = 0 := by
  unfold LX.key; rw [h, if_neg (by rw [hk]; simp)]
set_option maxHeartbeats 4000000 in
theorem keySize_any (l : List UInt8) (w : World) (hl : l.length ≤ 100000) :
    Calls Tryz.prog 126 #[.string ⟨l.toArray⟩] w fun e w' => e = .returned (.int .i64 (LX.key l : Int)) ∧ w' = w := by
  have hsz := str_size l
  obtain ⟨n, hn⟩ : ∃ n, l.length = n := ⟨_, rfl⟩
  have HL := Lib.hid hn
  rw [hn] at hsz hl
  clear hn
  obtain ⟨K, HK⟩ : ∃ K, Hid (K = LX.key l) := ⟨_, Lib.hid rfl⟩
  rw [← HK.out]
  go_enter Tryz.func126, Tryz.ntmps126
  go_wp2
  go_loopg [3] n (fun g s3 wx => ∃ k : Nat, k + g = n ∧ s3 = .int .i64 (k : Int) ∧ wx = w ∧ Hid (k ≤ LX.run l))
  case atStart => exact ⟨0, by omega, rfl, rfl, Nat.zero_le _⟩
  case round =>
    obtain ⟨k, hk, rfl, rfl, HR⟩ := hrel
    have x1 := lcut_back HL.out k
    obtain ⟨D, hD⟩ : ∃ D, l.drop k = D := ⟨_, rfl⟩
    have HD := Lib.hid hD
    rw [hD] at x1
    clear hD
    have hkn0 : (k : Int) ≤ (n : Int) := by omega
    cases gk with
    | zero =>
      obtain rfl : k = n := by omega
      have hrun := Lib.hid (LX.runp_stop HR.out (fun c hc => by rw [List.getElem?_eq_none (by have := HL.out; omega)] at hc; cases hc))
      have hlt : ¬ (k : Int) < (k : Int) := by omega
      have E := Lib.hid (HK.out.trans (key_no hrun.out (by rw [List.drop_eq_nil_of_le (by have := HL.out; omega)]; rfl)))
      have HP := Lib.hid (hasp_0 wr)
      clear x1
      go_wp2_with (go_at_call 120; refine HP.out.mono ?_; rintro e w1 ⟨rfl, hw1⟩; replace hw1 := hw1.symm; subst hw1)
      go_ret
      exact ret_0 E.out rfl
    | succ g =>
      have hlt : (k : Int) < (n : Int) := by omega
      obtain ⟨c, hc⟩ : ∃ c, l[k]? = some c := ⟨l[k]'(by have := HL.out; omega), List.getElem?_eq_getElem _⟩
      have hkl : k < (⟨l.toArray⟩ : ByteArray).size := by omega
      have hub := c.toNat_lt
      obtain ⟨z, hz⟩ : ∃ z : Int, (c.toNat : Int) = z := ⟨_, rfl⟩
      have hi := at_z hc hz hkl
      have hz0 : 0 ≤ z := by omega
      have hz1 : z < 256 := by omega
      have HC := Lib.hid hc
      have HS := Lib.hid (isKeySign_any c z hz wr)
      clear hc hz hub
      cases hs : LX.sgn c with
      | true =>
        have E := Lib.hid (LX.runp_more HR.out HC.out hs)
        rw [hs] at HS
        clear hs x1
        go_wp2_with (go_at_call 155; refine HS.out.mono ?_; rintro e w1 ⟨rfl, hw1⟩; replace hw1 := hw1.symm; subst hw1)
        go_roundg g
        case rel => exact ⟨k + 1, by omega, rfl, rfl, E⟩
        case measure => omega
      | false =>
        have hrun := Lib.hid (LX.runp_stop HR.out (fun d hd => by rw [HC.out] at hd; obtain rfl := Option.some.inj hd; exact hs))
        rw [hs] at HS
        clear hs
        rcases kend_cases D with ⟨rfl, hd⟩ | ⟨h1, h2⟩
        · have E := Lib.hid (HK.out.trans (key_yes hrun.out (by rw [HD.out]; exact hd)))
          clear hd
          go_wp2_with (go_at_call 155; refine HS.out.mono ?_; rintro e w1 ⟨rfl, hw1⟩; replace hw1 := hw1.symm; subst hw1)
          go_ret
          exact ret_n E.out.symm rfl
        · have hne : (D == [58]) = false := beq_eq_false_iff_ne.2 h1
          have HP := Lib.hid (hasp_any D [58, 32] _ h2 wr)
          clear h1 h2
          cases hd : LX.kend D with
          | true =>
            have E := Lib.hid (HK.out.trans (key_yes hrun.out (by rw [HD.out]; exact hd)))
            rw [hd] at HP
            clear hd
            go_wp2_with (first
              | (go_at_call 155; refine HS.out.mono ?_; rintro e w1 ⟨rfl, hw1⟩; replace hw1 := hw1.symm; subst hw1)
              | (go_at_call 120; refine HP.out.mono ?_; rintro e w1 ⟨rfl, hw1⟩; replace hw1 := hw1.symm; subst hw1))
            go_ret
            exact ret_n E.out.symm rfl
          | false =>
            have E := Lib.hid (HK.out.trans (key_no hrun.out (by rw [HD.out]; exact hd)))
            rw [hd] at HP
            clear hd
            go_wp2_with (first
              | (go_at_call 155; refine HS.out.mono ?_; rintro e w1 ⟨rfl, hw1⟩; replace hw1 := hw1.symm; subst hw1)
              | (go_at_call 120; refine HP.out.mono ?_; rintro e w1 ⟨rfl, hw1⟩; replace hw1 := hw1.symm; subst hw1))
            go_ret
            exact ret_0 E.out rfl
end Go.Proofs.YtgfhabofhefaaaaGreatDoor
namespace Go.Proofs.YtgfhabofhefaaaaGreatDoor
open Go.RowKit
def StrE (o : Option (List UInt8)) (k : Int) : Ending := match o with | some x => .returned (.string ⟨x.toArray⟩) | none => .panicked (gave k)
def EscE (o : Option (UInt8 × Nat)) : Ending := match o with | some x => .returned (.tuple #[.int .u8 (x.1.toNat : Int), .int .i64 (x.2 : Int)]) | none => .panicked (gave 3)
def hexes : List UInt8 := [48, 49, 50, 51, 52, 53, 54, 55, 56, 57, 97, 98, 99, 100, 101, 102]
def hxi (c : UInt8) : Int := match LX.hx c with | some x => (x : Int) | none => -1
theorem hx_index : ∀ n : Fin 256, Lib.indexByte hexes (UInt8.ofNat n.val) = hxi (UInt8.ofNat n.val) := by decide +kernel
theorem hx_any (c : UInt8) : Lib.indexByte hexes c = hxi c := by
  have := hx_index ⟨c.toNat, c.toNat_lt⟩
  simpa using this
theorem hxi_some {c : UInt8} {x : Nat} (h : LX.hx c = some x) : hxi c = (x : Int) ∧ x < 16 := by
  refine ⟨by unfold hxi; rw [h], ?_⟩
  unfold LX.hx at h
  split at h
  · cases h; omega
  · split at h
    · cases h; omega
    · cases h
theorem hxi_none {c : UInt8} (h : LX.hx c = none) : hxi c = -1 := by unfold hxi; rw [h]
theorem ibyte_any (c : UInt8) (z : Int) (hz : (c.toNat : Int) = z) (h : Int) (hh : hxi c = h) (w : World) : Calls Tryz.prog 173 #[.string ⟨#[48, 49, 50, 51, 52, 53, 54, 55, 56, 57, 97, 98, 99, 100, 101, 102]⟩, .int .u8 z] w fun e w' => e = .returned (.int .i64 h) ∧ w' = w := by
  subst hz hh
  have := Tryz.strings_IndexByte ⟨#[48, 49, 50, 51, 52, 53, 54, 55, 56, 57, 97, 98, 99, 100, 101, 102]⟩ (c.toNat : Int) w
  have e1 : Lib.indexByte (ByteArray.mk #[48, 49, 50, 51, 52, 53, 54, 55, 56, 57, 97, 98, 99, 100, 101, 102]).data.toList (c.toNat : Int).toNat.toUInt8 = hxi c := by
    rw [← hx_any]; simp [hexes]
  rw [e1] at this
  exact this
def oddi (c : UInt8) : Int := Lib.indexByte LX.bars c
theorem odd_index : ∀ n : Fin 256, Lib.indexByte LX.bars (UInt8.ofNat n.val) < 0 ↔ LX.odd (UInt8.ofNat n.val) = false := by decide +kernel
theorem oddi_any (c : UInt8) : oddi c < 0 ↔ LX.odd c = false := by
  have := odd_index ⟨c.toNat, c.toNat_lt⟩
  simp only [UInt8.ofNat_toNat] at this
  exact this
theorem bbyte_any (c : UInt8) (z : Int) (hz : (c.toNat : Int) = z) (w : World) : Calls Tryz.prog 173 #[.string ⟨#[91, 93, 123, 125, 38, 42, 33, 124, 62, 37, 64, 44, 63, 96]⟩, .int .u8 z] w fun e w' => e = .returned (.int .i64 (oddi c)) ∧ w' = w := by
  subst hz
  have := Tryz.strings_IndexByte ⟨#[91, 93, 123, 125, 38, 42, 33, 124, 62, 37, 64, 44, 63, 96]⟩ (c.toNat : Int) w
  have e1 : Lib.indexByte (ByteArray.mk #[91, 93, 123, 125, 38, 42, 33, 124, 62, 37, 64, 44, 63, 96]).data.toList (c.toNat : Int).toNat.toUInt8 = oddi c := by
    simp [oddi, LX.bars]
  rw [e1] at this
  exact this
theorem esc_no {d : UInt8} {u : List UInt8} (h1 : d ≠ 92) (h2 : d ≠ 34) (h3 : d ≠ 110) (h4 : d ≠ 116) (h5 : d ≠ 120) : LX.esc (d :: u) = none := by
  simp [LX.esc, h1, h2, h3, h4, h5]
theorem esc_xs {a b : UInt8} {v : List UInt8} {x y : Nat} (ha : LX.hx a = some x) (hb : LX.hx b = some y) : LX.esc (120 :: a :: b :: v) = some (UInt8.ofNat (16 * x + y), 3) := by
  simp [LX.esc, ha, hb]
theorem esc_xa {a b : UInt8} {v : List UInt8} (ha : LX.hx a = none) : LX.esc (120 :: a :: b :: v) = none := by
  simp [LX.esc, ha]
theorem esc_xb {a b : UInt8} {v : List UInt8} (hb : LX.hx b = none) : LX.esc (120 :: a :: b :: v) = none := by
  cases ha : LX.hx a <;> simp [LX.esc, ha, hb]
theorem zne {c : UInt8} {z : Int} (hz : (c.toNat : Int) = z) (k : Nat) (_hk : k < 256) (h : c ≠ UInt8.ofNat k) : (z == (k : Int)) = false := by
  refine beq_eq_false_iff_ne.2 fun e => h ?_
  have : c.toNat = k := by omega
  rw [← this]; simp
theorem or_all : ∀ x y : Fin 16, bits .or .i64 ((x.val : Int) * 16) (y.val : Int) % 256 = ((UInt8.ofNat (16 * x.val + y.val)).toNat : Int) := by decide +kernel
theorem or_hex {x y : Nat} (hx : x < 16) (hy : y < 16) : bits .or .i64 ((x : Int) * 16) (y : Int) % 256 = ((UInt8.ofNat (16 * x + y)).toNat : Int) := or_all ⟨x, hx⟩ ⟨y, hy⟩
theorem first_z {d : UInt8} {u : List UInt8} {z : Int} (hz : (d.toNat : Int) = z) (h : 0 < (⟨(d :: u).toArray⟩ : ByteArray).size) : ((((⟨(d :: u).toArray⟩ : ByteArray)[0]'h).toNat : Nat) : Int) = z := at_z (l := d :: u) (p := 0) rfl hz h
set_option maxHeartbeats 4000000 in
theorem escape_any (l : List UInt8) (w : World) (hl : l.length ≤ 100000) :
    Calls Tryz.prog 172 #[.string ⟨l.toArray⟩] w fun e w' => e = EscE (LX.esc l) ∧ Below w.heap.size w w' := by
  cases l with
  | nil =>
    have HM := Lib.hid (fun x => lmust_false 3 x)
    go_enter Tryz.func172, Tryz.ntmps172
    go_wp2_with fail
    refine (HM.out _).mono ?_
    rintro e w1 ⟨rfl, rfl⟩
    exact ⟨rfl, rfl, Below.refl _ _⟩
  | cons d u =>
    have hne : ((d :: u) == ([] : List UInt8)) = false := rfl
    have hsz := str_size (d :: u)
    obtain ⟨z, hz⟩ : ∃ z : Int, (d.toNat : Int) = z := ⟨_, rfl⟩
    have hp : 0 < (⟨(d :: u).toArray⟩ : ByteArray).size := by rw [hsz]; simp
    have hi := first_z (u := u) hz hp
    have hub := d.toNat_lt
    have hz0 : 0 ≤ z := by omega
    have hz1 : z < 256 := by omega
    have HM := Lib.hid (fun x => lmust_true 3 x)
    have HZ := Lib.hid hz
    obtain ⟨n, hn⟩ : ∃ n, (d :: u).length = n := ⟨_, rfl⟩
    have HN := Lib.hid hn
    rw [hn] at hsz hl
    clear hz hub hn
    have path : (d = 92 ∨ d = 34 ∨ d = 110 ∨ d = 116) ∨ d = 120 ∨ (d ≠ 92 ∧ d ≠ 34 ∧ d ≠ 110 ∧ d ≠ 116 ∧ d ≠ 120) := by
      by_cases h1 : d = 92
      · exact .inl (.inl h1)
      · by_cases h2 : d = 34
        · exact .inl (.inr (.inl h2))
        · by_cases h3 : d = 110
          · exact .inl (.inr (.inr (.inl h3)))
          · by_cases h4 : d = 116
            · exact .inl (.inr (.inr (.inr h4)))
            · by_cases h5 : d = 120
              · exact .inr (.inl h5)
              · exact .inr (.inr ⟨h1, h2, h3, h4, h5⟩)
    rcases path with h | rfl | ⟨h1, h2, h3, h4, h5⟩
    · rcases h with rfl | rfl | rfl | rfl
      all_goals
        obtain rfl := HZ.out
        go_enter Tryz.func172, Tryz.ntmps172
        go_wp2_with (go_at_call 122; refine (HM.out _).mono ?_; rintro e w1 ⟨rfl, hw1⟩; replace hw1 := hw1.symm; subst hw1)
        go_ret2
        exact ⟨rfl, Below.refl _ _⟩
    · obtain rfl : z = 120 := HZ.out.symm
      match u, hp, hi, hsz, HN, hne with
      | [], hp, hi, hsz, HN, hne =>
        have HF := Lib.hid (fun x => lmust_false 3 x)
        obtain rfl : n = 1 := HN.out.symm
        go_enter Tryz.func172, Tryz.ntmps172
        go_wp2_with fail
        refine (HM.out _).mono ?_
        rintro e w1 ⟨rfl, hw1⟩
        replace hw1 := hw1.symm
        subst hw1
        go_wp2_with fail
        refine (HF.out _).mono ?_
        rintro e w1 ⟨rfl, rfl⟩
        exact ⟨rfl, rfl, Below.refl _ _⟩
      | [a], hp, hi, hsz, HN, hne =>
        have HF := Lib.hid (fun x => lmust_false 3 x)
        obtain rfl : n = 2 := HN.out.symm
        go_enter Tryz.func172, Tryz.ntmps172
        go_wp2_with fail
        refine (HM.out _).mono ?_
        rintro e w1 ⟨rfl, hw1⟩
        replace hw1 := hw1.symm
        subst hw1
        go_wp2_with fail
        refine (HF.out _).mono ?_
        rintro e w1 ⟨rfl, rfl⟩
        exact ⟨rfl, rfl, Below.refl _ _⟩
      | a :: b :: v, hp, hi, hsz, HN, hne =>
        have h3 : 3 ≤ n := by have := HN.out; simp at this; omega
        have hgt : (2 : Int) < (n : Int) := by omega
        obtain ⟨za, hza⟩ : ∃ z : Int, (a.toNat : Int) = z := ⟨_, rfl⟩
        obtain ⟨zb, hzb⟩ : ∃ z : Int, (b.toNat : Int) = z := ⟨_, rfl⟩
        have hl1 : 1 < (⟨(120 :: a :: b :: v).toArray⟩ : ByteArray).size := by omega
        have hl2 : 2 < (⟨(120 :: a :: b :: v).toArray⟩ : ByteArray).size := by omega
        have i1 := at_z (l := 120 :: a :: b :: v) (p := 1) rfl hza hl1
        have i2 := at_z (l := 120 :: a :: b :: v) (p := 2) rfl hzb hl2
        have hua := a.toNat_lt
        have hub := b.toNat_lt
        have a0 : 0 ≤ za := by omega
        have a1 : za < 256 := by omega
        have b0 : 0 ≤ zb := by omega
        have b1 : zb < 256 := by omega
        have HA := Lib.hid (fun x => ibyte_any a za hza _ rfl x)
        have HB := Lib.hid (fun x => ibyte_any b zb hzb _ rfl x)
        clear hza hzb hua hub
        cases ha : LX.hx a with
        | none =>
          have E := Lib.hid (esc_xa (b := b) (v := v) ha)
          rw [hxi_none ha] at HA
          have HF := Lib.hid (fun x => lmust_false 3 x)
          generalize hxi b = hb' at HB
          clear ha
          go_enter Tryz.func172, Tryz.ntmps172
          go_wp2_with fail
          refine (HM.out _).mono ?_
          rintro e w1 ⟨rfl, hw1⟩
          replace hw1 := hw1.symm
          subst hw1
          go_wp2_with fail
          refine (HM.out _).mono ?_
          rintro e w1 ⟨rfl, hw1⟩
          replace hw1 := hw1.symm
          subst hw1
          go_wp2_with fail
          go_quiet (first | (with_reducible refine Calls.quiet_of_same (HA.out _)) | (with_reducible refine Calls.quiet_of_same (HB.out _)))
          go_wp2_with fail
          refine (HF.out _).mono ?_
          rintro e w1 ⟨rfl, rfl⟩
          exact ⟨rfl, by rw [E.out]; rfl, below_drewN _ _⟩
        | some x =>
          obtain ⟨hx1, hx2⟩ := hxi_some ha
          rw [hx1] at HA
          cases hb : LX.hx b with
          | none =>
            have E := Lib.hid (esc_xb (a := a) (v := v) hb)
            rw [hxi_none hb] at HB
            have HF := Lib.hid (fun x => lmust_false 3 x)
            clear ha hb hx1
            go_enter Tryz.func172, Tryz.ntmps172
            go_wp2_with fail
            refine (HM.out _).mono ?_
            rintro e w1 ⟨rfl, hw1⟩
            replace hw1 := hw1.symm
            subst hw1
            go_wp2_with fail
            refine (HM.out _).mono ?_
            rintro e w1 ⟨rfl, hw1⟩
            replace hw1 := hw1.symm
            subst hw1
            go_wp2_with fail
            go_quiet (first | (with_reducible refine Calls.quiet_of_same (HA.out _)) | (with_reducible refine Calls.quiet_of_same (HB.out _)))
            go_wp2_with fail
            refine (HF.out _).mono ?_
            rintro e w1 ⟨rfl, rfl⟩
            exact ⟨rfl, by rw [E.out]; rfl, below_drewN _ _⟩
          | some y =>
            obtain ⟨hy1, hy2⟩ := hxi_some hb
            rw [hy1] at HB
            have E := Lib.hid (esc_xs (v := v) ha hb)
            clear ha hb hx1 hy1
            go_enter Tryz.func172, Tryz.ntmps172
            go_wp2_with fail
            refine (HM.out _).mono ?_
            rintro e w1 ⟨rfl, hw1⟩
            replace hw1 := hw1.symm
            subst hw1
            go_wp2_with fail
            refine (HM.out _).mono ?_
            rintro e w1 ⟨rfl, hw1⟩
            replace hw1 := hw1.symm
            subst hw1
            go_wp2_with fail
            go_quiet (first | (with_reducible refine Calls.quiet_of_same (HA.out _)) | (with_reducible refine Calls.quiet_of_same (HB.out _)))
            go_wp2_with fail
            refine (HM.out _).mono ?_
            rintro e w1 ⟨rfl, hw1⟩
            replace hw1 := hw1.symm
            subst hw1
            go_wp2
            go_ret2
            refine ⟨?_, below_drewN _ _⟩
            rw [E.out]
            show Ending.returned (.tuple #[.int .u8 _, .int .i64 3]) = _
            rw [or_hex hx2 hy2]
            rfl
    · have E := Lib.hid (esc_no (u := u) h1 h2 h3 h4 h5)
      have q92 := zne HZ.out 92 (by decide) h1
      have q34 := zne HZ.out 34 (by decide) h2
      have q110 := zne HZ.out 110 (by decide) h3
      have q116 := zne HZ.out 116 (by decide) h4
      have q120 := zne HZ.out 120 (by decide) h5
      clear h1 h2 h3 h4 h5
      go_enter Tryz.func172, Tryz.ntmps172
      go_wp2_with (go_at_call 122; refine (HM.out _).mono ?_; rintro e w1 ⟨rfl, hw1⟩; replace hw1 := hw1.symm; subst hw1)
      exact ⟨rfl, by rw [E.out]; rfl, Below.refl _ _⟩
def okPlain (l : List UInt8) : Bool := match l with | [] => false | c :: t => !(LX.odd c || LX.dash (c :: t) || decide (0 < LX.key (c :: t)))
def PlE (l : List UInt8) : Ending := if okPlain l then .returned (.string ⟨l.toArray⟩) else .panicked (gave 4)
theorem ple_no {l : List UInt8} (h : okPlain l = false) : PlE l = .panicked (gave 4) := by unfold PlE; rw [h]; rfl
theorem ple_yes {l : List UInt8} (h : okPlain l = true) : PlE l = .returned (.string ⟨l.toArray⟩) := by unfold PlE; rw [h]; rfl
set_option maxHeartbeats 4000000 in
theorem plain_any (c : UInt8) (t : List UInt8) (w : World) (hl : (c :: t).length ≤ 100000) :
    Calls Tryz.prog 158 #[.string ⟨(c :: t).toArray⟩] w fun e w' => e = PlE (c :: t) ∧ w' = w := by
  have hsz := str_size (c :: t)
  obtain ⟨z, hz⟩ : ∃ z : Int, (c.toNat : Int) = z := ⟨_, rfl⟩
  have hp : 0 < (⟨(c :: t).toArray⟩ : ByteArray).size := by rw [hsz]; simp
  have hi := first_z (u := t) hz hp
  have hub := c.toNat_lt
  have hz0 : 0 ≤ z := by omega
  have hz1 : z < 256 := by omega
  have HI := Lib.hid (bbyte_any c z hz w)
  have HT := Lib.hid (lmust_true 4 w)
  have HF := Lib.hid (lmust_false 4 w)
  have HD := Lib.hid (ldash_any (c :: t) w)
  have HK := Lib.hid (keySize_any (c :: t) w hl)
  have ho := oddi_any c
  obtain ⟨o, hoo⟩ : ∃ o, oddi c = o := ⟨_, rfl⟩
  rw [hoo] at HI ho
  have ok : okPlain (c :: t) = !(LX.odd c || LX.dash (c :: t) || decide (0 < LX.key (c :: t))) := rfl
  obtain ⟨n, hn⟩ : ∃ n, (c :: t).length = n := ⟨_, rfl⟩
  rw [hn] at hsz hl
  clear hz hub hn hoo
  generalize LX.dash (c :: t) = db at *
  generalize LX.key (c :: t) = kn at *
  cases hodd : LX.odd c with
  | true =>
    have E := Lib.hid (show okPlain (c :: t) = false by rw [ok, hodd]; rfl)
    have h0 : decide (o < 0) = false := decide_eq_false fun h => by rw [ho.1 h] at hodd; cases hodd
    clear ok ho hodd
    go_enter Tryz.func158, Tryz.ntmps158
    go_wp2_with fail
    refine HI.out.mono ?_
    rintro e w1 ⟨rfl, hw1⟩
    replace hw1 := hw1.symm
    subst hw1
    go_wp2_with fail
    refine HF.out.mono ?_
    rintro e w1 ⟨rfl, rfl⟩
    exact ⟨rfl, (ple_no E.out).symm, rfl⟩
  | false =>
    have h0 : o < 0 := ho.2 hodd
    rw [hodd] at ok
    clear ho hodd
    cases db with
    | true =>
      have E := Lib.hid (show okPlain (c :: t) = false by rw [ok]; rfl)
      clear ok
      go_enter Tryz.func158, Tryz.ntmps158
      go_wp2_with fail
      refine HI.out.mono ?_
      rintro e w1 ⟨rfl, hw1⟩
      replace hw1 := hw1.symm
      subst hw1
      go_wp2_with fail
      refine HT.out.mono ?_
      rintro e w1 ⟨rfl, hw1⟩
      replace hw1 := hw1.symm
      subst hw1
      go_wp2_with (go_at_call 124; refine HD.out.mono ?_; rintro e w1 ⟨rfl, hw1⟩; replace hw1 := hw1.symm; subst hw1)
      refine HF.out.mono ?_
      rintro e w1 ⟨rfl, rfl⟩
      exact ⟨rfl, (ple_no E.out).symm, rfl⟩
    | false =>
      by_cases hk : kn = 0
      · have E := Lib.hid (show okPlain (c :: t) = true by rw [ok, hk]; rfl)
        subst hk
        clear ok
        go_enter Tryz.func158, Tryz.ntmps158
        go_wp2_with fail
        refine HI.out.mono ?_
        rintro e w1 ⟨rfl, hw1⟩
        replace hw1 := hw1.symm
        subst hw1
        go_wp2_with fail
        refine HT.out.mono ?_
        rintro e w1 ⟨rfl, hw1⟩
        replace hw1 := hw1.symm
        subst hw1
        go_wp2_with (first
          | (go_at_call 124; refine HD.out.mono ?_; rintro e w1 ⟨rfl, hw1⟩; replace hw1 := hw1.symm; subst hw1)
          | (go_at_call 126; refine HK.out.mono ?_; rintro e w1 ⟨rfl, hw1⟩; replace hw1 := hw1.symm; subst hw1)
          | (go_at_call 122; refine HT.out.mono ?_; rintro e w1 ⟨rfl, hw1⟩; replace hw1 := hw1.symm; subst hw1))
        go_ret
        exact ⟨(ple_yes E.out).symm, rfl⟩
      · have E := Lib.hid (show okPlain (c :: t) = false by rw [ok, decide_eq_true (by omega)]; rfl)
        have hk1 : ((kn : Int) == 0) = false := beq_eq_false_iff_ne.2 (by omega)
        have hk2 : ¬ (kn : Int) = 0 := by omega
        clear ok
        go_enter Tryz.func158, Tryz.ntmps158
        go_wp2_with fail
        refine HI.out.mono ?_
        rintro e w1 ⟨rfl, hw1⟩
        replace hw1 := hw1.symm
        subst hw1
        go_wp2_with fail
        refine HT.out.mono ?_
        rintro e w1 ⟨rfl, hw1⟩
        replace hw1 := hw1.symm
        subst hw1
        go_wp2_with (first
          | (go_at_call 124; refine HD.out.mono ?_; rintro e w1 ⟨rfl, hw1⟩; replace hw1 := hw1.symm; subst hw1)
          | (go_at_call 126; refine HK.out.mono ?_; rintro e w1 ⟨rfl, hw1⟩; replace hw1 := hw1.symm; subst hw1))
        refine HF.out.mono ?_
        rintro e w1 ⟨rfl, rfl⟩
        exact ⟨rfl, (ple_no E.out).symm, rfl⟩
end Go.Proofs.YtgfhabofhefaaaaGreatDoor
