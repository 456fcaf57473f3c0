/- Slices of statuses: what one reads as, what a call's own one holds. A reply as it lies. -/
import Derived.Test.YtokmpfkmkhnopaaAkD
import Derived.Test.YtokmpfkmkhnopaaTlMath
namespace Go.Proofs.Ytokmpfkmkhnopaa
open Go.RowKit

/-- The cells of a status, of statuses. -/
def sv1 (s : TL.S) : List Value := [.int .i64 s.1, .int .i64 s.2.1, .int .i64 s.2.2.1, .int .i64 s.2.2.2.1, .int .i64 s.2.2.2.2]
def sv (ss : List TL.S) : List Value := ss.flatMap sv1
theorem sv_app (a b : List TL.S) : sv (a ++ b) = sv a ++ sv b := by simp [sv]
theorem sv_at : ∀ {ss : List TL.S} {j : Nat} {s : TL.S}, ss[j]? = some s → (sv ss)[j * 5]? = some (.int .i64 s.1) ∧ (sv ss)[j * 5 + 1]? = some (.int .i64 s.2.1) ∧ (sv ss)[j * 5 + 2]? = some (.int .i64 s.2.2.1) ∧ (sv ss)[j * 5 + 3]? = some (.int .i64 s.2.2.2.1) ∧ (sv ss)[j * 5 + 4]? = some (.int .i64 s.2.2.2.2)
  | [], _, _, h => by simp at h
  | x :: ss, 0, s, h => by
    have : x = s := by simpa using h
    subst this
    exact ⟨rfl, rfl, rfl, rfl, rfl⟩
  | x :: ss, j + 1, s, h => by
    have h' : ss[j]? = some s := by simpa using h
    have hh := sv_at h'
    have e1 : ∀ i, (sv (x :: ss))[(j + 1) * 5 + i]? = (sv ss)[j * 5 + i]? := by
      intro i
      have e0 : sv (x :: ss) = sv1 x ++ sv ss := rfl
      rw [e0, List.getElem?_append_right (by simp [sv1]; omega)]
      congr 1
      simp [sv1]; omega
    have e2 := e1 0
    simp only [Nat.add_zero] at e2
    rw [e2, e1, e1, e1, e1]
    exact hh
theorem sv_one {ss : List TL.S} : ∀ u ∈ sv ss, u.oneCell' = true := by
  intro u hu
  obtain ⟨s, _, h⟩ := List.mem_flatMap.1 hu
  simp [sv1] at h
  rcases h with rfl | rfl | rfl | rfl | rfl <;> rfl
/-- A status lies at b, from cell o on. -/
structure At5 (w : World) (b o : Nat) (s : TL.S) : Prop where
  c0 : w.cell? ⟨b, o, none⟩ = some (.int .i64 s.1)
  c1 : w.cell? ⟨b, o + 1, none⟩ = some (.int .i64 s.2.1)
  c2 : w.cell? ⟨b, o + 2, none⟩ = some (.int .i64 s.2.2.1)
  c3 : w.cell? ⟨b, o + 3, none⟩ = some (.int .i64 s.2.2.2.1)
  c4 : w.cell? ⟨b, o + 4, none⟩ = some (.int .i64 s.2.2.2.2)
theorem At5.below {w w' : World} {b o : Nat} {s : TL.S} (h : At5 w b o s) (hb : Below w.heap.size w w') : At5 w' b o s :=
  ⟨(hb.cell (cell_lt h.c0)).trans h.c0, (hb.cell (cell_lt h.c1)).trans h.c1, (hb.cell (cell_lt h.c2)).trans h.c2, (hb.cell (cell_lt h.c3)).trans h.c3, (hb.cell (cell_lt h.c4)).trans h.c4⟩

/-- The slice value v reads, in w, as the statuses ss. -/
def Rds (w : World) (v : Value) (ss : List TL.S) : Prop :=
  ∃ ao cap, v = .slice ao ss.length cap ∧ ss.length ≤ cap ∧ cap ≤ maxLen ∧ (ao = none → cap = 0) ∧ ∀ j s, ss[j]? = some s → ∃ b off, ao = some ⟨b, off, none⟩ ∧ At5 w b (off + j * 5) s
theorem Rds.below {w w' : World} {v : Value} {ss : List TL.S} (h : Rds w v ss) (hb : Below w.heap.size w w') : Rds w' v ss := by
  obtain ⟨ao, cap, hv, h1, h2, h3, h4⟩ := h
  refine ⟨ao, cap, hv, h1, h2, h3, fun j s hs => ?_⟩
  obtain ⟨b, off, hx, c⟩ := h4 j s hs
  exact ⟨b, off, hx, c.below hb⟩
theorem Rds.nil (w : World) : Rds w (.slice none 0 0) [] := ⟨none, 0, rfl, by simp, by simp [maxLen], fun _ => rfl, by simp⟩
theorem Rds.len_le {w : World} {v : Value} {ss : List TL.S} (h : Rds w v ss) : ss.length ≤ maxLen := by
  obtain ⟨ao, cap, hv, h1, h2, _⟩ := h
  omega

/-- The slice value v is a row of the call's own, whose elements are the statuses ss. -/
def Owns (w : World) (base : Nat) (t : TypeId) (v : Value) (ss : List TL.S) : Prop := w.ownsRow base t 5 v ss.length (sv ss)
theorem Owns.nil (w : World) (base : Nat) (t : TypeId) : Owns w base t (.slice none 0 0) [] := World.ownsRow_nil w base t 5
theorem Owns.below {w w' : World} {base : Nat} {t : TypeId} {v : Value} {ss : List TL.S} (h : Owns w base t v ss) (hb : Below w.heap.size w w') : Owns w' base t v ss := by
  refine ⟨h.1, ?_⟩
  rcases h.2 with hn | ⟨g, cap, cur, hv, hbg, hg, rest⟩
  · exact .inl hn
  · exact .inr ⟨g, cap, cur, hv, hbg, (hb.block g (Array.getElem?_eq_some_iff.1 hg).1).trans hg, rest⟩
theorem Owns.rd {w : World} {base : Nat} {t : TypeId} {v : Value} {ss : List TL.S} (h : Owns w base t v ss) : Rds w v ss := by
  rcases h.2 with ⟨hv, hn⟩ | ⟨g, cap, cur, hv, hb, hg, hnc, hcm, hcs, ht⟩
  · obtain rfl : ss = [] := List.length_eq_zero_iff.1 hn
    rw [hv]; exact Rds.nil w
  · refine ⟨some ⟨g, 0, none⟩, cap, hv, hnc, hcm, (by intro h; cases h), fun j s hs => ⟨g, 0, rfl, ?_⟩⟩
    obtain ⟨k0, k1, k2, k3, k4⟩ := sv_at hs
    have q0 := World.ownsRow.cells h (by rw [hv]; rfl) _ _ k0
    have q1 := World.ownsRow.cells h (by rw [hv]; rfl) _ _ k1
    have q2 := World.ownsRow.cells h (by rw [hv]; rfl) _ _ k2
    have q3 := World.ownsRow.cells h (by rw [hv]; rfl) _ _ k3
    have q4 := World.ownsRow.cells h (by rw [hv]; rfl) _ _ k4
    rw [Addr.add_lit] at q0 q1 q2 q3 q4
    simp only [Nat.zero_add] at q0 q1 q2 q3 q4 ⊢
    exact ⟨q0, q1, q2, q3, q4⟩
theorem Owns.slice {w : World} {base : Nat} {t : TypeId} {v : Value} {ss : List TL.S} (h : Owns w base t v ss) : ∃ ao cap, v = .slice ao ss.length cap := by
  rcases h.2 with ⟨hv, hn⟩ | ⟨g, cap, cur, hv, _⟩
  · exact ⟨none, 0, by rw [hv, hn]⟩
  · exact ⟨_, cap, hv⟩
theorem Owns.ownBlock {w : World} {base : Nat} {t : TypeId} {v : Value} {ss : List TL.S} (h : Owns w base t v ss) {g : Nat} (hg : v.ownBlock = some g) : (∃ cur, w.heap[g]? = some (.cells cur t (0, 0))) ∧ base ≤ g ∧ g < w.heap.size := by
  rcases h.2 with ⟨hv, _⟩ | ⟨g', cap, cur, hv, hb, hc, _⟩
  · rw [hv] at hg; cases hg
  · rw [hv] at hg
    obtain rfl : g' = g := Option.some.inj hg
    exact ⟨⟨cur, hc⟩, hb, (Array.getElem?_eq_some_iff.1 hc).1⟩
theorem Owns.kb {w w' : World} {base : Nat} {t : TypeId} {v : Value} {ss : List TL.S} {p q : Option Nat} (h : Owns w base t v ss) (hk : Kb w w' p q) (h1 : v.ownBlock = none ∨ v.ownBlock ≠ p) (h2 : v.ownBlock = none ∨ v.ownBlock ≠ q) : Owns w' base t v ss := by
  refine ⟨h.1, ?_⟩
  rcases h.2 with hn | ⟨g, cap, cur, rfl, hb, hgg, rest⟩
  · exact .inl hn
  · refine .inr ⟨g, cap, cur, rfl, hb, ?_, rest⟩
    rw [hk.block g (Array.getElem?_eq_some_iff.1 hgg).1 (by simpa [Value.ownBlock] using h1) (by simpa [Value.ownBlock] using h2)]
    exact hgg
theorem Owns.off {w : World} {base : Nat} {t T : TypeId} {v : Value} {ss : List TL.S} {p : Nat} {cs : Array Value} (h : Owns w base t v ss) (hs : Str w p T cs) (hne : t ≠ T) : v.ownBlock = none ∨ v.ownBlock ≠ some p := by
  cases hg : v.ownBlock with
  | none => exact .inl rfl
  | some g =>
    right
    intro e
    obtain rfl := Option.some.inj e
    obtain ⟨⟨cur, hc⟩, _⟩ := h.ownBlock hg
    have h' : w.heap[g]? = some (.cells cs T (0, 0)) := hs
    rw [h'] at hc
    simp at hc
    exact hne hc.2.symm
theorem Owns.base {w : World} {b b' : Nat} {t : TypeId} {v : Value} {ss : List TL.S} (h : Owns w b t v ss) (hb : b' ≤ b) : Owns w b' t v ss := by
  refine ⟨h.1, ?_⟩
  rcases h.2 with hn | ⟨g, cap, cur, hv, hbg, rest⟩
  · exact .inl hn
  · exact .inr ⟨g, cap, cur, hv, Nat.le_trans hb hbg, rest⟩
theorem none_or {v : Value} : v.ownBlock = none ∨ v.ownBlock ≠ none := by cases hh : v.ownBlock <;> simp

/-- Both slices of a reply, the call's own. -/
structure Ownt (w : World) (base : Nat) (vs vh : Value) (ss : List TL.S) (hs : List D.E) : Prop where
  s : Owns w base 41 vs ss
  h : Owne w base 39 vh hs
/-- Both slices of a reply, as they read. -/
structure Rdt (w : World) (vs vh : Value) (ss : List TL.S) (hs : List D.E) : Prop where
  s : Rds w vs ss
  h : Rde w vh hs
theorem Rdt.below {w w' : World} {vs vh : Value} {ss : List TL.S} {hs : List D.E} (h : Rdt w vs vh ss hs) (hb : Below w.heap.size w w') : Rdt w' vs vh ss hs := ⟨h.s.below hb, h.h.below hb⟩
theorem Rdt.nil (w : World) : Rdt w (.slice none 0 0) (.slice none 0 0) [] [] := ⟨Rds.nil w, Rde.nil w⟩
theorem Ownt.rd {w : World} {base : Nat} {vs vh : Value} {ss : List TL.S} {hs : List D.E} (h : Ownt w base vs vh ss hs) : Rdt w vs vh ss hs := ⟨h.s.rd, h.h.rd⟩
theorem Ownt.nil (w : World) (base : Nat) : Ownt w base (.slice none 0 0) (.slice none 0 0) [] [] := ⟨Owns.nil _ _ _, Owne.nil _ _ _⟩
theorem Ownt.below {w w' : World} {base : Nat} {vs vh : Value} {ss : List TL.S} {hs : List D.E} (h : Ownt w base vs vh ss hs) (hb : Below w.heap.size w w') : Ownt w' base vs vh ss hs := ⟨h.s.below hb, h.h.below hb⟩
theorem Ownt.base {w : World} {b b' : Nat} {vs vh : Value} {ss : List TL.S} {hs : List D.E} (h : Ownt w b vs vh ss hs) (hb : b' ≤ b) : Ownt w b' vs vh ss hs := ⟨h.s.base hb, h.h.base hb⟩
theorem Ownt.kb {w w' : World} {base : Nat} {vs vh : Value} {ss : List TL.S} {hs : List D.E} {p : Nat} {T : TypeId} {cs : Array Value} (h : Ownt w base vs vh ss hs) (hs' : Str w p T cs) (h1 : 41 ≠ T) (h2 : 39 ≠ T) (hk : Kb w w' (some p) none) : Ownt w' base vs vh ss hs :=
  ⟨h.s.kb hk (h.s.off hs' h1) none_or, h.h.kb hk (h.h.off hs' h2) none_or⟩
/-- The row of statuses has grown. -/
theorem Ownt.grownS {w w' : World} {base : Nat} {vs vs' vh : Value} {ss ss' : List TL.S} {hs : List D.E} (h : Ownt w base vs vh ss hs) (hg : w.grownBy w' vs.ownBlock) (ho : Owns w' base 41 vs' ss') : Ownt w' base vs' vh ss' hs := by
  refine ⟨ho, h.h.kb (Kb.of_grown hg none) none_or ?_⟩
  cases hh : vh.ownBlock with
  | none => exact .inl rfl
  | some g =>
    right
    intro e
    obtain ⟨⟨cur, hc⟩, _⟩ := h.h.ownBlock hh
    obtain ⟨⟨cur', hc'⟩, _⟩ := h.s.ownBlock e.symm
    rw [hc] at hc'
    simp at hc'
/-- The row of heads has grown. -/
theorem Ownt.grownH {w w' : World} {base : Nat} {vs vh vh' : Value} {ss : List TL.S} {hs hs' : List D.E} (h : Ownt w base vs vh ss hs) (hg : w.grownBy w' vh.ownBlock) (ho : Owne w' base 39 vh' hs') : Ownt w' base vs vh' ss hs' := by
  refine ⟨h.s.kb (Kb.of_grown hg none) none_or ?_, ho⟩
  cases hh : vs.ownBlock with
  | none => exact .inl rfl
  | some g =>
    right
    intro e
    obtain ⟨⟨cur, hc⟩, _⟩ := h.s.ownBlock hh
    obtain ⟨⟨cur', hc'⟩, _⟩ := h.h.ownBlock e.symm
    rw [hc] at hc'
    simp at hc'

/-- A struct of five cells is laid in a block. -/
def five (w : World) (p : Nat) (x y z u v : Value) : World := ((((w.setCell ⟨p, 0, none⟩ x).setCell ⟨p, 1, none⟩ y).setCell ⟨p, 2, none⟩ z).setCell ⟨p, 3, none⟩ u).setCell ⟨p, 4, none⟩ v
theorem Str.five {w : World} {p : Nat} {T : TypeId} {a b c d e : Value} (h : Str w p T #[a, b, c, d, e]) (x y z u v : Value) : Str (five w p x y z u v) p T #[x, y, z, u, v] := by
  have := ((((h.set 0 x).set 1 y).set 2 z).set 3 u).set 4 v
  unfold Go.Proofs.Ytokmpfkmkhnopaa.five
  simpa using this
theorem Kb.five (w : World) (p : Nat) (x y z u v : Value) (q : Option Nat) : Kb w (five w p x y z u v) (some p) q := ((((Kb.set w p 0 x q).trans (Kb.set _ p 1 y q)).trans (Kb.set _ p 2 z q)).trans (Kb.set _ p 3 u q)).trans (Kb.set _ p 4 v q)
theorem Str.cells5 {x : World} {p : Nat} {T : TypeId} {a b c d e : Value} (h : Str x p T #[a, b, c, d, e]) : x.cell? ⟨p, 0, none⟩ = some a ∧ x.cell? ⟨p, 1, none⟩ = some b ∧ x.cell? ⟨p, 2, none⟩ = some c ∧ x.cell? ⟨p, 3, none⟩ = some d ∧ x.cell? ⟨p, 4, none⟩ = some e :=
  ⟨h.cell 0, h.cell 1, h.cell 2, h.cell 3, h.cell 4⟩
theorem Str.frozen5 {x : World} {p : Nat} {T : TypeId} {cs : Array Value} (h : Str x p T cs) : x.frozen? ⟨p, 0, none⟩ = false ∧ x.frozen? ⟨p, 1, none⟩ = false ∧ x.frozen? ⟨p, 2, none⟩ = false ∧ x.frozen? ⟨p, 3, none⟩ = false ∧ x.frozen? ⟨p, 4, none⟩ = false :=
  ⟨h.frozen 0, h.frozen 1, h.frozen 2, h.frozen 3, h.frozen 4⟩
theorem Str.at5 {x : World} {p : Nat} {T : TypeId} {s : TL.S} (h : Str x p T #[.int .i64 s.1, .int .i64 s.2.1, .int .i64 s.2.2.1, .int .i64 s.2.2.2.1, .int .i64 s.2.2.2.2]) : At5 x p 0 s := ⟨h.cell 0, h.cell 1, h.cell 2, h.cell 3, h.cell 4⟩

theorem Try.info_status : (Try.prog.info? 41).map (fun i => (i.zero, i.size, i.bytes)) = some (some (.agg #[.int .i64 0, .int .i64 0, .int .i64 0, .int .i64 0, .int .i64 0]), 5, 40) := by kernel_rfl
theorem Try.info_head : (Try.prog.info? 39).map (fun i => (i.zero, i.size, i.bytes)) = some (some (.agg #[.string ⟨#[]⟩, .string ⟨#[]⟩]), 2, 32) := by kernel_rfl
theorem tell_size : (Try.prog.info? 25).map (·.size) = some 5 := by kernel_rfl
theorem status_size : (Try.prog.info? 41).map (·.size) = some 5 := by kernel_rfl

theorem status_news {w : World} {g0 : Nat} {s : TL.S} (hc : At5 w g0 0 s) : ∀ j u, (sv [s])[j]? = some u → w.cell? ((⟨g0, 0, none⟩ : Addr).add j) = some u := by
  intro j y hy
  rw [Addr.add_lit, Nat.zero_add]
  match j, hy with
  | 0, hy =>
    have : Value.int .i64 s.1 = y := by simpa [sv, sv1] using hy
    rw [← this]; exact hc.c0
  | 1, hy =>
    have : Value.int .i64 s.2.1 = y := by simpa [sv, sv1] using hy
    rw [← this]; exact hc.c1
  | 2, hy =>
    have : Value.int .i64 s.2.2.1 = y := by simpa [sv, sv1] using hy
    rw [← this]; exact hc.c2
  | 3, hy =>
    have : Value.int .i64 s.2.2.2.1 = y := by simpa [sv, sv1] using hy
    rw [← this]; exact hc.c3
  | 4, hy =>
    have : Value.int .i64 s.2.2.2.2 = y := by simpa [sv, sv1] using hy
    rw [← this]; exact hc.c4
  | j + 5, hy => simp [sv, sv1] at hy
/-- 'append(l, s)' of statuses, l the call's own, at a step of a region that draws. -/
theorem step_append_status {P : Program} {w : World} {ops : Array Oper} {o : Oper} {a : Act} {K : Act → World → Prop} {Q : Exit → Act → World → Prop} {E : Prop} (hgd : o.guard = none) (s x : Operand) (t : TypeId)
    (ho : o.op = .call { callee := .builtin .append, args := #[s, x], argTypes := #[t, t] })
    (base : Nat) (e : TypeId) (z : Value) (ht : P.underlying t = some (.slice e)) (hinfo : (P.info? e).map (fun i => (i.zero, i.size, i.bytes)) = some (some z, 5, 40)) (hz : z.cells.size = 5)
    {v : Value} {ss : List TL.S} {st : TL.S} {g0 c : Nat} (hs : a.eval s = v) (hown : Owns w base e v ss) (hx : a.eval x = .slice (some ⟨g0, 0, none⟩) 1 c) (hc : At5 w g0 0 st)
    (hlen : ss.length ≤ 100) (hbase : base ≤ w.heap.size)
    (h : ∀ g cap w', Owns w' base e (.slice (some ⟨g, 0, none⟩) (ss.length + 1) cap) (ss ++ [st]) → w.grownBy w' v.ownBlock → K (a.put o.dst (.slice (some ⟨g, 0, none⟩) (ss.length + 1) cap)) w') :
    if Region.wanted o (yielded ops a.tmps) = true then Oper.wp P o a w K Q else E := by
  obtain ⟨i, hi, hz0, hz1, hz2⟩ := info_parts hinfo
  refine step_append_lies _ hgd s x t ho base e i z 5 40 ht hi hz0 hz1 hz2 hz (by decide) v ss.length (sv ss) hs hown ⟨g0, 0, none⟩ 1 c (sv [st]) hx rfl (status_news hc) sv_one (by decide) (by unfold maxLen; omega) (by omega) hbase _ rfl ?_
  intro g cap' w' ho' hg _ _
  refine h g cap' w' ?_ hg
  show w'.ownsRow base e 5 _ (ss ++ [st]).length (sv (ss ++ [st]))
  rw [sv_app, List.length_append]; exact ho'
/-- The same, for a walk. -/
theorem wpList_append_status {P : Program} {w : World} {ops : Array Oper} {rest : List Oper} {o : Oper} {a : Act} {Q : Exit → Act → World → Prop} (hgd : o.guard = none) (s x : Operand) (t : TypeId)
    (ho : o.op = .call { callee := .builtin .append, args := #[s, x], argTypes := #[t, t] })
    (base : Nat) (e : TypeId) (z : Value) (ht : P.underlying t = some (.slice e)) (hinfo : (P.info? e).map (fun i => (i.zero, i.size, i.bytes)) = some (some z, 5, 40)) (hz : z.cells.size = 5)
    {v : Value} {ss : List TL.S} {st : TL.S} {g0 c : Nat} (hs : a.eval s = v) (hown : Owns w base e v ss) (hx : a.eval x = .slice (some ⟨g0, 0, none⟩) 1 c) (hc : At5 w g0 0 st)
    (hlen : ss.length ≤ 100) (hbase : base ≤ w.heap.size)
    (h : ∀ g cap w', Owns w' base e (.slice (some ⟨g, 0, none⟩) (ss.length + 1) cap) (ss ++ [st]) → w.grownBy w' v.ownBlock → wpList P ops Q rest (a.put o.dst (.slice (some ⟨g, 0, none⟩) (ss.length + 1) cap)) w') : wpList P ops Q (o :: rest) a w := by
  obtain ⟨i, hi, hz0, hz1, hz2⟩ := info_parts hinfo
  refine wpList_append_lies _ hgd s x t ho base e i z 5 40 ht hi hz0 hz1 hz2 hz (by decide) v ss.length (sv ss) hs hown ⟨g0, 0, none⟩ 1 c (sv [st]) hx rfl (status_news hc) sv_one (by decide) (by unfold maxLen; omega) (by omega) hbase _ rfl ?_
  intro g cap' w' ho' hg _ _
  refine h g cap' w' ?_ hg
  show w'.ownsRow base e 5 _ (ss ++ [st]).length (sv (ss ++ [st]))
  rw [sv_app, List.length_append]; exact ho'
end Go.Proofs.Ytokmpfkmkhnopaa
