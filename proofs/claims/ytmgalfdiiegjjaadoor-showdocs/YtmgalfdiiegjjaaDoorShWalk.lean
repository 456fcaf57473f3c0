/- Which nodes are a tree's: the walk over a document's nodes. No program is named here. -/
import Derived.Test.YtmgalfdiiegjjaaDoorSeg17
namespace Go.Proofs.YtmgalfdiiegjjaaDoor
namespace SH
open LX (B Pc Lz)
open DC (Nd bl)

/-- A node as it is handed in: its kids' numbers are whatever numbers. -/
structure Ni where
  kind : Int
  line : Int
  text : B
  quoted : Bool
  keys : List B
  kids : List Int
  deriving DecidableEq
def up (x : Nd) : Ni := ⟨x.kind, x.line, x.text, x.quoted, x.keys, x.kids.map fun n : Nat => (n : Int)⟩
def zi (x : Ni) : Ni := { x with line := 0 }
theorem zi_up (x : Nd) : zi (up x) = up (z x) := rfl
/-- May a text stand unquoted? -/
def plainb (s : B) : Bool := decide (s ≠ [] ∧ s.length ≤ 200) && !LN.bad s && decide (LN.strip s = some s) && (decide ((LX.row (0, 0, s)).1 = 0) && decide ((LX.row (0, 0, s)).2 = [(3, 0, 0, s, false)]))
/-- May a text be a key? -/
def keyb (k : B) : Bool := decide (k ≠ [] ∧ k.length ≤ 64) && k.all LX.sgn
/-- May a node be, but for its kids' numbers? -/
def fits (x : Ni) : Bool :=
  if x.kind = 1 then decide (x.keys = [] ∧ x.kids = [] ∧ x.text.length ≤ 200) && (x.quoted || plainb x.text)
  else if x.kind = 2 then decide (x.keys = [] ∧ x.kids ≠ [] ∧ x.text = [] ∧ x.quoted = false)
  else if x.kind = 3 then decide (x.keys.length = x.kids.length ∧ x.kids ≠ [] ∧ x.text = [] ∧ x.quoted = false ∧ x.keys.Nodup) && x.keys.all keyb
  else false
/-- The number behind all under a node; none: it may not be. -/
def wk (ns : List Ni) : Nat → Nat → Nat → Option Nat
  | 0, _, _ => none
  | f + 1, n, d => match ns[n]? with
    | none => none
    | some x => if d ≤ 24 ∧ fits x = true then x.kids.foldlM (fun (m : Nat) (k : Int) => if k = (m : Int) then wk ns f m (d + 1) else none) (n + 1) else none
/-- Those nodes stand from n on, but for their lines. -/
def At (ns : List Ni) (n : Nat) (l : List Nd) : Prop := ∀ i x, l[i]? = some x → (ns[n + i]?).map zi = some (up x)
theorem At.app {ns : List Ni} {n : Nat} {a b : List Nd} (h : At ns n a) (k : At ns (n + a.length) b) : At ns n (a ++ b) := by
  intro i x hx
  by_cases hi : i < a.length
  · rw [List.getElem?_append_left hi] at hx
    exact h i x hx
  · rw [List.getElem?_append_right (by omega)] at hx
    have := k _ _ hx
    rwa [show n + a.length + (i - a.length) = n + i by omega] at this
theorem At.left {ns : List Ni} {n : Nat} {a b : List Nd} (h : At ns n (a ++ b)) : At ns n a := fun i x hx => h i x (by
  rw [List.getElem?_append_left (List.getElem?_eq_some_iff.1 hx).1]; exact hx)
theorem At.right {ns : List Ni} {n : Nat} {a b : List Nd} (h : At ns n (a ++ b)) : At ns (n + a.length) b := fun i x hx => by
  have := h (a.length + i) x (by rw [List.getElem?_append_right (by omega), Nat.add_sub_cancel_left]; exact hx)
  rwa [← Nat.add_assoc] at this
theorem At.head {ns : List Ni} {n : Nat} {x : Nd} {l : List Nd} (h : At ns n (x :: l)) : ∃ y, ns[n]? = some y ∧ zi y = up x := by
  have := h 0 x rfl
  rw [Nat.add_zero] at this
  exact Option.map_eq_some_iff.1 this
theorem At.tail {ns : List Ni} {n : Nat} {x : Nd} {l : List Nd} (h : At ns n (x :: l)) : At ns (n + 1) l := fun i y hy => by
  have := h (i + 1) y (by simpa using hy)
  rwa [show n + (i + 1) = n + 1 + i by omega] at this
theorem At.cons {ns : List Ni} {n : Nat} {y : Ni} {x : Nd} {l : List Nd} (hy : ns[n]? = some y) (he : zi y = up x) (h : At ns (n + 1) l) : At ns n (x :: l) := by
  intro i u hu
  cases i with
  | zero =>
    have : x = u := by simpa using hu
    rw [Nat.add_zero, hy, ← this, ← he]; rfl
  | succ i =>
    have := h i u (by simpa using hu)
    rwa [show n + 1 + i = n + (i + 1) by omega] at this

/-! ### What is written is read -/
theorem q1_all : ∀ n : Fin 256, LN.bad (LX.q1 (UInt8.ofNat n.val)) = false := by decide +kernel
theorem q1_bad (c : UInt8) : LN.bad (LX.q1 c) = false := by
  have h := q1_all ⟨c.toNat, c.toNat_lt⟩
  simpa using h
theorem hexd_not : ∀ n : Fin 16, LX.hexd n.val ≠ 92 ∧ LX.hexd n.val ≠ 34 := by decide +kernel
theorem two_pass {c y : UInt8} {r : B} (h1 : c ≠ 92) (h2 : c ≠ 34) : LN.go .two (c :: y :: r) = (LN.go .two (y :: r)).map (· + 1) := by
  rw [LN.go, if_neg h1, if_neg h2]
theorem two_esc {y : UInt8} {r : B} : LN.go .two (92 :: y :: r) = (LN.go .two r).map (· + 2) := by
  rw [LN.go, if_pos rfl]
theorem go_q1 (c : UInt8) {r : B} (hr : r ≠ []) : LN.go .two (LX.q1 c ++ r) = (LN.go .two r).map (· + (LX.q1 c).length) := by
  obtain ⟨y, s, rfl⟩ : ∃ y s, r = y :: s := by
    cases r with
    | nil => exact absurd rfl hr
    | cons y s => exact ⟨y, s, rfl⟩
  unfold LX.q1
  split
  · exact two_esc
  split
  · exact two_esc
  split
  · exact two_esc
  split
  · have n1 := hexd_not ⟨c.toNat / 16, by have := c.toNat_lt; omega⟩
    have n2 := hexd_not ⟨c.toNat % 16, by omega⟩
    simp only [List.cons_append, List.nil_append]
    rw [two_esc, two_pass n1.1 n1.2, two_pass n2.1 n2.2, LN.map_add, LN.map_add]
    rfl
  · rename_i h1 _ _ _
    simp only [List.cons_append, List.nil_append]
    exact two_pass (fun e => h1 (.inl e)) (fun e => h1 (.inr e))
theorem go_quo : ∀ s : B, LN.go .two (s.flatMap LX.q1 ++ [34]) = some ((s.flatMap LX.q1).length + 1)
  | [] => rfl
  | c :: s => by
    rw [List.flatMap_cons, List.append_assoc, go_q1 c (by simp), go_quo s, List.length_append]
    simp only [Option.map_some]
    congr 1
    omega
theorem bad_quo : ∀ s : B, LN.bad (s.flatMap LX.q1) = false
  | [] => rfl
  | c :: s => by rw [List.flatMap_cons, bad_app, q1_bad, bad_quo s]; rfl
theorem leaf_quo {s : B} (h : s.length ≤ 200) : Leaf (LX.quo s) s true := by
  refine ⟨⟨34, _, rfl, by decide⟩, ?_, ?_, ?_, ?_, ?_, ?_⟩
  · intro c hc
    have e : LX.quo s = (34 :: s.flatMap LX.q1) ++ [34] := rfl
    rw [e, last_app (by simp)] at hc
    have : c = 34 := by simpa using hc.symm
    rw [this]; decide
  · have e : LX.quo s = [34] ++ (s.flatMap LX.q1 ++ [34]) := rfl
    rw [e, bad_app, bad_app, bad_quo]; rfl
  · show LN.go _ (34 :: (s.flatMap LX.q1 ++ [34])) = some (34 :: (s.flatMap LX.q1 ++ [34])).length
    rw [LN.go, if_neg (by decide), if_neg (by decide), if_pos ⟨rfl, rfl⟩, go_quo]
    simp
  · show LX.txt (34 :: (s.flatMap LX.q1 ++ [34])) = _
    rw [LX.txt_dq (LX.dq_quo s), LX.lng, if_neg (by omega)]
  · show LX.dash (34 :: (s.flatMap LX.q1 ++ [34])) = false
    cases s.flatMap LX.q1 ++ [34] <;> rfl
  · show LX.key (34 :: (s.flatMap LX.q1 ++ [34])) = 0
    have : LX.run (34 :: (s.flatMap LX.q1 ++ [34])) = 0 := rfl
    unfold LX.key
    rw [this, List.drop_zero]
    cases s.flatMap LX.q1 ++ [34] <;> rfl
/-- Pieces that were told ahead stay at the front. -/
theorem fin_pre {no col : Int} {acc : List Pc} {l : B} (h : (LX.fin no col acc l).1 = 0) : ∃ L, (LX.fin no col acc l).2 = acc ++ L := by
  unfold LX.fin at h ⊢
  split
  · exact ⟨[], by simp⟩
  · rename_i h1
    rw [if_neg h1] at h
    split
    · exact ⟨_, rfl⟩
    · rename_i h2
      rw [if_neg h2] at h
      exact absurd h h2
theorem mid_pre {no col : Int} {acc : List Pc} {l : B} (h : (LX.mid no col acc l).1 = 0) : ∃ L, (LX.mid no col acc l).2 = acc ++ L := by
  unfold LX.mid at h ⊢
  split
  · rename_i h1
    rw [if_pos h1] at h
    exact fin_pre h
  · rename_i h1
    rw [if_neg h1] at h
    split
    · rename_i h2
      rw [if_pos h2] at h
      cases h
    · rename_i h2
      rw [if_neg h2] at h
      obtain ⟨L, hL⟩ := fin_pre h
      exact ⟨_ :: L, by rw [hL, List.append_assoc]; rfl⟩
theorem go_pre {no col : Int} : ∀ {n : Nat} {acc : List Pc} {l : B}, (LX.go no col n acc l).1 = 0 → ∃ L, (LX.go no col n acc l).2 = acc ++ L
  | 0, acc, l, h => mid_pre h
  | n + 1, acc, l, h => by
    rw [LX.go] at h ⊢
    split
    · rename_i h1
      rw [if_pos h1] at h
      obtain ⟨L, hL⟩ := go_pre h
      exact ⟨_ :: L, by rw [hL, List.append_assoc]; rfl⟩
    · rename_i h1
      rw [if_neg h1] at h
      exact mid_pre h
theorem txt_plain {l s : B} (h : LX.txt l = (0, s, false)) : s = l := by
  cases l with
  | nil => simp [LX.txt] at h
  | cons c t =>
    rw [LX.txt.eq_def] at h
    simp only at h
    split at h
    · split at h
      · simp at h
      · unfold LX.lng at h; split at h <;> simp at h
    split at h
    · split at h
      · simp at h
      · unfold LX.lng at h; split at h <;> simp at h
    split at h
    · simp at h
    · unfold LX.lng at h
      split at h
      · simp at h
      · simp only [Prod.mk.injEq] at h
        exact h.2.1.symm
theorem go_le : ∀ {q : LN.Q} {l : B} {e : Nat}, LN.go q l = some e → e ≤ l.length := by
  intro q l
  fun_induction LN.go q l <;> intro e h
  all_goals first
    | (cases h; done)
    | (obtain rfl := Option.some.inj h; simp; done)
    | (obtain ⟨e', h1, rfl⟩ := Option.map_eq_some_iff.1 h
       rename_i ih
       have := ih h1
       simp only [List.length_cons] at this ⊢
       omega)
theorem leaf_plain {s : B} (h : plainb s = true) : Leaf s s false := by
  unfold plainb at h
  simp only [Bool.and_eq_true, decide_eq_true_eq, Bool.not_eq_true'] at h
  obtain ⟨⟨⟨⟨h0, _⟩, hb⟩, hs⟩, hr1, hr2⟩ := h
  have hr : LX.row (0, 0, s) = (0, [(3, 0, 0, s, false)]) := Prod.ext hr1 hr2
  clear hr1 hr2
  have hr2 := hr
  unfold LX.row at hr2
  simp only at hr2
  rw [if_neg (by omega)] at hr2
  have hd : LX.dash (LX.tl s) = false := by
    cases hd : LX.dash (LX.tl s) with
    | false => rfl
    | true =>
      have hl := LX.dash_len hd
      obtain ⟨n, hn⟩ : ∃ n, (LX.tl s).length = n + 1 := ⟨(LX.tl s).length - 1, by omega⟩
      rw [hn, LX.go_dash hd] at hr2
      obtain ⟨L, hL⟩ := go_pre (by rw [hr2])
      rw [hr2] at hL
      simp at hL
  rw [LX.go_mid hd] at hr2
  have hk : LX.key (LX.tl s) = 0 := by
    by_cases hk : LX.key (LX.tl s) = 0
    · exact hk
    · unfold LX.mid at hr2
      rw [if_neg hk] at hr2
      split at hr2
      · simp at hr2
      · obtain ⟨L, hL⟩ := fin_pre (by rw [hr2])
        rw [hr2] at hL
        simp at hL
  unfold LX.mid at hr2
  rw [if_pos hk] at hr2
  unfold LX.fin at hr2
  have hne : LX.tl s ≠ [] := by
    intro e
    rw [if_pos e] at hr2
    simp at hr2
  rw [if_neg hne] at hr2
  have htx : LX.txt (LX.tl s) = (0, s, false) := by
    split at hr2
    · rename_i h1
      simp only [List.nil_append, Prod.mk.injEq, List.cons.injEq, true_and, and_true] at hr2
      exact Prod.ext h1 (Prod.ext hr2.2.1 hr2.2.2)
    · simp at hr2
  have ht : LX.tl s = s := (txt_plain htx).symm
  rw [ht] at hd hk htx hne
  obtain ⟨c, t, hc⟩ : ∃ c t, s = c :: t := by
    cases s with
    | nil => exact absurd rfl hne
    | cons c t => exact ⟨c, t, rfl⟩
  have hc32 : c ≠ 32 := by
    intro e
    rw [hc, e, ltl_bl] at ht
    have := LX.tl_len t
    rw [ht] at this
    simp at this
    omega
  have hst := hs
  unfold LN.strip at hst
  obtain ⟨e, he, het⟩ := Option.map_eq_some_iff.1 hst
  unfold LN.fin at he
  rw [List.drop_zero] at he
  obtain ⟨e', he', rfl⟩ := Option.map_eq_some_iff.1 he
  rw [Nat.add_zero] at het
  obtain ⟨k, hk1, hk2, hk3, hk4⟩ := LN.tr_take (s.take e')
  rw [hk2] at het
  have hlen := congrArg List.length het
  simp only [List.length_take] at hlen hk1
  have hke : k = s.length := by omega
  have hes : s.length ≤ e' := by omega
  have hgo : LN.go (.out true) s = some s.length := by
    have := LN.go_take (.out true) s e' s.length he' hes (fun j h1 h2 => by
      by_cases hj : j < s.length
      · omega
      · exact absurd h2 (by
          have := go_le he'
          omega))
    rwa [List.take_length] at this
  refine ⟨⟨c, t, hc, hc32⟩, ?_, hb, hgo, htx, hd, hk⟩
  intro d hd2 e32
  have hpos : 0 < s.length := by rw [hc]; simp
  have h5 := hk4 (by omega)
  rw [List.take_of_length_le hes, hke] at h5
  exact h5 (by rw [hd2, e32])
end SH
end Go.Proofs.YtmgalfdiiegjjaaDoor
