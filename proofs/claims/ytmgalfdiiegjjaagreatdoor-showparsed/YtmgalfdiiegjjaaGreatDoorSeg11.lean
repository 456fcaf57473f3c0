/- Several texts in one. -/
import Derived.Test.YtmgalfdiiegjjaaGreatDoorSeg10
import Derived.Test.YtmgalfdiiegjjaaGreatDoorSeg07
import Derived.Test.YtmgalfdiiegjjaaGreatDoorLxB
namespace Go.Proofs.YtmgalfdiiegjjaaGreatDoor
namespace SH
open LX (B Pc Lz)
open DC (Nd bl)

/-- A node as it is handed in: its kids' numbers are whatever numbers. -/
structure Ni where
  kind : Int
  line : Int
  text : B
  quoted : Bool
  keys : List B
  kids : List Int
  deriving DecidableEq
def up (x : Nd) : Ni := ⟨x.kind, x.line, x.text, x.quoted, x.keys, x.kids.map fun n : Nat => (n : Int)⟩
def zi (x : Ni) : Ni := { x with line := 0 }
theorem zi_up (x : Nd) : zi (up x) = up (z x) := rfl
/-- May a text stand unquoted? -/
def plainb (s : B) : Bool := decide (s ≠ [] ∧ s.length ≤ 200) && !LN.bad s && decide (LN.strip s = some s) && (decide ((LX.row (0, 0, s)).1 = 0) && decide ((LX.row (0, 0, s)).2 = [(3, 0, 0, s, false)]))
/-- May a text be a key? -/
def keyb (k : B) : Bool := decide (k ≠ [] ∧ k.length ≤ 64) && k.all LX.sgn
/-- May a node be, but for its kids' numbers? -/
def fits (x : Ni) : Bool :=
  if x.kind = 1 then decide (x.keys = [] ∧ x.kids = [] ∧ x.text.length ≤ 200) && (x.quoted || plainb x.text)
  else if x.kind = 2 then decide (x.keys = [] ∧ x.kids ≠ [] ∧ x.text = [] ∧ x.quoted = false)
  else if x.kind = 3 then decide (x.keys.length = x.kids.length ∧ x.kids ≠ [] ∧ x.text = [] ∧ x.quoted = false ∧ x.keys.Nodup) && x.keys.all keyb
  else false
/-- The number behind all under a node; none: it may not be. -/
def wk (ns : List Ni) : Nat → Nat → Nat → Option Nat
  | 0, _, _ => none
  | f + 1, n, d => match ns[n]? with
    | none => none
    | some x => if d ≤ 24 ∧ fits x = true then x.kids.foldlM (fun (m : Nat) (k : Int) => if k = (m : Int) then wk ns f m (d + 1) else none) (n + 1) else none
/-- Those nodes stand from n on, but for their lines. -/
def At (ns : List Ni) (n : Nat) (l : List Nd) : Prop := ∀ i x, l[i]? = some x → (ns[n + i]?).map zi = some (up x)
theorem At.app {ns : List Ni} {n : Nat} {a b : List Nd} (h : At ns n a) (k : At ns (n + a.length) b) : At ns n (a ++ b) := by
  intro i x hx
  by_cases hi : i < a.length
  · rw [List.getElem?_append_left hi] at hx
    exact h i x hx
  · rw [List.getElem?_append_right (by omega)] at hx
    have := k _ _ hx
    rwa [show n + a.length + (i - a.length) = n + i by omega] at this
theorem At.left {ns : List Ni} {n : Nat} {a b : List Nd} (h : At ns n (a ++ b)) : At ns n a := fun i x hx => h i x (by
  rw [List.getElem?_append_left (List.getElem?_eq_some_iff.1 hx).1]; exact hx)
theorem At.right {ns : List Ni} {n : Nat} {a b : List Nd} (h : At ns n (a ++ b)) : At ns (n + a.length) b := fun i x hx => by
  have := h (a.length + i) x (by rw [List.getElem?_append_right (by omega), Nat.add_sub_cancel_left]; exact hx)
  rwa [← Nat.add_assoc] at this
theorem At.head {ns : List Ni} {n : Nat} {x : Nd} {l : List Nd} (h : At ns n (x :: l)) : ∃ y, ns[n]? = some y ∧ zi y = up x := by
  have := h 0 x rfl
  rw [Nat.add_zero] at this
  exact Option.map_eq_some_iff.1 this
theorem At.tail {ns : List Ni} {n : Nat} {x : Nd} {l : List Nd} (h : At ns n (x :: l)) : At ns (n + 1) l := fun i y hy => by
  have := h (i + 1) y (by simpa using hy)
  rwa [show n + (i + 1) = n + 1 + i by omega] at this
theorem At.cons {ns : List Ni} {n : Nat} {y : Ni} {x : Nd} {l : List Nd} (hy : ns[n]? = some y) (he : zi y = up x) (h : At ns (n + 1) l) : At ns n (x :: l) := by
  intro i u hu
  cases i with
  | zero =>
    have : x = u := by simpa using hu
    rw [Nat.add_zero, hy, ← this, ← he]; rfl
  | succ i =>
    have := h i u (by simpa using hu)
    rwa [show n + 1 + i = n + (i + 1) by omega] at this

/-! ### What is written is read -/
theorem q1_all : ∀ n : Fin 256, LN.bad (LX.q1 (UInt8.ofNat n.val)) = false := by decide +kernel
theorem q1_bad (c : UInt8) : LN.bad (LX.q1 c) = false := by
  have h := q1_all ⟨c.toNat, c.toNat_lt⟩
  simpa using h
theorem hexd_not : ∀ n : Fin 16, LX.hexd n.val ≠ 92 ∧ LX.hexd n.val ≠ 34 := by decide +kernel
theorem two_pass {c y : UInt8} {r : B} (h1 : c ≠ 92) (h2 : c ≠ 34) : LN.go .two (c :: y :: r) = (LN.go .two (y :: r)).map (· + 1) := by
  rw [LN.go, if_neg h1, if_neg h2]
theorem two_esc {y : UInt8} {r : B} : LN.go .two (92 :: y :: r) = (LN.go .two r).map (· + 2) := by
  rw [LN.go, if_pos rfl]
theorem go_q1 (c : UInt8) {r : B} (hr : r ≠ []) : LN.go .two (LX.q1 c ++ r) = (LN.go .two r).map (· + (LX.q1 c).length) := by
  obtain ⟨y, s, rfl⟩ : ∃ y s, r = y :: s := by
    cases r with
    | nil => exact absurd rfl hr
    | cons y s => exact ⟨y, s, rfl⟩
  unfold LX.q1
  split
  · exact two_esc
  split
  · exact two_esc
  split
  · exact two_esc
  split
  · have n1 := hexd_not ⟨c.toNat / 16, by have := c.toNat_lt; omega⟩
    have n2 := hexd_not ⟨c.toNat % 16, by omega⟩
    simp only [List.cons_append, List.nil_append]
    rw [two_esc, two_pass n1.1 n1.2, two_pass n2.1 n2.2, LN.map_add, LN.map_add]
    rfl
  · rename_i h1 _ _ _
    simp only [List.cons_append, List.nil_append]
    exact two_pass (fun e => h1 (.inl e)) (fun e => h1 (.inr e))
theorem go_quo : ∀ s : B, LN.go .two (s.flatMap LX.q1 ++ [34]) = some ((s.flatMap LX.q1).length + 1)
  | [] => rfl
  | c :: s => by
    rw [List.flatMap_cons, List.append_assoc, go_q1 c (by simp), go_quo s, List.length_append]
    simp only [Option.map_some]
    congr 1
    omega
theorem bad_quo : ∀ s : B, LN.bad (s.flatMap LX.q1) = false
  | [] => rfl
  | c :: s => by rw [List.flatMap_cons, bad_app, q1_bad, bad_quo s]; rfl
theorem leaf_quo {s : B} (h : s.length ≤ 200) : Leaf (LX.quo s) s true := by
  refine ⟨⟨34, _, rfl, by decide⟩, ?_, ?_, ?_, ?_, ?_, ?_⟩
  · intro c hc
    have e : LX.quo s = (34 :: s.flatMap LX.q1) ++ [34] := rfl
    rw [e, last_app (by simp)] at hc
    have : c = 34 := by simpa using hc.symm
    rw [this]; decide
  · have e : LX.quo s = [34] ++ (s.flatMap LX.q1 ++ [34]) := rfl
    rw [e, bad_app, bad_app, bad_quo]; rfl
  · show LN.go _ (34 :: (s.flatMap LX.q1 ++ [34])) = some (34 :: (s.flatMap LX.q1 ++ [34])).length
    rw [LN.go, if_neg (by decide), if_neg (by decide), if_pos ⟨rfl, rfl⟩, go_quo]
    simp
  · show LX.txt (34 :: (s.flatMap LX.q1 ++ [34])) = _
    rw [LX.txt_dq (LX.dq_quo s), LX.lng, if_neg (by omega)]
  · show LX.dash (34 :: (s.flatMap LX.q1 ++ [34])) = false
    cases s.flatMap LX.q1 ++ [34] <;> rfl
  · show LX.key (34 :: (s.flatMap LX.q1 ++ [34])) = 0
    have : LX.run (34 :: (s.flatMap LX.q1 ++ [34])) = 0 := rfl
    unfold LX.key
    rw [this, List.drop_zero]
    cases s.flatMap LX.q1 ++ [34] <;> rfl
/-- Pieces that were told ahead stay at the front. -/
theorem fin_pre {no col : Int} {acc : List Pc} {l : B} (h : (LX.fin no col acc l).1 = 0) : ∃ L, (LX.fin no col acc l).2 = acc ++ L := by
  unfold LX.fin at h ⊢
  split
  · exact ⟨[], by simp⟩
  · rename_i h1
    rw [if_neg h1] at h
    split
    · exact ⟨_, rfl⟩
    · rename_i h2
      rw [if_neg h2] at h
      exact absurd h h2
theorem mid_pre {no col : Int} {acc : List Pc} {l : B} (h : (LX.mid no col acc l).1 = 0) : ∃ L, (LX.mid no col acc l).2 = acc ++ L := by
  unfold LX.mid at h ⊢
  split
  · rename_i h1
    rw [if_pos h1] at h
    exact fin_pre h
  · rename_i h1
    rw [if_neg h1] at h
    split
    · rename_i h2
      rw [if_pos h2] at h
      cases h
    · rename_i h2
      rw [if_neg h2] at h
      obtain ⟨L, hL⟩ := fin_pre h
      exact ⟨_ :: L, by rw [hL, List.append_assoc]; rfl⟩
theorem go_pre {no col : Int} : ∀ {n : Nat} {acc : List Pc} {l : B}, (LX.go no col n acc l).1 = 0 → ∃ L, (LX.go no col n acc l).2 = acc ++ L
  | 0, acc, l, h => mid_pre h
  | n + 1, acc, l, h => by
    rw [LX.go] at h ⊢
    split
    · rename_i h1
      rw [if_pos h1] at h
      obtain ⟨L, hL⟩ := go_pre h
      exact ⟨_ :: L, by rw [hL, List.append_assoc]; rfl⟩
    · rename_i h1
      rw [if_neg h1] at h
      exact mid_pre h
theorem txt_plain {l s : B} (h : LX.txt l = (0, s, false)) : s = l := by
  cases l with
  | nil => simp [LX.txt] at h
  | cons c t =>
    rw [LX.txt.eq_def] at h
    simp only at h
    split at h
    · split at h
      · simp at h
      · unfold LX.lng at h; split at h <;> simp at h
    split at h
    · split at h
      · simp at h
      · unfold LX.lng at h; split at h <;> simp at h
    split at h
    · simp at h
    · unfold LX.lng at h
      split at h
      · simp at h
      · simp only [Prod.mk.injEq] at h
        exact h.2.1.symm
theorem go_le : ∀ {q : LN.Q} {l : B} {e : Nat}, LN.go q l = some e → e ≤ l.length := by
  intro q l
  fun_induction LN.go q l <;> intro e h
  all_goals first
    | (cases h; done)
    | (obtain rfl := Option.some.inj h; simp; done)
    | (obtain ⟨e', h1, rfl⟩ := Option.map_eq_some_iff.1 h
       rename_i ih
       have := ih h1
       simp only [List.length_cons] at this ⊢
       omega)
theorem leaf_plain {s : B} (h : plainb s = true) : Leaf s s false := by
  unfold plainb at h
  simp only [Bool.and_eq_true, decide_eq_true_eq, Bool.not_eq_true'] at h
  obtain ⟨⟨⟨⟨h0, _⟩, hb⟩, hs⟩, hr1, hr2⟩ := h
  have hr : LX.row (0, 0, s) = (0, [(3, 0, 0, s, false)]) := Prod.ext hr1 hr2
  clear hr1 hr2
  have hr2 := hr
  unfold LX.row at hr2
  simp only at hr2
  rw [if_neg (by omega)] at hr2
  have hd : LX.dash (LX.tl s) = false := by
    cases hd : LX.dash (LX.tl s) with
    | false => rfl
    | true =>
      have hl := LX.dash_len hd
      obtain ⟨n, hn⟩ : ∃ n, (LX.tl s).length = n + 1 := ⟨(LX.tl s).length - 1, by omega⟩
      rw [hn, LX.go_dash hd] at hr2
      obtain ⟨L, hL⟩ := go_pre (by rw [hr2])
      rw [hr2] at hL
      simp at hL
  rw [LX.go_mid hd] at hr2
  have hk : LX.key (LX.tl s) = 0 := by
    by_cases hk : LX.key (LX.tl s) = 0
    · exact hk
    · unfold LX.mid at hr2
      rw [if_neg hk] at hr2
      split at hr2
      · simp at hr2
      · obtain ⟨L, hL⟩ := fin_pre (by rw [hr2])
        rw [hr2] at hL
        simp at hL
  unfold LX.mid at hr2
  rw [if_pos hk] at hr2
  unfold LX.fin at hr2
  have hne : LX.tl s ≠ [] := by
    intro e
    rw [if_pos e] at hr2
    simp at hr2
  rw [if_neg hne] at hr2
  have htx : LX.txt (LX.tl s) = (0, s, false) := by
    split at hr2
    · rename_i h1
      simp only [List.nil_append, Prod.mk.injEq, List.cons.injEq, true_and, and_true] at hr2
      exact Prod.ext h1 (Prod.ext hr2.2.1 hr2.2.2)
    · simp at hr2
  have ht : LX.tl s = s := (txt_plain htx).symm
  rw [ht] at hd hk htx hne
  obtain ⟨c, t, hc⟩ : ∃ c t, s = c :: t := by
    cases s with
    | nil => exact absurd rfl hne
    | cons c t => exact ⟨c, t, rfl⟩
  have hc32 : c ≠ 32 := by
    intro e
    rw [hc, e, ltl_bl] at ht
    have := LX.tl_len t
    rw [ht] at this
    simp at this
    omega
  have hst := hs
  unfold LN.strip at hst
  obtain ⟨e, he, het⟩ := Option.map_eq_some_iff.1 hst
  unfold LN.fin at he
  rw [List.drop_zero] at he
  obtain ⟨e', he', rfl⟩ := Option.map_eq_some_iff.1 he
  rw [Nat.add_zero] at het
  obtain ⟨k, hk1, hk2, hk3, hk4⟩ := LN.tr_take (s.take e')
  rw [hk2] at het
  have hlen := congrArg List.length het
  simp only [List.length_take] at hlen hk1
  have hke : k = s.length := by omega
  have hes : s.length ≤ e' := by omega
  have hgo : LN.go (.out true) s = some s.length := by
    have := LN.go_take (.out true) s e' s.length he' hes (fun j h1 h2 => by
      by_cases hj : j < s.length
      · omega
      · exact absurd h2 (by
          have := go_le he'
          omega))
    rwa [List.take_length] at this
  refine ⟨⟨c, t, hc, hc32⟩, ?_, hb, hgo, htx, hd, hk⟩
  intro d hd2 e32
  have hpos : 0 < s.length := by rw [hc]; simp
  have h5 := hk4 (by omega)
  rw [List.take_of_length_le hes, hke] at h5
  exact h5 (by rw [hd2, e32])
end SH
end Go.Proofs.YtmgalfdiiegjjaaGreatDoor

/- Slices of nodes: what a call's own one holds; append; a node laid in its place; documents that read. -/
namespace Go.Proofs.YtmgalfdiiegjjaaGreatDoor
open Go.RowKit

def sv (ls : List LX.B) : List Value := ls.map fun l => .string ⟨l.toArray⟩
def nats (l : List Nat) : List Value := l.map fun n : Nat => .int .i64 (n : Int)
theorem sv_len (l : List LX.B) : (sv l).length = l.length := by simp [sv]
theorem nats_len (l : List Nat) : (nats l).length = l.length := by simp [nats]
theorem sv_app (a b : List LX.B) : sv (a ++ b) = sv a ++ sv b := by simp [sv]
theorem nats_app (a b : List Nat) : nats (a ++ b) = nats a ++ nats b := by simp [nats]
theorem sv_one {l : List LX.B} : ∀ u ∈ sv l, u.oneCell' = true := by
  intro u hu
  obtain ⟨s, _, rfl⟩ := List.mem_map.1 hu
  rfl
theorem nats_one {l : List Nat} : ∀ u ∈ nats l, u.oneCell' = true := by
  intro u hu
  obtain ⟨s, _, rfl⟩ := List.mem_map.1 hu
  rfl
/-- A node as it lies: it, and the values of its keys and kids. -/
abbrev Nv := DC.Nd × Value × Value
def nc (a : Nv) : Array Value := #[.int .i64 a.1.kind, .int .i64 a.1.line, .string ⟨a.1.text.toArray⟩, .bool a.1.quoted, a.2.1, a.2.2]
def nc1 (a : Nv) : List Value := [.int .i64 a.1.kind, .int .i64 a.1.line, .string ⟨a.1.text.toArray⟩, .bool a.1.quoted, a.2.1, a.2.2]
def ncs (ls : List Nv) : List Value := ls.flatMap nc1
theorem ncs_cons (x : Nv) (t : List Nv) : ncs (x :: t) = nc1 x ++ ncs t := rfl
theorem ncs_app (a b : List Nv) : ncs (a ++ b) = ncs a ++ ncs b := by simp [ncs]
theorem ncs_len (a : List Nv) : (ncs a).length = a.length * 6 := by
  induction a with
  | nil => rfl
  | cons x t ih =>
    rw [ncs_cons, List.length_append, ih]
    simp [nc1]; omega
theorem ncs_at : ∀ {ls : List Nv} {j : Nat} {x : Nv}, ls[j]? = some x → ∀ i, i < 6 → (ncs ls)[j * 6 + i]? = (nc1 x)[i]?
  | [], _, _, h => by simp at h
  | x :: ls, 0, s, h => by
    have : x = s := by simpa using h
    subst this
    intro i hi
    rw [ncs_cons, List.getElem?_append_left (by simp [nc1]; omega)]
    congr 1
    omega
  | x :: ls, j + 1, s, h => by
    have h' : ls[j]? = some s := by simpa using h
    intro i hi
    rw [← ncs_at h' i hi, ncs_cons, List.getElem?_append_right (by simp [nc1]; omega)]
    congr 1
    simp [nc1]; omega
theorem ncs_set : ∀ {ls : List Nv} {j : Nat} {x : Nv} (y : Nv), ls[j]? = some x →
    ((((((ncs ls).set (j * 6) (.int .i64 y.1.kind)).set (j * 6 + 1) (.int .i64 y.1.line)).set (j * 6 + 2) (.string ⟨y.1.text.toArray⟩)).set (j * 6 + 3) (.bool y.1.quoted)).set (j * 6 + 4) y.2.1).set (j * 6 + 5) y.2.2 = ncs (ls.set j y)
  | [], _, _, _, h => by simp at h
  | x :: ls, 0, s, y, h => by
    rw [ncs_cons, List.set_cons_zero, ncs_cons]
    simp [nc1]
  | x :: ls, j + 1, s, y, h => by
    have h' : ls[j]? = some s := by simpa using h
    rw [List.set_cons_succ, ncs_cons, ncs_cons, ← ncs_set y h']
    have e : (nc1 x).length = 6 := rfl
    have st : ∀ (l : List Value) (k : Nat) (u : Value), (nc1 x ++ l).set ((j + 1) * 6 + k) u = nc1 x ++ l.set (j * 6 + k) u := fun l k u => by
      rw [List.set_append_right _ _ (by rw [e]; omega), e]
      congr 2
      omega
    have s0 := st (ncs ls) 0 (.int .i64 y.1.kind)
    simp only [Nat.add_zero] at s0
    rw [s0, st, st, st, st, st]
/-- A node lies at b, from cell o on. -/
structure At6 (w : World) (b o : Nat) (x : Nv) : Prop where
  c0 : w.cell? ⟨b, o, none⟩ = some (.int .i64 x.1.kind)
  c1 : w.cell? ⟨b, o + 1, none⟩ = some (.int .i64 x.1.line)
  c2 : w.cell? ⟨b, o + 2, none⟩ = some (.string ⟨x.1.text.toArray⟩)
  c3 : w.cell? ⟨b, o + 3, none⟩ = some (.bool x.1.quoted)
  c4 : w.cell? ⟨b, o + 4, none⟩ = some x.2.1
  c5 : w.cell? ⟨b, o + 5, none⟩ = some x.2.2
theorem At6.below {w w' : World} {b o : Nat} {x : Nv} (h : At6 w b o x) (hb : Below w.heap.size w w') : At6 w' b o x :=
  ⟨(hb.cell (cell_lt h.c0)).trans h.c0, (hb.cell (cell_lt h.c1)).trans h.c1, (hb.cell (cell_lt h.c2)).trans h.c2, (hb.cell (cell_lt h.c3)).trans h.c3, (hb.cell (cell_lt h.c4)).trans h.c4, (hb.cell (cell_lt h.c5)).trans h.c5⟩
theorem Str.at6 {x : World} {p : Nat} {T : TypeId} {l : Nv} (h : Str x p T (nc l)) : At6 x p 0 l := ⟨h.cell 0, h.cell 1, h.cell 2, h.cell 3, h.cell 4, h.cell 5⟩

/-- The slice value v reads, in w, as those nodes as they lie. -/
def Rdnv (w : World) (v : Value) (ls : List Nv) : Prop :=
  ∃ ao cap, v = .slice ao ls.length cap ∧ ls.length ≤ cap ∧ cap ≤ maxLen ∧ (ao = none → cap = 0) ∧ ∀ j x, ls[j]? = some x → ∃ b off, ao = some ⟨b, off, none⟩ ∧ At6 w b (off + j * 6) x
theorem Rdnv.below {w w' : World} {v : Value} {ls : List Nv} (h : Rdnv w v ls) (hb : Below w.heap.size w w') : Rdnv w' v ls := by
  obtain ⟨ao, cap, hv, h1, h2, h3, h4⟩ := h
  refine ⟨ao, cap, hv, h1, h2, h3, fun j s hs => ?_⟩
  obtain ⟨b, off, hx, c⟩ := h4 j s hs
  exact ⟨b, off, hx, c.below hb⟩
/-- The slice value v reads, in w, as a document's nodes. -/
def Rdoc (w : World) (v : Value) (ns : List DC.Nd) : Prop :=
  ∃ vs : List Nv, vs.map (·.1) = ns ∧ Rdnv w v vs ∧ ∀ a ∈ vs, Rdv w a.2.1 (sv a.1.keys) ∧ Rdv w a.2.2 (nats a.1.kids)
theorem Rdoc.below {w w' : World} {v : Value} {ns : List DC.Nd} (h : Rdoc w v ns) (hb : Below w.heap.size w w') : Rdoc w' v ns := by
  obtain ⟨vs, h1, h2, h3⟩ := h
  exact ⟨vs, h1, h2.below hb, fun a ha => ⟨(h3 a ha).1.below hb, (h3 a ha).2.below hb⟩⟩
theorem Rdnv.nil (w : World) : Rdnv w (.slice none 0 0) [] := ⟨none, 0, rfl, by simp, by simp [maxLen], fun _ => rfl, by simp⟩
theorem Rdoc.nil (w : World) : Rdoc w (.slice none 0 0) [] := ⟨[], rfl, Rdnv.nil w, by simp⟩

/-- The slice value v is a row of the call's own, whose elements are those nodes as they lie. -/
def Ownv (w : World) (base : Nat) (v : Value) (ls : List Nv) : Prop := w.ownsRow base 50 6 v ls.length (ncs ls)
theorem Ownv.nil (w : World) (base : Nat) : Ownv w base (.slice none 0 0) [] := World.ownsRow_nil w base _ 6
theorem Ownv.below {w w' : World} {base : Nat} {v : Value} {ls : List Nv} (h : Ownv w base v ls) (hb : Below w.heap.size w w') : Ownv w' base v ls := by
  refine ⟨h.1, ?_⟩
  rcases h.2 with hn | ⟨g, cap, cur, hv, hbg, hg, rest⟩
  · exact .inl hn
  · exact .inr ⟨g, cap, cur, hv, hbg, (hb.block g (Array.getElem?_eq_some_iff.1 hg).1).trans hg, rest⟩
theorem Ownv.rd {w : World} {base : Nat} {v : Value} {ls : List Nv} (h : Ownv w base v ls) : Rdnv w v ls := by
  rcases h.2 with ⟨hv, hn⟩ | ⟨g, cap, cur, hv, hb, hg, hnc, hcm, hcs, ht⟩
  · obtain rfl : ls = [] := List.length_eq_zero_iff.1 hn
    rw [hv]; exact Rdnv.nil w
  · refine ⟨some ⟨g, 0, none⟩, cap, hv, hnc, hcm, (by intro h; cases h), fun j s hs => ⟨g, 0, rfl, ?_⟩⟩
    have k := ncs_at hs
    have q0 := World.ownsRow.cells h (by rw [hv]; rfl) _ _ (k 0 (by decide))
    have q1 := World.ownsRow.cells h (by rw [hv]; rfl) _ _ (k 1 (by decide))
    have q2 := World.ownsRow.cells h (by rw [hv]; rfl) _ _ (k 2 (by decide))
    have q3 := World.ownsRow.cells h (by rw [hv]; rfl) _ _ (k 3 (by decide))
    have q4 := World.ownsRow.cells h (by rw [hv]; rfl) _ _ (k 4 (by decide))
    have q5 := World.ownsRow.cells h (by rw [hv]; rfl) _ _ (k 5 (by decide))
    rw [Addr.add_lit] at q0 q1 q2 q3 q4 q5
    simp only [Nat.zero_add, Nat.add_zero] at q0 q1 q2 q3 q4 q5 ⊢
    exact ⟨q0, q1, q2, q3, q4, q5⟩
theorem Ownv.slice {w : World} {base : Nat} {v : Value} {ls : List Nv} (h : Ownv w base v ls) : ∃ ao cap, v = .slice ao ls.length cap := by
  rcases h.2 with ⟨hv, hn⟩ | ⟨g, cap, cur, hv, _⟩
  · exact ⟨none, 0, by rw [hv, hn]⟩
  · exact ⟨_, cap, hv⟩
theorem Ownv.ownBlock {w : World} {base : Nat} {v : Value} {ls : List Nv} (h : Ownv w base v ls) {g : Nat} (hg : v.ownBlock = some g) : (∃ cur, w.heap[g]? = some (.cells cur 50 (0, 0))) ∧ base ≤ g ∧ g < w.heap.size := by
  rcases h.2 with ⟨hv, _⟩ | ⟨g', cap, cur, hv, hb, hc, _⟩
  · rw [hv] at hg; cases hg
  · rw [hv] at hg
    obtain rfl : g' = g := Option.some.inj hg
    exact ⟨⟨cur, hc⟩, hb, (Array.getElem?_eq_some_iff.1 hc).1⟩
theorem Ownv.kb {w w' : World} {base : Nat} {v : Value} {ls : List Nv} {p q : Option Nat} (h : Ownv w base v ls) (hk : Kb w w' p q) (h1 : v.ownBlock = none ∨ v.ownBlock ≠ p) (h2 : v.ownBlock = none ∨ v.ownBlock ≠ q) : Ownv w' base v ls := by
  refine ⟨h.1, ?_⟩
  rcases h.2 with hn | ⟨g, cap, cur, rfl, hb, hgg, rest⟩
  · exact .inl hn
  · refine .inr ⟨g, cap, cur, rfl, hb, ?_, rest⟩
    rw [hk.block g (Array.getElem?_eq_some_iff.1 hgg).1 (by simpa [Value.ownBlock] using h1) (by simpa [Value.ownBlock] using h2)]
    exact hgg
theorem Ownv.off {w : World} {base : Nat} {T : TypeId} {v : Value} {ls : List Nv} {p : Nat} {cs : Array Value} (h : Ownv w base v ls) (hs : Str w p T cs) (hne : 50 ≠ T ∨ base > p) : v.ownBlock = none ∨ v.ownBlock ≠ some p := by
  cases hg : v.ownBlock with
  | none => exact .inl rfl
  | some g =>
    right
    intro e
    obtain rfl := Option.some.inj e
    obtain ⟨⟨cur, hc⟩, hb, _⟩ := h.ownBlock hg
    have h' : w.heap[g]? = some (.cells cs T (0, 0)) := hs
    rw [h'] at hc
    simp at hc
    rcases hne with hne | hne
    · exact hne hc.2.symm
    · omega
theorem Ownv.base {w : World} {b b' : Nat} {v : Value} {ls : List Nv} (h : Ownv w b v ls) (hb : b' ≤ b) : Ownv w b' v ls := by
  refine ⟨h.1, ?_⟩
  rcases h.2 with hn | ⟨g, cap, cur, hv, hbg, rest⟩
  · exact .inl hn
  · exact .inr ⟨g, cap, cur, hv, Nat.le_trans hb hbg, rest⟩
/-- Where a node lies, and that it may be stored into. -/
theorem Ownv.at {w : World} {base : Nat} {v : Value} {ls : List Nv} {j : Nat} {x : Nv} (h : Ownv w base v ls) (hj : ls[j]? = some x) :
    ∃ g cap, v = .slice (some ⟨g, 0, none⟩) ls.length cap ∧ base ≤ g ∧ g < w.heap.size ∧ At6 w g (j * 6) x ∧ ∀ i, w.frozen? ⟨g, i, none⟩ = false := by
  rcases h.2 with ⟨hv, hn⟩ | ⟨g, cap, cur, rfl, hb, hg, hnc, hcm, hcs, ht⟩
  · obtain rfl : ls = [] := List.length_eq_zero_iff.1 hn
    simp at hj
  · refine ⟨g, cap, rfl, hb, (Array.getElem?_eq_some_iff.1 hg).1, ?_, fun i => World.ownsRow.frozenAt h i⟩
    obtain ⟨ao, c, e, _, _, _, h4⟩ := Ownv.rd h
    obtain ⟨b, off, rfl, c⟩ := h4 j x hj
    simp only [Value.slice.injEq, Option.some.injEq, Addr.mk.injEq, and_true] at e
    obtain ⟨⟨rfl, rfl⟩, _⟩ := e
    simpa using c
/-- The six cells of a node that is laid anew. -/
def six (w : World) (g o : Nat) (y : Nv) : World :=
  (((((w.setCell ⟨g, o, none⟩ (.int .i64 y.1.kind)).setCell ⟨g, o + 1, none⟩ (.int .i64 y.1.line)).setCell ⟨g, o + 2, none⟩ (.string ⟨y.1.text.toArray⟩)).setCell ⟨g, o + 3, none⟩ (.bool y.1.quoted)).setCell ⟨g, o + 4, none⟩ y.2.1).setCell ⟨g, o + 5, none⟩ y.2.2
theorem Ownv.put {w : World} {base g cap : Nat} {ls : List Nv} {j : Nat} {x : Nv} (h : Ownv w base (.slice (some ⟨g, 0, none⟩) ls.length cap) ls) (hj : ls[j]? = some x) (y : Nv) :
    Ownv (six w g (j * 6) y) base (.slice (some ⟨g, 0, none⟩) ls.length cap) (ls.set j y) ∧ Kb w (six w g (j * 6) y) (some g) none := by
  have s0 := World.ownsRow.stored h (j * 6) (.int .i64 y.1.kind)
  have s1 := World.ownsRow.stored s0.1 (j * 6 + 1) (.int .i64 y.1.line)
  have s2 := World.ownsRow.stored s1.1 (j * 6 + 2) (.string ⟨y.1.text.toArray⟩)
  have s3 := World.ownsRow.stored s2.1 (j * 6 + 3) (.bool y.1.quoted)
  have s4 := World.ownsRow.stored s3.1 (j * 6 + 4) y.2.1
  have s5 := World.ownsRow.stored s4.1 (j * 6 + 5) y.2.2
  refine ⟨?_, (((((Kb.set w g _ _ none).trans (Kb.set _ g _ _ none)).trans (Kb.set _ g _ _ none)).trans (Kb.set _ g _ _ none)).trans (Kb.set _ g _ _ none)).trans (Kb.set _ g _ _ none)⟩
  have := s5.1
  rw [ncs_set y hj] at this
  show World.ownsRow _ _ _ _ _ _ _
  rw [List.length_set]
  exact this
theorem Tryz.info_node : (Tryz.prog.info? 50).map (fun i => (i.zero, i.size, i.bytes)) = some (some (.agg #[.int .i64 0, .int .i64 0, .string ⟨#[]⟩, .bool false, .slice none 0 0, .slice none 0 0]), 6, 88) := by kernel_rfl
theorem node_size : (Tryz.prog.info? 50).map (·.size) = some 6 := by kernel_rfl
theorem node_news {w : World} {g0 : Nat} {x : Nv} (hc : At6 w g0 0 x) : ∀ j u, (ncs [x])[j]? = some u → w.cell? ((⟨g0, 0, none⟩ : Addr).add j) = some u := by
  intro j y hy
  rw [Addr.add_lit, Nat.zero_add]
  match j, hy with
  | 0, hy => have : Value.int .i64 x.1.kind = y := by simpa [ncs, nc1] using hy
             rw [← this]; exact hc.c0
  | 1, hy => have : Value.int .i64 x.1.line = y := by simpa [ncs, nc1] using hy
             rw [← this]; exact hc.c1
  | 2, hy => have : Value.string ⟨x.1.text.toArray⟩ = y := by simpa [ncs, nc1] using hy
             rw [← this]; exact hc.c2
  | 3, hy => have : Value.bool x.1.quoted = y := by simpa [ncs, nc1] using hy
             rw [← this]; exact hc.c3
  | 4, hy => have : x.2.1 = y := by simpa [ncs, nc1] using hy
             rw [← this]; exact hc.c4
  | 5, hy => have : x.2.2 = y := by simpa [ncs, nc1] using hy
             rw [← this]; exact hc.c5
  | j + 6, hy => simp [ncs, nc1] at hy
theorem node_one {x : Nv} (h4 : x.2.1.oneCell' = true) (h5 : x.2.2.oneCell' = true) : ∀ u ∈ ncs [x], u.oneCell' = true := by
  intro u hu
  simp [ncs, nc1] at hu
  rcases hu with rfl | rfl | rfl | rfl | rfl | rfl
  · rfl
  · rfl
  · rfl
  · rfl
  · exact h4
  · exact h5
/-- 'append(l, x)' of nodes, l the call's own, at a step of a region that draws. -/
theorem step_append_node {w : World} {ops : Array Oper} {o : Oper} {a : Act} {K : Act → World → Prop} {Q : Exit → Act → World → Prop} {E : Prop} (hgd : o.guard = none) (s x : Operand)
    (ho : o.op = .call { callee := .builtin .append, args := #[s, x], argTypes := #[24, 24] })
    (base : Nat) {v : Value} {ls : List Nv} {l : Nv} {g0 c : Nat} (hs : a.eval s = v) (hown : Ownv w base v ls) (hx : a.eval x = .slice (some ⟨g0, 0, none⟩) 1 c) (hc : At6 w g0 0 l) (h4 : l.2.1.oneCell' = true) (h5 : l.2.2.oneCell' = true)
    (hlen : ls.length ≤ 20000) (hbase : base ≤ w.heap.size)
    (h : ∀ g cap w', Ownv w' base (.slice (some ⟨g, 0, none⟩) (ls.length + 1) cap) (ls ++ [l]) → w.grownBy w' v.ownBlock → Near w v (.slice (some ⟨g, 0, none⟩) (ls.length + 1) cap) → K (a.put o.dst (.slice (some ⟨g, 0, none⟩) (ls.length + 1) cap)) w') :
    if Region.wanted o (yielded ops a.tmps) = true then Oper.wp Tryz.prog o a w K Q else E := by
  obtain ⟨i, hi, hz0, hz1, hz2⟩ := infoparts Tryz.info_node
  refine step_append_lies _ hgd s x _ ho base _ i _ 6 88 Tryz.underlying24 hi hz0 hz1 hz2 rfl (by decide) v ls.length (ncs ls) hs hown ⟨g0, 0, none⟩ 1 c (ncs [l]) hx rfl (node_news hc) (node_one h4 h5) (by decide) (by unfold maxLen; omega) (by omega) hbase _ rfl ?_
  intro g cap' w' ho' hg h6 h7
  refine h g cap' w' ?_ hg ?_
  · show w'.ownsRow base _ 6 _ (ls ++ [l]).length (ncs (ls ++ [l]))
    rw [ncs_app, List.length_append]; exact ho'
  · rcases h6 with h6 | h6
    · exact .inl h6.symm
    · refine .inr fun g' hg' => ?_
      have := Option.some.inj hg'
      subst this
      exact Nat.le_of_eq h6.symm
end Go.Proofs.YtmgalfdiiegjjaaGreatDoor
