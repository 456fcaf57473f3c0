/- Several texts in one. -/
import Derived.Test.YtmgalfdiiegjjaaGreatDoorSeg00
import Derived.Test.YtmgalfdiiegjjaaGreatDoorSeg07
import Derived.Test.YtmgalfdiiegjjaaGreatDoorLnMath
namespace Go.Proofs.YtmgalfdiiegjjaaGreatDoor
namespace LX
open Go

/-- One behind the other: of the line's number, not ahead of its indent, rising. -/
def Rise (no ind : Int) (ls : List Pc) : Prop :=
  ∀ i x, ls[i]? = some x → x.2.1 = no ∧ ind ≤ x.2.2.1 ∧ ∀ j y, i = j + 1 → ls[j]? = some y → y.2.2.1 < x.2.2.1 ∧ y.1 ≤ x.1 ∧ (x.1 = 1 ∨ x.1 ≠ y.1)
theorem Rise.nil (no ind : Int) : Rise no ind [] := by intro i x h; simp at h
/-- All that is there stands ahead of p, and is of no kind beyond k. -/
def Upto (p k : Int) (ls : List Pc) : Prop := ∀ x ∈ ls, x.2.2.1 < p ∧ x.1 ≤ k
theorem Upto.nil (p k : Int) : Upto p k [] := by intro x h; cases h
theorem Upto.more {p p' k k' : Int} {ls : List Pc} (h : Upto p k ls) (h1 : p ≤ p') (h2 : k ≤ k') : Upto p' k' ls := fun x hx => ⟨Int.lt_of_lt_of_le (h x hx).1 h1, Int.le_trans (h x hx).2 h2⟩
theorem Rise.app {no ind p k K : Int} {ls : List Pc} {t : B} {q : Bool} (h : Rise no ind ls) (hu : Upto p k ls) (hp : ind ≤ p) (hk : k < K ∨ (k ≤ K ∧ K = 1)) : Rise no ind (ls ++ [(K, no, p, t, q)]) := by
  intro i x hx
  rcases Nat.lt_or_ge i ls.length with hi | hi
  · rw [List.getElem?_append_left hi] at hx
    obtain ⟨a, b, c⟩ := h i x hx
    refine ⟨a, b, fun j y hj hy => c j y hj ?_⟩
    rw [List.getElem?_append_left (by omega)] at hy
    exact hy
  · obtain rfl : i = ls.length := by
      have := (List.getElem?_eq_some_iff.1 hx).1
      simp at this
      omega
    obtain rfl : (K, no, p, t, q) = x := by simpa using hx
    refine ⟨rfl, hp, fun j y hj hy => ?_⟩
    rw [List.getElem?_append_left (by omega)] at hy
    obtain ⟨a, b⟩ := hu y (List.mem_of_getElem? hy)
    refine ⟨a, ?_, ?_⟩
    · show y.1 ≤ K; omega
    · show K = 1 ∨ K ≠ y.1; omega
theorem Upto.app {no p p' k K : Int} {ls : List Pc} {t : B} {q : Bool} (hu : Upto p k ls) (hp : p < p') (hk : k ≤ K) : Upto p' K (ls ++ [(K, no, p, t, q)]) := by
  intro x hx
  rcases List.mem_append.1 hx with hx | hx
  · obtain ⟨a, b⟩ := hu x hx
    exact ⟨by omega, by omega⟩
  · obtain rfl : x = (K, no, p, t, q) := by simpa using hx
    exact ⟨hp, Int.le_refl _⟩
theorem fin_rise {no ind col : Int} {acc : List Pc} {l : B} (h : Rise no ind acc) (hu : Upto (col - l.length) 2 acc) (hp : ind + l.length ≤ col) : Rise no ind (fin no col acc l).2 := by
  unfold fin
  split
  · exact h
  · split
    · exact h.app hu (by omega) (.inl (by decide))
    · exact Rise.nil _ _
theorem mid_rise {no ind col : Int} {acc : List Pc} {l : B} (h : Rise no ind acc) (hu : Upto (col - l.length) 1 acc) (hp : ind + l.length ≤ col) : Rise no ind (mid no col acc l).2 := by
  unfold mid
  split
  · exact fin_rise h (hu.more (Int.le_refl _) (by decide)) hp
  · rename_i hk
    split
    · exact Rise.nil _ _
    · have hlt := key_lt (l := l) (by omega)
      have h1 := tl_len (l.drop (key l + 1))
      rw [List.length_drop] at h1
      exact fin_rise (h.app hu (by omega) (.inl (by decide))) (hu.app (by omega) (by decide)) (by omega)
theorem go_rise {no ind col : Int} : ∀ {n : Nat} {acc : List Pc} {l : B}, Rise no ind acc → Upto (col - l.length) 1 acc → ind + l.length ≤ col → Rise no ind (go no col n acc l).2
  | 0, _, _, h, hu, hp => mid_rise h hu hp
  | n + 1, acc, l, h, hu, hp => by
    rw [go]
    split
    · rename_i hd
      have h0 := dash_len hd
      have h1 := tl_len (l.drop 1)
      rw [List.length_drop] at h1
      exact go_rise (h.app hu (by omega) (.inr ⟨by decide, rfl⟩)) (hu.app (by omega) (by decide)) (by omega)
    · exact mid_rise h hu hp
theorem row_rise (l : Lz) : Rise l.1 l.2.1 (row l).2 := by
  unfold row
  split
  · exact Rise.nil _ _
  · have h1 := tl_len l.2.2
    exact go_rise (Rise.nil _ _) (Upto.nil _ _) (by omega)
theorem fin_len {no col : Int} {acc : List Pc} {l : B} {N : Nat} (h : acc.length + l.length ≤ N) : (fin no col acc l).2.length ≤ N := by
  unfold fin
  split
  · show acc.length ≤ N; omega
  · rename_i hne
    have : 1 ≤ l.length := by cases l with | nil => exact absurd rfl hne | cons => simp
    split
    · simp only [List.length_append, List.length_cons, List.length_nil]; omega
    · simp
theorem mid_len {no col : Int} {acc : List Pc} {l : B} {N : Nat} (h : acc.length + l.length ≤ N) : (mid no col acc l).2.length ≤ N := by
  unfold mid
  split
  · exact fin_len h
  · split
    · simp
    · have hlt := key_lt (l := l) (by omega)
      have h1 := tl_len (l.drop (key l + 1))
      rw [List.length_drop] at h1
      refine fin_len ?_
      simp only [List.length_append, List.length_cons, List.length_nil]
      omega
theorem go_len {no col : Int} : ∀ {n : Nat} {acc : List Pc} {l : B} {N : Nat}, acc.length + l.length ≤ N → (go no col n acc l).2.length ≤ N
  | 0, _, _, _, h => mid_len h
  | n + 1, acc, l, N, h => by
    rw [go]
    split
    · rename_i hd
      have h0 := dash_len hd
      have h1 := tl_len (l.drop 1)
      rw [List.length_drop] at h1
      refine go_len ?_
      simp only [List.length_append, List.length_cons, List.length_nil]
      omega
    · exact mid_len h
theorem row_len (l : Lz) : (row l).2.length ≤ l.2.2.length := by
  unfold row
  split
  · simp
  · have h1 := tl_len l.2.2
    refine go_len ?_
    simp only [List.length_nil]
    omega
/-- Pieces put ahead of what is told. -/
def plus (acc : List Pc) (r : R × Int) : R × Int := ((r.1.1, if r.1.1 = 0 then acc ++ r.1.2 else []), r.2)
theorem all_ok {l : Lz} {ls : List Lz} {P : List Pc} (h : row l = (0, P)) : all (l :: ls) = plus P (all ls) := by
  rw [all, h, if_pos rfl]; rfl
theorem all_no {l : Lz} {ls : List Lz} {k : Int} {P : List Pc} (h : row l = (k, P)) (hk : k ≠ 0) : all (l :: ls) = ((k, []), l.1) := by
  rw [all, h, if_neg hk]
theorem plus_plus (a b : List Pc) (r : R × Int) : plus a (plus b r) = plus (a ++ b) r := by
  unfold plus
  by_cases h : r.1.1 = 0
  · simp only [h, if_true, List.append_assoc]
  · simp only [if_neg h]
theorem plus_end (a : List Pc) : plus a (all []) = ((0, a), 0) := by
  show ((0, if (0 : Int) = 0 then a ++ [] else []), 0) = _
  rw [if_pos rfl, List.append_nil]
theorem plus_no {a : List Pc} {k n : Int} (hk : k ≠ 0) : plus a ((k, []), n) = ((k, []), n) := by
  unfold plus
  simp only [if_neg hk]
theorem all_none : ∀ ls : List Lz, (all ls).1.1 ≠ 0 → (all ls).1.2 = []
  | [], h => absurd rfl h
  | l :: ls, h => by
    by_cases hk : (row l).1 = 0
    · rw [all_ok (P := (row l).2) (by rw [← hk])] at h ⊢
      show (if (all ls).1.1 = 0 then _ else _) = _
      exact if_neg h
    · rw [all_no (k := (row l).1) (P := (row l).2) rfl hk]
theorem plus_nil (ls : List Lz) : plus [] (all ls) = all ls := by
  have hn := all_none ls
  generalize all ls = r at hn ⊢
  obtain ⟨⟨k, P⟩, n⟩ := r
  unfold plus
  simp only at hn ⊢
  by_cases h : k = 0
  · rw [if_pos h, List.nil_append]
  · rw [if_neg h, hn h]
def wt (ls : List Lz) : Nat := (ls.map (·.2.2.length)).sum
theorem wt_cons (l : Lz) (ls : List Lz) : wt (l :: ls) = l.2.2.length + wt ls := rfl
end LX
end Go.Proofs.YtmgalfdiiegjjaaGreatDoor

/- A text that stands further in: its rows, lines, pieces, blocks. No program is named here. -/
namespace Go.Proofs.YtmgalfdiiegjjaaGreatDoor
namespace DC
open LX (B Pc Lz)

/-- A piece further in. -/
def sh (k : Int) (p : Pc) : Pc := (p.1, p.2.1, p.2.2.1 + k, p.2.2.2.1, p.2.2.2.2)
def shB (k : Int) : BR → BR
  | .bad a b => .bad a b
  | .ok a => .ok (a.1, a.2.map (sh k))
def shI (k : Int) : IR → IR
  | .bad a b => .bad a b
  | .ok a => .ok (a.1, a.2.1, a.2.2.1, a.2.2.2.map (sh k))
theorem shB_bind (k : Int) (o : IR) (x : Nd → List B → List Nat → Nd) (q : Nd) : shB k (o.bind fun a => .ok (x q a.1 a.2.1 :: a.2.2.1, a.2.2.2)) = (shI k o).bind fun a => .ok (x q a.1 a.2.1 :: a.2.2.1, a.2.2.2) := by
  cases o <;> rfl
theorem shI_plus (k : Int) (ks : List B) (is : List Nat) (ns : List Nd) (o : IR) : shI k (plus ks is ns o) = plus ks is ns (shI k o) := by
  cases o <;> rfl
theorem shI_bind (k : Int) (o : BR) (g g' : List Nd × List Pc → IR) (h : ∀ a, g' (a.1, a.2.map (sh k)) = shI k (g a)) : (shB k o).bind g' = shI k (o.bind g) := by
  cases o with
  | bad a b => rfl
  | ok a => exact h a
theorem low_sh (k c : Int) (l : List Pc) : low (c + k) (l.map (sh k)) = low c l := by
  cases l with
  | nil => rfl
  | cons p l => simp only [low, List.map_cons, sh]; exact decide_eq_decide.2 (by omega)
theorem comes_sh (k k' c : Int) (l : List Pc) : comes k' (c + k) (l.map (sh k)) = comes k' c l := by
  cases l with
  | nil => rfl
  | cons p l => simp only [comes, List.map_cons, sh]; congr 1; exact decide_eq_decide.2 (by omega)
theorem both_shift (k : Int) : ∀ f, (∀ d N l, blk f d N (l.map (sh k)) = shB k (blk f d N l)) ∧ (∀ k' c d N has l, itm f k' (c + k) d N has (l.map (sh k)) = shI k (itm f k' c d N has l))
  | 0 => ⟨fun _ _ _ => by simp only [blk]; rfl, fun _ _ _ _ _ _ => by simp only [itm]; rfl⟩
  | f + 1 => by
    obtain ⟨hb, hi⟩ := both_shift k f
    constructor
    · intro d N l
      cases l with
      | nil => simp only [List.map_nil, blk]; rfl
      | cons p l =>
        have hi' := hi p.1 p.2.2.1 (d + 1) (N + 1) [] (p :: l)
        rw [List.map_cons] at hi' ⊢
        by_cases h1 : nk p.1 = 0
        · rw [blk_kind (p := sh k p) h1, blk_kind h1]; rfl
        by_cases h2 : 24 < d
        · rw [blk_deep (p := sh k p) h1 h2, blk_deep h1 h2]; rfl
        by_cases h3 : 2000 ≤ N
        · rw [blk_many (p := sh k p) h1 h2 h3, blk_many h1 h2 h3]; rfl
        by_cases h4 : p.1 = 3
        · rw [blk_text (p := sh k p) h4 h2 h3, blk_text h4 h2 h3]; rfl
        have h5 : p.1 = 1 ∨ p.1 = 2 := by have := nk_three h1; omega
        rw [blk_in (p := sh k p) h5 h2 h3, blk_in h5 h2 h3]
        refine (congrArg (fun o => Out.bind o _) hi').trans ?_
        exact (shB_bind k _ (fun _ a b => ⟨nk p.1, p.2.1, [], false, a, b⟩) (leaf p)).symm
    · intro k' c d N has l
      cases l with
      | nil => simp only [List.map_nil, itm]; rfl
      | cons p l =>
        have hc := comes_sh k k' c (p :: l)
        have hl := low_sh k p.2.2.1 l
        have hb' := hb d N l
        rw [List.map_cons] at hc ⊢
        cases h1 : comes k' c (p :: l) with
        | false =>
          rw [h1] at hc
          rw [itm_end h1, itm_end hc]; rfl
        | true =>
          rw [h1] at hc
          by_cases h2 : k' = 2 ∧ p.2.2.2.1 ∈ has
          · rw [itm_twice h1 h2, itm_twice (p := sh k p) hc h2]; rfl
          cases h3 : und f p.2.1 p.2.2.1 d N l with
          | bad m n =>
            have h3' : und f (sh k p).2.1 (sh k p).2.2.1 d N (l.map (sh k)) = .bad m n := by
              unfold und at h3 ⊢
              rw [show low (sh k p).2.2.1 (l.map (sh k)) = low p.2.2.1 l from hl]
              split at h3
              · rename_i hh; rw [if_pos hh]; exact h3
              · rename_i hh; rw [if_neg hh, hb', h3]; rfl
            rw [itm_no h1 h2 h3, itm_no (p := sh k p) hc h2 h3']; rfl
          | ok a =>
            have h3' : und f (sh k p).2.1 (sh k p).2.2.1 d N (l.map (sh k)) = .ok (a.1, a.2.map (sh k)) := by
              unfold und at h3 ⊢
              rw [show low (sh k p).2.2.1 (l.map (sh k)) = low p.2.2.1 l from hl]
              split at h3
              · cases h3
              · rename_i hh; rw [if_neg hh, hb', h3]; rfl
            rw [itm_go h1 h2 h3, itm_go (p := sh k p) hc h2 h3', shI_plus, hi]; rfl
theorem doc_shift (k : Int) (l : List Pc) : doc (l.map (sh k)) = doc l := by
  unfold doc
  cases l with
  | nil => rfl
  | cons p l =>
    rw [if_neg (by simp), if_neg (by simp)]
    have hf : fuel ((p :: l).map (sh k)) = fuel (p :: l) := by simp [fuel]
    rw [hf, (both_shift k _).1]
    cases blk (fuel (p :: l)) 1 0 (p :: l) with
    | bad a b => rfl
    | ok a =>
      obtain ⟨ns, r⟩ := a
      cases r <;> rfl

/-! ### Pieces of a line further in -/
def shR (k : Int) (r : LX.R) : LX.R := (r.1, r.2.map (sh k))
theorem fin_sh (k no col : Int) (acc : List Pc) (l : B) : LX.fin no (col + k) (acc.map (sh k)) l = shR k (LX.fin no col acc l) := by
  unfold LX.fin
  split
  · rfl
  · split
    · simp only [shR, List.map_append, List.map_cons, List.map_nil, sh]
      congr 4
      simp only [Prod.mk.injEq, true_and, and_true]
      omega
    · rfl
theorem mid_sh (k no col : Int) (acc : List Pc) (l : B) : LX.mid no (col + k) (acc.map (sh k)) l = shR k (LX.mid no col acc l) := by
  unfold LX.mid
  split
  · exact fin_sh k no col acc l
  · split
    · rfl
    · rw [← fin_sh, List.map_append]
      congr 2
      simp only [List.map_cons, List.map_nil, sh, List.cons.injEq, Prod.mk.injEq, true_and, and_true]
      omega
theorem go_sh (k no col : Int) : ∀ (n : Nat) (acc : List Pc) (l : B), LX.go no (col + k) n (acc.map (sh k)) l = shR k (LX.go no col n acc l)
  | 0, acc, l => mid_sh k no col acc l
  | n + 1, acc, l => by
    rw [LX.go, LX.go]
    split
    · rw [← go_sh k no col n, List.map_append]
      congr 2
      simp only [List.map_cons, List.map_nil, sh, List.cons.injEq, Prod.mk.injEq, true_and, and_true]
      omega
    · exact mid_sh k no col acc l
theorem row_sh (k : Nat) (no ind : Int) (t : B) (h0 : 0 ≤ ind) (h1 : ind + k ≤ 16384) : LX.row (no, ind + k, t) = shR k (LX.row (no, ind, t)) := by
  unfold LX.row
  rw [if_neg (by simp only; omega), if_neg (by simp only; omega)]
  simp only
  rw [← go_sh]
  congr 1
  omega
theorem plus_sh (k : Int) (P : List Pc) (r : LX.R × Int) : LX.plus (P.map (sh k)) (shR k r.1, r.2) = (shR k (LX.plus P r).1, (LX.plus P r).2) := by
  obtain ⟨⟨q, Q⟩, n⟩ := r
  unfold LX.plus shR
  simp only
  split
  · simp
  · simp
theorem all_sh (k : Nat) : ∀ ls : List Lz, (∀ x ∈ ls, 0 ≤ x.2.1 ∧ x.2.1 + k ≤ 16384) → LX.all (ls.map fun x => (x.1, x.2.1 + k, x.2.2)) = (shR k (LX.all ls).1, (LX.all ls).2)
  | [], _ => rfl
  | x :: ls, h => by
    obtain ⟨h0, h1⟩ := h x (by simp)
    have ih := all_sh k ls (fun y hy => h y (by simp [hy]))
    have hr := row_sh k x.1 x.2.1 x.2.2 h0 h1
    obtain ⟨q, P, hq⟩ : ∃ q P, LX.row x = (q, P) := ⟨_, _, rfl⟩
    have hr' : LX.row (x.1, x.2.1 + k, x.2.2) = (q, P.map (sh k)) := by rw [hr, hq]; rfl
    rw [List.map_cons]
    by_cases h2 : q = 0
    · subst h2
      rw [LX.all_ok hq, LX.all_ok hr', ih, plus_sh]
    · rw [LX.all_no hq h2, LX.all_no hr' h2]; rfl

/-! ### Rows further in -/
def bl (k : Nat) : B := List.replicate k 32
/-- A text whose every row stands further in. -/
def shT (k : Nat) (l : B) : B := bl k ++ l.flatMap fun c => if c = 10 then 10 :: bl k else [c]
theorem rows_bl (k : Nat) : ∀ l : B, LN.rows (bl k ++ l) = match LN.rows l with | [] => [bl k] | h :: t => (bl k ++ h) :: t := by
  intro l
  induction k with
  | zero =>
    obtain ⟨h, t, e⟩ := LN.rows_ne l
    simp [bl, e]
  | succ k ih =>
    obtain ⟨h, t, e⟩ := LN.rows_ne l
    rw [e] at ih ⊢
    have e2 : bl (k + 1) ++ l = 32 :: (bl k ++ l) := rfl
    rw [e2, LN.rows, if_neg (by decide), ih]
    rfl
theorem rows_in (k : Nat) : ∀ l : B, ∃ h t, LN.rows l = h :: t ∧ LN.rows (l.flatMap fun c => if c = 10 then 10 :: bl k else [c]) = h :: t.map (bl k ++ ·)
  | [] => ⟨[], [], rfl, rfl⟩
  | c :: l => by
    obtain ⟨h, t, e1, e2⟩ := rows_in k l
    by_cases hc : c = 10
    · subst hc
      refine ⟨[], h :: t, by rw [LN.rows, if_pos rfl, e1], ?_⟩
      simp only [List.flatMap_cons, if_true]
      rw [List.cons_append, LN.rows, if_pos rfl, rows_bl, e2]
      rfl
    · refine ⟨c :: h, t, by rw [LN.rows, if_neg hc, e1], ?_⟩
      simp only [List.flatMap_cons, if_neg hc]
      rw [List.singleton_append, LN.rows, if_neg hc, e2]
theorem rows_shT (k : Nat) (l : B) : LN.rows (shT k l) = (LN.rows l).map (bl k ++ ·) := by
  obtain ⟨h, t, e1, e2⟩ := rows_in k l
  unfold shT
  rw [rows_bl, e2, e1]
  rfl
theorem tl_bl (k : Nat) (r : B) : LN.tl (bl k ++ r) = LN.tl r := by
  induction k with
  | zero => rfl
  | succ k ih =>
    have e2 : bl (k + 1) ++ r = 32 :: (bl k ++ r) := rfl
    rw [e2, ← ih]
    unfold LN.tl Lib.trimLeftB
    rw [List.dropWhile_cons_of_pos (by decide)]
theorem bad_bl (k : Nat) (r : B) : LN.bad (bl k ++ r) = LN.bad r := by
  unfold LN.bad
  rw [List.any_append]
  have : ((bl k).any fun c => decide (c.toNat < 32) || decide (c.toNat = 127)) = false := by
    rw [List.any_eq_false]
    intro c hc
    obtain rfl := (List.mem_replicate.1 hc).2
    decide
  rw [this, Bool.false_or]
theorem kind_bl (k : Nat) (r : B) : LN.kind (bl k ++ r) = LN.kind r := by unfold LN.kind; rw [bad_bl, tl_bl]
theorem said_bl (k : Nat) (r : B) : LN.said (bl k ++ r) = LN.said r := by unfold LN.said; rw [tl_bl]
theorem tl_le (r : B) : (LN.tl r).length ≤ r.length := (List.dropWhile_sublist _).length_le
theorem ind_bl (k : Nat) (r : B) : LN.ind (bl k ++ r) = LN.ind r + k := by
  unfold LN.ind
  rw [tl_bl, List.length_append]
  have := tl_le r
  have : (bl k).length = k := List.length_replicate ..
  omega
theorem flt_bl (k : Nat) : ∀ (n : Nat) (rs : List B), LN.flt n (rs.map (bl k ++ ·)) = LN.flt n rs
  | _, [] => rfl
  | n, r :: rs => by rw [List.map_cons, LN.flt, LN.flt, kind_bl, flt_bl k (n + 1) rs]
theorem lns_bl (k : Nat) : ∀ (n : Nat) (rs : List B), LN.lns n (rs.map (bl k ++ ·)) = (LN.lns n rs).map fun x => (x.1, x.2.1 + k, x.2.2)
  | _, [] => rfl
  | n, r :: rs => by
    rw [List.map_cons, LN.lns, LN.lns, said_bl, ind_bl, lns_bl k (n + 1) rs]
    split
    · rfl
    · rfl
/-- A line as it is handed on. -/
def zl (x : LN.Ln) : Lz := ((x.1 : Int), (x.2.1 : Int), x.2.2)
theorem outs_shT (k : Nat) (l : B) (h : (shT k l).length ≤ 16384) (h' : l.length ≤ 16384) : LN.outF (shT k l) = LN.outF l ∧ (LN.outL (shT k l)).map zl = ((LN.outL l).map zl).map fun x => (x.1, x.2.1 + (k : Int), x.2.2) := by
  have e1 : LN.outF (shT k l) = LN.outF l := by
    unfold LN.outF
    rw [if_neg (by omega), if_neg (by omega), rows_shT, flt_bl]
  refine ⟨e1, ?_⟩
  unfold LN.outL
  rw [e1]
  split
  · rw [rows_shT, lns_bl, List.map_map, List.map_map]
    congr 1
  · rfl
theorem ind_le : ∀ (n : Nat) (rs : List B) (x : LN.Ln), x ∈ LN.lns n rs → ∃ r ∈ rs, x.2.1 ≤ r.length ∧ x.2.2.length ≤ r.length
  | _, [], _, h => by cases h
  | n, r :: rs, x, h => by
    rw [LN.lns] at h
    split at h
    · obtain ⟨r', h1, h2⟩ := ind_le _ rs x h
      exact ⟨r', by simp [h1], h2⟩
    · rcases List.mem_cons.1 h with rfl | h
      · refine ⟨r, by simp, by show r.length - _ ≤ _; omega, ?_⟩
        show (LN.said r).length ≤ r.length
        unfold LN.said
        cases hs : LN.strip (LN.tl r) with
        | none => simp
        | some s =>
          have := (LN.strip_again hs).2.1
          have := tl_le r
          simp only [Option.getD_some]
          omega
      · obtain ⟨r', h1, h2⟩ := ind_le _ rs x h
        exact ⟨r', by simp [h1], h2⟩
theorem outL_le {l : B} {x : LN.Ln} (h : x ∈ LN.outL l) (_hl : l.length ≤ 16384) : x.2.1 ≤ l.length ∧ x.2.2.length ≤ l.length := by
  unfold LN.outL at h
  split at h
  · obtain ⟨r, h1, h2, h3⟩ := ind_le _ _ _ h
    have := LN.rows_le l r h1
    omega
  · cases h
/-- What Parse tells. -/
def parse (l : B) : Out (List Nd) :=
  if (LN.outF l).1 ≠ 0 then .bad (LN.outF l).1 (LN.outF l).2
  else if (LX.all ((LN.outL l).map zl)).1.1 ≠ 0 then .bad (LX.all ((LN.outL l).map zl)).1.1 (LX.all ((LN.outL l).map zl)).2
  else doc (LX.all ((LN.outL l).map zl)).1.2
theorem lns_rng (k : Nat) : ∀ (n : Nat) (rs : List B) (x : LN.Ln), x ∈ LN.lns n rs → (∀ r ∈ rs, r.length + k ≤ 16384) → x.2.1 + k ≤ 16384 := by
  intro n rs x h hr
  obtain ⟨r, h1, h2, _⟩ := ind_le n rs x h
  have := hr r h1
  omega
theorem parse_shT (k : Nat) (l : B) (h : (shT k l).length ≤ 16384) : parse (shT k l) = parse l := by
  have hl : l.length + k ≤ 16384 := by
    have : ∀ l : B, l.length ≤ (l.flatMap fun c => if c = 10 then 10 :: bl k else [c]).length := by
      intro l
      induction l with
      | nil => simp
      | cons c t ih =>
        simp only [List.flatMap_cons, List.length_append, List.length_cons]
        have : 1 ≤ (if c = 10 then 10 :: bl k else [c]).length := by split <;> simp
        omega
    have h1 := this l
    unfold shT at h
    rw [List.length_append] at h
    have : (bl k).length = k := List.length_replicate ..
    omega
  obtain ⟨e1, e2⟩ := outs_shT k l h (by omega)
  unfold parse
  rw [e1, e2, all_sh k]
  · simp only [shR, doc_shift]
  · intro x hx
    obtain ⟨y, hy, rfl⟩ := List.mem_map.1 hx
    have := (outL_le hy (by omega)).1
    simp only [zl]
    omega
end DC
end Go.Proofs.YtmgalfdiiegjjaaGreatDoor
