/- Documents over lists: blocks, items, what is wrong. No program is named here. -/
import Derived.Test.YthhngkoopaolkaaGreatDoorLxMath
namespace Go.Proofs.YthhngkoopaolkaaGreatDoor
namespace DC
open LX (B Pc)

/-- A node: its kind, line, text, whether it is quoted, its keys, its kids. -/
structure Nd where
  kind : Int
  line : Int
  text : B
  quoted : Bool
  keys : List B
  kids : List Nat
  deriving DecidableEq
/-- What is wrong, and where; or an answer. -/
inductive Out (α : Type) where
  | bad (k n : Int)
  | ok (a : α)
  deriving DecidableEq
def Out.bind {α β : Type} (o : Out α) (f : α → Out β) : Out β := match o with
  | .bad k n => .bad k n
  | .ok a => f a
abbrev BR := Out (List Nd × List Pc)
abbrev IR := Out (List B × List Nat × List Nd × List Pc)
/-- Is no piece left, or the next one's column not above c? -/
def low (c : Int) : List Pc → Bool
  | [] => true
  | q :: _ => decide (q.2.2.1 ≤ c)
def comes (k c : Int) : List Pc → Bool
  | [] => false
  | p :: _ => decide (p.1 = k) && decide (p.2.2.1 = c)
def leaf (p : Pc) : Nd := ⟨1, p.2.1, p.2.2.2.1, p.2.2.2.2, [], []⟩
def nk (k : Int) : Int := if k = 1 then 2 else if k = 2 then 3 else if k = 3 then 1 else 0
/-- Keys, blocks and nodes that were told ahead of others. -/
def plus (ks : List B) (is : List Nat) (ns : List Nd) (o : IR) : IR := o.bind fun a => .ok (ks ++ a.1, is ++ a.2.1, ns ++ a.2.2.1, a.2.2.2)
mutual
/-- The block that begins with the first piece, d deep, N nodes ahead of it: its nodes, and what is left. -/
def blk : Nat → Nat → Nat → List Pc → BR
  | 0, _, _, _ => .bad 10 0
  | _ + 1, _, _, [] => .bad 10 0
  | f + 1, d, N, p :: l =>
    if nk p.1 = 0 then .bad 6 p.2.1
    else if 24 < d then .bad 8 p.2.1
    else if 2000 ≤ N then .bad 9 p.2.1
    else if p.1 = 3 then .ok ([leaf p], l)
    else (itm f p.1 p.2.2.1 (d + 1) (N + 1) [] (p :: l)).bind fun a => .ok (⟨nk p.1, p.2.1, [], false, a.1, a.2.1⟩ :: a.2.2.1, a.2.2.2)
/-- Items of a column, or keys, from here on: the keys, the blocks' numbers, the nodes, and what is left. -/
def itm : Nat → Int → Int → Nat → Nat → List B → List Pc → IR
  | 0, _, _, _, _, _, _ => .bad 10 0
  | _ + 1, _, _, _, _, _, [] => .ok ([], [], [], [])
  | f + 1, k, c, d, N, has, p :: l =>
    if comes k c (p :: l) then
      if k = 2 ∧ p.2.2.2.1 ∈ has then .bad 7 p.2.1
      else if low p.2.2.1 l then .bad 10 p.2.1
      else (blk f d N l).bind fun a =>
        plus (if k = 2 then [p.2.2.2.1] else []) [N] a.1 (itm f k c d (N + a.1.length) (if k = 2 then has ++ [p.2.2.2.1] else has) a.2)
    else .ok ([], [], [], p :: l)
end
/-- The block of a piece of line n, column c. -/
def und (f : Nat) (n c : Int) (d N : Nat) (l : List Pc) : BR := if low c l then .bad 10 n else blk f d N l
def fuel (l : List Pc) : Nat := 2 * l.length + 2
/-- A document's nodes, or what is wrong. -/
def doc (l : List Pc) : Out (List Nd) :=
  if l = [] then .bad 10 1
  else (blk (fuel l) 1 0 l).bind fun a => match a.2 with
    | [] => .ok a.1
    | q :: _ => .bad 6 q.2.1
def nodes (l : List Pc) : List Nd := match doc l with
  | .ok a => a
  | .bad _ _ => []
def fault (l : List Pc) : Int × Int := match doc l with
  | .ok _ => (0, 0)
  | .bad k n => (k, n)

theorem plus_nil (o : IR) : plus [] [] [] o = o := by cases o <;> simp [plus, Out.bind]
theorem plus_plus (k1 : List B) (i1 : List Nat) (n1 : List Nd) (k2 : List B) (i2 : List Nat) (n2 : List Nd) (o : IR) : plus k1 i1 n1 (plus k2 i2 n2 o) = plus (k1 ++ k2) (i1 ++ i2) (n1 ++ n2) o := by
  cases o <;> simp [plus, Out.bind]
theorem plus_ok {ks : List B} {is : List Nat} {ns : List Nd} {o : IR} {a : List B × List Nat × List Nd × List Pc} (h : plus ks is ns o = .ok a) : ∃ b, o = .ok b ∧ a = (ks ++ b.1, is ++ b.2.1, ns ++ b.2.2.1, b.2.2.2) := by
  cases o with
  | bad k n => simp [plus, Out.bind] at h
  | ok b => exact ⟨b, rfl, by simpa [plus, Out.bind] using h.symm⟩
theorem bind_ok {α β : Type} {o : Out α} {f : α → Out β} {b : β} (h : o.bind f = .ok b) : ∃ a, o = .ok a ∧ f a = .ok b := by
  cases o with
  | bad k n => simp [Out.bind] at h
  | ok a => exact ⟨a, rfl, h⟩
theorem bind_bad {α β : Type} {o : Out α} {f : α → Out β} {k n : Int} (h : o.bind f = .bad k n) : o = .bad k n ∨ ∃ a, o = .ok a ∧ f a = .bad k n := by
  cases o with
  | bad k' n' => simp only [Out.bind, Out.bad.injEq] at h; obtain ⟨rfl, rfl⟩ := h; exact .inl rfl
  | ok a => exact .inr ⟨a, rfl, h⟩
theorem nk_three {k : Int} (h : nk k ≠ 0) : k = 1 ∨ k = 2 ∨ k = 3 := by
  unfold nk at h
  split at h
  · exact .inl ‹_›
  split at h
  · exact .inr (.inl ‹_›)
  split at h
  · exact .inr (.inr ‹_›)
  exact absurd rfl h
theorem comes_iff {k c : Int} {p : Pc} {l : List Pc} : comes k c (p :: l) = true ↔ p.1 = k ∧ p.2.2.1 = c := by simp [comes]

/-- What is left is no more than there was; there are nodes, never more than 2000; a block has one, at the least. -/
structure Fine (N : Nat) (l : List Pc) (ns : List Nd) (r : List Pc) : Prop where
  suf : ∃ t, l = t ++ r
  many : N + ns.length ≤ 2000
theorem Fine.len {N : Nat} {l : List Pc} {ns : List Nd} {r : List Pc} (h : Fine N l ns r) : r.length ≤ l.length := by
  obtain ⟨t, rfl⟩ := h.suf; simp
theorem both_fine : ∀ f, (∀ d N l a, blk f d N l = .ok a → Fine N l a.1 a.2 ∧ 1 ≤ a.1.length ∧ a.2.length < l.length) ∧
    (∀ k c d N has l a, N ≤ 2000 → itm f k c d N has l = .ok a → Fine N l a.2.2.1 a.2.2.2 ∧ a.2.1.length ≤ a.2.2.1.length ∧ a.1.length ≤ a.2.1.length ∧ (comes k c l = true → a.2.2.2.length < l.length))
  | 0 => ⟨by simp [blk], by simp [itm]⟩
  | f + 1 => by
    obtain ⟨hb, hi⟩ := both_fine f
    constructor
    · intro d N l a h
      cases l with
      | nil => simp [blk] at h
      | cons p l =>
        rw [blk] at h
        split at h
        · cases h
        rename_i hk
        split at h
        · cases h
        split at h
        · cases h
        rename_i hN
        split at h
        · simp only [Out.ok.injEq] at h
          subst h
          exact ⟨⟨⟨[p], rfl⟩, by simp; omega⟩, by simp, by simp⟩
        · obtain ⟨b, hb1, hb2⟩ := bind_ok h
          obtain ⟨⟨hs, hm⟩, h2, h3, h4⟩ := hi _ _ _ _ _ _ _ (by omega) hb1
          simp only [Out.ok.injEq] at hb2
          subst hb2
          have := h4 (by simp [comes])
          exact ⟨⟨hs, by simp; omega⟩, by simp, this⟩
    · intro k c d N has l a hN h
      cases l with
      | nil =>
        simp only [itm, Out.ok.injEq] at h
        subst h
        exact ⟨⟨⟨[], rfl⟩, by simpa using hN⟩, by simp, by simp, by simp [comes]⟩
      | cons p l =>
        rw [itm] at h
        split at h
        · rename_i hc
          split at h
          · cases h
          split at h
          · cases h
          obtain ⟨b, hb1, hb2⟩ := bind_ok h
          obtain ⟨q, hq1, rfl⟩ := plus_ok hb2
          obtain ⟨⟨⟨t, ht⟩, hm⟩, h2, h3⟩ := hb _ _ _ _ hb1
          obtain ⟨⟨⟨t', ht'⟩, hm'⟩, h2', h3', h4'⟩ := hi _ _ _ _ _ _ _ (by omega) hq1
          refine ⟨⟨⟨p :: (t ++ t'), by rw [ht, ht']; simp⟩, ?_⟩, ?_, ?_, ?_⟩
          · simp only [List.length_append]; omega
          · simp only [List.length_append, List.length_cons, List.length_nil]; omega
          · simp only [List.length_append, List.length_cons, List.length_nil]; split <;> simp <;> omega
          · intro _
            have : q.2.2.2.length ≤ b.2.length := by rw [ht']; simp
            simp only [List.length_cons]; omega
        · rename_i hc
          simp only [Out.ok.injEq] at h
          subst h
          exact ⟨⟨⟨[], rfl⟩, by simpa using hN⟩, by simp, by simp, fun h => absurd h hc⟩
theorem blk_fine {f d N : Nat} {l : List Pc} {ns : List Nd} {r : List Pc} (h : blk f d N l = .ok (ns, r)) : Fine N l ns r ∧ 1 ≤ ns.length ∧ r.length < l.length := (both_fine f).1 _ _ _ _ h
theorem itm_fine {f : Nat} {k c : Int} {d N : Nat} {has : List B} {l : List Pc} {ks : List B} {is : List Nat} {ns : List Nd} {r : List Pc} (hN : N ≤ 2000) (h : itm f k c d N has l = .ok (ks, is, ns, r)) : Fine N l ns r ∧ is.length ≤ ns.length ∧ ks.length ≤ is.length := by
  obtain ⟨h1, h2, h3, _⟩ := (both_fine f).2 _ _ _ _ _ _ _ hN h
  exact ⟨h1, h2, h3⟩
/-- What is wrong has a kind. -/
theorem both_bad : ∀ f, (∀ d N l k n, blk f d N l = .bad k n → k ≠ 0) ∧ (∀ k' c d N has l k n, itm f k' c d N has l = .bad k n → k ≠ 0)
  | 0 => ⟨by intro d N l k n h; simp only [blk, Out.bad.injEq] at h; omega, by intro k' c d N has l k n h; simp only [itm, Out.bad.injEq] at h; omega⟩
  | f + 1 => by
    obtain ⟨hb, hi⟩ := both_bad f
    constructor
    · intro d N l k n h
      cases l with
      | nil => simp only [blk, Out.bad.injEq] at h; omega
      | cons p l =>
        rw [blk] at h
        split at h
        · simp only [Out.bad.injEq] at h; omega
        split at h
        · simp only [Out.bad.injEq] at h; omega
        split at h
        · simp only [Out.bad.injEq] at h; omega
        split at h
        · cases h
        rcases bind_bad h with h | ⟨b, _, h⟩
        · exact hi _ _ _ _ _ _ _ _ h
        · cases h
    · intro k' c d N has l k n h
      cases l with
      | nil => simp [itm] at h
      | cons p l =>
        rw [itm] at h
        split at h
        · split at h
          · simp only [Out.bad.injEq] at h; omega
          split at h
          · simp only [Out.bad.injEq] at h; omega
          rcases bind_bad h with h | ⟨b, _, h⟩
          · exact hb _ _ _ _ _ h
          · rcases bind_bad h with h | ⟨b, _, h⟩
            · exact hi _ _ _ _ _ _ _ _ h
            · cases h
        · cases h
theorem blk_bad {f d N : Nat} {l : List Pc} {k n : Int} (h : blk f d N l = .bad k n) : k ≠ 0 := (both_bad f).1 _ _ _ _ _ h
theorem und_bad {f d N : Nat} {m c : Int} {l : List Pc} {k n : Int} (h : und f m c d N l = .bad k n) : k ≠ 0 := by
  unfold und at h
  split at h
  · simp only [Out.bad.injEq] at h; omega
  · exact blk_bad h
theorem und_fine {f d N : Nat} {m c : Int} {l : List Pc} {ns : List Nd} {r : List Pc} (h : und f m c d N l = .ok (ns, r)) : Fine N l ns r ∧ 1 ≤ ns.length ∧ r.length < l.length := by
  unfold und at h
  split at h
  · cases h
  · exact blk_fine h

/-- A list has no keys. -/
theorem dash_keys : ∀ {f : Nat} {c : Int} {d N : Nat} {has : List B} {l : List Pc} {a : List B × List Nat × List Nd × List Pc}, itm f 1 c d N has l = .ok a → a.1 = []
  | 0, _, _, _, _, _, _, h => by simp [itm] at h
  | f + 1, c, d, N, has, l, a, h => by
    cases l with
    | nil =>
      simp only [itm, Out.ok.injEq] at h
      rw [← h]
    | cons p l =>
      rw [itm] at h
      split at h
      · split at h
        · cases h
        split at h
        · cases h
        obtain ⟨b, _, hb2⟩ := bind_ok h
        obtain ⟨q, hq1, rfl⟩ := plus_ok hb2
        have := dash_keys hq1
        simp [this]
      · simp only [Out.ok.injEq] at h
        rw [← h]
/-! ### A block, by its ways -/
section
variable {f d N : Nat} {p : Pc} {l : List Pc}
theorem blk_kind (h : nk p.1 = 0) : blk (f + 1) d N (p :: l) = .bad 6 p.2.1 := by rw [blk, if_pos h]
theorem blk_deep (h : nk p.1 ≠ 0) (h1 : 24 < d) : blk (f + 1) d N (p :: l) = .bad 8 p.2.1 := by rw [blk, if_neg h, if_pos h1]
theorem blk_many (h : nk p.1 ≠ 0) (h1 : ¬ 24 < d) (h2 : 2000 ≤ N) : blk (f + 1) d N (p :: l) = .bad 9 p.2.1 := by rw [blk, if_neg h, if_neg h1, if_pos h2]
theorem blk_text (h : p.1 = 3) (h1 : ¬ 24 < d) (h2 : ¬ 2000 ≤ N) : blk (f + 1) d N (p :: l) = .ok ([leaf p], l) := by rw [blk, if_neg (by rw [h]; decide), if_neg h1, if_neg h2, if_pos h]
theorem blk_in (h : p.1 = 1 ∨ p.1 = 2) (h1 : ¬ 24 < d) (h2 : ¬ 2000 ≤ N) : blk (f + 1) d N (p :: l) = (itm f p.1 p.2.2.1 (d + 1) (N + 1) [] (p :: l)).bind fun a => .ok (⟨nk p.1, p.2.1, [], false, a.1, a.2.1⟩ :: a.2.2.1, a.2.2.2) := by
  rw [blk, if_neg, if_neg h1, if_neg h2, if_neg]
  · rcases h with h | h <;> rw [h] <;> decide
  · rcases h with h | h <;> rw [h] <;> decide
variable {k c : Int} {has : List B}
theorem itm_end (h : comes k c l = false) : itm (f + 1) k c d N has l = .ok ([], [], [], l) := by
  cases l with
  | nil => rw [itm]
  | cons p l => rw [itm, if_neg (by simp [h])]
theorem itm_twice (h : comes k c (p :: l) = true) (h1 : k = 2 ∧ p.2.2.2.1 ∈ has) : itm (f + 1) k c d N has (p :: l) = .bad 7 p.2.1 := by rw [itm, if_pos h, if_pos h1]
theorem itm_no (h : comes k c (p :: l) = true) (h1 : ¬ (k = 2 ∧ p.2.2.2.1 ∈ has)) {m n : Int} (h2 : und f p.2.1 p.2.2.1 d N l = .bad m n) : itm (f + 1) k c d N has (p :: l) = .bad m n := by
  rw [itm, if_pos h, if_neg h1]
  unfold und at h2
  split at h2
  · rename_i hl; simp only [Out.bad.injEq] at h2; rw [if_pos hl, h2.1, h2.2]
  · rename_i hl; rw [if_neg hl, h2]; rfl
theorem itm_go (h : comes k c (p :: l) = true) (h1 : ¬ (k = 2 ∧ p.2.2.2.1 ∈ has)) {ns : List Nd} {r : List Pc} (h2 : und f p.2.1 p.2.2.1 d N l = .ok (ns, r)) : itm (f + 1) k c d N has (p :: l) = plus (if k = 2 then [p.2.2.2.1] else []) [N] ns (itm f k c d (N + ns.length) (if k = 2 then has ++ [p.2.2.2.1] else has) r) := by
  rw [itm, if_pos h, if_neg h1]
  unfold und at h2
  split at h2
  · cases h2
  · rename_i hl; rw [if_neg hl, h2]; rfl
end
end DC
end Go.Proofs.YthhngkoopaolkaaGreatDoor
