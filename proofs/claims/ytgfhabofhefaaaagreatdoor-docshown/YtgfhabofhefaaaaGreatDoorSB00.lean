/- A part of the proof. -/
import Derived.Lib.TrimByte
import Derived.Lib.IndexMore
namespace Go.Proofs.YtgfhabofhefaaaaGreatDoor
namespace LX
open Go
abbrev B := List UInt8
abbrev Pc := Int × Int × Int × B × Bool
abbrev Lz := Int × Int × B
def sgn (c : UInt8) : Bool := decide (97 ≤ c.toNat ∧ c.toNat ≤ 122) || decide (65 ≤ c.toNat ∧ c.toNat ≤ 90) || decide (48 ≤ c.toNat ∧ c.toNat ≤ 57) || decide (c.toNat = 95) || decide (c.toNat = 45) || decide (c.toNat = 46)
def tl (l : B) : B := Lib.trimLeftB l 32
theorem tl_len (l : B) : (tl l).length ≤ l.length := (List.dropWhile_sublist _).length_le
def dash : B → Bool
  | [] => false
  | [c] => c == 45
  | c :: d :: _ => c == 45 && d == 32
theorem dash_len {l : B} (h : dash l = true) : 1 ≤ l.length := by
  cases l with
  | nil => cases h
  | cons => simp
def runp (p : UInt8 → Bool) : B → Nat
  | [] => 0
  | c :: t => if p c then runp p t + 1 else 0
theorem runp_le (p : UInt8 → Bool) : ∀ l : B, runp p l ≤ l.length
  | [] => Nat.le_refl 0
  | c :: t => by
    unfold runp
    have := runp_le p t
    split
    · simp; omega
    · simp
theorem runp_at {p : UInt8 → Bool} : ∀ {l : B} {k : Nat}, k < runp p l → ∃ c, l[k]? = some c ∧ p c = true
  | [], k, h => by simp [runp] at h
  | c :: t, 0, h => by
    unfold runp at h
    split at h
    · rename_i hs; exact ⟨c, rfl, hs⟩
    · omega
  | c :: t, k + 1, h => by
    unfold runp at h
    split at h
    · have := runp_at (p := p) (l := t) (k := k) (by omega)
      simpa using this
    · omega
theorem runp_end {p : UInt8 → Bool} : ∀ {l : B} {c : UInt8}, l[runp p l]? = some c → p c = false
  | [], c, h => by simp [runp] at h
  | d :: t, c, h => by
    unfold runp at h
    split at h
    · exact runp_end (l := t) (by simpa using h)
    · rename_i hs
      have : d = c := by simpa using h
      subst this
      simpa using hs
theorem runp_stop {p : UInt8 → Bool} {l : B} {k : Nat} (hk : k ≤ runp p l) (h : ∀ c, l[k]? = some c → p c = false) : runp p l = k := by
  rcases Nat.lt_or_ge k (runp p l) with h1 | h1
  · obtain ⟨c, hc, hs⟩ := runp_at h1
    rw [h c hc] at hs; cases hs
  · omega
theorem runp_more {p : UInt8 → Bool} {l : B} {k : Nat} {c : UInt8} (hk : k ≤ runp p l) (hc : l[k]? = some c) (hs : p c = true) : k + 1 ≤ runp p l := by
  rcases Nat.lt_or_ge k (runp p l) with h1 | h1
  · exact h1
  · obtain rfl : k = runp p l := by omega
    rw [runp_end hc] at hs; cases hs
def run (l : B) : Nat := runp sgn l
def bn (l : B) : Nat := runp (· == 32) l
theorem tl_drop : ∀ l : B, tl l = l.drop (bn l)
  | [] => rfl
  | c :: t => by
    unfold tl Lib.trimLeftB bn runp
    by_cases h : (c == 32) = true
    · rw [List.dropWhile_cons_of_pos (p := fun x => x == 32) h, if_pos h, List.drop_succ_cons]
      exact tl_drop t
    · rw [List.dropWhile_cons_of_neg (p := fun x => x == 32) h, if_neg h, List.drop_zero]
def kend : B → Bool
  | [c] => c == 58
  | c :: d :: _ => c == 58 && d == 32
  | [] => false
def key (l : B) : Nat := if kend (l.drop (run l)) then run l else 0
theorem key_lt {l : B} (h : 0 < key l) : key l < l.length := by
  unfold key at h ⊢
  split
  · rename_i hk
    rcases Nat.lt_or_ge (run l) l.length with h1 | h1
    · exact h1
    · rw [List.drop_eq_nil_of_le h1] at hk; cases hk
  · rename_i hk; rw [if_neg hk] at h; omega
def hx (c : UInt8) : Option Nat := if 48 ≤ c.toNat ∧ c.toNat ≤ 57 then some (c.toNat - 48) else if 97 ≤ c.toNat ∧ c.toNat ≤ 102 then some (c.toNat - 87) else none
def sq : B → Option B
  | [] => none
  | c :: t =>
    if c = 39 then
      match t with
      | [] => some []
      | d :: u => if d = 39 then (sq u).map (39 :: ·) else none
    else (sq t).map (c :: ·)
def esc : B → Option (UInt8 × Nat)
  | [] => none
  | d :: u =>
    if d = 92 ∨ d = 34 then some (d, 1)
    else if d = 110 then some (10, 1)
    else if d = 116 then some (9, 1)
    else if d = 120 then
      match u with
      | a :: b :: _ => match hx a, hx b with
        | some x, some y => some (UInt8.ofNat (16 * x + y), 3)
        | _, _ => none
      | _ => none
    else none
theorem esc_len {l : B} {c : UInt8} {n : Nat} (h : esc l = some (c, n)) : 1 ≤ n ∧ n ≤ l.length ∧ n ≤ 3 := by
  cases l with
  | nil => cases h
  | cons d u =>
    rw [esc.eq_def] at h
    simp only at h
    by_cases h1 : d = 92 ∨ d = 34
    · rw [if_pos h1] at h; cases h; simp
    · rw [if_neg h1] at h
      by_cases h2 : d = 110
      · rw [if_pos h2] at h; cases h; simp
      · rw [if_neg h2] at h
        by_cases h3 : d = 116
        · rw [if_pos h3] at h; cases h; simp
        · rw [if_neg h3] at h
          by_cases h4 : d = 120
          · rw [if_pos h4] at h
            match u, h with
            | a :: b :: v, h =>
              cases ha : hx a with
              | none => simp [ha] at h
              | some x =>
                cases hb : hx b with
                | none => simp [ha, hb] at h
                | some y =>
                  simp [ha, hb] at h
                  obtain ⟨_, rfl⟩ := h
                  simp
            | [_], h => cases h
            | [], h => cases h
          · rw [if_neg h4] at h; cases h
def dqf : Nat → B → Option B
  | 0, _ => none
  | _ + 1, [] => none
  | n + 1, c :: t =>
    if c = 34 then (if t = [] then some [] else none)
    else if c = 92 then
      match esc t with
      | none => none
      | some (d, k) => (dqf n (t.drop k)).map (d :: ·)
    else (dqf n t).map (c :: ·)
theorem dqf_more : ∀ {n m : Nat} {l : B}, l.length ≤ n → l.length ≤ m → dqf n l = dqf m l
  | 0, 0, _, _, _ => rfl
  | 0, m + 1, l, h, _ => by
    obtain rfl : l = [] := List.length_eq_zero_iff.1 (by omega)
    rfl
  | n + 1, 0, l, _, h => by
    obtain rfl : l = [] := List.length_eq_zero_iff.1 (by omega)
    rfl
  | n + 1, m + 1, [], _, _ => rfl
  | n + 1, m + 1, c :: t, h1, h2 => by
    simp only [List.length_cons] at h1 h2
    unfold dqf
    rw [dqf_more (n := n) (m := m) (l := t) (by omega) (by omega)]
    have hd : ∀ k, dqf n (t.drop k) = dqf m (t.drop k) := fun k => dqf_more (by rw [List.length_drop]; omega) (by rw [List.length_drop]; omega)
    simp only [hd]
def dq (l : B) : Option B := dqf l.length l
theorem dq_end {t : B} : dq (34 :: t) = if t = [] then some [] else none := by simp [dq, dqf]
theorem dq_esc {t : B} : dq (92 :: t) = match esc t with | none => none | some (d, k) => (dq (t.drop k)).map (d :: ·) := by
  unfold dq
  simp only [List.length_cons]
  rw [dqf, if_neg (by decide), if_pos rfl]
  have hd : ∀ k, dqf t.length (t.drop k) = dqf (t.drop k).length (t.drop k) := fun k => dqf_more (by rw [List.length_drop]; omega) (Nat.le_refl _)
  simp only [hd]
theorem dq_pass {c : UInt8} {t : B} (h1 : c ≠ 34) (h2 : c ≠ 92) : dq (c :: t) = (dq t).map (c :: ·) := by
  unfold dq
  simp only [List.length_cons]
  rw [dqf, if_neg h1, if_neg h2]
theorem sq_end : sq [39] = some [] := by simp [sq]
theorem sq_two {t : B} : sq (39 :: 39 :: t) = (sq t).map (39 :: ·) := by
  rw [sq.eq_def]; simp
theorem sq_bad {d : UInt8} {t : B} (h : d ≠ 39) : sq (39 :: d :: t) = none := by
  rw [sq.eq_def]; simp [h]
theorem sq_pass {c : UInt8} {t : B} (h : c ≠ 39) : sq (c :: t) = (sq t).map (c :: ·) := by
  rw [sq.eq_def]; simp [h]
def bars : B := [91, 93, 123, 125, 38, 42, 33, 124, 62, 37, 64, 44, 63, 96]
def odd (c : UInt8) : Bool := bars.contains c
abbrev T := Int × B × Bool
def lng (x : B) (q : Bool) : T := if 200 < x.length then (4, [], false) else (0, x, q)
def txt : B → T
  | [] => (4, [], false)
  | c :: t =>
    if c = 39 then (match sq t with | none => (3, [], false) | some x => lng x true)
    else if c = 34 then (match dq t with | none => (3, [], false) | some x => lng x true)
    else if odd c || dash (c :: t) || decide (0 < key (c :: t)) then (4, [], false)
    else lng (c :: t) false
abbrev R := Int × List Pc
def fin (no col : Int) (acc : List Pc) (l : B) : R :=
  if l = [] then (0, acc)
  else if (txt l).1 = 0 then (0, acc ++ [(3, no, col - l.length, (txt l).2.1, (txt l).2.2)]) else ((txt l).1, [])
def mid (no col : Int) (acc : List Pc) (l : B) : R :=
  if key l = 0 then fin no col acc l
  else if 64 < key l then (5, [])
  else fin no col (acc ++ [(2, no, col - l.length, l.take (key l), false)]) (tl (l.drop (key l + 1)))
def go (no col : Int) : Nat → List Pc → B → R
  | 0, acc, l => mid no col acc l
  | n + 1, acc, l => if dash l then go no col n (acc ++ [(1, no, col - l.length, [], false)]) (tl (l.drop 1)) else mid no col acc l
def row (l : Lz) : R :=
  if l.2.1 < 0 ∨ 16384 < l.2.1 then (6, [])
  else go l.1 (l.2.1 + l.2.2.length) (tl l.2.2).length [] (tl l.2.2)
theorem go_dash {no col : Int} {n : Nat} {acc : List Pc} {l : B} (h : dash l = true) : go no col (n + 1) acc l = go no col n (acc ++ [(1, no, col - l.length, [], false)]) (tl (l.drop 1)) := by
  rw [go, if_pos h]
theorem go_mid {no col : Int} {n : Nat} {acc : List Pc} {l : B} (h : dash l = false) : go no col n acc l = mid no col acc l := by
  cases n with
  | zero => rfl
  | succ n => rw [go, if_neg (by rw [h]; simp)]
def all : List Lz → R × Int
  | [] => ((0, []), 0)
  | l :: ls => if (row l).1 = 0 then (((all ls).1.1, if (all ls).1.1 = 0 then (row l).2 ++ (all ls).1.2 else []), (all ls).2) else (((row l).1, []), l.1)
end LX
end Go.Proofs.YtgfhabofhefaaaaGreatDoor
namespace Go.Proofs.YtgfhabofhefaaaaGreatDoor
namespace DC
open LX (B Pc)
structure Nd where
  kind : Int
  line : Int
  text : B
  quoted : Bool
  keys : List B
  kids : List Nat
  deriving DecidableEq
inductive Out (α : Type) where
  | bad (k n : Int)
  | ok (a : α)
  deriving DecidableEq
def Out.bind {α β : Type} (o : Out α) (f : α → Out β) : Out β := match o with
  | .bad k n => .bad k n
  | .ok a => f a
abbrev BR := Out (List Nd × List Pc)
abbrev IR := Out (List B × List Nat × List Nd × List Pc)
def low (c : Int) : List Pc → Bool
  | [] => true
  | q :: _ => decide (q.2.2.1 ≤ c)
def comes (k c : Int) : List Pc → Bool
  | [] => false
  | p :: _ => decide (p.1 = k) && decide (p.2.2.1 = c)
def leaf (p : Pc) : Nd := ⟨1, p.2.1, p.2.2.2.1, p.2.2.2.2, [], []⟩
def nk (k : Int) : Int := if k = 1 then 2 else if k = 2 then 3 else if k = 3 then 1 else 0
def plus (ks : List B) (is : List Nat) (ns : List Nd) (o : IR) : IR := o.bind fun a => .ok (ks ++ a.1, is ++ a.2.1, ns ++ a.2.2.1, a.2.2.2)
mutual
def blk : Nat → Nat → Nat → List Pc → BR
  | 0, _, _, _ => .bad 10 0
  | _ + 1, _, _, [] => .bad 10 0
  | f + 1, d, N, p :: l =>
    if nk p.1 = 0 then .bad 6 p.2.1
    else if 24 < d then .bad 8 p.2.1
    else if 2000 ≤ N then .bad 9 p.2.1
    else if p.1 = 3 then .ok ([leaf p], l)
    else (itm f p.1 p.2.2.1 (d + 1) (N + 1) [] (p :: l)).bind fun a => .ok (⟨nk p.1, p.2.1, [], false, a.1, a.2.1⟩ :: a.2.2.1, a.2.2.2)
def itm : Nat → Int → Int → Nat → Nat → List B → List Pc → IR
  | 0, _, _, _, _, _, _ => .bad 10 0
  | _ + 1, _, _, _, _, _, [] => .ok ([], [], [], [])
  | f + 1, k, c, d, N, has, p :: l =>
    if comes k c (p :: l) then
      if k = 2 ∧ p.2.2.2.1 ∈ has then .bad 7 p.2.1
      else if low p.2.2.1 l then .bad 10 p.2.1
      else (blk f d N l).bind fun a =>
        plus (if k = 2 then [p.2.2.2.1] else []) [N] a.1 (itm f k c d (N + a.1.length) (if k = 2 then has ++ [p.2.2.2.1] else has) a.2)
    else .ok ([], [], [], p :: l)
end
def und (f : Nat) (n c : Int) (d N : Nat) (l : List Pc) : BR := if low c l then .bad 10 n else blk f d N l
def fuel (l : List Pc) : Nat := 2 * l.length + 2
def doc (l : List Pc) : Out (List Nd) :=
  if l = [] then .bad 10 1
  else (blk (fuel l) 1 0 l).bind fun a => match a.2 with
    | [] => .ok a.1
    | q :: _ => .bad 6 q.2.1
def nodes (l : List Pc) : List Nd := match doc l with
  | .ok a => a
  | .bad _ _ => []
def fault (l : List Pc) : Int × Int := match doc l with
  | .ok _ => (0, 0)
  | .bad k n => (k, n)
theorem plus_nil (o : IR) : plus [] [] [] o = o := by cases o <;> simp [plus, Out.bind]
theorem plus_plus (k1 : List B) (i1 : List Nat) (n1 : List Nd) (k2 : List B) (i2 : List Nat) (n2 : List Nd) (o : IR) : plus k1 i1 n1 (plus k2 i2 n2 o) = plus (k1 ++ k2) (i1 ++ i2) (n1 ++ n2) o := by
  cases o <;> simp [plus, Out.bind]
theorem plus_ok {ks : List B} {is : List Nat} {ns : List Nd} {o : IR} {a : List B × List Nat × List Nd × List Pc} (h : plus ks is ns o = .ok a) : ∃ b, o = .ok b ∧ a = (ks ++ b.1, is ++ b.2.1, ns ++ b.2.2.1, b.2.2.2) := by
  cases o with
  | bad k n => simp [plus, Out.bind] at h
  | ok b => exact ⟨b, rfl, by simpa [plus, Out.bind] using h.symm⟩
theorem bind_ok {α β : Type} {o : Out α} {f : α → Out β} {b : β} (h : o.bind f = .ok b) : ∃ a, o = .ok a ∧ f a = .ok b := by
  cases o with
  | bad k n => simp [Out.bind] at h
  | ok a => exact ⟨a, rfl, h⟩
theorem nk_three {k : Int} (h : nk k ≠ 0) : k = 1 ∨ k = 2 ∨ k = 3 := by
  unfold nk at h
  split at h
  · exact .inl ‹_›
  split at h
  · exact .inr (.inl ‹_›)
  split at h
  · exact .inr (.inr ‹_›)
  exact absurd rfl h
structure Fine (N : Nat) (l : List Pc) (ns : List Nd) (r : List Pc) : Prop where
  suf : ∃ t, l = t ++ r
  many : N + ns.length ≤ 2000
theorem Fine.len {N : Nat} {l : List Pc} {ns : List Nd} {r : List Pc} (h : Fine N l ns r) : r.length ≤ l.length := by
  obtain ⟨t, rfl⟩ := h.suf; simp
theorem both_fine : ∀ f, (∀ d N l a, blk f d N l = .ok a → Fine N l a.1 a.2 ∧ 1 ≤ a.1.length ∧ a.2.length < l.length) ∧
    (∀ k c d N has l a, N ≤ 2000 → itm f k c d N has l = .ok a → Fine N l a.2.2.1 a.2.2.2 ∧ a.2.1.length ≤ a.2.2.1.length ∧ a.1.length ≤ a.2.1.length ∧ (comes k c l = true → a.2.2.2.length < l.length))
  | 0 => ⟨by simp [blk], by simp [itm]⟩
  | f + 1 => by
    obtain ⟨hb, hi⟩ := both_fine f
    constructor
    · intro d N l a h
      cases l with
      | nil => simp [blk] at h
      | cons p l =>
        rw [blk] at h
        split at h
        · cases h
        rename_i hk
        split at h
        · cases h
        split at h
        · cases h
        rename_i hN
        split at h
        · simp only [Out.ok.injEq] at h
          subst h
          exact ⟨⟨⟨[p], rfl⟩, by simp; omega⟩, by simp, by simp⟩
        · obtain ⟨b, hb1, hb2⟩ := bind_ok h
          obtain ⟨⟨hs, hm⟩, h2, h3, h4⟩ := hi _ _ _ _ _ _ _ (by omega) hb1
          simp only [Out.ok.injEq] at hb2
          subst hb2
          have := h4 (by simp [comes])
          exact ⟨⟨hs, by simp; omega⟩, by simp, this⟩
    · intro k c d N has l a hN h
      cases l with
      | nil =>
        simp only [itm, Out.ok.injEq] at h
        subst h
        exact ⟨⟨⟨[], rfl⟩, by simpa using hN⟩, by simp, by simp, by simp [comes]⟩
      | cons p l =>
        rw [itm] at h
        split at h
        · rename_i hc
          split at h
          · cases h
          split at h
          · cases h
          obtain ⟨b, hb1, hb2⟩ := bind_ok h
          obtain ⟨q, hq1, rfl⟩ := plus_ok hb2
          obtain ⟨⟨⟨t, ht⟩, hm⟩, h2, h3⟩ := hb _ _ _ _ hb1
          obtain ⟨⟨⟨t', ht'⟩, hm'⟩, h2', h3', h4'⟩ := hi _ _ _ _ _ _ _ (by omega) hq1
          refine ⟨⟨⟨p :: (t ++ t'), by rw [ht, ht']; simp⟩, ?_⟩, ?_, ?_, ?_⟩
          · simp only [List.length_append]; omega
          · simp only [List.length_append, List.length_cons, List.length_nil]; omega
          · simp only [List.length_append, List.length_cons, List.length_nil]; split <;> simp <;> omega
          · intro _
            have : q.2.2.2.length ≤ b.2.length := by rw [ht']; simp
            simp only [List.length_cons]; omega
        · rename_i hc
          simp only [Out.ok.injEq] at h
          subst h
          exact ⟨⟨⟨[], rfl⟩, by simpa using hN⟩, by simp, by simp, fun h => absurd h hc⟩
theorem blk_fine {f d N : Nat} {l : List Pc} {ns : List Nd} {r : List Pc} (h : blk f d N l = .ok (ns, r)) : Fine N l ns r ∧ 1 ≤ ns.length ∧ r.length < l.length := (both_fine f).1 _ _ _ _ h
theorem und_fine {f d N : Nat} {m c : Int} {l : List Pc} {ns : List Nd} {r : List Pc} (h : und f m c d N l = .ok (ns, r)) : Fine N l ns r ∧ 1 ≤ ns.length ∧ r.length < l.length := by
  unfold und at h
  split at h
  · cases h
  · exact blk_fine h
theorem dash_keys : ∀ {f : Nat} {c : Int} {d N : Nat} {has : List B} {l : List Pc} {a : List B × List Nat × List Nd × List Pc}, itm f 1 c d N has l = .ok a → a.1 = []
  | 0, _, _, _, _, _, _, h => by simp [itm] at h
  | f + 1, c, d, N, has, l, a, h => by
    cases l with
    | nil =>
      simp only [itm, Out.ok.injEq] at h
      rw [← h]
    | cons p l =>
      rw [itm] at h
      split at h
      · split at h
        · cases h
        split at h
        · cases h
        obtain ⟨b, _, hb2⟩ := bind_ok h
        obtain ⟨q, hq1, rfl⟩ := plus_ok hb2
        have := dash_keys hq1
        simp [this]
      · simp only [Out.ok.injEq] at h
        rw [← h]
section
variable {f d N : Nat} {p : Pc} {l : List Pc}
theorem blk_kind (h : nk p.1 = 0) : blk (f + 1) d N (p :: l) = .bad 6 p.2.1 := by rw [blk, if_pos h]
theorem blk_deep (h : nk p.1 ≠ 0) (h1 : 24 < d) : blk (f + 1) d N (p :: l) = .bad 8 p.2.1 := by rw [blk, if_neg h, if_pos h1]
theorem blk_many (h : nk p.1 ≠ 0) (h1 : ¬ 24 < d) (h2 : 2000 ≤ N) : blk (f + 1) d N (p :: l) = .bad 9 p.2.1 := by rw [blk, if_neg h, if_neg h1, if_pos h2]
theorem blk_text (h : p.1 = 3) (h1 : ¬ 24 < d) (h2 : ¬ 2000 ≤ N) : blk (f + 1) d N (p :: l) = .ok ([leaf p], l) := by rw [blk, if_neg (by rw [h]; decide), if_neg h1, if_neg h2, if_pos h]
theorem blk_in (h : p.1 = 1 ∨ p.1 = 2) (h1 : ¬ 24 < d) (h2 : ¬ 2000 ≤ N) : blk (f + 1) d N (p :: l) = (itm f p.1 p.2.2.1 (d + 1) (N + 1) [] (p :: l)).bind fun a => .ok (⟨nk p.1, p.2.1, [], false, a.1, a.2.1⟩ :: a.2.2.1, a.2.2.2) := by
  rw [blk, if_neg, if_neg h1, if_neg h2, if_neg]
  · rcases h with h | h <;> rw [h] <;> decide
  · rcases h with h | h <;> rw [h] <;> decide
variable {k c : Int} {has : List B}
theorem itm_end (h : comes k c l = false) : itm (f + 1) k c d N has l = .ok ([], [], [], l) := by
  cases l with
  | nil => rw [itm]
  | cons p l => rw [itm, if_neg (by simp [h])]
theorem itm_twice (h : comes k c (p :: l) = true) (h1 : k = 2 ∧ p.2.2.2.1 ∈ has) : itm (f + 1) k c d N has (p :: l) = .bad 7 p.2.1 := by rw [itm, if_pos h, if_pos h1]
theorem itm_no (h : comes k c (p :: l) = true) (h1 : ¬ (k = 2 ∧ p.2.2.2.1 ∈ has)) {m n : Int} (h2 : und f p.2.1 p.2.2.1 d N l = .bad m n) : itm (f + 1) k c d N has (p :: l) = .bad m n := by
  rw [itm, if_pos h, if_neg h1]
  unfold und at h2
  split at h2
  · rename_i hl; simp only [Out.bad.injEq] at h2; rw [if_pos hl, h2.1, h2.2]
  · rename_i hl; rw [if_neg hl, h2]; rfl
theorem itm_go (h : comes k c (p :: l) = true) (h1 : ¬ (k = 2 ∧ p.2.2.2.1 ∈ has)) {ns : List Nd} {r : List Pc} (h2 : und f p.2.1 p.2.2.1 d N l = .ok (ns, r)) : itm (f + 1) k c d N has (p :: l) = plus (if k = 2 then [p.2.2.2.1] else []) [N] ns (itm f k c d (N + ns.length) (if k = 2 then has ++ [p.2.2.2.1] else has) r) := by
  rw [itm, if_pos h, if_neg h1]
  unfold und at h2
  split at h2
  · cases h2
  · rename_i hl; rw [if_neg hl, h2]; rfl
end
end DC
end Go.Proofs.YtgfhabofhefaaaaGreatDoor
namespace Go.Proofs.YtgfhabofhefaaaaGreatDoor
namespace SH
open LX (B Pc)
open DC (Nd blk itm)
mutual
inductive Tr where
  | text (t : B) (q : Bool)
  | list (k : Fo)
  | map (k : Fo)
inductive Fo where
  | nil
  | cons (key : B) (t : Tr) (r : Fo)
end
mutual
def sizeT : Tr → Nat
  | .text _ _ => 1
  | .list k => sizeF k + 1
  | .map k => sizeF k + 1
def sizeF : Fo → Nat
  | .nil => 0
  | .cons _ t r => sizeT t + sizeF r
end
def keysF : Fo → List B
  | .nil => []
  | .cons key _ r => key :: keysF r
def kidsF : Fo → Nat → List Nat
  | .nil, _ => []
  | .cons _ t r, N => N :: kidsF r (N + sizeT t)
mutual
def flatT : Tr → Nat → List Nd
  | .text t q, _ => [⟨1, 0, t, q, [], []⟩]
  | .list k, N => ⟨2, 0, [], false, [], kidsF k (N + 1)⟩ :: flatF k (N + 1)
  | .map k, N => ⟨3, 0, [], false, keysF k, kidsF k (N + 1)⟩ :: flatF k (N + 1)
def flatF : Fo → Nat → List Nd
  | .nil, _ => []
  | .cons _ t r, N => flatT t N ++ flatF r (N + sizeT t)
end
mutual
theorem flatT_len : ∀ (t : Tr) (N : Nat), (flatT t N).length = sizeT t
  | .text _ _, _ => rfl
  | .list k, N => by rw [flatT, List.length_cons, flatF_len k, sizeT]
  | .map k, N => by rw [flatT, List.length_cons, flatF_len k, sizeT]
theorem flatF_len : ∀ (k : Fo) (N : Nat), (flatF k N).length = sizeF k
  | .nil, _ => rfl
  | .cons _ t r, N => by rw [flatF, List.length_append, flatT_len t, flatF_len r, sizeF]
end
mutual
def depT : Tr → Nat → Prop
  | .text _ _, d => d ≤ 24
  | .list k, d => d ≤ 24 ∧ depF k (d + 1)
  | .map k, d => d ≤ 24 ∧ depF k (d + 1)
def depF : Fo → Nat → Prop
  | .nil, _ => True
  | .cons _ t r, d => depT t d ∧ depF r d
end
mutual
def okT : Tr → Prop
  | .text _ _ => True
  | .list k => k ≠ .nil ∧ (∀ x ∈ keysF k, x = []) ∧ okF k
  | .map k => k ≠ .nil ∧ (keysF k).Nodup ∧ okF k
def okF : Fo → Prop
  | .nil => True
  | .cons _ t r => okT t ∧ okF r
end
mutual
def ShT : Tr → Int → List Pc → Prop
  | .text t q, c, l => ∃ no, l = [(3, no, c, t, q)]
  | .list k, c, l => ShF k 1 c l
  | .map k, c, l => ShF k 2 c l
def ShF : Fo → Int → Int → List Pc → Prop
  | .nil, _, _, l => l = []
  | .cons key t r, k, c, l => ∃ no c' a b, c < c' ∧ l = (k, no, c, key, false) :: (a ++ b) ∧ ShT t c' a ∧ ShF r k c b
end
def z (n : Nd) : Nd := { n with line := 0 }
def Out (c : Int) (l : List Pc) : Prop := ∀ q m, l = q :: m → q.2.2.1 < c
theorem Out.comes {c k : Int} {l : List Pc} (h : Out c l) : DC.comes k c l = false := by
  cases l with
  | nil => rfl
  | cons q m =>
    have := h q m rfl
    unfold DC.comes
    rw [Bool.and_eq_false_iff]
    exact .inr (decide_eq_false (by omega))
theorem shF_out {r : Fo} {k c c' : Int} {b rest : List Pc} (h : ShF r k c b) (hc : c < c') (ho : Out c rest) : Out c' (b ++ rest) := by
  cases r with
  | nil =>
    rw [ShF] at h
    subst h
    intro q m e
    have := ho q m e
    omega
  | cons key t r =>
    rw [ShF] at h
    obtain ⟨no, c2, a, b2, _, rfl, _⟩ := h
    intro q m e
    rw [List.cons_append] at e
    obtain ⟨rfl, -⟩ := List.cons.inj e
    exact hc
theorem shT_head : ∀ (t : Tr) {c : Int} {l : List Pc}, okT t → ShT t c l → ∃ q m, l = q :: m ∧ q.2.2.1 = c ∧ (q.1 = 1 ∨ q.1 = 2 ∨ q.1 = 3)
  | .text t q, c, l, _, h => by
    rw [ShT] at h
    obtain ⟨no, rfl⟩ := h
    exact ⟨_, _, rfl, rfl, .inr (.inr rfl)⟩
  | .list k, c, l, ho, h => by
    rw [okT] at ho
    rw [ShT] at h
    cases k with
    | nil => exact absurd rfl ho.1
    | cons key t r =>
      rw [ShF] at h
      obtain ⟨no, c2, a, b2, _, rfl, _⟩ := h
      exact ⟨_, _, rfl, rfl, .inl rfl⟩
  | .map k, c, l, ho, h => by
    rw [okT] at ho
    rw [ShT] at h
    cases k with
    | nil => exact absurd rfl ho.1
    | cons key t r =>
      rw [ShF] at h
      obtain ⟨no, c2, a, b2, _, rfl, _⟩ := h
      exact ⟨_, _, rfl, rfl, .inr (.inl rfl)⟩
mutual
theorem blk_flat : ∀ (t : Tr) {c : Int} {l : List Pc} (f d N : Nat) {rest : List Pc}, ShT t c l → okT t → depT t d → N + sizeT t ≤ 2000 → 2 * (l ++ rest).length + 2 ≤ f → Out c rest →
    ∃ ms, blk f d N (l ++ rest) = .ok (ms, rest) ∧ ms.map z = flatT t N
  | .text t q, c, l, f, d, N, rest, hs, ho, hd, hN, hf, hr => by
    rw [ShT] at hs
    obtain ⟨no, rfl⟩ := hs
    rw [depT] at hd
    rw [sizeT] at hN
    obtain ⟨f, rfl⟩ : ∃ g, f = g + 1 := ⟨f - 1, by omega⟩
    exact ⟨_, DC.blk_text rfl (by omega) (by omega), rfl⟩
  | .list k, c, l, f, d, N, rest, hs, ho, hd, hN, hf, hr => by
    rw [okT] at ho
    rw [depT] at hd
    rw [sizeT] at hN
    rw [ShT] at hs
    obtain ⟨f, rfl⟩ : ∃ g, f = g + 1 := ⟨f - 1, by omega⟩
    obtain ⟨ms, h1, h2⟩ := itm_flat k 1 f (d + 1) (N + 1) [] hs (.inl rfl) ho.2.2 hd.2 (by omega) (by omega) (by simp) hr
    cases k with
    | nil => exact absurd rfl ho.1
    | cons key t r =>
      rw [ShF] at hs
      obtain ⟨no, c2, a, b2, _, rfl, _⟩ := hs
      rw [List.cons_append] at h1 ⊢
      refine ⟨⟨2, no, [], false, [], kidsF (.cons key t r) (N + 1)⟩ :: ms, ?_, ?_⟩
      · rw [DC.blk_in (.inl rfl) (by omega) (by omega)]
        simp only
        rw [h1]
        simp only [DC.Out.bind]
        rfl
      · rw [List.map_cons, h2, flatT]; rfl
  | .map k, c, l, f, d, N, rest, hs, ho, hd, hN, hf, hr => by
    rw [okT] at ho
    rw [depT] at hd
    rw [sizeT] at hN
    rw [ShT] at hs
    obtain ⟨f, rfl⟩ : ∃ g, f = g + 1 := ⟨f - 1, by omega⟩
    obtain ⟨ms, h1, h2⟩ := itm_flat k 2 f (d + 1) (N + 1) [] hs (.inr rfl) ho.2.2 hd.2 (by omega) (by omega) (fun _ => ⟨ho.2.1, by simp⟩) hr
    cases k with
    | nil => exact absurd rfl ho.1
    | cons key t r =>
      rw [ShF] at hs
      obtain ⟨no, c2, a, b2, _, rfl, _⟩ := hs
      rw [List.cons_append] at h1 ⊢
      refine ⟨⟨3, no, [], false, keysF (.cons key t r), kidsF (.cons key t r) (N + 1)⟩ :: ms, ?_, ?_⟩
      · rw [DC.blk_in (.inr rfl) (by omega) (by omega)]
        simp only
        rw [h1]
        rfl
      · rw [List.map_cons, h2, flatT]; rfl
theorem itm_flat : ∀ (r : Fo) (k : Int) {c : Int} {l : List Pc} (f d N : Nat) (has : List B) {rest : List Pc}, ShF r k c l → (k = 1 ∨ k = 2) → okF r → depF r d → N + sizeF r ≤ 2000 → 2 * (l ++ rest).length + 1 ≤ f → (k = 2 → (keysF r).Nodup ∧ ∀ x ∈ keysF r, x ∉ has) → Out c rest →
    ∃ ms, itm f k c d N has (l ++ rest) = .ok (if k = 2 then keysF r else [], kidsF r N, ms, rest) ∧ ms.map z = flatF r N
  | .nil, k, c, l, f, d, N, has, rest, hs, hk, ho, hd, hN, hf, hh, hr => by
    rw [ShF] at hs
    subst hs
    obtain ⟨f, rfl⟩ : ∃ g, f = g + 1 := ⟨f - 1, by omega⟩
    refine ⟨[], ?_, rfl⟩
    rw [List.nil_append, DC.itm_end hr.comes]
    simp [keysF, kidsF]
  | .cons key t r, k, c, l, f, d, N, has, rest, hs, hk, ho, hd, hN, hf, hh, hr => by
    rw [ShF] at hs
    obtain ⟨no, c', a, b, hc, rfl, ha, hb⟩ := hs
    rw [okF] at ho
    rw [depF] at hd
    rw [sizeF] at hN
    obtain ⟨f, rfl⟩ : ∃ g, f = g + 1 := ⟨f - 1, by omega⟩
    simp only [List.length_append, List.length_cons] at hf
    obtain ⟨ms, h1, h2⟩ := blk_flat t f d N ha ho.1 hd.1 (by omega) (by simp only [List.length_append]; omega) (shF_out hb hc hr)
    obtain ⟨ns, h3, h4⟩ := itm_flat r k f d (N + sizeT t) (if k = 2 then has ++ [key] else has) hb hk ho.2 hd.2 (by omega) (by simp only [List.length_append]; omega) (fun e => by
      obtain ⟨n1, n2⟩ := hh e
      rw [keysF, List.nodup_cons] at n1
      refine ⟨n1.2, fun x hx => ?_⟩
      rw [if_pos e, List.mem_append, List.mem_singleton]
      rintro (h | h)
      · exact n2 x (by rw [keysF]; exact List.mem_cons_of_mem _ hx) h
      · exact n1.1 (h ▸ hx)) hr
    obtain ⟨q, m, hq, hqc, _⟩ := shT_head t ho.1 ha
    have hu : DC.und f no c d N ((a ++ b) ++ rest) = .ok (ms, b ++ rest) := by
      unfold DC.und
      rw [if_neg, List.append_assoc, h1]
      rw [hq]
      simp only [List.cons_append, DC.low, decide_eq_true_eq]
      omega
    have hl : ms.length = sizeT t := by rw [← flatT_len t N, ← h2, List.length_map]
    refine ⟨ms ++ ns, ?_, ?_⟩
    · rw [List.cons_append, DC.itm_go (p := (k, no, c, key, false)) (by simp [DC.comes]) (fun h => (hh h.1).2 key (by rw [keysF]; simp) h.2) hu, hl]
      simp only
      rw [h3]
      rcases hk with rfl | rfl
      · simp [DC.plus, DC.Out.bind, kidsF]
      · simp [DC.plus, DC.Out.bind, kidsF, keysF]
    · rw [List.map_append, h2, h4, flatF]
end
theorem doc_flat (t : Tr) {c : Int} {l : List Pc} (hs : ShT t c l) (ho : okT t) (hd : depT t 1) (hN : sizeT t ≤ 2000) : ∃ ms, DC.doc l = .ok ms ∧ ms.map z = flatT t 0 := by
  obtain ⟨q, m, hq, _⟩ := shT_head t ho hs
  obtain ⟨ms, h1, h2⟩ := blk_flat t (DC.fuel l) 1 0 (rest := []) hs ho hd (by omega) (by rw [List.append_nil]; unfold DC.fuel; omega) (by intro q m e; cases e)
  rw [List.append_nil] at h1
  refine ⟨ms, ?_, h2⟩
  unfold DC.doc
  rw [if_neg (by rw [hq]; simp), h1]
  rfl
end SH
end Go.Proofs.YtgfhabofhefaaaaGreatDoor
