/- Several texts in one. -/
import Derived.Lib.TrimByte
import Derived.Lib.IndexMore
namespace Go.Proofs.YtmgalfdiiegjjaaDoor
namespace LX
open Go

abbrev B := List UInt8
/-- A piece: its kind, line, column, text, and whether it is quoted. -/
abbrev Pc := Int × Int × Int × B × Bool
/-- A line: its number, its indent, its text. -/
abbrev Lz := Int × Int × B

def sgn (c : UInt8) : Bool := decide (97 ≤ c.toNat ∧ c.toNat ≤ 122) || decide (65 ≤ c.toNat ∧ c.toNat ≤ 90) || decide (48 ≤ c.toNat ∧ c.toNat ≤ 57) || decide (c.toNat = 95) || decide (c.toNat = 45) || decide (c.toNat = 46)
def tl (l : B) : B := Lib.trimLeftB l 32
theorem tl_len (l : B) : (tl l).length ≤ l.length := (List.dropWhile_sublist _).length_le
def dash : B → Bool
  | [] => false
  | [c] => c == 45
  | c :: d :: _ => c == 45 && d == 32
theorem dash_len {l : B} (h : dash l = true) : 1 ≤ l.length := by
  cases l with
  | nil => cases h
  | cons => simp
/-- How many bytes of a kind stand at the front. -/
def runp (p : UInt8 → Bool) : B → Nat
  | [] => 0
  | c :: t => if p c then runp p t + 1 else 0
theorem runp_le (p : UInt8 → Bool) : ∀ l : B, runp p l ≤ l.length
  | [] => Nat.le_refl 0
  | c :: t => by
    unfold runp
    have := runp_le p t
    split
    · simp; omega
    · simp
theorem runp_at {p : UInt8 → Bool} : ∀ {l : B} {k : Nat}, k < runp p l → ∃ c, l[k]? = some c ∧ p c = true
  | [], k, h => by simp [runp] at h
  | c :: t, 0, h => by
    unfold runp at h
    split at h
    · rename_i hs; exact ⟨c, rfl, hs⟩
    · omega
  | c :: t, k + 1, h => by
    unfold runp at h
    split at h
    · have := runp_at (p := p) (l := t) (k := k) (by omega)
      simpa using this
    · omega
theorem runp_end {p : UInt8 → Bool} : ∀ {l : B} {c : UInt8}, l[runp p l]? = some c → p c = false
  | [], c, h => by simp [runp] at h
  | d :: t, c, h => by
    unfold runp at h
    split at h
    · exact runp_end (l := t) (by simpa using h)
    · rename_i hs
      have : d = c := by simpa using h
      subst this
      simpa using hs
/-- Where a run ends that has gone k far. -/
theorem runp_stop {p : UInt8 → Bool} {l : B} {k : Nat} (hk : k ≤ runp p l) (h : ∀ c, l[k]? = some c → p c = false) : runp p l = k := by
  rcases Nat.lt_or_ge k (runp p l) with h1 | h1
  · obtain ⟨c, hc, hs⟩ := runp_at h1
    rw [h c hc] at hs; cases hs
  · omega
theorem runp_more {p : UInt8 → Bool} {l : B} {k : Nat} {c : UInt8} (hk : k ≤ runp p l) (hc : l[k]? = some c) (hs : p c = true) : k + 1 ≤ runp p l := by
  rcases Nat.lt_or_ge k (runp p l) with h1 | h1
  · exact h1
  · obtain rfl : k = runp p l := by omega
    rw [runp_end hc] at hs; cases hs
/-- How many keys' signs, how many blanks stand at the front. -/
def run (l : B) : Nat := runp sgn l
def bn (l : B) : Nat := runp (· == 32) l
theorem tl_drop : ∀ l : B, tl l = l.drop (bn l)
  | [] => rfl
  | c :: t => by
    unfold tl Lib.trimLeftB bn runp
    by_cases h : (c == 32) = true
    · rw [List.dropWhile_cons_of_pos (p := fun x => x == 32) h, if_pos h, List.drop_succ_cons]
      exact tl_drop t
    · rw [List.dropWhile_cons_of_neg (p := fun x => x == 32) h, if_neg h, List.drop_zero]
/-- What stands behind a key. -/
def kend : B → Bool
  | [c] => c == 58
  | c :: d :: _ => c == 58 && d == 32
  | [] => false
def key (l : B) : Nat := if kend (l.drop (run l)) then run l else 0
theorem key_lt {l : B} (h : 0 < key l) : key l < l.length := by
  unfold key at h ⊢
  split
  · rename_i hk
    rcases Nat.lt_or_ge (run l) l.length with h1 | h1
    · exact h1
    · rw [List.drop_eq_nil_of_le h1] at hk; cases hk
  · rename_i hk; rw [if_neg hk] at h; omega
def hx (c : UInt8) : Option Nat := if 48 ≤ c.toNat ∧ c.toNat ≤ 57 then some (c.toNat - 48) else if 97 ≤ c.toNat ∧ c.toNat ≤ 102 then some (c.toNat - 87) else none
/-- What stands behind a single quote that opened. -/
def sq : B → Option B
  | [] => none
  | c :: t =>
    if c = 39 then
      match t with
      | [] => some []
      | d :: u => if d = 39 then (sq u).map (39 :: ·) else none
    else (sq t).map (c :: ·)
/-- What stands behind a backslash: a byte, and how many bytes that takes. -/
def esc : B → Option (UInt8 × Nat)
  | [] => none
  | d :: u =>
    if d = 92 ∨ d = 34 then some (d, 1)
    else if d = 110 then some (10, 1)
    else if d = 116 then some (9, 1)
    else if d = 120 then
      match u with
      | a :: b :: _ => match hx a, hx b with
        | some x, some y => some (UInt8.ofNat (16 * x + y), 3)
        | _, _ => none
      | _ => none
    else none
theorem esc_len {l : B} {c : UInt8} {n : Nat} (h : esc l = some (c, n)) : 1 ≤ n ∧ n ≤ l.length ∧ n ≤ 3 := by
  cases l with
  | nil => cases h
  | cons d u =>
    rw [esc.eq_def] at h
    simp only at h
    by_cases h1 : d = 92 ∨ d = 34
    · rw [if_pos h1] at h; cases h; simp
    · rw [if_neg h1] at h
      by_cases h2 : d = 110
      · rw [if_pos h2] at h; cases h; simp
      · rw [if_neg h2] at h
        by_cases h3 : d = 116
        · rw [if_pos h3] at h; cases h; simp
        · rw [if_neg h3] at h
          by_cases h4 : d = 120
          · rw [if_pos h4] at h
            match u, h with
            | a :: b :: v, h =>
              cases ha : hx a with
              | none => simp [ha] at h
              | some x =>
                cases hb : hx b with
                | none => simp [ha, hb] at h
                | some y =>
                  simp [ha, hb] at h
                  obtain ⟨_, rfl⟩ := h
                  simp
            | [_], h => cases h
            | [], h => cases h
          · rw [if_neg h4] at h; cases h
/-- What stands behind a double quote that opened. The number: no less than its length. -/
def dqf : Nat → B → Option B
  | 0, _ => none
  | _ + 1, [] => none
  | n + 1, c :: t =>
    if c = 34 then (if t = [] then some [] else none)
    else if c = 92 then
      match esc t with
      | none => none
      | some (d, k) => (dqf n (t.drop k)).map (d :: ·)
    else (dqf n t).map (c :: ·)
theorem dqf_more : ∀ {n m : Nat} {l : B}, l.length ≤ n → l.length ≤ m → dqf n l = dqf m l
  | 0, 0, _, _, _ => rfl
  | 0, m + 1, l, h, _ => by
    obtain rfl : l = [] := List.length_eq_zero_iff.1 (by omega)
    rfl
  | n + 1, 0, l, _, h => by
    obtain rfl : l = [] := List.length_eq_zero_iff.1 (by omega)
    rfl
  | n + 1, m + 1, [], _, _ => rfl
  | n + 1, m + 1, c :: t, h1, h2 => by
    simp only [List.length_cons] at h1 h2
    unfold dqf
    rw [dqf_more (n := n) (m := m) (l := t) (by omega) (by omega)]
    have hd : ∀ k, dqf n (t.drop k) = dqf m (t.drop k) := fun k => dqf_more (by rw [List.length_drop]; omega) (by rw [List.length_drop]; omega)
    simp only [hd]
def dq (l : B) : Option B := dqf l.length l
theorem dq_nil : dq [] = none := rfl
theorem dq_end {t : B} : dq (34 :: t) = if t = [] then some [] else none := by simp [dq, dqf]
theorem dq_esc {t : B} : dq (92 :: t) = match esc t with | none => none | some (d, k) => (dq (t.drop k)).map (d :: ·) := by
  unfold dq
  simp only [List.length_cons]
  rw [dqf, if_neg (by decide), if_pos rfl]
  have hd : ∀ k, dqf t.length (t.drop k) = dqf (t.drop k).length (t.drop k) := fun k => dqf_more (by rw [List.length_drop]; omega) (Nat.le_refl _)
  simp only [hd]
theorem dq_pass {c : UInt8} {t : B} (h1 : c ≠ 34) (h2 : c ≠ 92) : dq (c :: t) = (dq t).map (c :: ·) := by
  unfold dq
  simp only [List.length_cons]
  rw [dqf, if_neg h1, if_neg h2]
theorem sq_end : sq [39] = some [] := by simp [sq]
theorem sq_two {t : B} : sq (39 :: 39 :: t) = (sq t).map (39 :: ·) := by
  rw [sq.eq_def]; simp
theorem sq_bad {d : UInt8} {t : B} (h : d ≠ 39) : sq (39 :: d :: t) = none := by
  rw [sq.eq_def]; simp [h]
theorem sq_pass {c : UInt8} {t : B} (h : c ≠ 39) : sq (c :: t) = (sq t).map (c :: ·) := by
  rw [sq.eq_def]; simp [h]

def bars : B := [91, 93, 123, 125, 38, 42, 33, 124, 62, 37, 64, 44, 63, 96]
def odd (c : UInt8) : Bool := bars.contains c
/-- The fault's kind, or 0 and what the text says and whether it is quoted. -/
abbrev T := Int × B × Bool
def lng (x : B) (q : Bool) : T := if 200 < x.length then (4, [], false) else (0, x, q)
def txt : B → T
  | [] => (4, [], false)
  | c :: t =>
    if c = 39 then (match sq t with | none => (3, [], false) | some x => lng x true)
    else if c = 34 then (match dq t with | none => (3, [], false) | some x => lng x true)
    else if odd c || dash (c :: t) || decide (0 < key (c :: t)) then (4, [], false)
    else lng (c :: t) false
/-- The fault's kind, or 0 and the pieces. -/
abbrev R := Int × List Pc
def fin (no col : Int) (acc : List Pc) (l : B) : R :=
  if l = [] then (0, acc)
  else if (txt l).1 = 0 then (0, acc ++ [(3, no, col - l.length, (txt l).2.1, (txt l).2.2)]) else ((txt l).1, [])
def mid (no col : Int) (acc : List Pc) (l : B) : R :=
  if key l = 0 then fin no col acc l
  else if 64 < key l then (5, [])
  else fin no col (acc ++ [(2, no, col - l.length, l.take (key l), false)]) (tl (l.drop (key l + 1)))
def go (no col : Int) : Nat → List Pc → B → R
  | 0, acc, l => mid no col acc l
  | n + 1, acc, l => if dash l then go no col n (acc ++ [(1, no, col - l.length, [], false)]) (tl (l.drop 1)) else mid no col acc l
def row (l : Lz) : R :=
  if l.2.1 < 0 ∨ 16384 < l.2.1 then (6, [])
  else go l.1 (l.2.1 + l.2.2.length) (tl l.2.2).length [] (tl l.2.2)
theorem go_dash {no col : Int} {n : Nat} {acc : List Pc} {l : B} (h : dash l = true) : go no col (n + 1) acc l = go no col n (acc ++ [(1, no, col - l.length, [], false)]) (tl (l.drop 1)) := by
  rw [go, if_pos h]
theorem go_mid {no col : Int} {n : Nat} {acc : List Pc} {l : B} (h : dash l = false) : go no col n acc l = mid no col acc l := by
  cases n with
  | zero => rfl
  | succ n => rw [go, if_neg (by rw [h]; simp)]
/-- The pieces of lines. -/
def all : List Lz → R × Int
  | [] => ((0, []), 0)
  | l :: ls => if (row l).1 = 0 then (((all ls).1.1, if (all ls).1.1 = 0 then (row l).2 ++ (all ls).1.2 else []), (all ls).2) else (((row l).1, []), l.1)
end LX
end Go.Proofs.YtmgalfdiiegjjaaDoor

/- Descriptors over lists: what may be. No program is named here. -/
namespace Go.Proofs.YtmgalfdiiegjjaaDoor
namespace D

/-- 1 to 64 bytes, all to be seen. -/
def vis (c : UInt8) : Bool := decide (33 ≤ c.toNat ∧ c.toNat ≤ 126)
def nm (l : List UInt8) : Bool := decide (1 ≤ l.length) && decide (l.length ≤ 64) && l.all vis

abbrev E := List UInt8 × List UInt8
def okE (e : E) : Bool := nm e.1 && decide (e.2.length ≤ 128)
def chk (es : List E) : Bool := decide (1 ≤ es.length) && decide (es.length ≤ 8) && es.all okE
theorem chk_ne {es : List E} (h : chk es = true) : es ≠ [] := by
  rintro rfl; revert h; decide
theorem chk_len {es : List E} (h : chk es = true) : 1 ≤ es.length ∧ es.length ≤ 8 := by
  unfold chk at h
  simp only [Bool.and_eq_true, decide_eq_true_eq] at h
  exact h.1
end D
end Go.Proofs.YtmgalfdiiegjjaaDoor
