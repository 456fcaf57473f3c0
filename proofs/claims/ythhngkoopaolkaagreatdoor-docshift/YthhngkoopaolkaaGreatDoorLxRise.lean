/- The pieces of a line stand one behind the other. No program is named here. -/
import Derived.Test.YthhngkoopaolkaaGreatDoorLxMath
namespace Go.Proofs.YthhngkoopaolkaaGreatDoor
namespace LX
open Go

/-- One behind the other: of the line's number, not ahead of its indent, rising. -/
def Rise (no ind : Int) (ls : List Pc) : Prop :=
  ∀ i x, ls[i]? = some x → x.2.1 = no ∧ ind ≤ x.2.2.1 ∧ ∀ j y, i = j + 1 → ls[j]? = some y → y.2.2.1 < x.2.2.1 ∧ y.1 ≤ x.1 ∧ (x.1 = 1 ∨ x.1 ≠ y.1)
theorem Rise.nil (no ind : Int) : Rise no ind [] := by intro i x h; simp at h
/-- All that is there stands ahead of p, and is of no kind beyond k. -/
def Upto (p k : Int) (ls : List Pc) : Prop := ∀ x ∈ ls, x.2.2.1 < p ∧ x.1 ≤ k
theorem Upto.nil (p k : Int) : Upto p k [] := by intro x h; cases h
theorem Upto.more {p p' k k' : Int} {ls : List Pc} (h : Upto p k ls) (h1 : p ≤ p') (h2 : k ≤ k') : Upto p' k' ls := fun x hx => ⟨Int.lt_of_lt_of_le (h x hx).1 h1, Int.le_trans (h x hx).2 h2⟩
theorem Rise.app {no ind p k K : Int} {ls : List Pc} {t : B} {q : Bool} (h : Rise no ind ls) (hu : Upto p k ls) (hp : ind ≤ p) (hk : k < K ∨ (k ≤ K ∧ K = 1)) : Rise no ind (ls ++ [(K, no, p, t, q)]) := by
  intro i x hx
  rcases Nat.lt_or_ge i ls.length with hi | hi
  · rw [List.getElem?_append_left hi] at hx
    obtain ⟨a, b, c⟩ := h i x hx
    refine ⟨a, b, fun j y hj hy => c j y hj ?_⟩
    rw [List.getElem?_append_left (by omega)] at hy
    exact hy
  · obtain rfl : i = ls.length := by
      have := (List.getElem?_eq_some_iff.1 hx).1
      simp at this
      omega
    obtain rfl : (K, no, p, t, q) = x := by simpa using hx
    refine ⟨rfl, hp, fun j y hj hy => ?_⟩
    rw [List.getElem?_append_left (by omega)] at hy
    obtain ⟨a, b⟩ := hu y (List.mem_of_getElem? hy)
    refine ⟨a, ?_, ?_⟩
    · show y.1 ≤ K; omega
    · show K = 1 ∨ K ≠ y.1; omega
theorem Upto.app {no p p' k K : Int} {ls : List Pc} {t : B} {q : Bool} (hu : Upto p k ls) (hp : p < p') (hk : k ≤ K) : Upto p' K (ls ++ [(K, no, p, t, q)]) := by
  intro x hx
  rcases List.mem_append.1 hx with hx | hx
  · obtain ⟨a, b⟩ := hu x hx
    exact ⟨by omega, by omega⟩
  · obtain rfl : x = (K, no, p, t, q) := by simpa using hx
    exact ⟨hp, Int.le_refl _⟩
theorem fin_rise {no ind col : Int} {acc : List Pc} {l : B} (h : Rise no ind acc) (hu : Upto (col - l.length) 2 acc) (hp : ind + l.length ≤ col) : Rise no ind (fin no col acc l).2 := by
  unfold fin
  split
  · exact h
  · split
    · exact h.app hu (by omega) (.inl (by decide))
    · exact Rise.nil _ _
theorem mid_rise {no ind col : Int} {acc : List Pc} {l : B} (h : Rise no ind acc) (hu : Upto (col - l.length) 1 acc) (hp : ind + l.length ≤ col) : Rise no ind (mid no col acc l).2 := by
  unfold mid
  split
  · exact fin_rise h (hu.more (Int.le_refl _) (by decide)) hp
  · rename_i hk
    split
    · exact Rise.nil _ _
    · have hlt := key_lt (l := l) (by omega)
      have h1 := tl_len (l.drop (key l + 1))
      rw [List.length_drop] at h1
      exact fin_rise (h.app hu (by omega) (.inl (by decide))) (hu.app (by omega) (by decide)) (by omega)
theorem go_rise {no ind col : Int} : ∀ {n : Nat} {acc : List Pc} {l : B}, Rise no ind acc → Upto (col - l.length) 1 acc → ind + l.length ≤ col → Rise no ind (go no col n acc l).2
  | 0, _, _, h, hu, hp => mid_rise h hu hp
  | n + 1, acc, l, h, hu, hp => by
    rw [go]
    split
    · rename_i hd
      have h0 := dash_len hd
      have h1 := tl_len (l.drop 1)
      rw [List.length_drop] at h1
      exact go_rise (h.app hu (by omega) (.inr ⟨by decide, rfl⟩)) (hu.app (by omega) (by decide)) (by omega)
    · exact mid_rise h hu hp
theorem row_rise (l : Lz) : Rise l.1 l.2.1 (row l).2 := by
  unfold row
  split
  · exact Rise.nil _ _
  · have h1 := tl_len l.2.2
    exact go_rise (Rise.nil _ _) (Upto.nil _ _) (by omega)
theorem fin_len {no col : Int} {acc : List Pc} {l : B} {N : Nat} (h : acc.length + l.length ≤ N) : (fin no col acc l).2.length ≤ N := by
  unfold fin
  split
  · show acc.length ≤ N; omega
  · rename_i hne
    have : 1 ≤ l.length := by cases l with | nil => exact absurd rfl hne | cons => simp
    split
    · simp only [List.length_append, List.length_cons, List.length_nil]; omega
    · simp
theorem mid_len {no col : Int} {acc : List Pc} {l : B} {N : Nat} (h : acc.length + l.length ≤ N) : (mid no col acc l).2.length ≤ N := by
  unfold mid
  split
  · exact fin_len h
  · split
    · simp
    · have hlt := key_lt (l := l) (by omega)
      have h1 := tl_len (l.drop (key l + 1))
      rw [List.length_drop] at h1
      refine fin_len ?_
      simp only [List.length_append, List.length_cons, List.length_nil]
      omega
theorem go_len {no col : Int} : ∀ {n : Nat} {acc : List Pc} {l : B} {N : Nat}, acc.length + l.length ≤ N → (go no col n acc l).2.length ≤ N
  | 0, _, _, _, h => mid_len h
  | n + 1, acc, l, N, h => by
    rw [go]
    split
    · rename_i hd
      have h0 := dash_len hd
      have h1 := tl_len (l.drop 1)
      rw [List.length_drop] at h1
      refine go_len ?_
      simp only [List.length_append, List.length_cons, List.length_nil]
      omega
    · exact mid_len h
theorem row_len (l : Lz) : (row l).2.length ≤ l.2.2.length := by
  unfold row
  split
  · simp
  · have h1 := tl_len l.2.2
    refine go_len ?_
    simp only [List.length_nil]
    omega
/-- Pieces put ahead of what is told. -/
def plus (acc : List Pc) (r : R × Int) : R × Int := ((r.1.1, if r.1.1 = 0 then acc ++ r.1.2 else []), r.2)
theorem all_ok {l : Lz} {ls : List Lz} {P : List Pc} (h : row l = (0, P)) : all (l :: ls) = plus P (all ls) := by
  rw [all, h, if_pos rfl]; rfl
theorem all_no {l : Lz} {ls : List Lz} {k : Int} {P : List Pc} (h : row l = (k, P)) (hk : k ≠ 0) : all (l :: ls) = ((k, []), l.1) := by
  rw [all, h, if_neg hk]
theorem plus_plus (a b : List Pc) (r : R × Int) : plus a (plus b r) = plus (a ++ b) r := by
  unfold plus
  by_cases h : r.1.1 = 0
  · simp only [h, if_true, List.append_assoc]
  · simp only [if_neg h]
theorem plus_end (a : List Pc) : plus a (all []) = ((0, a), 0) := by
  show ((0, if (0 : Int) = 0 then a ++ [] else []), 0) = _
  rw [if_pos rfl, List.append_nil]
theorem plus_no {a : List Pc} {k n : Int} (hk : k ≠ 0) : plus a ((k, []), n) = ((k, []), n) := by
  unfold plus
  simp only [if_neg hk]
theorem all_none : ∀ ls : List Lz, (all ls).1.1 ≠ 0 → (all ls).1.2 = []
  | [], h => absurd rfl h
  | l :: ls, h => by
    by_cases hk : (row l).1 = 0
    · rw [all_ok (P := (row l).2) (by rw [← hk])] at h ⊢
      show (if (all ls).1.1 = 0 then _ else _) = _
      exact if_neg h
    · rw [all_no (k := (row l).1) (P := (row l).2) rfl hk]
theorem plus_nil (ls : List Lz) : plus [] (all ls) = all ls := by
  have hn := all_none ls
  generalize all ls = r at hn ⊢
  obtain ⟨⟨k, P⟩, n⟩ := r
  unfold plus
  simp only at hn ⊢
  by_cases h : k = 0
  · rw [if_pos h, List.nil_append]
  · rw [if_neg h, hn h]
def wt (ls : List Lz) : Nat := (ls.map (·.2.2.length)).sum
theorem wt_cons (l : Lz) (ls : List Lz) : wt (l :: ls) = l.2.2.length + wt ls := rfl
end LX
end Go.Proofs.YthhngkoopaolkaaGreatDoor
