/- Plain facts on numerals: how a text is read as a number from 0 to 2^62, and that just a number's own digits are; no program. -/
import Derived.Lib.ItoaNum
import Derived.Lib.Strings
import Derived.Test.YtbinhlnekhglkaaDoorNumMath
namespace Go.Proofs.YtbinhlnekhglkaaDoor.M
open Go.Lib

/-- Reading on, n read so far. -/
def pgo : Int → List UInt8 → Option Int
  | n, [] => some n
  | n, c :: r => if 48 ≤ c.toNat ∧ c.toNat ≤ 57 then (if (top - ((c.toNat : Int) - 48)) / 10 < n then none else pgo (n * 10 + ((c.toNat : Int) - 48)) r) else none
def parse (l : List UInt8) : Option Int := if l = [] ∨ (1 < l.length ∧ l.head? = some 48) then none else pgo 0 l
def pN (l : List UInt8) : Int := (parse l).getD 0
def pB (l : List UInt8) : Bool := (parse l).isSome

theorem pgo_none_sign {n : Int} {c : UInt8} {r : List UInt8} (h : ¬ (48 ≤ c.toNat ∧ c.toNat ≤ 57)) : pgo n (c :: r) = none := by simp only [pgo]; rw [if_neg h]
theorem pgo_none_big {n : Int} {c : UInt8} {r : List UInt8} (h : (4611686018427387904 - ((c.toNat : Int) - 48)) / 10 < n) : pgo n (c :: r) = none := by
  by_cases hc : 48 ≤ c.toNat ∧ c.toNat ≤ 57
  · simp only [pgo]; unfold top; rw [if_pos hc, if_pos h]
  · exact pgo_none_sign hc
theorem pgo_step {n : Int} {c : UInt8} {r : List UInt8} (h : 48 ≤ c.toNat ∧ c.toNat ≤ 57) (h2 : ¬ (4611686018427387904 - ((c.toNat : Int) - 48)) / 10 < n) : pgo n (c :: r) = pgo (n * 10 + ((c.toNat : Int) - 48)) r := by
  simp only [pgo]; unfold top; rw [if_pos h, if_neg h2]

theorem parse_empty : parse [] = none := by simp [parse]
theorem parse_nought {l : List UInt8} (h : 1 < l.length) (h2 : l.head? = some 48) : parse l = none := by unfold parse; rw [if_pos (.inr ⟨h, h2⟩)]
theorem parse_go {l : List UInt8} (h : l ≠ []) (h2 : ¬ (1 < l.length ∧ l.head? = some 48)) : parse l = pgo 0 l := by
  unfold parse; rw [if_neg (by intro h3; rcases h3 with h3 | h3; exact h h3; exact h2 h3)]

theorem drop_at (s : ByteArray) (k : Nat) (h : k < s.size) : s.data.toList.drop k = s[k] :: s.data.toList.drop (k + 1) := by
  rw [List.drop_eq_getElem_cons (by simpa using h)]; rfl
theorem drop_end (s : ByteArray) (k : Nat) (h : ¬ k < s.size) : s.data.toList.drop k = [] := by
  apply List.drop_eq_nil_of_le
  have := Lib.size_eq s
  omega

/-- What is read has the digits that were read, in front those of what was there. -/
theorem pgo_digits : ∀ (l : List UInt8) (n m : Int), 0 < n → pgo n l = some m → 0 < m ∧ decDigits m.toNat = decDigits n.toNat ++ l
  | [], n, m, h0, h => by simp only [pgo, Option.some.injEq] at h; subst h; simp [h0]
  | c :: r, n, m, h0, h => by
    by_cases hc : 48 ≤ c.toNat ∧ c.toNat ≤ 57
    · by_cases hb : (4611686018427387904 - ((c.toNat : Int) - 48)) / 10 < n
      · rw [pgo_none_big hb] at h; cases h
      · rw [pgo_step hc hb] at h
        obtain ⟨h1, h2⟩ := pgo_digits r _ m (by omega) h
        refine ⟨h1, ?_⟩
        rw [h2]
        obtain ⟨k, rfl⟩ := Int.eq_ofNat_of_zero_le (Int.le_of_lt h0)
        have e1 : ((k : Int) * 10 + ((c.toNat : Int) - 48)).toNat = k * 10 + (c.toNat - 48) := by omega
        rw [e1]
        have e2 : decDigits (k * 10 + (c.toNat - 48)) = decDigits k ++ [c] := by
          conv => lhs; unfold decDigits
          rw [dif_neg (by omega)]
          have e3 : (k * 10 + (c.toNat - 48)) / 10 = k := by omega
          have e4 : (k * 10 + (c.toNat - 48)) % 10 = c.toNat - 48 := by omega
          rw [e3, e4]
          have e5 : 48 + (c.toNat - 48) = c.toNat := by omega
          rw [e5]
          simp
        rw [e2]
        simp
    · rw [pgo_none_sign hc] at h; cases h
theorem pgo_bound : ∀ (l : List UInt8) (n m : Int), 0 ≤ n → n ≤ 4611686018427387904 → pgo n l = some m → 0 ≤ m ∧ m ≤ 4611686018427387904
  | [], n, m, h0, h1, h => by simp only [pgo, Option.some.injEq] at h; subst h; exact ⟨h0, h1⟩
  | c :: r, n, m, h0, h1, h => by
    by_cases hc : 48 ≤ c.toNat ∧ c.toNat ≤ 57
    · by_cases hb : (4611686018427387904 - ((c.toNat : Int) - 48)) / 10 < n
      · rw [pgo_none_big hb] at h; cases h
      · rw [pgo_step hc hb] at h
        exact pgo_bound r _ m (by omega) (by omega) h
    · rw [pgo_none_sign hc] at h; cases h
theorem parse_bound {l : List UInt8} {m : Int} (h : parse l = some m) : 0 ≤ m ∧ m ≤ 4611686018427387904 := by
  unfold parse at h
  split at h
  · cases h
  · exact pgo_bound l 0 m (by omega) (by omega) h
/-- What is read as a number is that number's digits. -/
theorem parse_digits {l : List UInt8} {m : Int} (h : parse l = some m) : decDigits m.toNat = l := by
  unfold parse at h
  split at h
  · cases h
  · rename_i hn
    match l, hn, h with
    | [], hn, _ => exact absurd (.inl rfl) hn
    | c :: r, hn, h =>
      by_cases hc : 48 ≤ c.toNat ∧ c.toNat ≤ 57
      · by_cases hb : (4611686018427387904 - ((c.toNat : Int) - 48)) / 10 < 0
        · rw [pgo_none_big hb] at h; cases h
        · rw [pgo_step hc hb] at h
          have e0 : (0 : Int) * 10 + ((c.toNat : Int) - 48) = ((c.toNat - 48 : Nat) : Int) := by omega
          rw [e0] at h
          have ed : decDigits (c.toNat - 48) = [c] := by
            rw [decDigits_one (by omega), show 48 + (c.toNat - 48) = c.toNat by omega]; simp
          cases r with
          | nil =>
            simp only [pgo, Option.some.injEq] at h; subst h
            rw [Int.toNat_natCast, ed]
          | cons d r =>
            have h48 : c ≠ 48 := by
              rintro rfl
              exact hn (.inr ⟨by simp, rfl⟩)
            have hpos : 0 < c.toNat - 48 := by
              have : c.toNat ≠ 48 := fun e => h48 (UInt8.toNat_inj.1 (by rw [e]; rfl))
              omega
            have := (pgo_digits (d :: r) _ m (by omega) h).2
            rw [this, Int.toNat_natCast, ed]; rfl
      · rw [pgo_none_sign hc] at h; cases h
theorem parse_len {l : List UInt8} {m : Int} (h : parse l = some m) : l.length ≤ 19 := by
  have hb := parse_bound h
  rw [← parse_digits h, decDigits_length]
  have hlt : m.toNat < 10 ^ 19 := by have : (10 : Nat) ^ 19 = 10000000000000000000 := by decide
                                     omega
  apply Nat.le_of_not_lt
  intro hc
  have : ∀ k u, k < nDigits u → 10 ^ k ≤ u ∨ k = 0 := by
    intro k
    induction k with
    | zero => intro u _; exact .inr rfl
    | succ k ih =>
      intro u hu
      left
      by_cases h10 : u < 10
      · rw [nDigits_small h10] at hu; omega
      · rw [nDigits_big h10] at hu
        rcases ih (u / 10) (by omega) with h3 | h3
        · rw [Nat.pow_succ]; omega
        · subst h3; simp; omega
  rcases this 19 m.toNat hc with h3 | h3 <;> omega

theorem pgo_snoc : ∀ (l : List UInt8) (n : Int) (c : UInt8), pgo n (l ++ [c]) = (pgo n l).bind fun m => pgo m [c]
  | [], n, c => by simp [pgo]
  | d :: l, n, c => by
    simp only [List.cons_append, pgo]
    split
    · split
      · rfl
      · exact pgo_snoc l _ c
    · rfl
theorem pgo_decDigits : ∀ u : Nat, (u : Int) ≤ 4611686018427387904 → pgo 0 (decDigits u) = some (u : Int) := by
  intro u
  induction u using Nat.strongRecOn with
  | _ u ih =>
    intro hu
    unfold decDigits
    split
    · rename_i h
      have e : (UInt8.ofNat (48 + u)).toNat = 48 + u := by simp; omega
      rw [pgo_step (by rw [e]; omega) (by rw [e]; omega), e]
      simp only [pgo]
      congr 1; omega
    · rename_i h
      have e : (UInt8.ofNat (48 + u % 10)).toNat = 48 + u % 10 := by simp; omega
      rw [pgo_snoc, ih (u / 10) (by omega) (by omega)]
      show pgo _ _ = _
      rw [pgo_step (by rw [e]; omega) (by rw [e]; omega), e]
      simp only [pgo]
      congr 1; omega
theorem decDigits_head : ∀ u : Nat, u ≠ 0 → ∃ c r, decDigits u = c :: r ∧ c ≠ 48 := by
  intro u
  induction u using Nat.strongRecOn with
  | _ u ih =>
    intro hu
    unfold decDigits
    split
    · refine ⟨_, [], rfl, ?_⟩
      intro e
      have := congrArg UInt8.toNat e
      simp at this; omega
    · obtain ⟨c, r, e, hc⟩ := ih (u / 10) (by omega) (by omega)
      rw [e]
      exact ⟨c, _, rfl, hc⟩
theorem parse_decDigits (u : Nat) (hu : (u : Int) ≤ 4611686018427387904) : parse (decDigits u) = some (u : Int) := by
  have hne : decDigits u ≠ [] := by
    intro e
    have := congrArg List.length e
    rw [decDigits_length] at this
    have := nDigits_pos u
    simp at *; omega
  rw [parse_go hne, pgo_decDigits u hu]
  by_cases h0 : u = 0
  · subst h0
    rw [decDigits_one (by omega)]; simp
  · obtain ⟨c, r, e, hc⟩ := decDigits_head u h0
    rw [e]
    rintro ⟨_, h2⟩
    simp at h2
    exact hc h2
end Go.Proofs.YtbinhlnekhglkaaDoor.M
