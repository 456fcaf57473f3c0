/- Plain facts on the texts of ratios: digits, noughts ahead, how a text is read and written; no program. -/
import Derived.Test.YtbinhlnekhglkaaDoorFltMath
import Derived.Test.YtbinhlnekhglkaaDoorDecMath
import Derived.Lib.Repeat
namespace Go.Proofs.YtbinhlnekhglkaaDoor.TX
open Go.Lib

def pad (n k : Nat) : List UInt8 := List.replicate (k - (decDigits n).length) 48 ++ decDigits n
def pnt (whole part places : Nat) : List UInt8 := if places = 0 then decDigits whole else decDigits whole ++ 46 :: pad part places
theorem pad_length {n k : Nat} (h : nDigits n ≤ k) : (pad n k).length = k := by
  unfold pad; rw [List.length_append, List.length_replicate, decDigits_length]; omega
theorem nDigits_lt {k u : Nat} (h : u < 10 ^ k) (hk : k ≠ 0) : nDigits u ≤ k := by
  induction k generalizing u with
  | zero => exact absurd rfl hk
  | succ k ih =>
    by_cases h10 : u < 10
    · rw [nDigits_small h10]; omega
    · rw [nDigits_big h10]
      rw [Nat.pow_succ] at h
      have : k ≠ 0 := by rintro rfl; omega
      have := ih (u := u / 10) (by omega) this
      omega
theorem nDigits_ge {k u : Nat} (h : 10 ^ k ≤ u) : k + 1 ≤ nDigits u := by
  induction k generalizing u with
  | zero => exact nDigits_pos u
  | succ k ih =>
    rw [Nat.pow_succ] at h
    have hp : 0 < 10 ^ k := Nat.pow_pos (by decide)
    rw [nDigits_big (by omega)]
    have := ih (u := u / 10) (by omega)
    omega

def isD (c : UInt8) : Bool := decide (48 ≤ c.toNat ∧ c.toNat ≤ 57)
def num (n : Nat) (l : List UInt8) : Nat := l.foldl (fun n c => n * 10 + (c.toNat - 48)) n
theorem num_nil (n : Nat) : num n [] = n := by unfold num; rw [List.foldl_nil]
theorem num_cons (n : Nat) (c : UInt8) (l : List UInt8) : num n (c :: l) = num (n * 10 + (c.toNat - 48)) l := by unfold num; rw [List.foldl_cons]
theorem num_append (a b : List UInt8) (n : Nat) : num n (a ++ b) = num (num n a) b := by unfold num; rw [List.foldl_append]
theorem num_digits (u : Nat) : ∀ n, num n (decDigits u) = n * 10 ^ nDigits u + u := by
  induction u using Nat.strongRecOn with
  | _ u ih =>
    intro n
    by_cases h : u < 10
    · rw [decDigits_one h, nDigits_small h]
      simp only [num_cons, num_nil]
      have : (UInt8.ofNat (48 + u)).toNat = 48 + u := by simp; omega
      rw [this]; omega
    · rw [decDigits, dif_neg h, num_append, ih (u / 10) (by omega), nDigits_big h]
      simp only [num_cons, num_nil]
      have : (UInt8.ofNat (48 + u % 10)).toNat = 48 + u % 10 := by simp; omega
      rw [this, Nat.pow_succ, Nat.add_mul, Nat.mul_assoc]; omega
theorem num_noughts : ∀ (j n : Nat), num n (List.replicate j 48) = n * 10 ^ j
  | 0, n => by simp [num_nil]
  | j + 1, n => by
    rw [List.replicate_succ]
    simp only [num_cons]
    rw [num_noughts j, Nat.pow_succ]
    have : (48 : UInt8).toNat = 48 := rfl
    rw [this, Nat.sub_self, Nat.add_zero, Nat.mul_assoc, Nat.mul_comm 10]
theorem num_pad {b k : Nat} (h : nDigits b ≤ k) (n : Nat) : num n (pad b k) = n * 10 ^ k + b := by
  unfold pad
  rw [num_append, num_noughts, num_digits, decDigits_length, Nat.mul_assoc, ← Nat.pow_add, Nat.sub_add_cancel h]
theorem digits_all (u : Nat) : ∀ c ∈ decDigits u, isD c = true := by
  induction u using Nat.strongRecOn with
  | _ u ih =>
    intro c hc
    by_cases h : u < 10
    · rw [decDigits_one h] at hc
      have e := List.mem_singleton.1 hc
      subst e
      have : (UInt8.ofNat (48 + u)).toNat = 48 + u := by simp; omega
      unfold isD; rw [this]; simp; omega
    · rw [decDigits, dif_neg h] at hc
      rcases List.mem_append.1 hc with hc | hc
      · exact ih _ (by omega) c hc
      · have e := List.mem_singleton.1 hc
        subst e
        have : (UInt8.ofNat (48 + u % 10)).toNat = 48 + u % 10 := by simp; omega
        unfold isD; rw [this]; simp; omega
theorem pad_all (n k : Nat) : ∀ c ∈ pad n k, isD c = true := by
  intro c hc
  unfold pad at hc
  rcases List.mem_append.1 hc with hc | hc
  · rw [List.eq_of_mem_replicate hc]; rfl
  · exact digits_all n c hc
theorem digits_ne (u : Nat) : decDigits u ≠ [] := by
  intro e
  have := congrArg List.length e
  rw [decDigits_length] at this
  have := nDigits_pos u
  simp at *; omega

/-- How many of the first f signs are digits ahead of one that is none. -/
def cnt : Nat → List UInt8 → Nat
  | 0, _ => 0
  | _ + 1, [] => 0
  | f + 1, c :: l => if isD c then cnt f l + 1 else 0
theorem cnt_le : ∀ (f : Nat) (l : List UInt8), cnt f l ≤ f ∧ cnt f l ≤ l.length
  | 0, _ => by simp [cnt]
  | _ + 1, [] => by simp [cnt]
  | f + 1, c :: l => by
    have := cnt_le f l
    simp only [cnt, List.length_cons]
    split <;> omega
theorem cnt_digits : ∀ (f : Nat) (l : List UInt8), ∀ c ∈ l.take (cnt f l), isD c = true
  | 0, _ => by simp [cnt]
  | _ + 1, [] => by simp [cnt]
  | f + 1, c :: l => by
    intro d hd
    simp only [cnt] at hd
    split at hd
    · rw [List.take_succ_cons] at hd
      rcases List.mem_cons.1 hd with rfl | hd
      · assumption
      · exact cnt_digits f l d hd
    · simp at hd
theorem cnt_end : ∀ (f : Nat) (l : List UInt8), cnt f l = f ∨ l.drop (cnt f l) = [] ∨ ∃ c r, l.drop (cnt f l) = c :: r ∧ isD c = false
  | 0, _ => .inl rfl
  | _ + 1, [] => by simp [cnt]
  | f + 1, c :: l => by
    simp only [cnt]
    split
    · rcases cnt_end f l with h | h | h
      · exact .inl (by omega)
      · exact .inr (.inl (by simpa using h))
      · exact .inr (.inr (by simpa using h))
    · rename_i h
      exact .inr (.inr ⟨c, l, rfl, by simpa using h⟩)

/-- A text's size without its sign: all its digits as one number, and how many stand behind the point. -/
def psz (l : List UInt8) : Option (Nat × Nat) :=
  if cnt 9 l = 0 ∨ (1 < cnt 9 l ∧ l.head? = some 48) then none else
  match l.drop (cnt 9 l) with
  | [] => some (num 0 (l.take (cnt 9 l)), 0)
  | c :: t => if c = 46 then (if cnt 6 t = 0 ∨ t.drop (cnt 6 t) ≠ [] then none else some (num (num 0 (l.take (cnt 9 l))) (t.take (cnt 6 t)), cnt 6 t)) else none

def areD (l : List UInt8) (m : Nat) : Bool := !l.isEmpty && decide (l.length ≤ m) && l.all isD
def nought (l : List UInt8) : Bool := decide (1 < l.length) && (l.head? == some 48)

theorem cnt_areD {l : List UInt8} {f : Nat} {r : List UInt8} (h : areD l f = true) (hr : r = [] ∨ ∃ c t, r = c :: t ∧ isD c = false) : cnt f (l ++ r) = l.length ∧ l.length ≠ 0 := by
  unfold areD at h
  simp only [Bool.and_eq_true, decide_eq_true_eq, List.all_eq_true] at h
  obtain ⟨⟨h1, h2⟩, h3⟩ := h
  refine ⟨?_, by
    intro e
    rw [List.eq_nil_of_length_eq_zero e] at h1
    simp at h1⟩
  clear h1
  induction l generalizing f with
  | nil =>
    rcases hr with rfl | ⟨c, t, rfl, hc⟩
    · cases f <;> rfl
    · cases f with
      | zero => rfl
      | succ f => simp [cnt, hc]
  | cons c l ih =>
    cases f with
    | zero => simp at h2
    | succ f =>
      rw [List.cons_append]
      simp only [cnt]
      rw [if_pos (h3 c (List.mem_cons_self ..)), ih (fun x hx => h3 x (List.mem_cons_of_mem _ hx)) (by simpa using h2)]
      rfl
theorem isD_point : isD 46 = false := by decide
/-- Without a point. -/
theorem psz_none {l : List UInt8} (hp : (46 : UInt8) ∉ l) : psz l = if areD l 9 && !nought l then some (num 0 l, 0) else none := by
  by_cases hd : areD l 9 = true
  · obtain ⟨h1, h2⟩ := cnt_areD (r := []) hd (.inl rfl)
    rw [List.append_nil] at h1
    unfold psz nought
    rw [h1, hd]
    by_cases hn : 1 < l.length ∧ l.head? = some 48
    · rw [if_pos (.inr hn)]; simp [hn.1, hn.2]
    · rw [if_neg (by intro h; rcases h with h | h; exact h2 h; exact hn h)]
      have : (true && !(decide (1 < l.length) && l.head? == some 48)) = true := by
        simp only [Bool.true_and, Bool.not_eq_true', Bool.and_eq_false_iff, decide_eq_false_iff_not, beq_eq_false_iff_ne]
        by_cases h3 : 1 < l.length
        · exact .inr fun h4 => hn ⟨h3, h4⟩
        · exact .inl h3
      rw [if_pos this]
      simp
  · have hd' : areD l 9 = false := by simpa using hd
    rw [hd', Bool.false_and]
    simp only [Bool.false_eq_true, if_false]
    unfold psz
    split
    · rfl
    · rename_i hn
      have hle := cnt_le 9 l
      have hdg := cnt_digits 9 l
      cases hdr : l.drop (cnt 9 l) with
      | nil =>
        exfalso
        have hlen : l.length ≤ cnt 9 l := by
          have := congrArg List.length hdr
          simpa [Nat.sub_eq_zero_iff_le] using this
        have : l.take (cnt 9 l) = l := List.take_of_length_le hlen
        rw [this] at hdg
        apply hd
        unfold areD
        simp only [Bool.and_eq_true, decide_eq_true_eq, List.all_eq_true]
        refine ⟨⟨?_, by omega⟩, hdg⟩
        cases l with
        | nil => simp [cnt] at hn
        | cons => rfl
      | cons c t =>
        have : c ∈ l := by
          have : c ∈ l.drop (cnt 9 l) := by rw [hdr]; exact List.mem_cons_self ..
          exact List.mem_of_mem_drop this
        have : c ≠ 46 := fun e => hp (e ▸ this)
        simp only [if_neg this]
/-- With one. -/
theorem psz_point {l p : List UInt8} (hp : (46 : UInt8) ∉ l) : psz (l ++ 46 :: p) = if areD l 9 && !nought l && areD p 6 then some (num 0 (l ++ p), p.length) else none := by
  by_cases hd : areD l 9 = true
  · obtain ⟨h1, h2⟩ := cnt_areD (r := 46 :: p) hd (.inr ⟨46, p, rfl, isD_point⟩)
    have hh : (l ++ 46 :: p).head? = l.head? := by
      cases l with
      | nil => simp at h2
      | cons => rfl
    unfold psz
    rw [h1, hd, hh, List.drop_left, List.take_left]
    by_cases hn : 1 < l.length ∧ l.head? = some 48
    · rw [if_pos (.inr hn)]; simp [nought, hn.1, hn.2]
    · rw [if_neg (by intro h; rcases h with h | h; exact h2 h; exact hn h)]
      have hno : nought l = false := by
        unfold nought
        simp only [Bool.and_eq_false_iff, decide_eq_false_iff_not, beq_eq_false_iff_ne]
        by_cases h3 : 1 < l.length
        · exact .inr fun h4 => hn ⟨h3, h4⟩
        · exact .inl h3
      rw [hno]
      simp only [if_true, Bool.not_false, Bool.true_and]
      by_cases hq : areD p 6 = true
      · obtain ⟨q1, q2⟩ := cnt_areD (r := []) hq (.inl rfl)
        rw [List.append_nil] at q1
        rw [q1, hq, if_neg (by simp [q2]), num_append]; simp
      · have hq' : areD p 6 = false := by simpa using hq
        rw [hq', if_pos]
        · rfl
        · by_cases hk : cnt 6 p = 0
          · exact .inl hk
          · right
            intro hdr
            apply hq
            have hle := cnt_le 6 p
            have hlen : p.length ≤ cnt 6 p := by
              have := congrArg List.length hdr
              simpa [Nat.sub_eq_zero_iff_le] using this
            have ht : p.take (cnt 6 p) = p := List.take_of_length_le hlen
            have hdg := cnt_digits 6 p
            rw [ht] at hdg
            unfold areD
            simp only [Bool.and_eq_true, decide_eq_true_eq, List.all_eq_true]
            refine ⟨⟨?_, by omega⟩, hdg⟩
            cases p with
            | nil => simp [cnt] at hk
            | cons => rfl
  · have hd' : areD l 9 = false := by simpa using hd
    rw [hd', Bool.false_and, Bool.false_and]
    simp only [Bool.false_eq_true, if_false]
    unfold psz
    split
    · rfl
    · rename_i hn
      have hle := cnt_le 9 (l ++ 46 :: p)
      have hdg := cnt_digits 9 (l ++ 46 :: p)
      have hen := cnt_end 9 (l ++ 46 :: p)
      have hjl : cnt 9 (l ++ 46 :: p) ≤ l.length := by
        apply Nat.le_of_not_lt
        intro hlt
        have : (46 : UInt8) ∈ (l ++ 46 :: p).take (cnt 9 (l ++ 46 :: p)) := by
          rw [List.take_append]
          apply List.mem_append_right
          obtain ⟨j, hj⟩ : ∃ j, cnt 9 (l ++ 46 :: p) - l.length = j + 1 := ⟨cnt 9 (l ++ 46 :: p) - l.length - 1, by omega⟩
          rw [hj, List.take_succ_cons]
          exact List.mem_cons_self ..
        have := hdg _ this
        rw [isD_point] at this; cases this
      have hjl2 : cnt 9 (l ++ 46 :: p) ≠ l.length := by
        intro e
        rw [e, List.take_left] at hdg
        apply hd
        unfold areD
        simp only [Bool.and_eq_true, decide_eq_true_eq, List.all_eq_true]
        refine ⟨⟨?_, by omega⟩, hdg⟩
        cases l with
        | nil => exact absurd (.inl e) hn
        | cons => rfl
      have hdr : (l ++ 46 :: p).drop (cnt 9 (l ++ 46 :: p)) = l.drop (cnt 9 (l ++ 46 :: p)) ++ 46 :: p := List.drop_append_of_le_length hjl
      rw [hdr]
      cases hdl : l.drop (cnt 9 (l ++ 46 :: p)) with
      | nil =>
        have := congrArg List.length hdl
        simp at this; omega
      | cons c t =>
        have : c ∈ l := by
          have : c ∈ l.drop (cnt 9 (l ++ 46 :: p)) := by rw [hdl]; exact List.mem_cons_self ..
          exact List.mem_of_mem_drop this
        have : c ≠ 46 := fun e => hp (e ▸ this)
        simp only [List.cons_append, if_neg this]
theorem digits_noPoint {l : List UInt8} (h : ∀ c ∈ l, isD c = true) : (46 : UInt8) ∉ l := by
  intro hm
  have := h _ hm
  rw [isD_point] at this; cases this
theorem areD_digits (u m : Nat) : areD (decDigits u) m = decide (nDigits u ≤ m) := by
  unfold areD
  have h1 : (decDigits u).isEmpty = false := by
    rw [List.isEmpty_eq_false_iff]; exact digits_ne u
  have h2 : (decDigits u).all isD = true := List.all_eq_true.2 (digits_all u)
  rw [h1, h2, decDigits_length]; simp
theorem areD_pad {b k : Nat} (h : nDigits b ≤ k) (m : Nat) : areD (pad b k) m = decide (k ≤ m) := by
  unfold areD
  have h0 := nDigits_pos b
  have h1 : (pad b k).isEmpty = false := by
    rw [List.isEmpty_eq_false_iff]
    intro e
    have := congrArg List.length e
    rw [pad_length h] at this
    simp at this; omega
  have h2 : (pad b k).all isD = true := List.all_eq_true.2 (pad_all b k)
  rw [h1, h2, pad_length h]; simp
theorem nought_digits (u : Nat) : nought (decDigits u) = false := by
  unfold nought
  by_cases h0 : u = 0
  · subst h0
    rw [decDigits_one (by omega)]; rfl
  · obtain ⟨c, r, e, hc⟩ := M.decDigits_head u h0
    rw [e]
    simp [hc]
/-- The text of a number with so many places is read as all its digits. -/
theorem psz_pnt {n k : Nat} (hk : k ≤ 6) : psz (pnt (n / 10 ^ k) (n % 10 ^ k) k) = if n / 10 ^ k ≤ 999999999 then some (n, k) else none := by
  have hp : 0 < 10 ^ k := Nat.pow_pos (by decide)
  have hw : decide (nDigits (n / 10 ^ k) ≤ 9) = decide (n / 10 ^ k ≤ 999999999) := by
    rw [decide_eq_decide]
    constructor
    · intro h
      apply Nat.le_of_not_lt; intro h2
      have := nDigits_ge (k := 9) (u := n / 10 ^ k) (by omega)
      omega
    · intro h
      exact nDigits_lt (k := 9) (by omega) (by decide)
  unfold pnt
  by_cases h0 : k = 0
  · subst h0
    rw [if_pos rfl, psz_none (digits_noPoint (digits_all _)), areD_digits, nought_digits, hw, num_digits]
    simp
  · rw [if_neg h0]
    have hm : nDigits (n % 10 ^ k) ≤ k := nDigits_lt (Nat.mod_lt _ hp) h0
    rw [psz_point (digits_noPoint (digits_all _)), areD_digits, nought_digits, hw, areD_pad hm, num_append, num_digits, num_pad hm, pad_length hm]
    have h6 : decide (k ≤ 6) = true := by simpa using hk
    have e : (0 * 10 ^ nDigits (n / 10 ^ k) + n / 10 ^ k) * 10 ^ k + n % 10 ^ k = n := by
      rw [Nat.zero_mul, Nat.zero_add, Nat.mul_comm]; exact Nat.div_add_mod n (10 ^ k)
    rw [h6, e]; simp
end Go.Proofs.YtbinhlnekhglkaaDoor.TX
