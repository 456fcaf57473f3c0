/- Numbers as bytes, as plain functions: what is put, how long it is, what is got. -/
namespace Go.Proofs.Ytfpdcljeepjogaa
namespace V

def put (v : Nat) : List UInt8 := if v < 128 then [UInt8.ofNat v] else UInt8.ofNat (v % 128 + 128) :: put (v / 128)
termination_by v
decreasing_by omega

theorem put_small {v : Nat} (h : v < 128) : put v = [UInt8.ofNat v] := by rw [put, if_pos h]
theorem put_big {v : Nat} (h : 128 ≤ v) : put v = UInt8.ofNat (v % 128 + 128) :: put (v / 128) := by rw [put, if_neg (by omega)]

def len (v : Nat) : Nat := (put v).length
theorem len_small {v : Nat} (h : v < 128) : len v = 1 := by rw [len, put_small h]; rfl
theorem len_big {v : Nat} (h : 128 ≤ v) : len v = len (v / 128) + 1 := by rw [len, put_big h]; rfl
theorem len_pos (v : Nat) : 1 ≤ len v := by
  by_cases h : v < 128
  · rw [len_small h]; omega
  · rw [len_big (by omega)]; omega
theorem len_le : ∀ (k v : Nat), v < 128 ^ k → 1 ≤ k → len v ≤ k
  | 0, _, _, h => by omega
  | k + 1, v, hv, _ => by
    by_cases h : v < 128
    · rw [len_small h]; omega
    · rw [len_big (by omega)]
      have hk : v / 128 < 128 ^ k := by rw [Nat.pow_succ] at hv; omega
      rcases Nat.eq_zero_or_pos k with rfl | hp
      · simp at hk; omega
      · have := len_le k (v / 128) hk hp; omega
theorem len_le10 {v : Nat} (h : v < 18446744073709551616) : len v ≤ 10 := len_le 10 v (by omega) (by omega)

/-- What is got of bs, of which the first stands at place i of a number that is v so far: the number, its bytes, the error (0 none, 2 ErrBytes, 3 ErrMore). -/
def get : List UInt8 → Nat → Nat → Nat × Nat × Nat
  | [], _, _ => (0, 0, 3)
  | x :: r, i, v => if i = 9 ∧ 1 < x.toNat then (0, 0, 2) else if 128 ≤ x.toNat then get r (i + 1) (v + x.toNat % 128 * 128 ^ i) else if x.toNat = 0 ∧ 0 < i then (0, 0, 2) else (v + x.toNat * 128 ^ i, i + 1, 0)

def gv (bs : List UInt8) : Nat := (get bs 0 0).1
def gn (bs : List UInt8) : Nat := (get bs 0 0).2.1
def ge (bs : List UInt8) : Nat := (get bs 0 0).2.2

theorem get_nil (i v : Nat) : get [] i v = (0, 0, 3) := rfl
theorem get_wrong {x : UInt8} {r : List UInt8} {v : Nat} (h : 1 < x.toNat) : get (x :: r) 9 v = (0, 0, 2) := by rw [get, if_pos ⟨rfl, h⟩]
theorem get_more {x : UInt8} {r : List UInt8} {i v : Nat} (h9 : i ≠ 9) (h : 128 ≤ x.toNat) : get (x :: r) i v = get r (i + 1) (v + x.toNat % 128 * 128 ^ i) := by
  rw [get, if_neg (by omega), if_pos h]
theorem get_nought {x : UInt8} {r : List UInt8} {i v : Nat} (h : x.toNat = 0) (hi : 0 < i) : get (x :: r) i v = (0, 0, 2) := by
  rw [get, if_neg (by omega), if_neg (by omega), if_pos ⟨h, hi⟩]
theorem get_last {x : UInt8} {r : List UInt8} {i v : Nat} (h9 : i = 9 → x.toNat ≤ 1) (h : x.toNat < 128) (h0 : x.toNat = 0 → i = 0) : get (x :: r) i v = (v + x.toNat * 128 ^ i, i + 1, 0) := by
  rw [get, if_neg (by omega), if_neg (by omega), if_neg (by omega)]

theorem pow_le {i : Nat} (h : i ≤ 8) : 128 ^ (i + 1) ≤ 9223372036854775808 := by
  have := Nat.pow_le_pow_right (n := 128) (by omega) (show i + 1 ≤ 9 by omega)
  simpa using this

/-- What was put is got, whatever stands behind it. -/
theorem get_put : ∀ (n v i a : Nat) (tail : List UInt8), v < n → i + len v ≤ 10 → v * 128 ^ i < 18446744073709551616 → (0 < i → 0 < v) → get (put v ++ tail) i a = (a + v * 128 ^ i, i + len v, 0) := by
  intro n
  induction n with
  | zero => intro v i a tail h; omega
  | succ n ih =>
    intro v i a tail hv h10 hb h0
    by_cases h : v < 128
    · have hx : (UInt8.ofNat v).toNat = v := by simp; omega
      rw [put_small h, len_small h]
      show get (UInt8.ofNat v :: tail) i a = _
      rw [get_last ?_ (by omega) (by omega), hx]
      intro h9
      subst h9
      rw [hx]
      have : (128 : Nat) ^ 9 = 9223372036854775808 := by decide
      rw [this] at hb
      omega
    · have hx : (UInt8.ofNat (v % 128 + 128)).toNat = v % 128 + 128 := by simp; omega
      have hl := len_pos (v / 128)
      rw [len_big (by omega)] at h10 ⊢
      rw [put_big (by omega)]
      show get (UInt8.ofNat (v % 128 + 128) :: (put (v / 128) ++ tail)) i a = _
      have hm : v / 128 * 128 ^ (i + 1) + v % 128 * 128 ^ i = v * 128 ^ i := by
        rw [Nat.pow_succ, Nat.mul_comm (128 ^ i) 128, ← Nat.mul_assoc, ← Nat.add_mul]
        congr 1; omega
      rw [get_more (by omega) (by omega), ih (v / 128) (i + 1) _ tail (by omega) (by omega) (by omega) (by omega), hx]
      have : (v % 128 + 128) % 128 = v % 128 := by omega
      rw [this]
      simp only [Prod.mk.injEq, and_true]
      exact ⟨by omega, by omega⟩

theorem got {v : Nat} (h : v < 18446744073709551616) (tail : List UInt8) : get (put v ++ tail) 0 0 = (v, len v, 0) := by
  have := get_put (v + 1) v 0 0 tail (by omega) (by have := len_le10 h; omega) (by simpa using h) (by omega)
  simpa using this

/-- What is got of bytes: nothing is left in doubt: an error, and nothing beside it; or the bytes that are put. -/
theorem get_only : ∀ (bs : List UInt8) (i a : Nat), i ≤ 9 →
    (((get bs i a).2.2 = 2 ∨ (get bs i a).2.2 = 3) ∧ (get bs i a).1 = 0 ∧ (get bs i a).2.1 = 0) ∨
    ∃ v tail, bs = put v ++ tail ∧ (0 < i → 0 < v) ∧ i + len v ≤ 10 ∧ v * 128 ^ i < 18446744073709551616 ∧ get bs i a = (a + v * 128 ^ i, i + len v, 0) := by
  intro bs
  induction bs with
  | nil => intro i a _; left; exact ⟨Or.inr rfl, rfl, rfl⟩
  | cons x r ih =>
    intro i a hi
    have hx8 := x.toNat_lt
    by_cases h9 : i = 9 ∧ 1 < x.toNat
    · left
      obtain ⟨rfl, h⟩ := h9
      rw [get_wrong h]
      exact ⟨Or.inl rfl, rfl, rfl⟩
    · by_cases hm : 128 ≤ x.toNat
      · rw [get_more (by omega) hm]
        have hi8 : i ≤ 8 := by omega
        rcases ih (i + 1) (a + x.toNat % 128 * 128 ^ i) (by omega) with h | ⟨v, tail, rfl, h1, h2, h3, h4⟩
        · exact Or.inl h
        · right
          have hv := h1 (by omega)
          have e1 : (v * 128 + x.toNat % 128) / 128 = v := by omega
          have e2 : (v * 128 + x.toNat % 128) % 128 = x.toNat % 128 := by omega
          have e3 : UInt8.ofNat (x.toNat % 128 + 128) = x := UInt8.toNat_inj.1 (by simp; omega)
          have hp : put (v * 128 + x.toNat % 128) = x :: put v := by rw [put_big (by omega), e1, e2, e3]
          have hl : len (v * 128 + x.toNat % 128) = len v + 1 := by rw [len, hp]; rfl
          have hmul : v * 128 ^ (i + 1) + x.toNat % 128 * 128 ^ i = (v * 128 + x.toNat % 128) * 128 ^ i := by
            rw [Nat.pow_succ, Nat.mul_comm (128 ^ i) 128, ← Nat.mul_assoc, ← Nat.add_mul]
          refine ⟨v * 128 + x.toNat % 128, tail, by rw [hp]; rfl, fun _ => by omega, by omega, ?_, ?_⟩
          · have h5 : v * 128 ^ (i + 1) + 128 ^ (i + 1) ≤ 18446744073709551616 := by
              have e : 18446744073709551616 = 2 ^ (64 - 7 * (i + 1)) * 128 ^ (i + 1) := by
                rw [show (128 : Nat) = 2 ^ 7 from rfl, ← Nat.pow_mul, ← Nat.pow_add]
                have : 64 - 7 * (i + 1) + 7 * (i + 1) = 64 := by omega
                rw [this]
              rw [e] at h3 ⊢
              have := Nat.lt_of_mul_lt_mul_right h3
              rw [← Nat.succ_mul]
              exact Nat.mul_le_mul_right _ this
            have h6 : x.toNat % 128 * 128 ^ i < 128 ^ (i + 1) := by
              rw [Nat.pow_succ, Nat.mul_comm (128 ^ i) 128]
              exact Nat.mul_lt_mul_of_pos_right (by omega) (Nat.pow_pos (by omega))
            omega
          · rw [h4, hl]
            simp only [Prod.mk.injEq, and_true]
            exact ⟨by omega, by omega⟩
      · by_cases h0 : x.toNat = 0 ∧ 0 < i
        · left
          rw [get_nought h0.1 h0.2]
          exact ⟨Or.inl rfl, rfl, rfl⟩
        · right
          have e3 : UInt8.ofNat x.toNat = x := by simp
          have hp : put x.toNat = [x] := by rw [put_small (by omega), e3]
          refine ⟨x.toNat, r, by rw [hp]; rfl, fun _ => by omega, by rw [len_small (by omega)]; omega, ?_, ?_⟩
          · by_cases hi9 : i = 9
            · subst hi9
              have : (128 : Nat) ^ 9 = 9223372036854775808 := by decide
              rw [this]; omega
            · have := pow_le (show i ≤ 8 by omega)
              have h6 : x.toNat * 128 ^ i < 128 ^ (i + 1) := by
                rw [Nat.pow_succ, Nat.mul_comm (128 ^ i) 128]
                exact Nat.mul_lt_mul_of_pos_right (by omega) (Nat.pow_pos (by omega))
              omega
          · rw [get_last (by omega) (by omega) (by omega), len_small (by omega)]

theorem only (bs : List UInt8) : ((ge bs = 2 ∨ ge bs = 3) ∧ gv bs = 0 ∧ gn bs = 0) ∨
    ∃ v tail, bs = put v ++ tail ∧ len v ≤ 10 ∧ v < 18446744073709551616 ∧ gv bs = v ∧ gn bs = len v ∧ ge bs = 0 := by
  rcases get_only bs 0 0 (by omega) with h | ⟨v, tail, h, _, h2, h3, h4⟩
  · exact Or.inl h
  · right
    refine ⟨v, tail, h, by omega, by simpa using h3, ?_⟩
    unfold gv gn ge
    rw [h4]
    simp

theorem len_mono {v w : Nat} (h : v ≤ w) : len v ≤ len w := by
  induction w using Nat.strongRecOn generalizing v with
  | ind w ih =>
    by_cases hv : v < 128
    · rw [len_small hv]; exact len_pos w
    · rw [len_big (v := v) (by omega), len_big (v := w) (by omega)]
      have := ih (w / 128) (by omega) (v := v / 128) (by omega)
      omega
theorem len_up (v : Nat) : v < 128 ^ len v := by
  induction v using Nat.strongRecOn with
  | ind v ih =>
    by_cases hv : v < 128
    · rw [len_small hv]; omega
    · rw [len_big (by omega), Nat.pow_succ]
      have := ih (v / 128) (by omega)
      omega
theorem len_lo {v : Nat} (h : 1 < len v) : 128 ^ (len v - 1) ≤ v := by
  induction v using Nat.strongRecOn with
  | ind v ih =>
    by_cases hv : v < 128
    · rw [len_small hv] at h; omega
    · rw [len_big (by omega)] at h ⊢
      rcases Nat.lt_or_ge 1 (len (v / 128)) with h1 | h1
      · have := ih (v / 128) (by omega) h1
        have e : len (v / 128) + 1 - 1 = (len (v / 128) - 1) + 1 := by omega
        rw [e, Nat.pow_succ]
        omega
      · have : len (v / 128) = 1 := by have := len_pos (v / 128); omega
        rw [this]; simp; omega
end V
end Go.Proofs.Ytfpdcljeepjogaa
