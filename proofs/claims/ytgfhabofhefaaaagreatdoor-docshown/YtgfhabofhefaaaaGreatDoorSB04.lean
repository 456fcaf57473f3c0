/- A part of the proof. -/
import Derived.Laws.FloatBits
import Derived.Laws.FloatArith
namespace Go.Proofs.YtgfhabofhefaaaaGreatDoor.FM
open Ieee
def infR : Nat := 9218868437227405312
def mg (r : Nat) : Nat := if r < 4503599627370496 then r else 4503599627370496 + r % 4503599627370496
def ex (r : Nat) : Nat := r / 4503599627370496 - 1
def val (r : Nat) : Nat := mg r * 2 ^ ex r
theorem val_norm (e k : Nat) (hk : k ≤ 9007199254740992) (he : e = 0 ∨ 4503599627370496 ≤ k) : val (e * 4503599627370496 + k) = k * 2 ^ e := by
  unfold val mg ex
  by_cases h : k < 4503599627370496
  · have : e = 0 := by omega
    subst this
    rw [if_pos (by omega)]
    have : (0 * 4503599627370496 + k) / 4503599627370496 - 1 = 0 := by omega
    rw [this]; simp
  · by_cases h2 : k < 9007199254740992
    · rw [if_neg (by omega)]
      have e1 : (e * 4503599627370496 + k) / 4503599627370496 - 1 = e := by omega
      have e2 : 4503599627370496 + (e * 4503599627370496 + k) % 4503599627370496 = k := by omega
      rw [e1, e2]
    · have : k = 9007199254740992 := by omega
      subst this
      rw [if_neg (by omega)]
      have e1 : (e * 4503599627370496 + 9007199254740992) / 4503599627370496 - 1 = e + 1 := by omega
      have e2 : 4503599627370496 + (e * 4503599627370496 + 9007199254740992) % 4503599627370496 = 4503599627370496 := by omega
      rw [e1, e2, Nat.pow_succ]; omega
theorem r_eq (r : Nat) : r = ex r * 4503599627370496 + mg r := by unfold ex mg; split <;> omega
theorem mg_lt (r : Nat) : mg r < 9007199254740992 := by unfold mg; split <;> omega
theorem mg_or (r : Nat) : ex r = 0 ∨ 4503599627370496 ≤ mg r := by unfold ex mg; split <;> omega
theorem val_succ (r : Nat) : val (r + 1) = val r + 2 ^ ex r := by
  have h1 := r_eq r; have h2 := mg_lt r; have h3 := mg_or r
  have e : r + 1 = ex r * 4503599627370496 + (mg r + 1) := by omega
  rw [e, val_norm _ _ (by omega) (by omega), val, Nat.add_mul]; simp
theorem val_lt_succ (r : Nat) : val r < val (r + 1) := by
  rw [val_succ]; have := Nat.two_pow_pos (ex r); omega
theorem val_lt {a b : Nat} (h : a < b) : val a < val b := by
  induction b with
  | zero => omega
  | succ b ih =>
    have := val_lt_succ b
    by_cases h2 : a = b
    · subst h2; exact this
    · have := ih (by omega); omega
theorem val_le {a b : Nat} (h : a ≤ b) : val a ≤ val b := by
  rcases Nat.lt_or_eq_of_le h with h | h
  · exact Nat.le_of_lt (val_lt h)
  · rw [h]; exact Nat.le_refl _
theorem val_lt_iff {a b : Nat} : val a < val b ↔ a < b := ⟨fun h => Nat.lt_of_not_le fun h2 => by have := val_le h2; omega, val_lt⟩
theorem val_le_iff {a b : Nat} : val a ≤ val b ↔ a ≤ b := ⟨fun h => Nat.le_of_not_lt fun h2 => by have := val_lt h2; omega, val_le⟩
theorem val_inj {a b : Nat} (h : val a = val b) : a = b := by
  have h1 := val_le_iff.1 (Nat.le_of_eq h); have h2 := val_le_iff.1 (Nat.le_of_eq h.symm); omega
theorem val_zero : val 0 = 0 := by decide
def Rd (N D R : Nat) : Prop :=
  (R ≠ 0 → D * (val (R - 1) + val R) ≤ 2 * N ∧ (R % 2 = 1 → D * (val (R - 1) + val R) < 2 * N)) ∧
  2 * N ≤ D * (val R + val (R + 1)) ∧ (R % 2 = 1 → 2 * N < D * (val R + val (R + 1)))
theorem Rd.mono {N D R N' D' R' : Nat} (h : Rd N D R) (h' : Rd N' D' R') (hD : 0 < D) (hD' : 0 < D') (hle : N * D' ≤ N' * D) : R ≤ R' := by
  apply Nat.le_of_not_lt
  intro hlt
  obtain ⟨h1, _, _⟩ := h
  obtain ⟨_, h2, h3⟩ := h'
  obtain ⟨h4, h5⟩ := h1 (by omega)
  -- T' = val R' + val (R'+1) <= T = val (R-1) + val R
  have t1 : val R' ≤ val (R - 1) := val_le (by omega)
  have t2 : val (R' + 1) ≤ val R := val_le (by omega)
  have a1 : D * D' * (val (R - 1) + val R) ≤ 2 * N * D' := by
    have := Nat.mul_le_mul_right D' h4
    rw [Nat.mul_right_comm] at this; exact this
  have a2 : 2 * N' * D ≤ D * D' * (val R' + val (R' + 1)) := by
    have := Nat.mul_le_mul_left D h2
    rw [Nat.mul_comm D (2 * N'), ← Nat.mul_assoc] at this; exact this
  have a3 : 2 * N * D' ≤ 2 * N' * D := by rw [Nat.mul_assoc, Nat.mul_assoc]; exact Nat.mul_le_mul_left 2 hle
  have hP : 0 < D * D' := Nat.mul_pos hD hD'
  have a4 : val (R - 1) + val R ≤ val R' + val (R' + 1) := Nat.le_of_mul_le_mul_left (Nat.le_trans a1 (Nat.le_trans a3 a2)) hP
  have e1 : R' + 1 = R := val_inj (by omega)
  have e2 : D * D' * (val (R - 1) + val R) = D * D' * (val R' + val (R' + 1)) := by
    have : val (R - 1) + val R = val R' + val (R' + 1) := by omega
    rw [this]
  by_cases ho : R % 2 = 1
  · have := h5 ho
    have := Nat.mul_lt_mul_of_pos_right this hD'
    rw [Nat.mul_right_comm] at this
    omega
  · have := h3 (by omega)
    have := Nat.mul_lt_mul_of_pos_left this hD
    rw [Nat.mul_comm D (2 * N'), ← Nat.mul_assoc] at this
    omega
theorem Rd.exact (D R : Nat) (hD : 0 < D) : Rd (D * val R) D R := by
  refine ⟨fun h => ?_, ?_, fun _ => ?_⟩
  · have : val (R - 1) < val R := val_lt (by omega)
    have : D * (val (R - 1) + val R) < 2 * (D * val R) := by
      rw [Nat.mul_left_comm]; exact Nat.mul_lt_mul_of_pos_left (by omega) hD
    exact ⟨Nat.le_of_lt this, fun _ => this⟩
  all_goals
    have := val_lt_succ R
    have : 2 * (D * val R) < D * (val R + val (R + 1)) := by
      rw [Nat.mul_left_comm]; exact Nat.mul_lt_mul_of_pos_left (by omega) hD
    omega
theorem cut_spec (neg : Bool) (n drop : Nat) (hn : n ≠ 0) :
    2 * n ≤ 2 ^ drop * (2 * Toward.even.cut neg n drop + 1) ∧ (2 * n = 2 ^ drop * (2 * Toward.even.cut neg n drop + 1) → Toward.even.cut neg n drop % 2 = 0) ∧
    2 ^ drop * (2 * Toward.even.cut neg n drop) ≤ 2 * n + 2 ^ drop ∧ (2 ^ drop * (2 * Toward.even.cut neg n drop) = 2 * n + 2 ^ drop → Toward.even.cut neg n drop % 2 = 0) := by
  by_cases hd : drop ≤ n.log2 + 2
  · have hm : min drop (n.log2 + 2) = drop := Nat.min_eq_left hd
    have e : Toward.even.cut neg n drop = n / 2 ^ drop + (decide (2 ^ drop < 2 * (n % 2 ^ drop)) || ((2 ^ drop == 2 * (n % 2 ^ drop)) && (n / 2 ^ drop % 2 == 1))).toNat := by
      simp [Toward.cut, hm, Nat.shiftLeft_eq]
    have hp := Nat.two_pow_pos drop
    generalize 2 ^ drop = g at *
    have h1 := Nat.div_add_mod n g
    have h2 := Nat.mod_lt n hp
    generalize n / g = q at *
    generalize n % g = r at *
    subst h1
    by_cases c1 : g < 2 * r
    · have e' : Toward.even.cut neg (g * q + r) drop = q + 1 := by rw [e]; simp [c1]
      rw [e']
      refine ⟨?_, ?_, ?_, ?_⟩ <;> simp only [Nat.mul_add, Nat.mul_one, Nat.mul_left_comm g 2] <;> omega
    · by_cases c2 : g = 2 * r
      · by_cases c3 : q % 2 = 1
        · have e' : Toward.even.cut neg (g * q + r) drop = q + 1 := by rw [e]; simp [c2, c3]
          rw [e']
          refine ⟨?_, ?_, ?_, ?_⟩ <;> simp only [Nat.mul_add, Nat.mul_one, Nat.mul_left_comm g 2] <;> omega
        · have e' : Toward.even.cut neg (g * q + r) drop = q := by rw [e]; simp [c1, c3]
          rw [e']
          refine ⟨?_, ?_, ?_, ?_⟩ <;> simp only [Nat.mul_add, Nat.mul_one, Nat.mul_left_comm g 2] <;> omega
      · have e' : Toward.even.cut neg (g * q + r) drop = q := by rw [e]; simp [c1, c2]
        rw [e']
        refine ⟨?_, ?_, ?_, ?_⟩ <;> simp only [Nat.mul_add, Nat.mul_one, Nat.mul_left_comm g 2] <;> omega
  · have hm : min drop (n.log2 + 2) = n.log2 + 2 := Nat.min_eq_right (by omega)
    have hlt : n < 2 ^ (n.log2 + 1) := Nat.lt_log2_self
    have h4 : 2 ^ (n.log2 + 2) = 2 * 2 ^ (n.log2 + 1) := by rw [Nat.pow_succ 2 (n.log2 + 1)]; omega
    have e : Toward.even.cut neg n drop = 0 := by
      have d0 : n / 2 ^ (n.log2 + 2) = 0 := Nat.div_eq_of_lt (by omega)
      have m0 : n % 2 ^ (n.log2 + 2) = n := Nat.mod_eq_of_lt (by omega)
      simp only [Toward.cut, hm, Nat.shiftLeft_eq, Nat.one_mul, d0, m0]
      have : ¬ (2 ^ (n.log2 + 2) < 2 * n) := by omega
      simp [this]
    have : 2 ^ (n.log2 + 2) ≤ 2 ^ drop := Nat.pow_le_pow_right (by omega) (by omega)
    rw [e]
    refine ⟨by omega, fun _ => rfl, by omega, fun _ => rfl⟩
theorem cut_zero (neg : Bool) (n : Nat) : Toward.even.cut neg n 0 = n := by
  simp [Toward.cut, Nat.mod_one]
theorem core (N D A B G mag e d c g : Nat) (hB : 0 < B) (hE : 2 ^ e * B = 2 ^ (d + 1) * A) (hg : 2 ^ d = G * g)
    (hlo : ∀ h, G * h * (A * D) ≤ N * B ↔ G * h ≤ mag) (hhi : ∀ h, N * B ≤ G * h * (A * D) ↔ mag ≤ G * h)
    (s1 : 2 * mag ≤ 2 ^ (d + 1) * (2 * c + 1)) (s2 : 2 * mag = 2 ^ (d + 1) * (2 * c + 1) → c % 2 = 0)
    (s3 : 2 ^ (d + 1) * (2 * c) ≤ 2 * mag + 2 ^ (d + 1)) (s4 : 2 ^ (d + 1) * (2 * c) = 2 * mag + 2 ^ (d + 1) → c % 2 = 0)
    (hc : c ≤ 9007199254740992) (he : e = 0 ∨ 4503599627370496 ≤ c)
    (hl : e = 0 ∨ (c = 4503599627370496 → (A * D) * (4503599627370496 * 2 ^ (d + 1)) ≤ N * B))
    (hh : c = 9007199254740992 → N * B ≤ (A * D) * (9007199254740992 * 2 ^ (d + 1))) : Rd N D (e * 4503599627370496 + c) := by
  have hvR := val_norm e c hc he
  rw [Nat.pow_succ] at *
  generalize hP : 2 ^ e = P at *
  generalize hQ : 2 ^ d = Q at *
  have key : ∀ t, D * (t * P) * B = 2 * (Q * t * (A * D)) := by
    intro t
    have : D * (t * P) * B = D * t * (P * B) := by grind
    rw [this, hE]; grind
  refine ⟨fun hR => ?_, ?_⟩
  · by_cases hcl : e ≠ 0 ∧ c = 4503599627370496
    · obtain ⟨h1, h2⟩ := hcl
      have h3 := (hl.resolve_left h1) h2
      have h4 : D * (c * P) ≤ N := by
        apply Nat.le_of_mul_le_mul_right _ hB
        rw [key, h2]
        have : 2 * (Q * 4503599627370496 * (A * D)) = (A * D) * (4503599627370496 * (Q * 2)) := by grind
        omega
      have h5 : val (e * 4503599627370496 + c - 1) ≤ val (e * 4503599627370496 + c) := val_le (by omega)
      rw [hvR] at *
      have h6 : D * (val (e * 4503599627370496 + c - 1) + c * P) ≤ D * (2 * (c * P)) := Nat.mul_le_mul_left D (by omega)
      have h7 : D * (2 * (c * P)) = 2 * (D * (c * P)) := by grind
      refine ⟨by omega, fun ho => by omega⟩
    · have hv1 : val (e * 4503599627370496 + c - 1) = (c - 1) * P := by
        rw [show e * 4503599627370496 + c - 1 = e * 4503599627370496 + (c - 1) by omega, val_norm e (c - 1) (by omega) (by omega), hP]
      rw [hvR, hv1]
      obtain ⟨c', rfl⟩ : ∃ c', c = c' + 1 := ⟨c - 1, by omega⟩
      have e1 : D * ((c' + 1 - 1) * P + (c' + 1) * P) = D * ((2 * c' + 1) * P) := by
        rw [show c' + 1 - 1 = c' by omega]; grind
      rw [e1]
      have hk := key (2 * c' + 1)
      have e2 : Q * (2 * c' + 1) = G * (g * (2 * c' + 1)) := by rw [hg]; grind
      have e3 : Q * 2 * (2 * (c' + 1)) = 2 * (Q * (2 * c' + 1)) + Q * 2 := by grind
      rw [e3] at s3 s4
      have m1 : Q * (2 * c' + 1) ≤ mag := by omega
      constructor
      · apply Nat.le_of_mul_le_mul_right _ hB
        rw [hk]
        have := (hlo (g * (2 * c' + 1))).2 (by rw [← e2]; exact m1)
        rw [← e2] at this
        have e4 : 2 * N * B = 2 * (N * B) := by grind
        omega
      · intro ho
        have m2 : Q * (2 * c' + 1) < mag := by
          rcases Nat.lt_or_eq_of_le m1 with h | h
          · exact h
          · have := s4 (by omega)
            omega
        apply Nat.lt_of_mul_lt_mul_right (a := B)
        rw [hk]
        have : ¬ N * B ≤ G * (g * (2 * c' + 1)) * (A * D) := by
          rw [hhi, ← e2]; omega
        rw [← e2] at this
        have e4 : 2 * N * B = 2 * (N * B) := by grind
        omega
  · by_cases hcl : c = 9007199254740992
    · have h3 := hh hcl
      have h4 : N ≤ D * (c * P) := by
        apply Nat.le_of_mul_le_mul_right _ hB
        rw [key, hcl]
        have : 2 * (Q * 9007199254740992 * (A * D)) = (A * D) * (9007199254740992 * (Q * 2)) := by grind
        omega
      have h5 : val (e * 4503599627370496 + c) ≤ val (e * 4503599627370496 + c + 1) := val_le (by omega)
      rw [hvR] at *
      have h6 : D * (2 * (c * P)) ≤ D * (c * P + val (e * 4503599627370496 + c + 1)) := Nat.mul_le_mul_left D (by omega)
      have h7 : D * (2 * (c * P)) = 2 * (D * (c * P)) := by grind
      refine ⟨by omega, fun ho => by omega⟩
    · have hv1 : val (e * 4503599627370496 + c + 1) = (c + 1) * P := by
        rw [Nat.add_assoc, val_norm e (c + 1) (by omega) (by omega), hP]
      rw [hvR, hv1]
      have e1 : D * (c * P + (c + 1) * P) = D * ((2 * c + 1) * P) := by grind
      rw [e1]
      have hk := key (2 * c + 1)
      have e2 : Q * (2 * c + 1) = G * (g * (2 * c + 1)) := by rw [hg]; grind
      have e3 : Q * 2 * (2 * c + 1) = 2 * (Q * (2 * c + 1)) := by grind
      rw [e3] at s1 s2
      have m1 : mag ≤ Q * (2 * c + 1) := by omega
      have e4 : 2 * N * B = 2 * (N * B) := by grind
      constructor
      · apply Nat.le_of_mul_le_mul_right _ hB
        rw [hk]
        have := (hhi (g * (2 * c + 1))).2 (by rw [← e2]; exact m1)
        rw [← e2] at this
        omega
      · intro ho
        have m2 : mag < Q * (2 * c + 1) := by
          rcases Nat.lt_or_eq_of_le m1 with h | h
          · exact h
          · have := s2 (by omega)
            omega
        apply Nat.lt_of_mul_lt_mul_right (a := B)
        rw [hk]
        have : ¬ G * (g * (2 * c + 1)) * (A * D) ≤ N * B := by
          rw [hlo, ← e2]; omega
        rw [← e2] at this
        omega
theorem double_least : double.leastPlace = -1074 := by decide
theorem double_binade : double.binade = 4503599627370496 := by decide
theorem double_inf : double.infRung = infR := by decide
theorem double_sign : double.signWeight = 9223372036854775808 := by decide
theorem double_frac : double.fractionBits = 52 := by decide
theorem nearest_rd (neg : Bool) (mag : Nat) (place : Int) (N D G : Nat) (hm : mag ≠ 0) (hD : 0 < D) (hG : G = 1 ∨ (G = 2 ∧ 54 ≤ mag.log2))
    (hlo : ∀ h, G * h * (2 ^ (place + 1074).toNat * D) ≤ N * 2 ^ (-(place + 1074)).toNat ↔ G * h ≤ mag)
    (hhi : ∀ h, N * 2 ^ (-(place + 1074)).toNat ≤ G * h * (2 ^ (place + 1074).toNat * D) ↔ mag ≤ G * h) :
    ∃ R, double.nearest neg mag place = double.word neg (min R infR) ∧ Rd N D R := by
  have hL1 : 2 ^ mag.log2 ≤ mag := Nat.log2_self_le hm
  have hL2 : mag < 2 ^ (mag.log2 + 1) := Nat.lt_log2_self
  have hB : 0 < 2 ^ (-(place + 1074)).toNat := Nat.two_pow_pos _
  refine ⟨(max (place + mag.log2 - 52) (-1074) + 1074).toNat * 4503599627370496 + Toward.even.cut neg (mag <<< (place - max (place + mag.log2 - 52) (-1074)).toNat) (max (place + mag.log2 - 52) (-1074) - place).toNat, ?_, ?_⟩
  · unfold Format.nearest
    rw [if_neg hm]
    simp only [double_least, double_binade, double_inf, double_frac]
    rfl
  generalize hLe : mag.log2 = L at *
  have exact1 : ∀ k R, (place + 1074).toNat = k + (-(place + 1074)).toNat → G = 1 → val R = mag * 2 ^ k → Rd N D R := by
    intro k R hk hG1 hv
    subst hG1
    have h1 := (hlo mag).2 (by omega)
    have h2 := (hhi mag).2 (by omega)
    have h3 : N * 2 ^ (-(place + 1074)).toNat = (D * val R) * 2 ^ (-(place + 1074)).toNat := by
      rw [hv]
      have e1 : 1 * mag * (2 ^ (place + 1074).toNat * D) = D * (mag * 2 ^ k) * 2 ^ (-(place + 1074)).toNat := by
        rw [hk, Nat.pow_add]; grind
      omega
    have h4 := Nat.eq_of_mul_eq_mul_right hB h3
    rw [h4]
    exact Rd.exact D R hD
  by_cases hA : (-1074 : Int) ≤ place + L - 52
  · have hmax : max (place + L - 52) (-1074) = place + L - 52 := Int.max_eq_left hA
    rw [hmax]
    by_cases h52 : L ≤ 52
    · have e1 : (place + L - 52 - place).toNat = 0 := by omega
      have e2 : (place - (place + L - 52)).toNat = 52 - L := by omega
      rw [e1, e2, cut_zero, Nat.shiftLeft_eq]
      have b1 : 2 ^ L * 2 ^ (52 - L) = 4503599627370496 := by rw [← Nat.pow_add, show L + (52 - L) = 52 by omega]
      have b2 : 2 ^ L * 2 ^ (52 - L) ≤ mag * 2 ^ (52 - L) := Nat.mul_le_mul_right _ hL1
      have b3 : mag * 2 ^ (52 - L) < 2 ^ (L + 1) * 2 ^ (52 - L) := Nat.mul_lt_mul_of_pos_right hL2 (Nat.two_pow_pos _)
      have b4 : 2 ^ (L + 1) * 2 ^ (52 - L) = 9007199254740992 := by rw [← Nat.pow_add, show L + 1 + (52 - L) = 53 by omega]
      apply exact1 ((52 - L) + (place + L - 52 + 1074).toNat) _ (by omega) (by omega)
      rw [val_norm _ _ (by omega) (by omega), Nat.pow_add, Nat.mul_assoc]
    · have e1 : (place + L - 52 - place).toNat = L - 53 + 1 := by omega
      have e2 : (place - (place + L - 52)).toNat = 0 := by omega
      rw [e1, e2, Nat.shiftLeft_zero]
      obtain ⟨s1, s2, s3, s4⟩ := cut_spec neg mag (L - 53 + 1) hm
      generalize Toward.even.cut neg mag (L - 53 + 1) = c at *
      have p1 : 2 ^ L = 4503599627370496 * 2 ^ (L - 53 + 1) := by
        rw [show (4503599627370496 : Nat) = 2 ^ 52 by decide, ← Nat.pow_add]; congr 1; omega
      have p2 : 2 ^ (L + 1) = 9007199254740992 * 2 ^ (L - 53 + 1) := by
        rw [show (9007199254740992 : Nat) = 2 ^ 53 by decide, ← Nat.pow_add]; congr 1; omega
      have hq := Nat.two_pow_pos (L - 53 + 1)
      have c1 : 4503599627370496 ≤ c := by
        apply Nat.le_of_not_lt; intro hlt
        have : 2 ^ (L - 53 + 1) * (2 * c + 1) ≤ 2 ^ (L - 53 + 1) * 9007199254740991 := Nat.mul_le_mul_left _ (by omega)
        omega
      have c2 : c ≤ 9007199254740992 := by
        apply Nat.le_of_not_lt; intro hlt
        have : 2 ^ (L - 53 + 1) * 18014398509481986 ≤ 2 ^ (L - 53 + 1) * (2 * c) := Nat.mul_le_mul_left _ (by omega)
        omega
      have hgd : ∃ g, 2 ^ (L - 53) = G * g := by
        rcases hG with h | ⟨h, h54⟩
        · exact ⟨2 ^ (L - 53), by rw [h, Nat.one_mul]⟩
        · refine ⟨2 ^ (L - 54), ?_⟩
          rw [h, show L - 53 = L - 54 + 1 by omega, Nat.pow_succ]; omega
      have hgL : ∃ g, 2 ^ L = G * g := by
        rcases hG with h | ⟨h, h54⟩
        · exact ⟨2 ^ L, by rw [h, Nat.one_mul]⟩
        · refine ⟨2 ^ (L - 1), ?_⟩
          rw [h]; conv => lhs; rw [show L = L - 1 + 1 by omega, Nat.pow_succ]
          omega
      obtain ⟨g, hg⟩ := hgd
      obtain ⟨g2, hg2⟩ := hgL
      refine core N D (2 ^ (place + 1074).toNat) (2 ^ (-(place + 1074)).toNat) G mag _ (L - 53) c g hB ?_ hg hlo hhi s1 s2 s3 s4 c2 (.inr c1) (.inr fun _ => ?_) (fun _ => ?_)
      · rw [← Nat.pow_add, ← Nat.pow_add]; congr 1; omega
      · have := (hlo g2).2 (by rw [← hg2]; exact hL1)
        rw [← hg2] at this
        rw [← p1, Nat.mul_comm]; exact this
      · have e6 : G * (g2 * 2) = 2 ^ (L + 1) := by rw [← Nat.mul_assoc, ← hg2, Nat.pow_succ]
        have := (hhi (g2 * 2)).2 (by rw [e6]; omega)
        rw [e6] at this
        rw [← p2, Nat.mul_comm (2 ^ _ * D)]; exact this
  · have hmax : max (place + L - 52) (-1074) = -1074 := Int.max_eq_right (by omega)
    rw [hmax]
    by_cases hpl : (-1074 : Int) ≤ place
    · have e1 : (-1074 - place).toNat = 0 := by omega
      rw [e1, cut_zero, Nat.shiftLeft_eq]
      have b3 : mag * 2 ^ (place - -1074).toNat < 2 ^ (L + 1) * 2 ^ (place - -1074).toNat := Nat.mul_lt_mul_of_pos_right hL2 (Nat.two_pow_pos _)
      have b4 : 2 ^ (L + 1) * 2 ^ (place - -1074).toNat ≤ 2 ^ 52 := by rw [← Nat.pow_add]; exact Nat.pow_le_pow_right (by omega) (by omega)
      apply exact1 (place - -1074).toNat _ (by omega) (by omega)
      have e2 : ((-1074 : Int) + 1074).toNat = 0 := by decide
      rw [e2, val_norm _ _ (by omega) (.inl rfl)]; simp
    · obtain ⟨d, hd⟩ : ∃ d, (-1074 - place).toNat = d + 1 := ⟨(-1074 - place).toNat - 1, by omega⟩
      have e2 : (place - -1074).toNat = 0 := by omega
      have e3 : (place + 1074).toNat = 0 := by omega
      have e4 : (-(place + 1074)).toNat = d + 1 := by omega
      rw [hd, e2, Nat.shiftLeft_zero]
      rw [e3, e4] at hlo hhi
      obtain ⟨s1, s2, s3, s4⟩ := cut_spec neg mag (d + 1) hm
      generalize Toward.even.cut neg mag (d + 1) = c at *
      have hq := Nat.two_pow_pos (d + 1)
      have p2 : 2 ^ (L + 1) ≤ 4503599627370496 * 2 ^ (d + 1) := by
        rw [show (4503599627370496 : Nat) = 2 ^ 52 by decide, ← Nat.pow_add]; exact Nat.pow_le_pow_right (by omega) (by omega)
      have c2 : c ≤ 4503599627370496 := by
        apply Nat.le_of_not_lt; intro hlt
        have : 2 ^ (d + 1) * 9007199254740994 ≤ 2 ^ (d + 1) * (2 * c) := Nat.mul_le_mul_left _ (by omega)
        omega
      have hgd : ∃ g, 2 ^ d = G * g := by
        rcases hG with h | ⟨h, h54⟩
        · exact ⟨2 ^ d, by rw [h, Nat.one_mul]⟩
        · refine ⟨2 ^ (d - 1), ?_⟩
          rw [h]; conv => lhs; rw [show d = d - 1 + 1 by omega, Nat.pow_succ]
          omega
      obtain ⟨g, hg⟩ := hgd
      have e5 : ((-1074 : Int) + 1074).toNat = 0 := by decide
      rw [e5]
      exact core N D (2 ^ 0) (2 ^ (d + 1)) G mag 0 d c g hq (by omega) hg hlo hhi s1 s2 s3 s4 (by omega) (.inl rfl) (.inl rfl) (fun h => by omega)
theorem nearest_exact (neg : Bool) (mag : Nat) (place : Int) (N D : Nat) (hm : mag ≠ 0) (hD : 0 < D) (h : mag * (2 ^ (place + 1074).toNat * D) = N * 2 ^ (-(place + 1074)).toNat) :
    ∃ R, double.nearest neg mag place = double.word neg (min R infR) ∧ Rd N D R := by
  have hX : 0 < 2 ^ (place + 1074).toNat * D := Nat.mul_pos (Nat.two_pow_pos _) hD
  refine nearest_rd neg mag place N D 1 hm hD (.inl rfl) (fun k => ?_) (fun k => ?_)
  all_goals rw [← h, Nat.one_mul]
  all_goals exact ⟨fun h => Nat.le_of_mul_le_mul_right h hX, fun h => Nat.mul_le_mul_right _ h⟩
def uE : Nat := 1074
theorem uE_is : uE = 1074 := rfl
def U : Nat := 2 ^ uE
theorem U_pos : 0 < U := by unfold U; exact Nat.two_pow_pos _
def sgn (w : Nat) : Bool := w / 9223372036854775808 % 2 == 1
def rg (w : Nat) : Nat := w % 9223372036854775808
def nan (w : Nat) : Bool := decide (infR < rg w)
def sv (w : Nat) : Int := if sgn w then -(val (rg w) : Int) else (val (rg w) : Int)
theorem read_num {w : Nat} (h : rg w < infR) : double.read w = .number (sgn w) (mg (rg w)) (-1074 + (ex (rg w) : Int)) := by
  unfold Format.read
  simp only [double_binade, double_inf, double_sign, double_least]
  unfold rg sgn mg ex at *
  by_cases h1 : w % 9223372036854775808 < 4503599627370496
  · rw [if_pos h1, if_pos h1, show w % 9223372036854775808 / 4503599627370496 - 1 = 0 by omega]; rfl
  · rw [if_neg h1, if_pos h, if_neg h1]
theorem read_inf {w : Nat} (h : rg w = infR) : double.read w = .infinity (sgn w) := by
  unfold Format.read
  simp only [double_binade, double_inf, double_sign, double_least]
  unfold rg at h
  unfold infR at *
  rw [if_neg (by omega), if_neg (by omega), if_pos h]; rfl
theorem read_nan {w : Nat} (h : infR < rg w) : double.read w = .nan (sgn w) (rg w - infR) := by
  unfold Format.read
  simp only [double_binade, double_inf, double_sign, double_least]
  unfold rg at h
  unfold infR at *
  rw [if_neg (by omega), if_neg (by omega), if_neg (by omega)]; rfl
theorem order_nan {x y : Nat} (h : nan x = true ∨ nan y = true) : double.order x y = none := by
  unfold Format.order nan at *
  rcases h with h | h
  · rw [read_nan (of_decide_eq_true h)]; simp [Datum.order]
  · rw [read_nan (of_decide_eq_true h)]
    cases double.read x <;> simp [Datum.order]
theorem compare_int (a b : Int) : compare a b = if a < b then .lt else if b < a then .gt else .eq := by
  unfold compare instOrdInt compareOfLessAndEq
  simp only
  split
  · rfl
  · split
    · subst_vars; simp
    · rw [if_pos (by omega)]
theorem signed_val (s : Bool) (m e b : Nat) (h : b ≤ e) : signed s m (e - b) * (2 ^ b : Nat) = if s then -((m * 2 ^ e : Nat) : Int) else ((m * 2 ^ e : Nat) : Int) := by
  have h1 : m * 2 ^ e = m * 2 ^ (e - b) * 2 ^ b := by rw [Nat.mul_assoc, ← Nat.pow_add, Nat.sub_add_cancel h]
  unfold signed
  rw [Nat.shiftLeft_eq, h1]
  cases s
  · simp
  · simp [Int.neg_mul]
theorem order_num {x y : Nat} (hx : nan x = false) (hy : nan y = false) : double.order x y = some (if sv x < sv y then .lt else if sv y < sv x then .gt else .eq) := by
  have hx' := of_decide_eq_false hx
  have hy' := of_decide_eq_false hy
  unfold Format.order
  by_cases ix : rg x = infR
  · rw [read_inf ix]
    by_cases iy : rg y = infR
    · rw [read_inf iy]
      unfold sv
      rw [ix, iy]
      have : 0 < val infR := by have := val_lt (a := 0) (b := infR) (by decide); omega
      cases sgn x <;> cases sgn y <;> simp only [Datum.order, if_true, if_false, Bool.false_eq_true] <;> (first | (rw [if_pos (by omega)]; rfl) | (rw [if_neg (by omega), if_pos (by omega)]; rfl) | (rw [if_neg (by omega), if_neg (by omega)]; rfl))
    · rw [read_num (by omega)]
      unfold sv
      rw [ix]
      have : val (rg y) < val infR := val_lt (by omega)
      cases sgn x <;> cases sgn y <;> simp only [Datum.order, if_true, if_false, Bool.false_eq_true] <;> (first | (rw [if_pos (by omega)]) | (rw [if_neg (by omega), if_pos (by omega)]) | (rw [if_neg (by omega), if_neg (by omega)]))
  · by_cases iy : rg y = infR
    · rw [read_inf iy, read_num (by omega)]
      unfold sv
      rw [iy]
      have : val (rg x) < val infR := val_lt (by omega)
      cases sgn x <;> cases sgn y <;> simp only [Datum.order, if_true, if_false, Bool.false_eq_true] <;> (first | (rw [if_pos (by omega)]) | (rw [if_neg (by omega), if_pos (by omega)]) | (rw [if_neg (by omega), if_neg (by omega)]))
    · rw [read_num (by omega), read_num (by omega)]
      simp only [Datum.order]
      obtain ⟨b, hb, hb1, hb2⟩ : ∃ b : Nat, min (-1074 + (ex (rg x) : Int)) (-1074 + (ex (rg y) : Int)) = -1074 + (b : Int) ∧ b ≤ ex (rg x) ∧ b ≤ ex (rg y) := by
        rcases Nat.le_total (ex (rg x)) (ex (rg y)) with h | h
        · exact ⟨ex (rg x), by omega, by omega, h⟩
        · exact ⟨ex (rg y), by omega, h, by omega⟩
      rw [hb]
      have e1 : (-1074 + (ex (rg x) : Int) - (-1074 + (b : Int))).toNat = ex (rg x) - b := by omega
      have e2 : (-1074 + (ex (rg y) : Int) - (-1074 + (b : Int))).toNat = ex (rg y) - b := by omega
      rw [e1, e2, compare_int]
      have p : (0 : Int) < (2 ^ b : Nat) := by have := Nat.two_pow_pos b; omega
      have v1 : sv x = signed (sgn x) (mg (rg x)) (ex (rg x) - b) * (2 ^ b : Nat) := by rw [signed_val _ _ _ _ hb1]; rfl
      have v2 : sv y = signed (sgn y) (mg (rg y)) (ex (rg y) - b) * (2 ^ b : Nat) := by rw [signed_val _ _ _ _ hb2]; rfl
      generalize signed (sgn x) (mg (rg x)) (ex (rg x) - b) = a1 at *
      generalize signed (sgn y) (mg (rg y)) (ex (rg y) - b) = a2 at *
      rw [v1, v2]
      have l1 : a1 * (2 ^ b : Nat) < a2 * (2 ^ b : Nat) ↔ a1 < a2 := ⟨fun h => Int.lt_of_mul_lt_mul_right h (by omega), fun h => Int.mul_lt_mul_of_pos_right h p⟩
      have l2 : a2 * (2 ^ b : Nat) < a1 * (2 ^ b : Nat) ↔ a2 < a1 := ⟨fun h => Int.lt_of_mul_lt_mul_right h (by omega), fun h => Int.mul_lt_mul_of_pos_right h p⟩
      simp only [l1, l2]
theorem Rd.le {N D R R0 : Nat} (h : Rd N D R) (hD : 0 < D) (hle : N ≤ D * val R0) : R ≤ R0 :=
  h.mono (Rd.exact 1 R0 (by decide)) hD (by decide) (by rw [Nat.one_mul, Nat.mul_one, Nat.mul_comm (val R0)]; exact hle)
theorem Rd.ge {N D R R0 : Nat} (h : Rd N D R) (hD : 0 < D) (hle : D * val R0 ≤ N) : R0 ≤ R :=
  (Rd.exact 1 R0 (by decide)).mono h (by decide) hD (by rw [Nat.one_mul, Nat.mul_one, Nat.mul_comm (val R0)]; exact hle)
theorem Rd.zero (D : Nat) : Rd 0 D 0 := ⟨fun h => absurd rfl h, by omega, fun h => by omega⟩
theorem Rd.eq {N D R R0 : Nat} (h : Rd N D R) (hD : 0 < D) (he : N = D * val R0) : R = R0 :=
  Nat.le_antisymm (h.le hD (Nat.le_of_eq he)) (h.ge hD (Nat.le_of_eq he.symm))
theorem word_sgn (s : Bool) {r : Nat} (h : r < 9223372036854775808) : sgn (double.word s r) = s := by
  unfold sgn Format.word
  rw [double_sign]
  cases s
  · simp; omega
  · simp; omega
theorem word_rg (s : Bool) {r : Nat} (h : r < 9223372036854775808) : rg (double.word s r) = r := by
  unfold rg Format.word
  rw [double_sign]
  cases s
  · simp; omega
  · simp; omega
theorem word_eq {w : Nat} (h : w < 18446744073709551616) : w = double.word (sgn w) (rg w) := by
  unfold sgn rg Format.word
  rw [double_sign]
  split
  · rename_i h2; simp at h2; omega
  · rename_i h2; simp at h2; omega
theorem mul_num {x y : Nat} (hx : rg x < infR) (hy : rg y < infR) : ∃ R, double.mul x y = some (double.word (sgn x ^^ sgn y) (min R infR)) ∧ Rd (val (rg x) * val (rg y)) U R := by
  unfold Format.mul
  rw [read_num hx, read_num hy]
  simp only [Datum.product, Option.map, Format.write]
  by_cases h0 : mg (rg x) * mg (rg y) = 0
  · refine ⟨0, ?_, ?_⟩
    · unfold Format.nearest; rw [if_pos h0]; simp
    · have : val (rg x) * val (rg y) = 0 := by
        unfold val
        rcases Nat.mul_eq_zero.1 h0 with h | h <;> rw [h] <;> simp
      rw [this]; exact Rd.zero _
  · obtain ⟨R, h1, h2⟩ := nearest_exact (sgn x ^^ sgn y) (mg (rg x) * mg (rg y)) (-1074 + (ex (rg x) : Int) + (-1074 + (ex (rg y) : Int))) (val (rg x) * val (rg y)) U h0 U_pos (by
      have hu := uE_is
      unfold val U
      generalize ex (rg x) = e1; generalize ex (rg y) = e2
      generalize mg (rg x) = m1; generalize mg (rg y) = m2
      generalize ha : (-1074 + (e1 : Int) + (-1074 + (e2 : Int)) + 1074).toNat = a
      generalize hb : (-(-1074 + (e1 : Int) + (-1074 + (e2 : Int)) + 1074)).toNat = b
      have he : 2 ^ a * 2 ^ uE = 2 ^ e1 * 2 ^ e2 * 2 ^ b := by rw [← Nat.pow_add, ← Nat.pow_add, ← Nat.pow_add]; congr 1; omega
      rw [he]
      generalize 2 ^ e1 = p; generalize 2 ^ e2 = q; generalize 2 ^ b = r
      grind)
    exact ⟨R, by rw [h1], h2⟩
theorem div_num {x y : Nat} (hx : rg x < infR) (hy : rg y < infR) (hz : rg y ≠ 0) : ∃ R, double.div x y = some (double.word (sgn x ^^ sgn y) (min R infR)) ∧ Rd (val (rg x) * U) (val (rg y)) R := by
  unfold Format.div
  rw [read_num hx, read_num hy]
  have hn : mg (rg y) ≠ 0 := by
    unfold mg; split <;> omega
  simp only [Datum.quotient, if_neg hn, Option.map, Format.write, double_frac]
  by_cases h0 : mg (rg x) = 0
  · refine ⟨0, ?_, ?_⟩
    · unfold Format.nearest; rw [if_pos (by rw [h0, Nat.zero_shiftLeft]; simp)]; simp
    · have : val (rg x) * U = 0 := by unfold val; rw [h0]; simp
      rw [this]; exact Rd.zero _
  · have hm1 : 2 ^ (mg (rg x)).log2 ≤ mg (rg x) := Nat.log2_self_le h0
    have hm2 : (mg (rg x)).log2 < 53 := by
      rw [Nat.log2_lt h0]; exact mg_lt (rg x)
    have hn2 : mg (rg y) < 2 ^ ((mg (rg y)).log2 + 1) := Nat.lt_log2_self
    rw [Nat.shiftLeft_eq]
    generalize hmo : 52 + 2 + (mg (rg y)).log2 - (mg (rg x)).log2 = more
    have hq : 9007199254740992 ≤ mg (rg x) * 2 ^ more / mg (rg y) := by
      rw [Nat.le_div_iff_mul_le (by omega)]
      have a1 : 2 ^ (mg (rg x)).log2 * 2 ^ more ≤ mg (rg x) * 2 ^ more := Nat.mul_le_mul_right _ hm1
      have a2 : 2 ^ (mg (rg x)).log2 * 2 ^ more = 9007199254740992 * 2 ^ ((mg (rg y)).log2 + 1) := by
        rw [show (9007199254740992 : Nat) = 2 ^ 53 by decide, ← Nat.pow_add, ← Nat.pow_add]; congr 1; omega
      have a3 : 9007199254740992 * mg (rg y) ≤ 9007199254740992 * 2 ^ ((mg (rg y)).log2 + 1) := Nat.mul_le_mul_left _ (by omega)
      omega
    generalize hdv : mg (rg x) * 2 ^ more = dv at *
    have hdm := Nat.div_add_mod dv (mg (rg y))
    have hml := Nat.mod_lt dv (show mg (rg y) > 0 by omega)
    generalize dv / mg (rg y) = q at *
    generalize dv % mg (rg y) = r at *
    have hmag : 2 * q + (r != 0).toNat ≠ 0 := by omega
    have hst : (r = 0 ∧ (r != 0).toNat = 0) ∨ (r ≠ 0 ∧ (r != 0).toNat = 1) := by
      by_cases hr : r = 0
      · left; simp [hr]
      · right; simp [hr]
    obtain ⟨R, h1, h2⟩ := nearest_rd (sgn x ^^ sgn y) (2 * q + (r != 0).toNat) (-1074 + (ex (rg x) : Int) - (-1074 + (ex (rg y) : Int)) - (more : Int) - 1) (val (rg x) * U) (val (rg y)) 2 hmag
      (by unfold val; exact Nat.mul_pos (by omega) (Nat.two_pow_pos _))
      (.inr ⟨rfl, by rw [Nat.le_log2 hmag]; omega⟩)
      (by
        intro h
        generalize hst' : (r != 0).toNat = t at *
        have hu := uE_is
        unfold val U
        generalize ex (rg x) = e1 at *; generalize ex (rg y) = e2 at *
        generalize mg (rg x) = m at *; generalize mg (rg y) = n at *
        generalize ha : (-1074 + (e1 : Int) - (-1074 + (e2 : Int)) - (more : Int) - 1 + 1074).toNat = a
        generalize hb : (-(-1074 + (e1 : Int) - (-1074 + (e2 : Int)) - (more : Int) - 1 + 1074)).toNat = b
        have he : 2 ^ e1 * 2 ^ uE * 2 ^ b = 2 * 2 ^ more * (2 ^ a * 2 ^ e2) := by
          rw [show 2 * 2 ^ more = 2 ^ (more + 1) by rw [Nat.pow_succ]; omega, ← Nat.pow_add, ← Nat.pow_add, ← Nat.pow_add, ← Nat.pow_add]; congr 1; omega
        have hZ : 0 < 2 ^ a * 2 ^ e2 := Nat.mul_pos (Nat.two_pow_pos _) (Nat.two_pow_pos _)
        have hY : m * 2 ^ e1 * 2 ^ uE * 2 ^ b = 2 * dv * (2 ^ a * 2 ^ e2) := by
          rw [← hdv]
          have : m * 2 ^ e1 * 2 ^ uE * 2 ^ b = m * (2 ^ e1 * 2 ^ uE * 2 ^ b) := by simp only [Nat.mul_assoc]
          rw [this, he]; simp only [Nat.mul_assoc, Nat.mul_left_comm, Nat.mul_comm]
        rw [hY]
        have hX : 2 * h * (2 ^ a * (n * 2 ^ e2)) = 2 * (h * n) * (2 ^ a * 2 ^ e2) := by simp only [Nat.mul_assoc, Nat.mul_left_comm, Nat.mul_comm]
        rw [hX]
        generalize 2 ^ a * 2 ^ e2 = Z at *
        have c1 : 2 * (h * n) * Z ≤ 2 * dv * Z ↔ h * n ≤ dv := ⟨fun k => by have := Nat.le_of_mul_le_mul_right k hZ; omega, fun k => Nat.mul_le_mul_right _ (by omega)⟩
        rw [c1]
        rw [← hdm]
        constructor
        · intro k
          have : h ≤ q := by
            apply Nat.le_of_not_lt; intro hlt
            have : (q + 1) * n ≤ h * n := Nat.mul_le_mul_right _ hlt
            rw [Nat.add_mul, Nat.mul_comm q n] at this; omega
          omega
        · intro k
          have : h * n ≤ q * n := Nat.mul_le_mul_right _ (by omega)
          rw [Nat.mul_comm q n] at this; omega)
      (by
        intro h
        generalize hst' : (r != 0).toNat = t at *
        have hu := uE_is
        unfold val U
        generalize ex (rg x) = e1 at *; generalize ex (rg y) = e2 at *
        generalize mg (rg x) = m at *; generalize mg (rg y) = n at *
        generalize ha : (-1074 + (e1 : Int) - (-1074 + (e2 : Int)) - (more : Int) - 1 + 1074).toNat = a
        generalize hb : (-(-1074 + (e1 : Int) - (-1074 + (e2 : Int)) - (more : Int) - 1 + 1074)).toNat = b
        have he : 2 ^ e1 * 2 ^ uE * 2 ^ b = 2 * 2 ^ more * (2 ^ a * 2 ^ e2) := by
          rw [show 2 * 2 ^ more = 2 ^ (more + 1) by rw [Nat.pow_succ]; omega, ← Nat.pow_add, ← Nat.pow_add, ← Nat.pow_add, ← Nat.pow_add]; congr 1; omega
        have hZ : 0 < 2 ^ a * 2 ^ e2 := Nat.mul_pos (Nat.two_pow_pos _) (Nat.two_pow_pos _)
        have hY : m * 2 ^ e1 * 2 ^ uE * 2 ^ b = 2 * dv * (2 ^ a * 2 ^ e2) := by
          rw [← hdv]
          have : m * 2 ^ e1 * 2 ^ uE * 2 ^ b = m * (2 ^ e1 * 2 ^ uE * 2 ^ b) := by simp only [Nat.mul_assoc]
          rw [this, he]; simp only [Nat.mul_assoc, Nat.mul_left_comm, Nat.mul_comm]
        rw [hY]
        have hX : 2 * h * (2 ^ a * (n * 2 ^ e2)) = 2 * (h * n) * (2 ^ a * 2 ^ e2) := by simp only [Nat.mul_assoc, Nat.mul_left_comm, Nat.mul_comm]
        rw [hX]
        generalize 2 ^ a * 2 ^ e2 = Z at *
        have c1 : 2 * dv * Z ≤ 2 * (h * n) * Z ↔ dv ≤ h * n := ⟨fun k => by have := Nat.le_of_mul_le_mul_right k hZ; omega, fun k => Nat.mul_le_mul_right _ (by omega)⟩
        rw [c1]
        rw [← hdm]
        constructor
        · intro k
          rcases hst with ⟨h3, h4⟩ | ⟨h3, h4⟩
          · have : q ≤ h := by
              apply Nat.le_of_not_lt; intro hlt
              have : (h + 1) * n ≤ q * n := Nat.mul_le_mul_right _ hlt
              rw [Nat.add_mul, Nat.mul_comm q n] at this; omega
            omega
          · have : q < h := by
              apply Nat.lt_of_not_le; intro hle
              have : h * n ≤ q * n := Nat.mul_le_mul_right _ hle
              rw [Nat.mul_comm q n] at this; omega
            omega
        · intro k
          rcases hst with ⟨h3, h4⟩ | ⟨h3, h4⟩
          · have : q * n ≤ h * n := Nat.mul_le_mul_right _ (by omega)
            rw [Nat.mul_comm q n] at this; omega
          · have : (q + 1) * n ≤ h * n := Nat.mul_le_mul_right _ (by omega)
            rw [Nat.add_mul, Nat.mul_comm q n] at this; omega)
    exact ⟨R, by rw [h1], h2⟩
theorem ex_val (m k : Nat) (h : m ≤ 9007199254740992) : ∃ R, val R = m * 2 ^ k := by
  induction k with
  | zero => exact ⟨m, by have := val_norm 0 m h (.inl rfl); simpa using this⟩
  | succ k ih =>
    obtain ⟨R, hR⟩ := ih
    have h1 := r_eq R; have h2 := mg_lt R; have h3 := mg_or R
    by_cases hs : mg R < 4503599627370496
    · have e0 : ex R = 0 := by omega
      have hv : val R = R := by unfold val; rw [e0]; omega
      have := val_norm 0 (2 * R) (by omega) (.inl rfl)
      refine ⟨2 * R, ?_⟩
      rw [Nat.pow_succ, ← Nat.mul_assoc, ← hR, hv]
      simp only [Nat.zero_mul, Nat.zero_add, Nat.pow_zero, Nat.mul_one] at this
      omega
    · have := val_norm (ex R + 1) (mg R) (by omega) (.inr (by omega))
      refine ⟨(ex R + 1) * 4503599627370496 + mg R, ?_⟩
      rw [this, Nat.pow_succ, Nat.pow_succ, ← Nat.mul_assoc, ← Nat.mul_assoc, ← hR]; rfl
theorem infR_lt : infR < 9223372036854775808 := by decide
theorem big_rung : 9223372036854775808 * U = val 4890909195324358656 := by decide +kernel
theorem ofInt_num (n : Int) (h : n.natAbs ≤ 9223372036854775808) : ∃ R, floatOfInt .f64 n = double.word (decide (n < 0)) R ∧ R < infR ∧ Rd (n.natAbs * U) 1 R := by
  unfold floatOfInt FloatKind.nearest FloatKind.encode FloatKind.format Format.write
  by_cases h0 : n.natAbs = 0
  · refine ⟨0, ?_, by decide, ?_⟩
    · unfold Format.nearest; simp only; rw [if_pos h0]
    · rw [h0, Nat.zero_mul]; exact Rd.zero 1
  · obtain ⟨R, h1, h2⟩ := nearest_exact (decide (n < 0)) n.natAbs 0 (n.natAbs * U) 1 h0 (by decide) (by
      have hu := uE_is
      unfold U
      rw [show ((0 : Int) + 1074).toNat = uE by omega, show (-((0 : Int) + 1074)).toNat = 0 by omega]; simp)
    have h3 : R ≤ 4890909195324358656 := h2.le (by decide) (by rw [Nat.one_mul, ← big_rung]; exact Nat.mul_le_mul_right _ h)
    have h4 : R < infR := by unfold infR; omega
    refine ⟨R, ?_, h4, h2⟩
    simp only [h1]
    rw [Nat.min_eq_left (by omega)]
theorem ofInt_small (n : Int) (h0 : 0 ≤ n) (h : n < 9007199254740992) : ∃ R, floatOfInt .f64 n = R ∧ R < infR ∧ val R = n.toNat * U := by
  obtain ⟨R, h1, h2, h3⟩ := ofInt_num n (by omega)
  have : decide (n < 0) = false := by simp; omega
  rw [this] at h1
  obtain ⟨R0, hR0⟩ := ex_val n.toNat uE (by omega)
  have e : R = R0 := h3.eq (by decide) (by rw [Nat.one_mul, hR0, show n.natAbs = n.toNat by omega]; rfl)
  refine ⟨R, h1, h2, by rw [e, hR0]; rfl⟩
theorem cut_low (way : Toward) (hw : way = .zero ∨ way = .down) (n drop : Nat) : way.cut false n drop = n / 2 ^ drop := by
  have e : way.cut false n drop = n / 2 ^ min drop (n.log2 + 2) := by
    rcases hw with rfl | rfl <;> simp [Toward.cut, Nat.shiftLeft_eq]
  rw [e]
  by_cases hd : drop ≤ n.log2 + 2
  · rw [Nat.min_eq_left hd]
  · rw [Nat.min_eq_right (by omega)]
    have hlt : n < 2 ^ (n.log2 + 1) := Nat.lt_log2_self
    have h1 : 2 ^ (n.log2 + 1) ≤ 2 ^ (n.log2 + 2) := Nat.pow_le_pow_right (by omega) (by omega)
    have h2 : 2 ^ (n.log2 + 2) ≤ 2 ^ drop := Nat.pow_le_pow_right (by omega) (by omega)
    rw [Nat.div_eq_of_lt (by omega), Nat.div_eq_of_lt (by omega)]
theorem cut_val (way : Toward) (hw : way = .zero ∨ way = .down) (x : Nat) : way.cut false (mg x <<< (-1074 + (ex x : Int)).toNat) (-(-1074 + (ex x : Int))).toNat = val x / U := by
  rw [cut_low way hw, Nat.shiftLeft_eq]
  have hu := uE_is
  unfold val U
  by_cases h : uE ≤ ex x
  · rw [show (-1074 + (ex x : Int)).toNat = ex x - uE by omega, show (-(-1074 + (ex x : Int))).toNat = 0 by omega]
    have : mg x * 2 ^ ex x = mg x * 2 ^ (ex x - uE) * 2 ^ uE := by rw [Nat.mul_assoc, ← Nat.pow_add, Nat.sub_add_cancel h]
    rw [this, Nat.mul_div_cancel _ (Nat.two_pow_pos _)]; simp
  · rw [show (-1074 + (ex x : Int)).toNat = 0 by omega, show (-(-1074 + (ex x : Int))).toNat = uE - ex x by omega]
    have : 2 ^ uE = 2 ^ (uE - ex x) * 2 ^ ex x := by rw [← Nat.pow_add, Nat.sub_add_cancel (by omega)]
    rw [this, Nat.mul_div_mul_right _ _ (Nat.two_pow_pos _)]; simp
theorem read_pos {x : Nat} (h : x < infR) : double.read x = .number false (mg x) (-1074 + (ex x : Int)) := by
  have b := infR_lt
  have rx : rg x = x := by unfold rg; omega
  have sx : sgn x = false := by unfold sgn; simp; omega
  rw [read_num (by omega), rx, sx]
theorem toInt_num {x : Nat} (h : x < infR) (hb : val x / U ≤ 9223372036854775807) : floatToIntVal .f64 x .i64 = some ((val x / U : Nat) : Int) := by
  unfold floatToIntVal FloatKind.decode FloatKind.format
  simp only [read_pos h, Datum.toInt, Datum.integral]
  rw [cut_val .zero (.inl rfl)]
  generalize val x / U = q at *
  simp only [signed, Bool.false_eq_true, if_false, Nat.shiftLeft_zero]
  have e1 : IntKind.i64.min = -9223372036854775808 := by decide
  have e2 : IntKind.i64.max = 9223372036854775807 := by decide
  rw [if_pos (by rw [e1, e2]; omega)]
theorem floor_num {x : Nat} (h : x < infR) (hb : val x / U < 9007199254740992) : ∃ R, FloatKind.f64.encode ((FloatKind.f64.decode x).integral .down) = R ∧ R < infR ∧ val R = val x / U * U := by
  unfold FloatKind.encode FloatKind.decode FloatKind.format
  simp only [read_pos h, Datum.integral]
  rw [cut_val .down (.inr rfl)]
  generalize val x / U = q at *
  obtain ⟨R, h1, h2, h3⟩ := ofInt_small (q : Int) (by omega) (by omega)
  refine ⟨R, ?_, h2, by rw [h3]; simp⟩
  rw [← h1]
  unfold floatOfInt FloatKind.nearest FloatKind.encode FloatKind.format
  have : decide ((q : Int) < 0) = false := by simp
  rw [this]; simp
def H : Nat := 2 ^ (uE - 1)
theorem U_half : U = 2 * H := by
  have hu := uE_is
  unfold U H
  rw [show uE = uE - 1 + 1 by omega, Nat.pow_succ]; simp; omega
theorem U_big : 4722366482869645213696 ≤ U := by
  have hu := uE_is
  have : 2 ^ 72 ≤ 2 ^ uE := Nat.pow_le_pow_right (by omega) (by omega)
  unfold U; omega
theorem H_pos : 0 < H := Nat.two_pow_pos _
theorem Rd.rel {N D R : Nat} (h : Rd N D R) (hR : 4503599627370496 ≤ R) : N * 9007199254740992 ≤ D * val R * 9007199254740993 ∧ D * val R * 9007199254740991 ≤ N * 9007199254740992 := by
  obtain ⟨h1, h2, _⟩ := h
  obtain ⟨h1, _⟩ := h1 (by omega)
  have v1 := val_succ R
  have v2 := val_succ (R - 1)
  rw [show R - 1 + 1 = R by omega] at v2
  have g1 : 4503599627370496 * 2 ^ ex R ≤ val R := by
    have := mg_or R; have := r_eq R; have := mg_lt R
    unfold val
    exact Nat.mul_le_mul_right _ (by unfold mg; split <;> omega)
  have g2 : 4503599627370496 * 2 ^ ex (R - 1) ≤ val R := by
    by_cases hc : R = 4503599627370496
    · subst hc
      have : val 4503599627370496 = 4503599627370496 := by decide
      rw [this]
      have : ex (4503599627370496 - 1) = 0 := by decide
      rw [this]; omega
    · have : 4503599627370496 * 2 ^ ex (R - 1) ≤ val (R - 1) := by
        unfold val
        exact Nat.mul_le_mul_right _ (by unfold mg; split <;> omega)
      omega
  have k1 : D * (4503599627370496 * 2 ^ ex R) ≤ D * val R := Nat.mul_le_mul_left _ g1
  have k2 : D * (4503599627370496 * 2 ^ ex (R - 1)) ≤ D * val R := Nat.mul_le_mul_left _ g2
  rw [Nat.mul_left_comm] at k1 k2
  rw [v1, Nat.mul_add, Nat.mul_add] at h2
  have e : D * (val (R - 1) + val R) + D * 2 ^ ex (R - 1) = 2 * (D * val R) := by
    have : val (R - 1) + val R + 2 ^ ex (R - 1) = 2 * val R := by omega
    rw [← Nat.mul_add, this, Nat.mul_left_comm]
  constructor <;> omega
theorem round_core {n T g p : Nat} (hn : n ≤ 1125899906842624) (hT : 0 < T) (hT2 : T ≤ 1000000) (hg : Rd (n * U * U) (T * U) g) (hp : Rd (val g * (T * U)) U p) : (val p + H) / U = n := by
  have hU := U_pos; have hb := U_big; have hH := U_half
  have hTU : 0 < T * U := Nat.mul_pos hT hU
  by_cases h0 : n = 0
  · subst h0
    have e1 : g = 0 := hg.eq hTU (by rw [val_zero]; simp)
    subst e1
    have e2 : p = 0 := hp.eq hU (by rw [val_zero]; simp)
    subst e2
    rw [val_zero]
    exact Nat.div_eq_of_lt (by omega)
  · have hg1 : 4503599627370496 ≤ g := hg.ge hTU (by
      have : val 4503599627370496 = 4503599627370496 := by decide
      rw [this]
      have a1 : T * U * 4503599627370496 = (T * 4503599627370496) * U := by rw [Nat.mul_right_comm]
      rw [a1]
      apply Nat.mul_le_mul_right
      have a2 : 1 * U ≤ n * U := Nat.mul_le_mul_right _ (by omega)
      omega)
    obtain ⟨r1, r2⟩ := hg.rel hg1
    have c1 : n * U * 9007199254740992 ≤ T * val g * 9007199254740993 := by
      apply Nat.le_of_mul_le_mul_right _ hU
      have e1 : n * U * 9007199254740992 * U = n * U * U * 9007199254740992 := by rw [Nat.mul_right_comm]
      have e2 : T * val g * 9007199254740993 * U = T * U * val g * 9007199254740993 := by grind
      omega
    have c2 : T * val g * 9007199254740991 ≤ n * U * 9007199254740992 := by
      apply Nat.le_of_mul_le_mul_right _ hU
      have e1 : n * U * 9007199254740992 * U = n * U * U * 9007199254740992 := by rw [Nat.mul_right_comm]
      have e2 : T * val g * 9007199254740991 * U = T * U * val g * 9007199254740991 := by grind
      omega
    have e3 : val g * (T * U) = U * (T * val g) := by grind
    rw [e3] at hp
    have nU : 1 * U ≤ n * U := Nat.mul_le_mul_right _ (by omega)
    have nU2 : n * U ≤ 1125899906842624 * U := Nat.mul_le_mul_right _ hn
    generalize T * val g = S at *
    generalize hA : n * U = A at *
    have hp1 : 4503599627370496 ≤ p := hp.ge hU (by
      have : val 4503599627370496 = 4503599627370496 := by decide
      rw [this]
      exact Nat.mul_le_mul_left _ (by omega))
    obtain ⟨r3, r4⟩ := hp.rel hp1
    have c3 : S * 9007199254740992 ≤ val p * 9007199254740993 := by
      apply Nat.le_of_mul_le_mul_left _ hU
      rw [← Nat.mul_assoc, ← Nat.mul_assoc]; exact r3
    have c4 : val p * 9007199254740991 ≤ S * 9007199254740992 := by
      apply Nat.le_of_mul_le_mul_left _ hU
      rw [← Nat.mul_assoc, ← Nat.mul_assoc]; exact r4
    apply Nat.div_eq_of_lt_le
    · rw [hA]; omega
    · rw [Nat.add_mul, hA]; omega
end Go.Proofs.YtgfhabofhefaaaaGreatDoor.FM
