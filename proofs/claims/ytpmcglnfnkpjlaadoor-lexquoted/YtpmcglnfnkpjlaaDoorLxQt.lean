/- A text in quotes is read as it was. No program is named here. -/
import Derived.Test.YtpmcglnfnkpjlaaDoorLxMath
import Derived.Lib.Replace
namespace Go.Proofs.YtpmcglnfnkpjlaaDoor
namespace LX
open Go

/-- How a byte is written in double quotes. -/
def hexd (n : Nat) : UInt8 := UInt8.ofNat (if n < 10 then 48 + n else 87 + n)
def q1 (c : UInt8) : B :=
  if c = 92 ∨ c = 34 then [92, c]
  else if c = 10 then [92, 110]
  else if c = 9 then [92, 116]
  else if c.toNat < 32 ∨ c = 127 then [92, 120, hexd (c.toNat / 16), hexd (c.toNat % 16)]
  else [c]
theorem q1_self {c : UInt8} (h1 : c ≠ 92) (h2 : c ≠ 34) (h3 : c ≠ 10) (h4 : c ≠ 9) (h5 : ¬ (c.toNat < 32 ∨ c = 127)) : q1 c = [c] := by
  unfold q1
  rw [if_neg (fun h => h.elim h1 h2), if_neg h3, if_neg h4, if_neg h5]
theorem q1_hex {c : UInt8} (h1 : c ≠ 92) (h2 : c ≠ 34) (h3 : c ≠ 10) (h4 : c ≠ 9) (h5 : c.toNat < 32 ∨ c = 127) : q1 c = [92, 120, hexd (c.toNat / 16), hexd (c.toNat % 16)] := by
  unfold q1
  rw [if_neg (fun h => h.elim h1 h2), if_neg h3, if_neg h4, if_pos h5]
def hexs : B := [48, 49, 50, 51, 52, 53, 54, 55, 56, 57, 97, 98, 99, 100, 101, 102]
theorem hexs_at : ∀ n : Fin 16, hexs[n.val]? = some (hexd n.val) := by decide +kernel
def quo (s : B) : B := 34 :: (s.flatMap q1 ++ [34])
theorem hx_hexd : ∀ n : Fin 16, hx (hexd n.val) = some n.val := by decide +kernel
theorem dq_q1 (c : UInt8) (r : B) : dq (q1 c ++ r) = (dq r).map (c :: ·) := by
  unfold q1
  by_cases h1 : c = 92 ∨ c = 34
  · rw [if_pos h1]
    show dq (92 :: c :: r) = _
    rw [dq_esc]
    have : esc (c :: r) = some (c, 1) := by rw [esc.eq_def]; exact if_pos h1
    rw [this]; rfl
  · rw [if_neg h1]
    by_cases h2 : c = 10
    · rw [if_pos h2, h2]
      show dq (92 :: 110 :: r) = _
      rw [dq_esc]; rfl
    · rw [if_neg h2]
      by_cases h3 : c = 9
      · rw [if_pos h3, h3]
        show dq (92 :: 116 :: r) = _
        rw [dq_esc]; rfl
      · rw [if_neg h3]
        by_cases h4 : c.toNat < 32 ∨ c = 127
        · rw [if_pos h4]
          show dq (92 :: 120 :: hexd (c.toNat / 16) :: hexd (c.toNat % 16) :: r) = _
          rw [dq_esc]
          have hc := c.toNat_lt
          have a := hx_hexd ⟨c.toNat / 16, by omega⟩
          have b := hx_hexd ⟨c.toNat % 16, by omega⟩
          have e : esc (120 :: hexd (c.toNat / 16) :: hexd (c.toNat % 16) :: r) = some (c, 3) := by
            rw [esc.eq_def]
            simp only at a b ⊢
            rw [if_neg (by decide), if_neg (by decide), if_neg (by decide), if_pos trivial, a, b]
            simp only [Option.some.injEq, Prod.mk.injEq, and_true]
            rw [show 16 * (c.toNat / 16) + c.toNat % 16 = c.toNat by omega]
            exact UInt8.ofNat_toNat
          rw [e]; rfl
        · rw [if_neg h4]
          exact dq_pass (fun h => h1 (.inr h)) (fun h => h1 (.inl h))
theorem dq_quo : ∀ s : B, dq (s.flatMap q1 ++ [34]) = some s
  | [] => by show dq [34] = _; rw [dq_end]; rfl
  | c :: t => by
    rw [List.flatMap_cons, List.append_assoc, dq_q1, dq_quo t]; rfl
theorem q1_len (c : UInt8) : 1 ≤ (q1 c).length ∧ (q1 c).length ≤ 4 := by
  unfold q1
  split
  · simp
  · split
    · simp
    · split
      · simp
      · split <;> simp
theorem flat_len {f : UInt8 → B} {k : Nat} (h : ∀ c, (f c).length ≤ k) : ∀ s : B, (s.flatMap f).length ≤ k * s.length
  | [] => by simp
  | c :: t => by
    rw [List.flatMap_cons, List.length_append]
    have := h c
    have := flat_len h t
    simp only [List.length_cons, Nat.mul_add]
    omega
theorem quo_len (s : B) : (quo s).length ≤ 4 * s.length + 2 := by
  have := flat_len (fun c => (q1_len c).2) s
  simp only [quo, List.length_cons, List.length_append, List.length_nil]
  omega
theorem txt_dq {t x : B} (h : dq t = some x) : txt (34 :: t) = lng x true := by
  rw [txt.eq_def]
  simp only
  rw [if_neg (by decide), if_pos trivial, h]
theorem txt_sq {t x : B} (h : sq t = some x) : txt (39 :: t) = lng x true := by
  rw [txt.eq_def]
  simp only
  rw [if_pos trivial, h]
/-- A text alone in a line. -/
theorem row_text {no ind : Int} {c : UInt8} {t x : B} (h0 : 0 ≤ ind) (h1 : ind ≤ 16384) (hc : c = 34 ∨ c = 39) (h : txt (c :: t) = (0, x, true)) : row (no, ind, c :: t) = (0, [(3, no, ind, x, true)]) := by
  have hb : tl (c :: t) = c :: t := by
    rw [tl_drop]
    have : bn (c :: t) = 0 := by unfold bn runp; rcases hc with rfl | rfl <;> rfl
    rw [this, List.drop_zero]
  have hd : dash (c :: t) = false := by
    cases t with
    | nil => rcases hc with rfl | rfl <;> rfl
    | cons d u => rcases hc with rfl | rfl <;> rfl
  have hk : key (c :: t) = 0 := by
    have : run (c :: t) = 0 := by unfold run runp; rcases hc with rfl | rfl <;> rfl
    unfold key
    rw [this, List.drop_zero]
    cases t with
    | nil => rcases hc with rfl | rfl <;> rfl
    | cons d u => rcases hc with rfl | rfl <;> rfl
  unfold row
  simp only
  rw [if_neg (by omega), hb, go_mid hd, mid, if_pos hk, fin, if_neg (by simp), h, if_pos rfl]
  simp only [List.nil_append]
  rw [show ind + ((c :: t).length : Int) - ((c :: t).length : Int) = ind by omega]
theorem row_quo {no ind : Int} {s : B} (h0 : 0 ≤ ind) (h1 : ind ≤ 16384) (hs : s.length ≤ 200) : row (no, ind, quo s) = (0, [(3, no, ind, s, true)]) := by
  refine row_text h0 h1 (.inl rfl) ?_
  show txt (34 :: (s.flatMap q1 ++ [34])) = _
  rw [txt_dq (dq_quo s), lng, if_neg (by omega)]

/-- Each single quote doubled. -/
def s1 (c : UInt8) : B := if c = 39 then [39, 39] else [c]
def dbl (s : B) : B := s.flatMap s1
theorem sq_dbl : ∀ s : B, sq (dbl s ++ [39]) = some s
  | [] => sq_end
  | c :: t => by
    unfold dbl
    rw [List.flatMap_cons, List.append_assoc]
    by_cases h : c = 39
    · subst h
      show sq (39 :: 39 :: (t.flatMap s1 ++ [39])) = _
      rw [sq_two, show t.flatMap s1 = dbl t from rfl, sq_dbl t]; rfl
    · have : s1 c = [c] := if_neg h
      rw [this]
      show sq (c :: (t.flatMap s1 ++ [39])) = _
      rw [sq_pass h, show t.flatMap s1 = dbl t from rfl, sq_dbl t]; rfl
theorem dbl_len (s : B) : (dbl s).length ≤ 2 * s.length := by
  refine flat_len (fun c => ?_) s
  unfold s1
  split <;> simp
theorem rep_dbl : ∀ s : B, Lib.replaceK [39] [39, 39] (Lib.count s [39]) s = dbl s
  | [] => rfl
  | c :: t => by
    have ih := rep_dbl t
    by_cases h : c = 39
    · subst h
      have hi : Lib.index (39 :: t) [39] = ((0 : Nat) : Int) := by rw [Lib.index_one]; rfl
      rw [Lib.count_cons_eq, Nat.add_comm, Lib.replaceK_hit _ _ _ _ _ hi]
      simp only [List.take_zero, List.nil_append, Nat.zero_add, List.length_cons, List.length_nil, List.drop_succ_cons, List.drop_zero]
      rw [ih]; rfl
    · rw [Lib.count_cons_ne c 39 t h]
      have e : dbl (c :: t) = c :: dbl t := by
        unfold dbl
        rw [List.flatMap_cons, show s1 c = [c] from if_neg h]; rfl
      rw [e, ← ih]
      cases hk : Lib.count t [39] with
      | zero => rfl
      | succ k =>
        obtain ⟨i, hi⟩ := Lib.index_of_count (s := t) (old := [39]) (by omega)
        have hi2 : Lib.index (c :: t) [39] = ((i + 1 : Nat) : Int) := by
          rw [Lib.index_one] at hi ⊢
          unfold Lib.indexByte
          rw [if_neg (by simpa using h), hi]
          simp
        rw [Lib.replaceK_hit _ _ _ _ _ hi, Lib.replaceK_hit _ _ _ _ _ hi2]
        simp only [List.take_succ_cons, List.cons_append, List.length_cons, List.length_nil, List.cons.injEq, true_and]
        rw [show i + 1 + (0 + 1) = i + (0 + 1) + 1 by omega, List.drop_succ_cons]
theorem repAll_dbl (s : B) : Lib.replaceAll s [39] [39, 39] = dbl s := by
  unfold Lib.replaceAll Lib.replace
  rw [if_neg (by decide)]
  unfold Lib.replaceNum
  rw [if_pos (.inl (by decide))]
  exact rep_dbl s
theorem row_sgl {s : B} (hs : s.length ≤ 200) : row (1, 0, 39 :: (dbl s ++ [39])) = (0, [(3, 1, 0, s, true)]) := by
  refine row_text (by decide) (by decide) (.inr rfl) ?_
  rw [txt_sq (sq_dbl s), lng, if_neg (by omega)]
theorem row_sgl_key {s : B} (hs : s.length ≤ 200) : row (1, 0, 97 :: 58 :: 32 :: 32 :: 39 :: (dbl s ++ [39])) = (0, [(2, 1, 0, [97], false), (3, 1, 4, s, true)]) := by
  have ht : txt (39 :: (dbl s ++ [39])) = (0, s, true) := by
    rw [txt_sq (sq_dbl s), lng, if_neg (by omega)]
  generalize dbl s ++ [39] = u at *
  have hb : tl (97 :: 58 :: 32 :: 32 :: 39 :: u) = 97 :: 58 :: 32 :: 32 :: 39 :: u := by rw [tl_drop]; rfl
  have hb2 : tl (32 :: 32 :: 39 :: u) = 39 :: u := by rw [tl_drop]; rfl
  have hk : key (97 :: 58 :: 32 :: 32 :: 39 :: u) = 1 := by
    have : run (97 :: 58 :: 32 :: 32 :: 39 :: u) = 1 := by
      unfold run
      simp [runp, sgn]
    unfold key
    rw [this]; rfl
  unfold row
  simp only
  rw [if_neg (by omega), hb, go_mid rfl, mid, hk, if_neg (by decide), if_neg (by decide)]
  simp only [List.drop_succ_cons, List.drop_zero, hb2]
  rw [fin, if_neg (by simp), ht, if_pos rfl]
  simp
  omega
end LX
end Go.Proofs.YtpmcglnfnkpjlaaDoor
