/- Walks of package varint, and of the document's own twins. -/
import Derived.Test.YtfpdcljeepjogaaRows
import Derived.Test.YtfpdcljeepjogaaVarMath
import Derived.Test.YtfpdcljeepjogaaSlc
import Derived.WalkSpells
import Derived.WalkLawsBesides
namespace Go.Proofs.Ytfpdcljeepjogaa
open Go.RowKit

theorem rt_int {k : IntKind} {a b : Int} (h : a = b) : Ending.returned (.int k a) = .returned (.int k b) := by rw [h]
theorem rt_three {a a' b b' c c' : Int} {k l m : IntKind} (h : a = a') (h2 : b = b') (h3 : c = c') : Ending.returned (.tuple #[.int k a, .int l b, .int m c]) = .returned (.tuple #[.int k a', .int l b', .int m c']) := by rw [h, h2, h3]

theorem vlen_step {X : Int} {N L : Nat} (h : 128 ≤ X) (hl : L ≤ 10) (HL : N + V.len X.toNat = L + 1) : N + 1 ≤ 10 ∧ N + 1 + V.len (X / 128).toNat = L + 1 := by
  have e : (X / 128).toNat = X.toNat / 128 := by omega
  have := V.len_big (v := X.toNat) (by omega)
  have := V.len_pos (X.toNat / 128)
  rw [e]; omega
theorem vlen_stop {X : Int} {N L : Nat} (h0 : 0 ≤ X) (h : X < 128) (HL : N + V.len X.toNat = L + 1) : N = L := by
  have := V.len_small (v := X.toNat) (by omega)
  omega

set_option maxHeartbeats 400000 in
theorem vlen_any (v : Int) (h0 : 0 ≤ v) (h1 : v < 18446744073709551616) (w : World) :
    Calls Try.prog 58 #[.int .u64 v] w fun e w' => e = .returned (.int .i64 (V.len v.toNat : Int)) ∧ w = w' := by
  have hl := V.len_le10 (v := v.toNat) (by omega)
  go_enter Try.func58, Try.ntmps58
  go_wp2_with fail
  go_loop [0, 3] (fun x n => ∃ (X : Int) (N : Nat), x = .int .u64 X ∧ n = .int .i64 (N : Int) ∧ 0 ≤ X ∧ X < 18446744073709551616 ∧ 1 ≤ N ∧ N ≤ 10 ∧ Hid (N + V.len X.toNat = V.len v.toNat + 1)) (fun x _ => (intOf x).toNat)
  case atStart => exact ⟨v, 1, rfl, rfl, h0, h1, by omega, by omega, by show _ = _; omega⟩
  case round =>
    obtain ⟨X, N, rfl, rfl, hX0, hX1, hN1, hN, HL⟩ := hrel
    by_cases hb : 128 ≤ X
    · have hs := vlen_step hb hl HL.out
      go_wp2
      go_round
      case rel => exact ⟨X / 128, N + 1, by go_num, by go_num, by omega, by omega, by omega, hs.1, hs.2⟩
      case measure => simp [intOf]; omega
    · have hs := vlen_stop hX0 (by omega) HL.out
      go_wp2
      go_ret
      exact ⟨rt_int (by omega), rfl⟩

theorem or_step {X y k : Nat} (h64 : X < 18446744073709551616) (hX : X < 128 ^ k) (hy : y * 128 ^ k < 18446744073709551616) : bits .or .u64 (X : Int) (IntKind.u64.wrap ((y : Int) * 2 ^ (7 * k))) = ((X + y * 128 ^ k : Nat) : Int) := by
  have e : (128 : Nat) ^ k = 2 ^ (7 * k) := by rw [show (128 : Nat) = 2 ^ 7 from rfl, ← Nat.pow_mul]
  rw [e] at hX hy ⊢
  have e2 : ((y : Int) * 2 ^ (7 * k)) = ((y * 2 ^ (7 * k) : Nat) : Int) := by simp
  rw [e2, IntKind.wrap_u64]
  have e3 : ((y * 2 ^ (7 * k) : Nat) : Int) % 18446744073709551616 = ((y * 2 ^ (7 * k) : Nat) : Int) := by omega
  rw [e3]
  rw [bits_or_u64_nat _ _ h64 hy]
  congr 1
  have := Nat.two_pow_add_eq_or_of_lt hX y
  rw [Nat.mul_comm y, Nat.add_comm X, this, Nat.or_comm]
theorem andNot8 {x : Nat} (h : 128 ≤ x) (h2 : x < 256) : bits .andNot .u8 (x : Int) 128 = ((x % 128 : Nat) : Int) := by
  have : ∀ y : Fin 256, 128 ≤ y.val → bits .andNot .u8 ((y.val : Nat) : Int) 128 = ((y.val % 128 : Nat) : Int) := by decide +kernel
  exact this ⟨x, h2⟩ h
theorem andNot64 {x : Nat} (h : 128 ≤ x) (h2 : x < 256) : IntKind.u64.wrap (bits .andNot .u8 (x : Int) 128) = ((x % 128 : Nat) : Int) := by
  rw [andNot8 h h2, IntKind.wrap_u64]
  omega
theorem pow9 {k : Nat} (h : k ≤ 9) : 128 ^ k ≤ 9223372036854775808 := by
  have := Nat.pow_le_pow_right (n := 128) (by omega) h
  simpa using this
theorem pow8 {k : Nat} (h : k ≤ 8) : 128 ^ k ≤ 72057594037927936 := by
  have := Nat.pow_le_pow_right (n := 128) (by omega) h
  simpa using this

theorem or_nine {X k x : Nat} {Z : Int} (hk : (k : Int) = 9) (hx : x ≤ 1) (E : bits .or .u64 (X : Int) (IntKind.u64.wrap ((x : Int) * 2 ^ (7 * k))) = Z) : bits .or .u64 (X : Int) ((x : Int) * 9223372036854775808) = Z := by
  obtain rfl : k = 9 := by omega
  rw [← E, IntKind.wrap_u64]
  have : ((x : Int) * 2 ^ (7 * 9)) % 18446744073709551616 = (x : Int) * 9223372036854775808 := by
    show ((x : Int) * 9223372036854775808) % 18446744073709551616 = _
    omega
  rw [this]
theorem or_nought {X k x : Nat} {Z : Int} (hx : x = 0) (E : bits .or .u64 (X : Int) (IntKind.u64.wrap ((x : Int) * 2 ^ (7 * k))) = Z) : bits .or .u64 (X : Int) 0 = Z := by
  subst hx
  rw [← E]
  simp [IntKind.wrap_u64]

theorem get_round {bs : List UInt8} {x : UInt8} {X k : Nat} (hlt : k < bs.length) (hx : x = bs[k]) (HG : V.get bs 0 0 = V.get (bs.drop k) k X) : V.get bs 0 0 = V.get (x :: bs.drop (k + 1)) k X := by
  rw [HG, List.drop_eq_getElem_cons hlt, hx]
theorem get_go {bs : List UInt8} {x : UInt8} {X k : Nat} (hk : k ≤ 9) (h9 : k ≠ 9) (hm : 128 ≤ x.toNat) (hX : X < 128 ^ k) (HG : V.get bs 0 0 = V.get (x :: bs.drop (k + 1)) k X) :
    X + x.toNat % 128 * 128 ^ k < 128 ^ (k + 1) ∧ V.get bs 0 0 = V.get (bs.drop (k + 1)) (k + 1) (X + x.toNat % 128 * 128 ^ k) ∧ x.toNat % 128 * 128 ^ k < 18446744073709551616 := by
  have h8 := pow8 (show k ≤ 8 by omega)
  have h1 : x.toNat % 128 * 128 ^ k ≤ 127 * 128 ^ k := Nat.mul_le_mul_right _ (by omega)
  refine ⟨by rw [Nat.pow_succ]; omega, by rw [HG, V.get_more h9 hm], by omega⟩
theorem get_end {bs : List UInt8} {x : UInt8} {X k : Nat} (hk : k ≤ 9) (h9 : k = 9 → x.toNat ≤ 1) (hm : x.toNat < 128) (h0 : x.toNat = 0 → k = 0) (hX : X < 128 ^ k) (HG : V.get bs 0 0 = V.get (x :: bs.drop (k + 1)) k X) :
    V.gv bs = X + x.toNat * 128 ^ k ∧ V.gn bs = k + 1 ∧ V.ge bs = 0 ∧ x.toNat * 128 ^ k < 18446744073709551616 ∧ X + x.toNat * 128 ^ k < 18446744073709551616 := by
  unfold V.gv V.gn V.ge
  rw [HG, V.get_last h9 hm h0]
  refine ⟨rfl, rfl, rfl, ?_⟩
  by_cases h : k = 9
  · subst h
    have := h9 rfl
    have e : (128 : Nat) ^ 9 = 9223372036854775808 := by decide
    rw [e] at hX ⊢
    omega
  · have h8 := pow8 (show k ≤ 8 by omega)
    have h1 : x.toNat * 128 ^ k ≤ 127 * 128 ^ k := Nat.mul_le_mul_right _ (by omega)
    omega
theorem get_bad {bs : List UInt8} (h : V.get bs 0 0 = (0, 0, 2)) : V.gv bs = 0 ∧ V.gn bs = 0 ∧ V.ge bs = 2 := by unfold V.gv V.gn V.ge; rw [h]; exact ⟨rfl, rfl, rfl⟩
theorem get_lacks {bs : List UInt8} {X k : Nat} (hk : ¬ k < bs.length) (HG : V.get bs 0 0 = V.get (bs.drop k) k X) : V.gv bs = 0 ∧ V.gn bs = 0 ∧ V.ge bs = 3 := by
  have : bs.drop k = [] := List.drop_eq_nil_of_le (by omega)
  rw [this] at HG
  unfold V.gv V.gn V.ge; rw [HG]; exact ⟨rfl, rfl, rfl⟩

set_option maxHeartbeats 800000 in
theorem vget_any (v : Value) (bs : List UInt8) (w : World) (hr : Rdv w v (bv bs)) :
    Calls Try.prog 57 #[v] w fun e w' => e = .returned (.tuple #[.int .u64 (V.gv bs : Int), .int .i64 (V.gn bs : Int), .int .i64 (V.ge bs : Int)]) ∧ w = w' := by
  have hr' := Lib.hid hr
  obtain ⟨ao, cap, rfl, g1, g2, g3, g4⟩ := hr
  rw [bv_len] at g1
  rw [bv_len]
  clear g3 g4
  unfold maxLen at g2
  go_enter Try.func57, Try.ntmps57
  go_wp2_with fail
  go_loop [2, 9] (fun x i => ∃ (X k : Nat), x = .int .u64 (X : Int) ∧ i = .int .i64 (k : Int) ∧ k ≤ bs.length ∧ k ≤ 9 ∧ Hid (X < 128 ^ k) ∧ Hid (V.get bs 0 0 = V.get (bs.drop k) k X)) (fun _ i => bs.length - (intOf i).toNat)
  case atStart => exact ⟨0, 0, rfl, rfl, by omega, by omega, by show _ < _; simp, by show _ = _; simp⟩
  case round =>
    obtain ⟨X, k, rfl, rfl, hk, hk9, HX, HG⟩ := hrel
    by_cases hlt : k < bs.length
    · obtain ⟨b, off, cp, he, hbl, hcell⟩ := hr'.out.at hlt
      obtain ⟨rfl, rfl⟩ : ao = some ⟨b, off, none⟩ ∧ cap = cp := by simpa [bv_len] using he
      clear he
      have hc := hcell k hlt
      obtain ⟨x, hx⟩ : ∃ x, x = bs[k] := ⟨_, rfl⟩
      rw [← hx] at hc
      have hx8 := x.toNat_lt
      have HR := Lib.hid (get_round hlt hx HG.out)
      clear hx hcell HG hr'
      by_cases hm : 128 ≤ (x.toNat : Int)
      · by_cases h9 : k = 9
        · have hk9' : ((k : Int) == 9) = true := by rw [h9]; rfl
          have R := Lib.hid (get_bad (by rw [HR.out, h9]; exact V.get_wrong (by omega)))
          clear h9
          go_wp2
          go_ret3
          rw [R.out.1, R.out.2.1, R.out.2.2]
          exact ⟨rfl, rfl⟩
        · have hk9' : ((k : Int) == 9) = false := by simp; omega
          have R := Lib.hid (get_go hk9 h9 (by omega) HX.out HR.out)
          have E := Lib.hid (or_step (by have := pow9 hk9; have := HX.out; omega) HX.out R.out.2.2)
          have E2 := Lib.hid (andNot64 (x := x.toNat) (by omega) (by omega))
          clear HR
          go_wp2
          go_round
          case rel =>
            refine ⟨X + x.toNat % 128 * 128 ^ k, k + 1, ?_, by go_num, by omega, by omega, R.out.1, R.out.2.1⟩
            rw [E2.out, E.out]
          case measure => simp [intOf]; omega
      · by_cases h9 : k = 9 ∧ 1 < x.toNat
        · obtain ⟨h9, h1⟩ := h9
          have hk9' : ((k : Int) == 9) = true := by rw [h9]; rfl
          have h1' : (1 : Int) < (x.toNat : Int) := by omega
          have R := Lib.hid (get_bad (by rw [HR.out, h9]; exact V.get_wrong h1))
          clear h9
          go_wp2
          go_ret3
          rw [R.out.1, R.out.2.1, R.out.2.2]
          exact ⟨rfl, rfl⟩
        · by_cases h0 : x.toNat = 0 ∧ 0 < k
          · obtain ⟨h0, h1⟩ := h0
            have h0' : ((x.toNat : Int) == 0) = true := by rw [h0]; rfl
            have h1' : (0 : Int) < (k : Int) := by omega
            have h2' : ¬ (1 : Int) < (x.toNat : Int) := by omega
            have R := Lib.hid (get_bad (by rw [HR.out]; exact V.get_nought h0 h1))
            clear h0
            go_wp2
            all_goals go_ret3
            all_goals rw [R.out.1, R.out.2.1, R.out.2.2]
            all_goals exact ⟨rfl, rfl⟩
          · have R := Lib.hid (get_end hk9 (by omega) (by omega) (by omega) HX.out HR.out)
            have E := Lib.hid (or_step (by have := pow9 hk9; have := HX.out; omega) HX.out R.out.2.2.2.1)
            have t9 : ((k : Int) == 9 && decide ((1 : Int) < (x.toNat : Int))) = false := by simp; omega
            have t0 : ((x.toNat : Int) == 0 && decide ((0 : Int) < (k : Int))) = false := by simp; omega
            clear HR
            go_wp2
            all_goals go_ret3
            all_goals rw [R.out.1, R.out.2.1, R.out.2.2.1]
            all_goals refine ⟨rt_three ?_ (by omega) rfl, rfl⟩
            all_goals first
              | (have hk1 : (k : Int) = 9 := by assumption
                 exact or_nine hk1 (by omega) E.out)
              | (have hx1 : x.toNat = 0 := by assumption
                 exact or_nought hx1 E.out)
              | exact E.out
    · have R := Lib.hid (get_lacks hlt HG.out)
      go_wp2
      go_ret3
      rw [R.out.1, R.out.2.1, R.out.2.2]
      exact ⟨rfl, rfl⟩

theorem wrap_sum {x : UInt8} {X U : Nat} (h : X + x.toNat % 128 * U < 18446744073709551616) : IntKind.u64.wrap ((X : Int) + IntKind.u64.wrap ((x.toNat : Int) % 128 * (U : Int))) = ((X + x.toNat % 128 * U : Nat) : Int) := by
  have e : (x.toNat : Int) % 128 * (U : Int) = ((x.toNat % 128 * U : Nat) : Int) := by simp
  rw [e, IntKind.wrap_u64, IntKind.wrap_u64]
  omega
theorem wrap_unit {U : Nat} (h : U * 128 < 18446744073709551616) : IntKind.u64.wrap ((U : Int) * 128) = ((U * 128 : Nat) : Int) := by
  rw [IntKind.wrap_u64]
  omega
theorem wrap_last {x : UInt8} {X U k : Nat} (hU : U = 128 ^ k) (h : X + x.toNat * 128 ^ k < 18446744073709551616) : IntKind.u64.wrap ((X : Int) + IntKind.u64.wrap ((x.toNat : Int) * (U : Int))) = ((X + x.toNat * 128 ^ k : Nat) : Int) := by
  rw [← hU] at h ⊢
  have e : (x.toNat : Int) * (U : Int) = ((x.toNat * U : Nat) : Int) := by simp
  rw [e, IntKind.wrap_u64, IntKind.wrap_u64]
  omega
theorem wrap_last0 {x : UInt8} {X k : Nat} (hx : x.toNat = 0) (h : X + x.toNat * 128 ^ k < 18446744073709551616) : IntKind.u64.wrap ((X : Int) + IntKind.u64.wrap 0) = ((X + x.toNat * 128 ^ k : Nat) : Int) := by
  rw [hx, Nat.zero_mul] at h ⊢
  rw [IntKind.wrap_u64, IntKind.wrap_u64]
  omega
theorem rget_go {x : UInt8} {X k U : Nat} (hk : k ≤ 8) (hU : U = 128 ^ k) (hX : X < 128 ^ k) : X + x.toNat % 128 * U < 18446744073709551616 ∧ U * 128 < 18446744073709551616 ∧ U * 128 = 128 ^ (k + 1) := by
  subst hU
  have h8 := pow8 hk
  have h1 : x.toNat % 128 * 128 ^ k ≤ 127 * 128 ^ k := Nat.mul_le_mul_right _ (by omega)
  exact ⟨by omega, by omega, by rw [Nat.pow_succ]⟩

set_option maxRecDepth 100000 in
set_option maxHeartbeats 800000 in
theorem rget_any (v : Value) (bs : List UInt8) (w : World) (hr : Rdv w v (bv bs)) :
    Calls Try.prog 56 #[v] w fun e w' => e = .returned (.tuple #[.int .u64 (V.gv bs : Int), .int .i64 (V.gn bs : Int), .int .i64 (V.ge bs : Int)]) ∧ w = w' := by
  have hr' := Lib.hid hr
  obtain ⟨ao, cap, rfl, g1, g2, g3, g4⟩ := hr
  rw [bv_len] at g1
  rw [bv_len]
  clear g3 g4
  unfold maxLen at g2
  go_enter Try.func56, Try.ntmps56
  go_wp2_with fail
  go_loop [5, 6, 7] (fun x u i => ∃ (X k U : Nat), x = .int .u64 (X : Int) ∧ u = .int .u64 (U : Int) ∧ i = .int .i64 (k : Int) ∧ k ≤ bs.length ∧ k ≤ 9 ∧ Hid (U = 128 ^ k) ∧ Hid (X < 128 ^ k) ∧ Hid (V.get bs 0 0 = V.get (bs.drop k) k X)) (fun _ _ i => bs.length - (intOf i).toNat)
  case atStart => exact ⟨0, 0, 1, rfl, rfl, rfl, by omega, by omega, rfl, by show _ < _; simp, by show _ = _; simp⟩
  case round =>
    obtain ⟨X, k, U, rfl, rfl, rfl, hk, hk9, HU, HX, HG⟩ := hrel
    by_cases hlt : k < bs.length
    · obtain ⟨b, off, cp, he, hbl, hcell⟩ := hr'.out.at hlt
      obtain ⟨rfl, rfl⟩ : ao = some ⟨b, off, none⟩ ∧ cap = cp := by simpa [bv_len] using he
      clear he
      have hc := hcell k hlt
      obtain ⟨x, hx⟩ : ∃ x, x = bs[k] := ⟨_, rfl⟩
      rw [← hx] at hc
      have hx8 := x.toNat_lt
      have HR := Lib.hid (get_round hlt hx HG.out)
      clear hx hcell HG hr'
      by_cases hm : 128 ≤ (x.toNat : Int)
      · by_cases h9 : k = 9
        · have hk9' : ((k : Int) == 9) = true := by rw [h9]; rfl
          have R := Lib.hid (get_bad (by rw [HR.out, h9]; exact V.get_wrong (by omega)))
          clear h9
          go_wp2
          go_ret3
          rw [R.out.1, R.out.2.1, R.out.2.2]
          exact ⟨rfl, rfl⟩
        · have hk9' : ((k : Int) == 9) = false := by simp; omega
          have R := Lib.hid (get_go hk9 h9 (by omega) HX.out HR.out)
          have R2 := Lib.hid (rget_go (x := x) (by omega) HU.out HX.out)
          clear HR
          go_wp2
          go_round
          case rel => exact ⟨X + x.toNat % 128 * U, k + 1, U * 128, congrArg _ (wrap_sum R2.out.1), congrArg _ (wrap_unit R2.out.2.1), by go_num, by omega, by omega, R2.out.2.2, by rw [HU.out]; exact R.out.1, by rw [HU.out]; exact R.out.2.1⟩
          case measure => simp [intOf]; omega
      · by_cases h9 : k = 9 ∧ 1 < x.toNat
        · obtain ⟨h9, h1⟩ := h9
          have hk9' : ((k : Int) == 9) = true := by rw [h9]; rfl
          have h1' : (1 : Int) < (x.toNat : Int) := by omega
          have R := Lib.hid (get_bad (by rw [HR.out, h9]; exact V.get_wrong h1))
          clear h9
          go_wp2
          go_ret3
          rw [R.out.1, R.out.2.1, R.out.2.2]
          exact ⟨rfl, rfl⟩
        · have t9 : ((k : Int) == 9 && decide ((1 : Int) < (x.toNat : Int))) = false := by simp; omega
          by_cases h0 : x.toNat = 0 ∧ 0 < k
          · obtain ⟨h0, h1⟩ := h0
            have h0' : ((x.toNat : Int) == 0) = true := by rw [h0]; rfl
            have h1' : (0 : Int) < (k : Int) := by omega
            have h2' : ¬ (1 : Int) < (x.toNat : Int) := by omega
            have R := Lib.hid (get_bad (by rw [HR.out]; exact V.get_nought h0 h1))
            clear h0
            go_wp2
            all_goals go_ret3
            all_goals rw [R.out.1, R.out.2.1, R.out.2.2]
            all_goals exact ⟨rfl, rfl⟩
          · have R := Lib.hid (get_end hk9 (by omega) (by omega) (by omega) HX.out HR.out)
            have t0 : ((x.toNat : Int) == 0 && decide ((0 : Int) < (k : Int))) = false := by simp; omega
            have hxm : (x.toNat : Int) % 128 = x.toNat := by omega
            clear HR
            go_wp2
            all_goals go_ret3
            all_goals rw [R.out.1, R.out.2.1, R.out.2.2.1]
            all_goals refine ⟨rt_three ?_ (by omega) rfl, rfl⟩
            all_goals first
              | (have hx1 : x.toNat = 0 := by assumption
                 exact wrap_last0 hx1 R.out.2.2.2.2)
              | exact wrap_last HU.out R.out.2.2.2.2
    · have R := Lib.hid (get_lacks hlt HG.out)
      go_wp2
      go_ret3
      rw [R.out.1, R.out.2.1, R.out.2.2]
      exact ⟨rfl, rfl⟩
end Go.Proofs.Ytfpdcljeepjogaa
