/- Walks of package ratio's Parse: powers of ten, a size, the whole; and of the document's own powers. -/
import Derived.Test.YtbinhlnekhglkaaDoorRatP
namespace Go.Proofs.YtbinhlnekhglkaaDoor
open Go.RowKit

theorem nought_long (s : ByteArray) (h : 1 < s.size) : TX.nought s.data.toList = (s[0] == 48) := by
  have hl := Lib.size_eq s
  have hd : s.data.toList = s[0] :: s.data.toList.drop 1 := M.drop_at s 0 (by omega)
  unfold TX.nought
  rw [hd]
  rw [hd] at hl
  simp at hl ⊢
  omega
theorem nought_short (s : ByteArray) (h : ¬ 1 < s.size) : TX.nought s.data.toList = false := by
  have hl := Lib.size_eq s
  unfold TX.nought
  simp
  omega
theorem byte_eq (c d : UInt8) : (((c.toNat : Int)) == (d.toNat : Int)) = (c == d) := by
  rw [Bool.eq_iff_iff]; simp [← UInt8.toNat_inj]; omega
set_option maxHeartbeats 400000 in
theorem nought_s (s : ByteArray) (w : World) (hs : s.size ≤ maxLen) :
    Calls Tryd.prog 60 #[.string s] w fun e w' => e = .returned (.bool (TX.nought s.data.toList)) ∧ w = w' := by
  unfold maxLen at hs
  by_cases h1 : 1 < s.size
  · have E := Lib.hid (nought_long s h1)
    go_enter Tryd.func60, Tryd.ntmps60
    go_wp2
    go_ret
    refine ret_b ?_ rfl
    rw [E.out]
    exact byte_eq s[0] 48
  · have E := Lib.hid (nought_short s h1)
    go_enter Tryd.func60, Tryd.ntmps60
    go_wp2
    go_ret
    exact ret_b E.out.symm rfl
theorem nought_any (l : List UInt8) (w : World) (hl : l.length ≤ maxLen) :
    Calls Tryd.prog 60 #[.string ⟨l.toArray⟩] w fun e w' => e = .returned (.bool (TX.nought l)) ∧ w = w' := nought_s ⟨l.toArray⟩ w (by rw [str_size]; exact hl)

theorem ten_step {i : Nat} {p : Int} (hi : i < 9) (h : p = ((10 ^ i : Nat) : Int)) : p * 10 = ((10 ^ (i + 1) : Nat) : Int) ∧ 0 < p ∧ p ≤ 100000000 := by
  have h1 := TX.ten_pos i
  have h2 : 10 ^ i ≤ 10 ^ 8 := Nat.pow_le_pow_right (by decide) (by omega)
  have e : 10 ^ (i + 1) = 10 ^ i * 10 := Nat.pow_succ ..
  have e8 : (10 : Nat) ^ 8 = 100000000 := by decide
  rw [e]; omega
set_option maxHeartbeats 400000 in
theorem tenTo_any (k : Nat) (hk : k ≤ 9) (w : World) :
    Calls Tryd.prog 50 #[.int .i64 (k : Int)] w fun e w' => e = .returned (.int .i64 ((10 ^ k : Nat) : Int)) ∧ w = w' := by
  go_enter Tryd.func50, Tryd.ntmps50
  go_wp2
  go_loop [3, 5] (fun v i => ∃ (j : Nat) (p : Int), j ≤ k ∧ i = .int .i64 (j : Int) ∧ v = .int .i64 p ∧ Hid (p = ((10 ^ j : Nat) : Int))) (fun _ i => k - (intOf i).toNat)
  case atStart => exact ⟨0, 1, Nat.zero_le _, rfl, rfl, by show _ = _; rfl⟩
  case round =>
    obtain ⟨j, p, hj, rfl, rfl, HP⟩ := hrel
    by_cases hlt : j < k
    · obtain ⟨e1, e2, e3⟩ := ten_step (i := j) (by omega) HP.out
      have E1 := Lib.hid e1
      clear e1
      go_wp2
      go_round
      case rel => exact ⟨j + 1, p * 10, by omega, by go_num, rfl, E1.out⟩
      case measure => simp [intOf]; omega
    · obtain rfl : j = k := by omega
      go_wp2
      go_ret
      exact ret_i HP.out rfl
set_option maxHeartbeats 400000 in
theorem rten_any (k : Nat) (hk : k ≤ 9) (w : World) :
    Calls Tryd.prog 49 #[.int .i64 (k : Int)] w fun e w' => e = .returned (.int .i64 ((10 ^ k : Nat) : Int)) ∧ w = w' := by
  go_enter Tryd.func49, Tryd.ntmps49
  go_wp2
  go_loop [3, 4] (fun v i => ∃ (j : Nat) (p : Int), j ≤ k ∧ i = .int .i64 (j : Int) ∧ v = .int .i64 p ∧ Hid (p = ((10 ^ j : Nat) : Int))) (fun _ i => k - (intOf i).toNat)
  case atStart => exact ⟨0, 1, Nat.zero_le _, rfl, rfl, by show _ = _; rfl⟩
  case round =>
    obtain ⟨j, p, hj, rfl, rfl, HP⟩ := hrel
    by_cases hlt : j < k
    · obtain ⟨e1, e2, e3⟩ := ten_step (i := j) (by omega) HP.out
      have E1 := Lib.hid e1
      clear e1
      go_wp2
      go_round
      case rel => exact ⟨j + 1, p * 10, by omega, by go_num, rfl, E1.out⟩
      case measure => simp [intOf]; omega
    · obtain rfl : j = k := by omega
      go_wp2
      go_ret
      exact ret_i HP.out rfl

def pF (l : List UInt8) : Nat := match TX.psz l with | some p => TX.qw p.1 p.2 | none => 0
def pOk (l : List UInt8) : Bool := (TX.psz l).isSome
theorem ret_fb {a b : Nat} {x y : Bool} {P : Prop} (h : a = b) (h2 : x = y) (hp : P) : Ending.returned (.tuple #[.float .f64 a, .bool x]) = .returned (.tuple #[.float .f64 b, .bool y]) ∧ P := ⟨by rw [h, h2], hp⟩
theorem num_lt : ∀ (l : List UInt8) (n : Nat), (∀ c ∈ l, TX.isD c = true) → TX.num n l < (n + 1) * 10 ^ l.length
  | [], n, _ => by rw [TX.num_nil]; simp
  | c :: l, n, h => by
    rw [TX.num_cons]
    have h1 := isD_yes (h c (List.mem_cons_self ..))
    have h2 := num_lt l (n * 10 + (c.toNat - 48)) (fun d hd => h d (List.mem_cons_of_mem _ hd))
    have h3 : (n * 10 + (c.toNat - 48) + 1) * 10 ^ l.length ≤ ((n + 1) * 10) * 10 ^ l.length := Nat.mul_le_mul_right _ (by omega)
    rw [List.length_cons, Nat.pow_succ, Nat.mul_comm (10 ^ l.length), ← Nat.mul_assoc]
    omega
end Go.Proofs.YtbinhlnekhglkaaDoor
