/- Walks of the document's own dashed, keyed, blanks, small, odd. -/
import Derived.Test.YtmgalfdiiegjjaaDoorLxE
namespace Go.Proofs.YtmgalfdiiegjjaaDoor
open Go.RowKit

set_option maxHeartbeats 2000000 in
theorem rdashed_any (l : List UInt8) (w : World) (hl : l.length ≤ 100000) :
    Calls Tryd.prog 48 #[.string ⟨l.toArray⟩] w fun e w' => e = .returned (.bool (LX.dash l)) ∧ w' = w := by
  match l, hl with
  | [], _ =>
    go_enter Tryd.func48, Tryd.ntmps48
    go_wp2
    go_ret
    exact ⟨rfl, rfl⟩
  | [c], _ =>
    obtain ⟨z, hz⟩ : ∃ z : Int, (c.toNat : Int) = z := ⟨_, rfl⟩
    have hsz := str_size [c]
    have hp : 0 < (⟨[c].toArray⟩ : ByteArray).size := by rw [hsz]; simp
    have hi := first_z (u := []) hz hp
    have hub := c.toNat_lt
    have hz0 : 0 ≤ z := by omega
    have hz1 : z < 256 := by omega
    have HZ := Lib.hid hz
    clear hz hub
    by_cases h : c = 45
    · subst h
      obtain rfl : z = 45 := HZ.out.symm
      go_enter Tryd.func48, Tryd.ntmps48
      go_wp2
      go_ret
      exact ⟨rfl, rfl⟩
    · have E := Lib.hid (show LX.dash [c] = false by simp [LX.dash, h])
      have q : (z == 45) = false := zne HZ.out 45 (by decide) h
      have q2 : ¬ z = 45 := beq_eq_false_iff_ne.1 q
      rw [E.out]
      go_enter Tryd.func48, Tryd.ntmps48
      go_wp2
      go_ret
      exact ⟨rfl, rfl⟩
  | c :: d :: t, hl =>
    obtain ⟨z, hz⟩ : ∃ z : Int, (c.toNat : Int) = z := ⟨_, rfl⟩
    obtain ⟨y, hy⟩ : ∃ z : Int, (d.toNat : Int) = z := ⟨_, rfl⟩
    have hsz := str_size (c :: d :: t)
    have hp : 0 < (⟨(c :: d :: t).toArray⟩ : ByteArray).size := by rw [hsz]; simp
    have hp1 : 1 < (⟨(c :: d :: t).toArray⟩ : ByteArray).size := by rw [hsz]; simp
    have hi := first_z (u := d :: t) hz hp
    have hi1 := at_z (l := c :: d :: t) (p := 1) rfl hy hp1
    have hub := c.toNat_lt
    have hub1 := d.toNat_lt
    have hz0 : 0 ≤ z := by omega
    have hz1 : z < 256 := by omega
    have hy0 : 0 ≤ y := by omega
    have hy1 : y < 256 := by omega
    have HZ := Lib.hid hz
    have HY := Lib.hid hy
    obtain ⟨n, hn⟩ : ∃ n, (c :: d :: t).length = n := ⟨_, rfl⟩
    have hn2 : 2 ≤ n := by rw [← hn]; simp
    have hg0 : (0 : Int) < (n : Int) := by omega
    have hg1 : ((n : Int) == 1) = false := beq_eq_false_iff_ne.2 (by omega)
    have hg2 : ¬ (n : Int) = 1 := by omega
    have hg3 : ¬ n = 1 := by omega
    have hg4 : (n == 1) = false := beq_eq_false_iff_ne.2 hg3
    rw [hn] at hsz hl
    clear hz hub hy hub1 hn
    by_cases h : c = 45
    · subst h
      obtain rfl : z = 45 := HZ.out.symm
      by_cases h2 : d = 32
      · subst h2
        obtain rfl : y = 32 := HY.out.symm
        go_enter Tryd.func48, Tryd.ntmps48
        go_wp2
        go_ret
        exact ⟨rfl, rfl⟩
      · have E := Lib.hid (show LX.dash (45 :: d :: t) = false by simp [LX.dash, h2])
        have q : (y == 32) = false := zne HY.out 32 (by decide) h2
        have q2 : ¬ y = 32 := beq_eq_false_iff_ne.1 q
        rw [E.out]
        go_enter Tryd.func48, Tryd.ntmps48
        go_wp2
        go_ret
        exact ⟨rfl, rfl⟩
    · have E := Lib.hid (show LX.dash (c :: d :: t) = false by simp [LX.dash, h])
      have q : (z == 45) = false := zne HZ.out 45 (by decide) h
      have q2 : ¬ z = 45 := beq_eq_false_iff_ne.1 q
      rw [E.out]
      go_enter Tryd.func48, Tryd.ntmps48
      go_wp2
      go_ret
      exact ⟨rfl, rfl⟩

set_option maxHeartbeats 2000000 in
theorem rblanks_any (l : List UInt8) (a : Nat) (w : World) (hl : l.length ≤ 100000) (ha : a ≤ l.length) :
    Calls Tryd.prog 47 #[.string ⟨l.toArray⟩, .int .i64 (a : Int)] w fun e w' => e = .returned (.int .i64 (LX.bn (l.drop a) : Int)) ∧ w' = w := by
  have hsz := str_size l
  obtain ⟨n, hn⟩ : ∃ n, l.length = n := ⟨_, rfl⟩
  have HL := Lib.hid hn
  rw [hn] at hsz hl ha
  clear hn
  obtain ⟨K, HK⟩ : ∃ K, Hid (LX.bn (l.drop a) = K) := ⟨_, Lib.hid rfl⟩
  rw [HK.out]
  go_enter Tryd.func47, Tryd.ntmps47
  go_wp2
  go_loopg [5] (n - a) (fun g s5 wx => ∃ k : Nat, a + k + g = n ∧ s5 = .int .i64 (k : Int) ∧ wx = w ∧ Hid (k ≤ LX.bn (l.drop a)))
  case atStart => exact ⟨0, by omega, rfl, rfl, Nat.zero_le _⟩
  case round =>
    obtain ⟨k, hk, rfl, rfl, HR⟩ := hrel
    obtain ⟨q, hq⟩ : ∃ q, a + k = q := ⟨_, rfl⟩
    have hqi : (a : Int) + (k : Int) = (q : Int) := by omega
    cases gk with
    | zero =>
      have hlt : ¬ (q : Int) < (n : Int) := by omega
      have E := Lib.hid (show K = k by
        rw [← HK.out]
        refine LX.runp_stop HR.out (fun c hc => ?_)
        rw [List.getElem?_drop, List.getElem?_eq_none (by have := HL.out; omega)] at hc
        cases hc)
      go_wp2
      go_ret
      exact ret_n E.out.symm rfl
    | succ g =>
      have hlt : (q : Int) < (n : Int) := by omega
      obtain ⟨c, hc⟩ : ∃ c, l[q]? = some c := ⟨l[q]'(by have := HL.out; omega), List.getElem?_eq_getElem _⟩
      have hqn : q ≤ 100000 := by omega
      have hkl : q < (⟨l.toArray⟩ : ByteArray).size := by omega
      have hub := c.toNat_lt
      obtain ⟨z, hz⟩ : ∃ z : Int, (c.toNat : Int) = z := ⟨_, rfl⟩
      have hi := at_z hc hz hkl
      have hz0 : 0 ≤ z := by omega
      have hz1 : z < 256 := by omega
      have HC : Hid ((l.drop a)[k]? = some c) := by show _ = _; rw [List.getElem?_drop, hq]; exact hc
      have HZ := Lib.hid hz
      have HQ := Lib.hid hq
      clear hc hz hub hq
      by_cases h32 : c = 32
      · subst h32
        obtain rfl : z = 32 := HZ.out.symm
        have E := Lib.hid (LX.runp_more HR.out HC.out rfl)
        go_wp2
        go_roundg g
        case rel => exact ⟨k + 1, by have := HQ.out; omega, rfl, rfl, E⟩
        case measure => omega
      · have q32 : (z == 32) = false := zne HZ.out 32 (by decide) h32
        have q33 : ¬ z = 32 := beq_eq_false_iff_ne.1 q32
        have E := Lib.hid (show K = k by
          rw [← HK.out]
          refine LX.runp_stop HR.out (fun d hd => ?_)
          rw [HC.out] at hd
          obtain rfl := Option.some.inj hd
          simpa using h32)
        go_wp2
        go_ret
        exact ret_n E.out.symm rfl
theorem small_paths (c : UInt8) (z : Int) (hz : (c.toNat : Int) = z) : (48 ≤ z ∧ z ≤ 57 ∧ hxi c = z - 48) ∨ (48 ≤ z ∧ ¬ z ≤ 57 ∧ 97 ≤ z ∧ z ≤ 102 ∧ hxi c = z - 97 + 10) ∨ (48 ≤ z ∧ ¬ z ≤ 57 ∧ 97 ≤ z ∧ ¬ z ≤ 102 ∧ hxi c = -1) ∨ (48 ≤ z ∧ ¬ z ≤ 57 ∧ ¬ 97 ≤ z ∧ hxi c = -1) ∨ (¬ 48 ≤ z ∧ ¬ 97 ≤ z ∧ hxi c = -1) := by
  have e : hxi c = if 48 ≤ z ∧ z ≤ 57 then z - 48 else if 97 ≤ z ∧ z ≤ 102 then z - 97 + 10 else -1 := by
    unfold hxi LX.hx
    subst hz
    by_cases h1 : 48 ≤ c.toNat ∧ c.toNat ≤ 57
    · rw [if_pos h1]
      rw [if_pos (show (48 : Int) ≤ (c.toNat : Int) ∧ (c.toNat : Int) ≤ 57 by omega)]
      simp only; omega
    · rw [if_neg h1]
      rw [if_neg (show ¬ ((48 : Int) ≤ (c.toNat : Int) ∧ (c.toNat : Int) ≤ 57) by omega)]
      by_cases h2 : 97 ≤ c.toNat ∧ c.toNat ≤ 102
      · rw [if_pos h2]
        rw [if_pos (show (97 : Int) ≤ (c.toNat : Int) ∧ (c.toNat : Int) ≤ 102 by omega)]
        simp only; omega
      · rw [if_neg h2]
        rw [if_neg (show ¬ ((97 : Int) ≤ (c.toNat : Int) ∧ (c.toNat : Int) ≤ 102) by omega)]
  rw [e]
  by_cases h1 : 48 ≤ z
  · by_cases h2 : z ≤ 57
    · exact .inl ⟨h1, h2, by rw [if_pos ⟨h1, h2⟩]⟩
    · refine .inr ?_
      rw [if_neg (by omega)]
      by_cases h3 : 97 ≤ z
      · by_cases h4 : z ≤ 102
        · exact .inl ⟨h1, h2, h3, h4, by rw [if_pos ⟨h3, h4⟩]⟩
        · exact .inr (.inl ⟨h1, h2, h3, h4, by rw [if_neg (by omega)]⟩)
      · exact .inr (.inr (.inl ⟨h1, h2, h3, by rw [if_neg (by omega)]⟩))
  · rw [if_neg (by omega), if_neg (by omega)]
    exact .inr (.inr (.inr (.inr ⟨h1, by omega, rfl⟩)))
set_option maxHeartbeats 2000000 in
theorem rsmall_any (c : UInt8) (z : Int) (hz : (c.toNat : Int) = z) (w : World) :
    Calls Tryd.prog 60 #[.int .u8 z] w fun e w' => e = .returned (.int .i64 (hxi c)) ∧ w' = w := by
  have hub := c.toNat_lt
  have hz0 : 0 ≤ z := by omega
  have hz1 : z < 256 := by omega
  have hp := small_paths c z hz
  clear hz hub
  rcases hp with ⟨h1, h2, h3⟩ | ⟨h1, h2, h3, h4, h5⟩ | ⟨h1, h2, h3, h4, h5⟩ | ⟨h1, h2, h3, h4⟩ | ⟨h1, h2, h3⟩
  · rw [h3]
    have m1 : (z - 48) % 256 = z - 48 := by omega
    have m2 : IntKind.u8.wrap (z - 48) = z - 48 := by show (z - 48) % 256 = z - 48; exact m1
    go_enter Tryd.func60, Tryd.ntmps60
    go_wp2
    go_ret
    exact ⟨rfl, rfl⟩
  · rw [h5]
    have m1 : (z - 97) % 256 = z - 97 := by omega
    have m2 : IntKind.u8.wrap (z - 97) = z - 97 := by show (z - 97) % 256 = z - 97; exact m1
    go_enter Tryd.func60, Tryd.ntmps60
    go_wp2
    go_ret
    exact ⟨rfl, rfl⟩
  · rw [h5]
    go_enter Tryd.func60, Tryd.ntmps60
    go_wp2
    go_ret
    exact ⟨rfl, rfl⟩
  · rw [h4]
    go_enter Tryd.func60, Tryd.ntmps60
    go_wp2
    go_ret
    exact ⟨rfl, rfl⟩
  · rw [h3]
    go_enter Tryd.func60, Tryd.ntmps60
    go_wp2
    go_ret
    exact ⟨rfl, rfl⟩
end Go.Proofs.YtmgalfdiiegjjaaDoor
