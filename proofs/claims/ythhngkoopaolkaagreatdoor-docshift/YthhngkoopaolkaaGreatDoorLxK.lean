/- Walks of lex.keySize, and of the document's own dashed, keyed, blanks. -/
import Derived.Test.YthhngkoopaolkaaGreatDoorLxP
namespace Go.Proofs.YthhngkoopaolkaaGreatDoor
open Go.RowKit

theorem lcut_front (l : List UInt8) (k : Nat) : (⟨l.toArray⟩ : ByteArray).extract 0 k = ⟨(l.take k).toArray⟩ := by
  rw [ByteArray.extract_mk]
  simp
theorem lcut_back {l : List UInt8} {L : Nat} (h : l.length = L) (k : Nat) : (⟨l.toArray⟩ : ByteArray).extract k L = ⟨(l.drop k).toArray⟩ := by
  rw [ByteArray.extract_mk]
  subst h
  simp [List.take_of_length_le]
theorem ret_n {a b : Nat} {P : Prop} (h : a = b) (hp : P) : Ending.returned (.int .i64 (a : Int)) = .returned (.int .i64 (b : Int)) ∧ P := ⟨by rw [h], hp⟩
theorem ret_0 {b : Nat} {P : Prop} (h : b = 0) (hp : P) : Ending.returned (.int .i64 0) = .returned (.int .i64 (b : Int)) ∧ P := ⟨by rw [h]; rfl, hp⟩
theorem hasp_0 (w : World) : Calls Tryz.prog 36 #[.string ByteArray.empty, .string ⟨#[58, 32]⟩] w fun e w' => e = .returned (.bool false) ∧ w' = w := hasp_any [] [58, 32] false rfl w
theorem kend_cases (l : List UInt8) : (l = [58] ∧ LX.kend l = true) ∨ (l ≠ [58] ∧ [58, 32].isPrefixOf l = LX.kend l) := by
  match l with
  | [] => exact .inr ⟨by simp, rfl⟩
  | [c] =>
    by_cases h : c = 58
    · subst h; exact .inl ⟨rfl, rfl⟩
    · exact .inr ⟨by simpa using h, by simp [LX.kend, List.isPrefixOf, h]⟩
  | c :: d :: t =>
    refine .inr ⟨by simp, ?_⟩
    show (58 == c && (32 == d && true)) = (c == 58 && d == 32)
    rw [Bool.and_true, Bool.beq_comm, Bool.beq_comm (a := (32 : UInt8))]
theorem key_yes {l : List UInt8} {k : Nat} (h : LX.run l = k) (hk : LX.kend (l.drop k) = true) : LX.key l = k := by
  unfold LX.key; rw [h, if_pos hk]
theorem key_no {l : List UInt8} {k : Nat} (h : LX.run l = k) (hk : LX.kend (l.drop k) = false) : LX.key l = 0 := by
  unfold LX.key; rw [h, if_neg (by rw [hk]; simp)]

set_option maxHeartbeats 4000000 in
theorem keySize_any (l : List UInt8) (w : World) (hl : l.length ≤ 100000) :
    Calls Tryz.prog 120 #[.string ⟨l.toArray⟩] w fun e w' => e = .returned (.int .i64 (LX.key l : Int)) ∧ w' = w := by
  have hsz := str_size l
  obtain ⟨n, hn⟩ : ∃ n, l.length = n := ⟨_, rfl⟩
  have HL := Lib.hid hn
  rw [hn] at hsz hl
  clear hn
  obtain ⟨K, HK⟩ : ∃ K, Hid (K = LX.key l) := ⟨_, Lib.hid rfl⟩
  rw [← HK.out]
  go_enter Tryz.func120, Tryz.ntmps120
  go_wp2
  go_loopg [3] n (fun g s3 wx => ∃ k : Nat, k + g = n ∧ s3 = .int .i64 (k : Int) ∧ wx = w ∧ Hid (k ≤ LX.run l))
  case atStart => exact ⟨0, by omega, rfl, rfl, Nat.zero_le _⟩
  case round =>
    obtain ⟨k, hk, rfl, rfl, HR⟩ := hrel
    have x1 := lcut_back HL.out k
    obtain ⟨D, hD⟩ : ∃ D, l.drop k = D := ⟨_, rfl⟩
    have HD := Lib.hid hD
    rw [hD] at x1
    clear hD
    have hkn0 : (k : Int) ≤ (n : Int) := by omega
    cases gk with
    | zero =>
      obtain rfl : k = n := by omega
      have hrun := Lib.hid (LX.runp_stop HR.out (fun c hc => by rw [List.getElem?_eq_none (by have := HL.out; omega)] at hc; cases hc))
      have hlt : ¬ (k : Int) < (k : Int) := by omega
      have E := Lib.hid (HK.out.trans (key_no hrun.out (by rw [List.drop_eq_nil_of_le (by have := HL.out; omega)]; rfl)))
      have HP := Lib.hid (hasp_0 wr)
      clear x1
      go_wp2_with (go_at_call 36; refine HP.out.mono ?_; rintro e w1 ⟨rfl, hw1⟩; replace hw1 := hw1.symm; subst hw1)
      go_ret
      exact ret_0 E.out rfl
    | succ g =>
      have hlt : (k : Int) < (n : Int) := by omega
      obtain ⟨c, hc⟩ : ∃ c, l[k]? = some c := ⟨l[k]'(by have := HL.out; omega), List.getElem?_eq_getElem _⟩
      have hkl : k < (⟨l.toArray⟩ : ByteArray).size := by omega
      have hub := c.toNat_lt
      obtain ⟨z, hz⟩ : ∃ z : Int, (c.toNat : Int) = z := ⟨_, rfl⟩
      have hi := at_z hc hz hkl
      have hz0 : 0 ≤ z := by omega
      have hz1 : z < 256 := by omega
      have HC := Lib.hid hc
      have HS := Lib.hid (isKeySign_any c z hz wr)
      clear hc hz hub
      cases hs : LX.sgn c with
      | true =>
        have E := Lib.hid (LX.runp_more HR.out HC.out hs)
        rw [hs] at HS
        clear hs x1
        go_wp2_with (go_at_call 154; refine HS.out.mono ?_; rintro e w1 ⟨rfl, hw1⟩; replace hw1 := hw1.symm; subst hw1)
        go_roundg g
        case rel => exact ⟨k + 1, by omega, rfl, rfl, E⟩
        case measure => omega
      | false =>
        have hrun := Lib.hid (LX.runp_stop HR.out (fun d hd => by rw [HC.out] at hd; obtain rfl := Option.some.inj hd; exact hs))
        rw [hs] at HS
        clear hs
        rcases kend_cases D with ⟨rfl, hd⟩ | ⟨h1, h2⟩
        · have E := Lib.hid (HK.out.trans (key_yes hrun.out (by rw [HD.out]; exact hd)))
          clear hd
          go_wp2_with (go_at_call 154; refine HS.out.mono ?_; rintro e w1 ⟨rfl, hw1⟩; replace hw1 := hw1.symm; subst hw1)
          go_ret
          exact ret_n E.out.symm rfl
        · have hne : (D == [58]) = false := beq_eq_false_iff_ne.2 h1
          have HP := Lib.hid (hasp_any D [58, 32] _ h2 wr)
          clear h1 h2
          cases hd : LX.kend D with
          | true =>
            have E := Lib.hid (HK.out.trans (key_yes hrun.out (by rw [HD.out]; exact hd)))
            rw [hd] at HP
            clear hd
            go_wp2_with (first
              | (go_at_call 154; refine HS.out.mono ?_; rintro e w1 ⟨rfl, hw1⟩; replace hw1 := hw1.symm; subst hw1)
              | (go_at_call 36; refine HP.out.mono ?_; rintro e w1 ⟨rfl, hw1⟩; replace hw1 := hw1.symm; subst hw1))
            go_ret
            exact ret_n E.out.symm rfl
          | false =>
            have E := Lib.hid (HK.out.trans (key_no hrun.out (by rw [HD.out]; exact hd)))
            rw [hd] at HP
            clear hd
            go_wp2_with (first
              | (go_at_call 154; refine HS.out.mono ?_; rintro e w1 ⟨rfl, hw1⟩; replace hw1 := hw1.symm; subst hw1)
              | (go_at_call 36; refine HP.out.mono ?_; rintro e w1 ⟨rfl, hw1⟩; replace hw1 := hw1.symm; subst hw1))
            go_ret
            exact ret_0 E.out rfl

end Go.Proofs.YthhngkoopaolkaaGreatDoor
