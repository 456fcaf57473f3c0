/- Walks of the document's own keyed, odd, meant. -/
import Derived.Test.YtmgalfdiiegjjaaDoorLxR
import Derived.Test.YtmgalfdiiegjjaaDoorLxS
namespace Go.Proofs.YtmgalfdiiegjjaaDoor
open Go.RowKit

theorem kend_nil : LX.kend [] = false := rfl
theorem kend_ne {c : UInt8} {t : List UInt8} (h : c ≠ 58) : LX.kend (c :: t) = false := by
  cases t <;> simp [LX.kend, h]
theorem kend_one : LX.kend [58] = true := rfl
theorem kend_two {d : UInt8} {t : List UInt8} : LX.kend (58 :: d :: t) = (d == 32) := by simp [LX.kend]
set_option maxHeartbeats 8000000 in
theorem rkeyed_any (l : List UInt8) (w : World) (hl : l.length ≤ 100000) :
    Calls Tryd.prog 49 #[.string ⟨l.toArray⟩] w fun e w' => e = .returned (.int .i64 (LX.key l : Int)) ∧ w' = w := by
  have hsz := str_size l
  obtain ⟨n, hn⟩ : ∃ n, l.length = n := ⟨_, rfl⟩
  have HL := Lib.hid hn
  rw [hn] at hsz hl
  clear hn
  obtain ⟨K, HK⟩ : ∃ K, Hid (K = LX.key l) := ⟨_, Lib.hid rfl⟩
  rw [← HK.out]
  go_enter Tryd.func49, Tryd.ntmps49
  go_wp2
  go_loopg [3] n (fun g s3 wx => ∃ k : Nat, k + g = n ∧ s3 = .int .i64 (k : Int) ∧ wx = w ∧ Hid (k ≤ LX.run l))
  case atStart => exact ⟨0, by omega, rfl, rfl, Nat.zero_le _⟩
  case round =>
    obtain ⟨k, hk, rfl, rfl, HR⟩ := hrel
    cases gk with
    | zero =>
      obtain rfl : k = n := by omega
      have hrun := Lib.hid (LX.runp_stop HR.out (fun c hc => by rw [List.getElem?_eq_none (by have := HL.out; omega)] at hc; cases hc))
      have E := Lib.hid (HK.out.trans (key_no hrun.out (by rw [List.drop_eq_nil_of_le (by have := HL.out; omega)]; rfl)))
      by_cases hk0 : k = 0
      · subst hk0
        go_wp2
        go_ret
        exact ret_0 E.out rfl
      · have hk1 : ((k : Int) == 0) = false := beq_eq_false_iff_ne.2 (by omega)
        have hk2 : ¬ (k : Int) = 0 := by omega
        go_wp2
        go_ret
        exact ret_0 E.out rfl
    | succ g =>
      have hlt : (k : Int) < (n : Int) := by omega
      have hnle : ¬ (n : Int) ≤ (k : Int) := by omega
      have hnl2 : decide (n ≤ k) = false := decide_eq_false (by omega)
      obtain ⟨c, hc⟩ : ∃ c, l[k]? = some c := ⟨l[k]'(by have := HL.out; omega), List.getElem?_eq_getElem _⟩
      have hkl : k < (⟨l.toArray⟩ : ByteArray).size := by omega
      have hub := c.toNat_lt
      obtain ⟨z, hz⟩ : ∃ z : Int, (c.toNat : Int) = z := ⟨_, rfl⟩
      have hi := at_z hc hz hkl
      have hz0 : 0 ≤ z := by omega
      have hz1 : z < 256 := by omega
      have HC := Lib.hid hc
      have HZ := Lib.hid hz
      have HS := Lib.hid (rsign_any c z hz wr)
      clear hc hz hub
      cases hs : LX.sgn c with
      | true =>
        have E := Lib.hid (LX.runp_more HR.out HC.out hs)
        rw [hs] at HS
        clear hs
        go_wp2_with (go_at_call 52; refine HS.out.mono ?_; rintro e w1 ⟨rfl, hw1⟩; replace hw1 := hw1.symm; subst hw1)
        go_roundg g
        case rel => exact ⟨k + 1, by omega, rfl, rfl, E⟩
        case measure => omega
      | false =>
        have hrun := Lib.hid (LX.runp_stop HR.out (fun d hd => by rw [HC.out] at hd; obtain rfl := Option.some.inj hd; exact hs))
        rw [hs] at HS
        clear hs
        by_cases hk0 : k = 0
        · subst hk0
          have E := Lib.hid (show K = 0 by
            rw [HK.out]
            cases hh : LX.kend (l.drop 0) with
            | true => exact key_yes hrun.out hh
            | false => exact key_no hrun.out hh)
          go_wp2_with (go_at_call 52; refine HS.out.mono ?_; rintro e w1 ⟨rfl, hw1⟩; replace hw1 := hw1.symm; subst hw1)
          go_ret
          exact ret_0 E.out rfl
        · have hk1 : ((k : Int) == 0) = false := beq_eq_false_iff_ne.2 (by omega)
          have hk2 : ¬ (k : Int) = 0 := by omega
          have HD := Lib.hid (drop_at HC.out)
          by_cases h58 : c = 58
          · subst h58
            obtain rfl : z = 58 := HZ.out.symm
            by_cases hend : k + 1 = n
            · have E := Lib.hid (HK.out.trans (key_yes hrun.out (by rw [HD.out, List.drop_eq_nil_of_le (by have := HL.out; omega)]; rfl)))
              have e1 : ¬ (k : Int) + 1 < (n : Int) := by omega
              go_wp2_with (go_at_call 52; refine HS.out.mono ?_; rintro e w1 ⟨rfl, hw1⟩; replace hw1 := hw1.symm; subst hw1)
              go_ret
              exact ret_n E.out.symm rfl
            · have e1 : (k : Int) + 1 < (n : Int) := by omega
              obtain ⟨d, hd⟩ : ∃ d, l[k + 1]? = some d := ⟨l[k + 1]'(by have := HL.out; omega), List.getElem?_eq_getElem _⟩
              have hkl1 : k + 1 < (⟨l.toArray⟩ : ByteArray).size := by omega
              obtain ⟨y, hy⟩ : ∃ z : Int, (d.toNat : Int) = z := ⟨_, rfl⟩
              have hi1 := at_z hd hy hkl1
              have hub := d.toNat_lt
              have hy0 : 0 ≤ y := by omega
              have hy1 : y < 256 := by omega
              have HD2 := Lib.hid (drop_at hd)
              have HY := Lib.hid hy
              clear hy hub hd
              by_cases h32 : d = 32
              · subst h32
                obtain rfl : y = 32 := HY.out.symm
                have E := Lib.hid (HK.out.trans (key_yes hrun.out (by rw [HD.out, HD2.out, kend_two]; rfl)))
                go_wp2_with (go_at_call 52; refine HS.out.mono ?_; rintro e w1 ⟨rfl, hw1⟩; replace hw1 := hw1.symm; subst hw1)
                go_ret
                exact ret_n E.out.symm rfl
              · have q : (y == 32) = false := zne HY.out 32 (by decide) h32
                have q2 : ¬ y = 32 := beq_eq_false_iff_ne.1 q
                have q3 : (y != 32) = true := by simp [bne, q]
                have E := Lib.hid (HK.out.trans (key_no hrun.out (by rw [HD.out, HD2.out, kend_two]; simpa using h32)))
                go_wp2_with (go_at_call 52; refine HS.out.mono ?_; rintro e w1 ⟨rfl, hw1⟩; replace hw1 := hw1.symm; subst hw1)
                go_ret
                exact ret_0 E.out rfl
          · have q : (z == 58) = false := zne HZ.out 58 (by decide) h58
            have q2 : ¬ z = 58 := beq_eq_false_iff_ne.1 q
            have q3 : (z != 58) = true := by simp [bne, q]
            have E := Lib.hid (HK.out.trans (key_no hrun.out (by rw [HD.out]; exact kend_ne h58)))
            go_wp2_with (go_at_call 52; refine HS.out.mono ?_; rintro e w1 ⟨rfl, hw1⟩; replace hw1 := hw1.symm; subst hw1)
            go_ret
            exact ret_0 E.out rfl

theorem bars_len : LX.bars.length = 14 := rfl
set_option maxHeartbeats 2000000 in
theorem rodd_any (c : UInt8) (z : Int) (hz : (c.toNat : Int) = z) (w : World) :
    Calls Tryd.prog 51 #[.int .u8 z] w fun e w' => e = .returned (.bool (LX.odd c)) ∧ w' = w := by
  have hub := c.toNat_lt
  have hz0 : 0 ≤ z := by omega
  have hz1 : z < 256 := by omega
  have HZ := Lib.hid hz
  have hsz := str_size [91, 93, 123, 125, 38, 42, 33, 124, 62, 37, 64, 44, 63, 96]
  obtain ⟨K, HK⟩ : ∃ K, Hid (LX.odd c = K) := ⟨_, Lib.hid rfl⟩
  rw [HK.out]
  clear hz hub
  go_enter Tryd.func51, Tryd.ntmps51
  go_wp2
  go_loopg [3] 14 (fun g s3 wx => ∃ k : Nat, k + g = 14 ∧ s3 = .int .i64 (k : Int) ∧ wx = w ∧ Hid (c ∉ LX.bars.take k))
  case atStart => exact ⟨0, by omega, rfl, rfl, by show ¬ _; simp⟩
  case round =>
    obtain ⟨k, hk, rfl, rfl, HR⟩ := hrel
    cases gk with
    | zero =>
      obtain rfl : k = 14 := by omega
      have E := Lib.hid (show K = false by
        rw [← HK.out]
        have := HR.out
        rw [List.take_of_length_le (by rw [bars_len]; exact Nat.le_refl _)] at this
        unfold LX.odd
        simpa using this)
      go_wp2
      go_ret
      exact ret_b E.out.symm rfl
    | succ g =>
      have hlt : (k : Int) < 14 := by omega
      obtain ⟨d, hd⟩ : ∃ d, LX.bars[k]? = some d := ⟨LX.bars[k]'(by rw [bars_len]; omega), List.getElem?_eq_getElem _⟩
      have hkl : k < (⟨[91, 93, 123, 125, 38, 42, 33, 124, 62, 37, 64, 44, 63, 96].toArray⟩ : ByteArray).size := by rw [hsz]; show k < 14; omega
      obtain ⟨y, hy⟩ : ∃ z : Int, (d.toNat : Int) = z := ⟨_, rfl⟩
      have hi := at_z (l := [91, 93, 123, 125, 38, 42, 33, 124, 62, 37, 64, 44, 63, 96]) hd hy hkl
      have hub := d.toNat_lt
      have hy0 : 0 ≤ y := by omega
      have hy1 : y < 256 := by omega
      have HY := Lib.hid hy
      have HD := Lib.hid hd
      clear hd hy hub
      by_cases h : d = c
      · subst h
        obtain rfl : y = z := HY.out.symm.trans HZ.out
        have E := Lib.hid (show K = true by
          rw [← HK.out]
          unfold LX.odd
          have := List.mem_of_getElem? HD.out
          simpa using this)
        go_wp2
        go_ret
        exact ret_b E.out.symm rfl
      · have q : (y == z) = false := beq_eq_false_iff_ne.2 fun e => h (by have h1 := HY.out; have h2 := HZ.out; exact UInt8.toNat_inj.1 (by omega))
        have q2 : ¬ y = z := beq_eq_false_iff_ne.1 q
        have E : Hid (c ∉ LX.bars.take (k + 1)) := by
          show ¬ _
          have hlt' := (List.getElem?_eq_some_iff.1 HD.out)
          rw [List.take_succ_eq_append_getElem hlt'.1, hlt'.2, List.mem_append]
          rintro (h1 | h1)
          · exact HR.out h1
          · exact h (List.mem_singleton.1 h1).symm
        go_wp2
        go_roundg g
        case rel => exact ⟨k + 1, by omega, rfl, rfl, E⟩
        case measure => omega
end Go.Proofs.YtmgalfdiiegjjaaDoor
