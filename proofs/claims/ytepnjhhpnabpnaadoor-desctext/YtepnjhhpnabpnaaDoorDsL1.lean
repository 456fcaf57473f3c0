/- Walks of DescName, DescEscape and DescRead. -/
import Derived.Test.YtepnjhhpnabpnaaDoorDsAwake
namespace Go.Proofs.YtepnjhhpnabpnaaDoor
open Go.RowKit

set_option maxHeartbeats 2000000 in
theorem descName_list (l : List UInt8) (w : World) (hl : l.length ≤ maxLen) (henv : Env w) :
    Calls Tryd.prog 7 #[.string ⟨l.toArray⟩] w fun e w' => e = .returned (.bool true) ∧ Below w.heap.size w w' := by
  have HN := Lib.hid (fun w => name_any l hl w)
  have HRN := Lib.hid (fun w => rname_any l hl w)
  have HE := Lib.hid henv
  clear henv hl
  generalize D.nm l = b at *
  go_enter Tryd.func7, Tryd.ntmps7
  go_wp2_with fail
  refine (HN.out _).mono ?_
  rintro e w1 ⟨rfl, b1⟩
  have B1 := Lib.hid b1
  clear b1
  go_wp2_with fail
  refine (HRN.out _).mono ?_
  rintro e w2 ⟨rfl, rfl⟩
  have HA := Lib.hid (awake6 _ (HE.out.below B1.out))
  have hbb : (b == b) = true := by simp
  go_wp2_with fail
  refine HA.out.mono ?_
  rintro e w3 ⟨rfl, b3⟩
  have B3 := Lib.hid (below_trans B1.out b3)
  clear b3
  go_wp2
  go_ret
  exact ⟨rfl, B3.out⟩
theorem descName_walk (s : ByteArray) (w : World) (hs : s.size ≤ maxLen) (henv : Env w) :
    Calls Tryd.prog 7 #[.string s] w fun e w' => e = .returned (.bool true) ∧ Below w.heap.size w w' := by
  obtain ⟨⟨l⟩⟩ := s
  exact descName_list l w hs henv

theorem escL_eq (a b : List UInt8) : (D.escL a == D.escL b) = (a == b) := by
  rw [Bool.eq_iff_iff, beq_iff_eq, beq_iff_eq]
  exact ⟨D.escL_inj, fun h => by rw [h]⟩

set_option maxHeartbeats 4000000 in
theorem descEscape_list (a b : List UInt8) (w : World) (ha : a.length ≤ maxLen) (hb : b.length ≤ maxLen) (henv : Env w) :
    Calls Tryd.prog 6 #[.string ⟨a.toArray⟩, .string ⟨b.toArray⟩] w fun e w' => e = .returned (.bool true) ∧ Below w.heap.size w w' := by
  unfold maxLen at ha hb
  have sa := str_size a
  have sb := str_size b
  have HE := Lib.hid henv
  by_cases hbig : 2000 < a.length ∨ 2000 < b.length
  · have HA := Lib.hid (awake6 w henv)
    have hcase : 2000 < a.length ∨ (a.length ≤ 2000 ∧ 2000 < b.length) := by omega
    clear hbig henv
    rcases hcase with h1 | ⟨h1, h2⟩
    · have g1 : (2000 : Int) < (a.length : Int) := by omega
      go_enter Tryd.func6, Tryd.ntmps6
      go_wp2_with (go_at_call 9; refine HA.out.mono ?_; rintro e w3 ⟨rfl, b3⟩; have B3 := Lib.hid b3; clear b3)
      go_ret
      exact ⟨rfl, B3.out⟩
    · have g1 : ¬ (2000 : Int) < (a.length : Int) := by omega
      have g2 : (2000 : Int) < (b.length : Int) := by omega
      go_enter Tryd.func6, Tryd.ntmps6
      go_wp2_with (go_at_call 9; refine HA.out.mono ?_; rintro e w3 ⟨rfl, b3⟩; have B3 := Lib.hid b3; clear b3)
      go_ret
      exact ⟨rfl, B3.out⟩
  · have g1 : ¬ (2000 : Int) < (a.length : Int) := by omega
    have g2 : ¬ (2000 : Int) < (b.length : Int) := by omega
    have HEA := Lib.hid (fun x (h : PlainIs x) => escape_any a (by omega) x h)
    have HEB := Lib.hid (fun x (h : PlainIs x) => escape_any b (by omega) x h)
    have HRA := Lib.hid (fun x => rescape_any a (by omega) x)
    have HSG := Lib.hid (fun j d (h : (D.escL a)[j]? = some d) => D.escL_sgn (List.mem_of_getElem? h))
    have hEQ := escL_eq a b
    have hlX := D.escL_len a
    obtain ⟨X, hX⟩ : ∃ X, D.escL a = X := ⟨_, rfl⟩
    obtain ⟨Y, hY⟩ : ∃ Y, D.escL b = Y := ⟨_, rfl⟩
    rw [hX] at HEA HRA HSG hEQ hlX
    rw [hY] at HEB hEQ
    have sX := str_size X
    obtain ⟨N, hN⟩ : ∃ N, X.length = N := ⟨_, rfl⟩
    rw [hN] at sX hlX
    have HN := Lib.hid hN
    have hN6 : N ≤ 6000 := by omega
    clear hX hY hlX hN hbig henv
    obtain ⟨q, hq⟩ : ∃ q : Bool, (a == b) = q := ⟨_, rfl⟩
    rw [hq] at hEQ
    have HXX : (X == X) = true := by simp
    have hqq : (q == q) = true := by simp
    go_enter Tryd.func6, Tryd.ntmps6
    go_wp2_with fail
    refine (HEA.out _ HE.out.pl).mono ?_
    rintro e w1 ⟨rfl, b1⟩
    have B1 := Lib.hid b1
    clear b1
    go_wp2_with fail
    refine (HRA.out _).mono ?_
    rintro e w2 ⟨rfl, b2⟩
    have B2 := Lib.hid (below_trans B1.out b2)
    clear b2 B1
    go_wp2_with fail
    refine (HEB.out _ (HE.out.below B2.out).pl).mono ?_
    rintro e w3 ⟨rfl, b3⟩
    have B3 := Lib.hid (below_trans B2.out b3)
    clear b3 B2
    go_wp2_with fail
    clear HEA HEB HRA hq hEQ HXX hqq
    go_loop [6] (fun i => ∃ (k : Nat), i = .int .i64 (k : Int) ∧ k ≤ N) (fun i => N - (intOf i).toNat)
    case atStart => exact ⟨0, rfl, Nat.zero_le _⟩
    case round =>
      obtain ⟨k, rfl, hk⟩ := hrel
      by_cases hlt : k < N
      · obtain ⟨c, hc⟩ : ∃ c, X[k]? = some c := ⟨X[k]'(by have := HN.out; omega), List.getElem?_eq_getElem _⟩
        have hkL : k < (⟨X.toArray⟩ : ByteArray).size := by omega
        obtain ⟨z, hz⟩ : ∃ z : Int, (c.toNat : Int) = z := ⟨_, rfl⟩
        have hi := at_z hc hz hkL
        obtain ⟨s1, s2, s3, s4, s5⟩ := HSG.out k c hc
        have t1 : ¬ z ≤ 32 := by omega
        have t2 : ¬ 126 < z := by omega
        have t3 : (z == 44) = false := by simp; omega
        have t4 : (z == 61) = false := by simp; omega
        have t5 : (z == 124) = false := by simp; omega
        clear hc hz s1 s2 s3 s4 s5
        go_wp2
        go_round
        case rel => exact ⟨k + 1, by go_num, by omega⟩
        case measure => simp [intOf]; omega
      · have HA := Lib.hid (awake6 w3 (HE.out.below B3.out))
        go_wp2_with (go_at_call 9; refine HA.out.mono ?_; rintro e w4 ⟨rfl, b4⟩; have B4 := Lib.hid (below_trans B3.out b4); clear b4)
        go_ret
        exact ⟨rfl, B4.out⟩
theorem descEscape_walk (a b : ByteArray) (w : World) (ha : a.size ≤ maxLen) (hb : b.size ≤ maxLen) (henv : Env w) :
    Calls Tryd.prog 6 #[.string a, .string b] w fun e w' => e = .returned (.bool true) ∧ Below w.heap.size w w' := by
  obtain ⟨⟨l⟩⟩ := a
  obtain ⟨⟨m⟩⟩ := b
  exact descEscape_list l m w ha hb henv

/-- A box, and what it holds, later on. -/
structure Bx (w : World) (b : Nat) (v : Value) (es : List D.E) (x : World) : Prop where
  rd : Rde x v es
  cell : x.cell? ⟨b, 0, none⟩ = some v
theorem Bx.later {w x y : World} {b : Nat} {v : Value} {es : List D.E} (h : Bx w b v es x) (hb : Below x.heap.size x y) : Bx w b v es y := ⟨h.rd.below hb, cell_later hb h.cell⟩

set_option maxHeartbeats 4000000 in
theorem descRead_list (s : List UInt8) (w : World) (hs : s.length ≤ maxLen) (henv : Env w) :
    Calls Tryd.prog 4 #[.string ⟨s.toArray⟩] w fun e w' => e = .returned (.bool true) ∧ Below w.heap.size w w' := by
  unfold maxLen at hs
  have sa := str_size s
  have HE := Lib.hid henv
  by_cases hbig : 3000 < s.length
  · have HA := Lib.hid (awake6 w henv)
    have g1 : (3000 : Int) < (s.length : Int) := by omega
    clear henv
    go_enter Tryd.func4, Tryd.ntmps4
    go_wp2_with (go_at_call 9; refine HA.out.mono ?_; rintro e w3 ⟨rfl, b3⟩; have B3 := Lib.hid b3; clear b3)
    go_ret
    exact ⟨rfl, B3.out⟩
  · have g1 : ¬ (3000 : Int) < (s.length : Int) := by omega
    have HR := Lib.hid (read_any s (by omega) w henv)
    have HRR := Lib.hid (fun x => rread_any s (by omega) x)
    clear henv hbig
    have hss : (s == s) = true := by simp
    go_enter Tryd.func4, Tryd.ntmps4
    go_wp2_with fail
    refine HR.out.mono ?_
    rintro e w1 ⟨b1, hcase⟩
    rcases hcase with ⟨vs, es, rfl, hrd, hlight, his⟩ | ⟨rfl, hno⟩
    · obtain ⟨ao, cap, rfl, hcap⟩ := rde_slice hrd
      have W1 := below_alloc w1 (.cells #[.slice ao es.length cap] 24)
      have BX1 := Lib.hid (show Bx w w1.heap.size (.slice ao es.length cap) es (w1.alloc (.cells #[.slice ao es.length cap] 24)) from ⟨hrd.below W1, box_cell _ _ _⟩)
      have B1 := Lib.hid (below_trans b1 W1)
      have HIS := Lib.hid his
      have HLI := Lib.hid hlight
      have hle := hlight.1
      clear b1 hrd his hlight W1 HR
      go_wp2_with fail
      refine (HRR.out _).mono ?_
      rintro e w2 ⟨b2, hcase⟩
      rcases hcase with ⟨vs', es', rfl, hrd, hlight, his⟩ | ⟨rfl, hno⟩
      · obtain rfl := HIS.out.uniq his
        obtain ⟨ao', cap', rfl, hcap'⟩ := rde_slice hrd
        have W2 := below_alloc w2 (.cells #[.slice ao' es.length cap'] 24)
        have BX2 := Lib.hid (BX1.out.later (below_trans b2 W2))
        have BY2 := Lib.hid (show Bx w w2.heap.size (.slice ao' es.length cap') es (w2.alloc (.cells #[.slice ao' es.length cap'] 24)) from ⟨hrd.below W2, box_cell _ _ _⟩)
        have B2 := Lib.hid (below_trans B1.out (below_trans b2 W2))
        have HS := Lib.hid (rsame_any _ _ es es _ BX2.out.rd BY2.out.rd)
        have et : decide (es = es) = true := by simp
        rw [et] at HS
        have k1 := BX2.out.cell
        have k2 := BY2.out.cell
        clear b2 hrd his hlight W2 HRR B1 et BX1
        go_wp2_with fail
        refine HS.out.mono ?_
        rintro e w3 ⟨rfl, b3⟩
        have BX3 := Lib.hid (BX2.out.later b3)
        have B3 := Lib.hid (below_trans B2.out b3)
        clear b3 k1 k2 HS
        have k1 := BX3.out.cell
        have HT := Lib.hid (text_any _ es _ BX3.out.rd HLI.out.fits (HE.out.below B3.out).pl)
        rw [HIS.out.2] at HT
        go_wp2_with fail
        refine HT.out.mono ?_
        rintro e w4 ⟨rfl, b4⟩
        have B4 := Lib.hid (below_trans B3.out b4)
        have HA := Lib.hid (awake6 w4 (HE.out.below B4.out))
        clear b4 k1 HT
        go_wp2_with (go_at_call 9; refine HA.out.mono ?_; rintro e w5 ⟨rfl, b5⟩; have B5 := Lib.hid (below_trans B4.out b5); clear b5)
        go_ret
        exact ⟨rfl, B5.out⟩
      · exact absurd HIS.out (hno _)
    · have W1 := below_alloc w1 (.cells #[.slice none 0 0] 24)
      have BX1 := Lib.hid (show Bx w w1.heap.size (.slice none 0 0) [] (w1.alloc (.cells #[.slice none 0 0] 24)) from ⟨Rde.nil _, box_cell _ _ _⟩)
      have B1 := Lib.hid (below_trans b1 W1)
      have HNO := Lib.hid hno
      clear b1 hno W1 HR
      go_wp2_with fail
      refine (HRR.out _).mono ?_
      rintro e w2 ⟨b2, hcase⟩
      rcases hcase with ⟨vs', es', rfl, hrd, hlight, his⟩ | ⟨rfl, hno⟩
      · exact absurd his (HNO.out _)
      · have W2 := below_alloc w2 (.cells #[.slice none 0 0] 24)
        have BX2 := Lib.hid (BX1.out.later (below_trans b2 W2))
        have BY2 := Lib.hid (show Bx w w2.heap.size (.slice none 0 0) [] (w2.alloc (.cells #[.slice none 0 0] 24)) from ⟨Rde.nil _, box_cell _ _ _⟩)
        have B2 := Lib.hid (below_trans B1.out (below_trans b2 W2))
        have HS := Lib.hid (rsame_any _ _ [] [] _ BX2.out.rd BY2.out.rd)
        have et : decide (([] : List D.E) = []) = true := by simp
        rw [et] at HS
        have k1 := BX2.out.cell
        have k2 := BY2.out.cell
        clear b2 hno W2 HRR B1 et BX1
        go_wp2_with fail
        refine HS.out.mono ?_
        rintro e w3 ⟨rfl, b3⟩
        have B3 := Lib.hid (below_trans B2.out b3)
        clear b3 k1 k2 HS
        have HA := Lib.hid (awake6 w3 (HE.out.below B3.out))
        go_wp2_with (go_at_call 9; refine HA.out.mono ?_; rintro e w5 ⟨rfl, b5⟩; have B5 := Lib.hid (below_trans B3.out b5); clear b5)
        go_ret
        exact ⟨rfl, B5.out⟩
theorem descRead_walk (s : ByteArray) (w : World) (hs : s.size ≤ maxLen) (henv : Env w) :
    Calls Tryd.prog 4 #[.string s] w fun e w' => e = .returned (.bool true) ∧ Below w.heap.size w w' := by
  obtain ⟨⟨l⟩⟩ := s
  exact descRead_list l w hs henv
end Go.Proofs.YtepnjhhpnabpnaaDoor
