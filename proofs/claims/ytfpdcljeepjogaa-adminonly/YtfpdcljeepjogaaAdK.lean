/- Walks of the document's own EncodeQuery, EncodeReport, EncodeOops. -/
import Derived.Test.YtfpdcljeepjogaaAdE
import Derived.Test.YtfpdcljeepjogaaAkJ
import Derived.Deep.RegionHeld3
namespace Go.Proofs.Ytfpdcljeepjogaa
open Go.RowKit

theorem okN_split (most : Nat) (n : AD.N) : AD.okN most n = ((AD.inn n.1 0 2147483647 && AD.inn n.2.1 1 6) && decide (n.2.2.length ≤ most)) := rfl
theorem EncB.made {w w' : World} {c : Bool} {bs : List UInt8} {ao : Option Addr} {n cap : Nat} (hc : c = true) (ho : Rdv w' (.slice ao n cap) (bv bs)) (h : Below w.heap.size w w') : EncB w c bs (.returned (.tuple #[.slice ao n cap, .int .i64 0])) w' := by
  subst hc
  exact ⟨ao, n, cap, rfl, ho, h⟩
set_option maxHeartbeats 8000000 in
theorem rencode_query (n : AD.N) (hn : n.2.2.length ≤ 9223372036854775807) (w : World) :
    Calls Try.prog 10 #[.agg #[.int .i64 n.1, .int .i64 n.2.1, .string ⟨n.2.2.toArray⟩]] w (EncB w (AD.okN 16384 n) (bytesN 3 16384 n)) := by
  have HM := Lib.hid (fun x => asked_any n.1 n.2.1 x)
  have hok := @AD.okN_iff 16384 n
  have hle := @AD.headN_le 3 16384 n
  have hsp := okN_split 16384 n
  have hbn : bytesN 3 16384 n = if AD.okN 16384 n = true then AD.encN 3 n else [] := rfl
  have hsz := str_size n.2.2
  obtain ⟨a, b, s⟩ := n
  simp only at *
  have HS0 := Lib.hid (Str.new w 23 #[.int .i64 a, .int .i64 b, .string ⟨s.toArray⟩])
  have HB0 := Lib.hid (below_alloc w (.cells #[.int .i64 a, .int .i64 b, .string ⟨s.toArray⟩] 23))
  generalize hq : (AD.inn a 0 2147483647 && AD.inn b 1 6) = q at *
  generalize hc : AD.okN 16384 (a, b, s) = c at *
  cases q
  · rw [Bool.false_and] at hsp
    subst hsp
    have E := Lib.hid (show bytesN 3 16384 (a, b, s) = [] by rw [hbn]; rfl)
    clear hok hle hbn hc hq
    go_enter Try.func10, Try.ntmps10
    go_wp2_with (go_at_call 25; refine (HM.out _).mono ?_; rintro e w1 ⟨rfl, hw1⟩; subst hw1)
    go_ret2
    exact EncB.no rfl E.out HB0.out
  · rw [Bool.true_and] at hsp
    by_cases hl : s.length ≤ 16384
    case neg =>
      have hcf : c = false := by rw [hsp]; simpa using hl
      subst hcf
      have E := Lib.hid (show bytesN 3 16384 (a, b, s) = [] by rw [hbn]; rfl)
      have g0 : (16384 : Int) < (s.length : Int) := by omega
      clear hok hle hbn hc hq hsp
      go_enter Try.func10, Try.ntmps10
      go_wp2_with (go_at_call 25; refine (HM.out _).mono ?_; rintro e w1 ⟨rfl, hw1⟩; subst hw1)
      go_ret2
      exact EncB.no rfl E.out HB0.out
    have hct : c = true := by rw [hsp]; simpa using hl
    subst hct
    obtain ⟨o1, o2, o3⟩ := hok.1 rfl
    obtain ⟨l1, l2⟩ := hle rfl
    obtain ⟨T1, hT1⟩ : ∃ T, [3] ++ V.put a.toNat = T := ⟨_, rfl⟩
    obtain ⟨T2, hT2⟩ : ∃ T, T1 ++ V.put b.toNat = T := ⟨_, rfl⟩
    obtain ⟨T3, hT3⟩ : ∃ T, T2 ++ K.tx s = T := ⟨_, rfl⟩
    have E := Lib.hid (show bytesN 3 16384 (a, b, s) = T3 by rw [hbn, if_pos rfl, ← hT3, ← hT2, ← hT1]; rfl)
    rw [hT1] at l1 l2
    rw [hT2] at l2
    have P1 := Lib.hid (rnumE (T := [3]) (n := a) (by omega) (by omega) (by simp) hT1)
    have P2 := Lib.hid (rnumE (T := T1) (n := b) (by omega) (by omega) (by omega) hT2)
    have P3 := Lib.hid (rtextE (T := T2) (s := s) (by omega) (by omega) hT3)
    rw [E.out]
    have g0 : ¬ (16384 : Int) < (s.length : Int) := by omega
    clear hok hle hbn hc hT1 hT2 hT3 l1 l2 E o1 o2 o3 hsp hq
    go_enter Try.func10, Try.ntmps10
    go_wp2_with fail
    refine (HM.out _).mono ?_
    rintro e w1 ⟨rfl, hw1⟩
    rw [← hw1] at HS0 HB0
    have HBA := Lib.hid (below_trans (below_alloc w1 (.cells #[.int .u8 3] 5)) (below_drew _))
    have HRA := Lib.hid (Rdv.below (one_rd (w := w1) (e := 5) (B := 3) (b := 3) rfl) (below_drew _))
    obtain ⟨c0, c1, c2⟩ := HS0.out.cells3
    clear hw1
    go_wp2
    go_region_held3 (fun x => x.cell? ⟨w.heap.size, 0, none⟩ = some (.int .i64 a) ∧ x.cell? ⟨w.heap.size, 1, none⟩ = some (.int .i64 b) ∧ x.cell? ⟨w.heap.size, 2, none⟩ = some (.string ⟨s.toArray⟩)) (first | exact (HS0.out.below (below_drew _)).cells3 | exact (HS0.out.below HBA.out).cells3 | exact HS3.out.cells3 | exact HS4.out.cells3 | exact HS5.out.cells3) (first
      | (go_at_call 26; refine (P3.out _ _ O4.out).mono ?_; rintro e w5 he; obtain ⟨a5, n5, q5, rfl, ho5, b5⟩ := he.slice; have HS5 := Lib.hid (HS4.out.below b5); have B5 := Lib.hid (below_trans B4.out b5); have O5 := Lib.hid ho5; clear he ho5 b5)
      | (go_at_call 27; refine (P2.out _ _ O3.out).mono ?_; rintro e w4 he; obtain ⟨a4, n4, q4, rfl, ho4, b4⟩ := he.slice; have HS4 := Lib.hid (HS3.out.below b4); have B4 := Lib.hid (below_trans B3.out b4); have O4 := Lib.hid ho4; clear he ho4 b4)
      | (go_at_call 27; refine (P1.out _ _ HRA.out).mono ?_; rintro e w3 he; obtain ⟨a3, n3, q3, rfl, ho3, b3⟩ := he.slice; have B3 := Lib.hid (below_trans HBA.out b3); have HS3 := Lib.hid (HS0.out.below B3.out); have O3 := Lib.hid ho3; clear he ho3 b3))
    have HB6 := Lib.hid (below_trans HB0.out B5.out)
    clear HBA HRA HS3 HS4 HS5 B3 B4 B5 O3 O4 P1 P2 P3 HS0 HB0 c0 c1 c2
    go_wp2
    go_ret2
    exact EncB.made rfl O5.out HB6.out
set_option maxHeartbeats 8000000 in
theorem rencode_report (n : AD.N) (hn : n.2.2.length ≤ 9223372036854775807) (w : World) :
    Calls Try.prog 14 #[.agg #[.int .i64 n.1, .int .i64 n.2.1, .string ⟨n.2.2.toArray⟩]] w (EncB w (AD.okN 60000 n) (bytesN 4 60000 n)) := by
  have HM := Lib.hid (fun x => asked_any n.1 n.2.1 x)
  have hok := @AD.okN_iff 60000 n
  have hle := @AD.headN_le 4 60000 n
  have hsp := okN_split 60000 n
  have hbn : bytesN 4 60000 n = if AD.okN 60000 n = true then AD.encN 4 n else [] := rfl
  have hsz := str_size n.2.2
  obtain ⟨a, b, s⟩ := n
  simp only at *
  have HS0 := Lib.hid (Str.new w 33 #[.int .i64 a, .int .i64 b, .string ⟨s.toArray⟩])
  have HB0 := Lib.hid (below_alloc w (.cells #[.int .i64 a, .int .i64 b, .string ⟨s.toArray⟩] 33))
  generalize hq : (AD.inn a 0 2147483647 && AD.inn b 1 6) = q at *
  generalize hc : AD.okN 60000 (a, b, s) = c at *
  cases q
  · rw [Bool.false_and] at hsp
    subst hsp
    have E := Lib.hid (show bytesN 4 60000 (a, b, s) = [] by rw [hbn]; rfl)
    clear hok hle hbn hc hq
    go_enter Try.func14, Try.ntmps14
    go_wp2_with (go_at_call 25; refine (HM.out _).mono ?_; rintro e w1 ⟨rfl, hw1⟩; subst hw1)
    go_ret2
    exact EncB.no rfl E.out HB0.out
  · rw [Bool.true_and] at hsp
    by_cases hl : s.length ≤ 60000
    case neg =>
      have hcf : c = false := by rw [hsp]; simpa using hl
      subst hcf
      have E := Lib.hid (show bytesN 4 60000 (a, b, s) = [] by rw [hbn]; rfl)
      have g0 : (60000 : Int) < (s.length : Int) := by omega
      clear hok hle hbn hc hq hsp
      go_enter Try.func14, Try.ntmps14
      go_wp2_with (go_at_call 25; refine (HM.out _).mono ?_; rintro e w1 ⟨rfl, hw1⟩; subst hw1)
      go_ret2
      exact EncB.no rfl E.out HB0.out
    have hct : c = true := by rw [hsp]; simpa using hl
    subst hct
    obtain ⟨o1, o2, o3⟩ := hok.1 rfl
    obtain ⟨l1, l2⟩ := hle rfl
    obtain ⟨T1, hT1⟩ : ∃ T, [4] ++ V.put a.toNat = T := ⟨_, rfl⟩
    obtain ⟨T2, hT2⟩ : ∃ T, T1 ++ V.put b.toNat = T := ⟨_, rfl⟩
    obtain ⟨T3, hT3⟩ : ∃ T, T2 ++ K.tx s = T := ⟨_, rfl⟩
    have E := Lib.hid (show bytesN 4 60000 (a, b, s) = T3 by rw [hbn, if_pos rfl, ← hT3, ← hT2, ← hT1]; rfl)
    rw [hT1] at l1 l2
    rw [hT2] at l2
    have P1 := Lib.hid (rnumE (T := [4]) (n := a) (by omega) (by omega) (by simp) hT1)
    have P2 := Lib.hid (rnumE (T := T1) (n := b) (by omega) (by omega) (by omega) hT2)
    have P3 := Lib.hid (rtextE (T := T2) (s := s) (by omega) (by omega) hT3)
    rw [E.out]
    have g0 : ¬ (60000 : Int) < (s.length : Int) := by omega
    clear hok hle hbn hc hT1 hT2 hT3 l1 l2 E o1 o2 o3 hsp hq
    go_enter Try.func14, Try.ntmps14
    go_wp2_with fail
    refine (HM.out _).mono ?_
    rintro e w1 ⟨rfl, hw1⟩
    rw [← hw1] at HS0 HB0
    have HBA := Lib.hid (below_trans (below_alloc w1 (.cells #[.int .u8 4] 5)) (below_drew _))
    have HRA := Lib.hid (Rdv.below (one_rd (w := w1) (e := 5) (B := 4) (b := 4) rfl) (below_drew _))
    obtain ⟨c0, c1, c2⟩ := HS0.out.cells3
    clear hw1
    go_wp2
    go_region_held3 (fun x => x.cell? ⟨w.heap.size, 0, none⟩ = some (.int .i64 a) ∧ x.cell? ⟨w.heap.size, 1, none⟩ = some (.int .i64 b) ∧ x.cell? ⟨w.heap.size, 2, none⟩ = some (.string ⟨s.toArray⟩)) (first | exact (HS0.out.below (below_drew _)).cells3 | exact (HS0.out.below HBA.out).cells3 | exact HS3.out.cells3 | exact HS4.out.cells3 | exact HS5.out.cells3) (first
      | (go_at_call 26; refine (P3.out _ _ O4.out).mono ?_; rintro e w5 he; obtain ⟨a5, n5, q5, rfl, ho5, b5⟩ := he.slice; have HS5 := Lib.hid (HS4.out.below b5); have B5 := Lib.hid (below_trans B4.out b5); have O5 := Lib.hid ho5; clear he ho5 b5)
      | (go_at_call 27; refine (P2.out _ _ O3.out).mono ?_; rintro e w4 he; obtain ⟨a4, n4, q4, rfl, ho4, b4⟩ := he.slice; have HS4 := Lib.hid (HS3.out.below b4); have B4 := Lib.hid (below_trans B3.out b4); have O4 := Lib.hid ho4; clear he ho4 b4)
      | (go_at_call 27; refine (P1.out _ _ HRA.out).mono ?_; rintro e w3 he; obtain ⟨a3, n3, q3, rfl, ho3, b3⟩ := he.slice; have B3 := Lib.hid (below_trans HBA.out b3); have HS3 := Lib.hid (HS0.out.below B3.out); have O3 := Lib.hid ho3; clear he ho3 b3))
    have HB6 := Lib.hid (below_trans HB0.out B5.out)
    clear HBA HRA HS3 HS4 HS5 B3 B4 B5 O3 O4 P1 P2 P3 HS0 HB0 c0 c1 c2
    go_wp2
    go_ret2
    exact EncB.made rfl O5.out HB6.out
end Go.Proofs.Ytfpdcljeepjogaa
