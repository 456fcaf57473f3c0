/- The walk of the document's own EncodeOops. -/
import Derived.Test.YtfpdcljeepjogaaAdK
namespace Go.Proofs.Ytfpdcljeepjogaa
open Go.RowKit

theorem oops_cases (a b c d : Int) : (a < 0) ∨ (¬ a < 0 ∧ 2147483647 < a) ∨ (¬ a < 0 ∧ ¬ 2147483647 < a ∧ b < 1) ∨ (¬ a < 0 ∧ ¬ 2147483647 < a ∧ ¬ b < 1 ∧ 8 < b) ∨ (¬ a < 0 ∧ ¬ 2147483647 < a ∧ ¬ b < 1 ∧ ¬ 8 < b ∧ c < 0) ∨ (¬ a < 0 ∧ ¬ 2147483647 < a ∧ ¬ b < 1 ∧ ¬ 8 < b ∧ ¬ c < 0 ∧ 17 < c) ∨ (¬ a < 0 ∧ ¬ 2147483647 < a ∧ ¬ b < 1 ∧ ¬ 8 < b ∧ ¬ c < 0 ∧ ¬ 17 < c ∧ d < 0) ∨ (¬ a < 0 ∧ ¬ 2147483647 < a ∧ ¬ b < 1 ∧ ¬ 8 < b ∧ ¬ c < 0 ∧ ¬ 17 < c ∧ ¬ d < 0 ∧ 4294967295 < d) ∨ (¬ a < 0 ∧ ¬ 2147483647 < a ∧ ¬ b < 1 ∧ ¬ 8 < b ∧ ¬ c < 0 ∧ ¬ 17 < c ∧ ¬ d < 0 ∧ ¬ 4294967295 < d) := by omega
theorem okO_bad {a b c d : Int} (h : a < 0 ∨ 2147483647 < a ∨ b < 1 ∨ 8 < b ∨ c < 0 ∨ 17 < c ∨ d < 0 ∨ 4294967295 < d) : AD.okO (a, b, c, d) = false := by
  rw [Bool.eq_false_iff]
  intro hk
  have := AD.okO_iff.1 hk
  simp only at this
  omega
set_option maxHeartbeats 16000000 in
theorem rencode_oops (o : AD.O) (w : World) :
    Calls Try.prog 17 #[.agg #[.int .i64 o.1, .int .i64 o.2.1, .int .i64 o.2.2.1, .int .i64 o.2.2.2]] w (EncB w (AD.okO o) (bytesO o)) := by
  have hok := @AD.okO_iff o
  have hle := @AD.headO_le o
  have hbn : bytesO o = if AD.okO o = true then AD.encO o else [] := rfl
  obtain ⟨a, b, c, d⟩ := o
  simp only at *
  have HS0 := Lib.hid (Str.new w 39 #[.int .i64 a, .int .i64 b, .int .i64 c, .int .i64 d])
  have HB0 := Lib.hid (below_alloc w (.cells #[.int .i64 a, .int .i64 b, .int .i64 c, .int .i64 d] 39))
  have hcs := oops_cases a b c d
  rcases hcs with q0 | ⟨q0, q1⟩ | ⟨q0, q1, q2⟩ | ⟨q0, q1, q2, q3⟩ | ⟨q0, q1, q2, q3, q4⟩ | ⟨q0, q1, q2, q3, q4, q5⟩ | ⟨q0, q1, q2, q3, q4, q5, q6⟩ | ⟨q0, q1, q2, q3, q4, q5, q6, q7⟩ | ⟨q0, q1, q2, q3, q4, q5, q6, q7⟩
  case inr.inr.inr.inr.inr.inr.inr.inr =>
    have hct := hok.2 ⟨⟨by omega, by omega⟩, ⟨by omega, by omega⟩, ⟨by omega, by omega⟩, by omega, by omega⟩
    obtain ⟨l1, l2, l3⟩ := hle hct
    obtain ⟨T1, hT1⟩ : ∃ T, [5] ++ V.put a.toNat = T := ⟨_, rfl⟩
    obtain ⟨T2, hT2⟩ : ∃ T, T1 ++ V.put b.toNat = T := ⟨_, rfl⟩
    obtain ⟨T3, hT3⟩ : ∃ T, T2 ++ V.put c.toNat = T := ⟨_, rfl⟩
    obtain ⟨T4, hT4⟩ : ∃ T, T3 ++ V.put d.toNat = T := ⟨_, rfl⟩
    have E := Lib.hid (show bytesO (a, b, c, d) = T4 by rw [hbn, if_pos hct, ← hT4, ← hT3, ← hT2, ← hT1]; rfl)
    rw [hT1] at l1 l2 l3
    rw [hT2] at l2 l3
    rw [hT3] at l3
    have P1 := Lib.hid (rnumE (T := [5]) (n := a) (by omega) (by omega) (by simp) hT1)
    have P2 := Lib.hid (rnumE (T := T1) (n := b) (by omega) (by omega) (by omega) hT2)
    have P3 := Lib.hid (rnumE (T := T2) (n := c) (by omega) (by omega) (by omega) hT3)
    have P4 := Lib.hid (rnumE (T := T3) (n := d) (by omega) (by omega) (by omega) hT4)
    rw [E.out, hct]
    obtain ⟨c0, c1, c2, c3⟩ := HS0.out.cells4
    clear hok hle hbn hct hT1 hT2 hT3 hT4 l1 l2 l3 E
    go_enter Try.func17, Try.ntmps17
    go_wp2
    generalize w.alloc (.cells #[.int .i64 a, .int .i64 b, .int .i64 c, .int .i64 d] 39) = w1 at *
    have HBA := Lib.hid (below_trans (below_alloc w1 (.cells #[.int .u8 5] 5)) (below_drew _))
    have HRA := Lib.hid (Rdv.below (one_rd (w := w1) (e := 5) (B := 5) (b := 5) rfl) (below_drew _))
    clear q0 q1 q2 q3 q4 q5 q6 q7
    go_region_held3 (fun x => x.cell? ⟨w.heap.size, 0, none⟩ = some (.int .i64 a) ∧ x.cell? ⟨w.heap.size, 1, none⟩ = some (.int .i64 b) ∧ x.cell? ⟨w.heap.size, 2, none⟩ = some (.int .i64 c) ∧ x.cell? ⟨w.heap.size, 3, none⟩ = some (.int .i64 d)) (first | exact (HS0.out.below (below_drew _)).cells4 | exact (HS0.out.below HBA.out).cells4 | exact HS3.out.cells4 | exact HS4.out.cells4 | exact HS5.out.cells4 | exact HS6.out.cells4) (first
      | (go_at_call 27; refine (P4.out _ _ O5.out).mono ?_; rintro e w6 he; obtain ⟨a6, n6, q6, rfl, ho6, b6⟩ := he.slice; have HS6 := Lib.hid (HS5.out.below b6); have B6 := Lib.hid (below_trans B5.out b6); have O6 := Lib.hid ho6; clear he ho6 b6)
      | (go_at_call 27; refine (P3.out _ _ O4.out).mono ?_; rintro e w5 he; obtain ⟨a5, n5, q5, rfl, ho5, b5⟩ := he.slice; have HS5 := Lib.hid (HS4.out.below b5); have B5 := Lib.hid (below_trans B4.out b5); have O5 := Lib.hid ho5; clear he ho5 b5)
      | (go_at_call 27; refine (P2.out _ _ O3.out).mono ?_; rintro e w4 he; obtain ⟨a4, n4, q4, rfl, ho4, b4⟩ := he.slice; have HS4 := Lib.hid (HS3.out.below b4); have B4 := Lib.hid (below_trans B3.out b4); have O4 := Lib.hid ho4; clear he ho4 b4)
      | (go_at_call 27; refine (P1.out _ _ HRA.out).mono ?_; rintro e w3 he; obtain ⟨a3, n3, q3, rfl, ho3, b3⟩ := he.slice; have B3 := Lib.hid (below_trans HBA.out b3); have HS3 := Lib.hid (HS0.out.below B3.out); have O3 := Lib.hid ho3; clear he ho3 b3))
    have HB6 := Lib.hid (below_trans HB0.out B6.out)
    clear HBA HRA HS3 HS4 HS5 HS6 B3 B4 B5 B6 O3 O4 O5 P1 P2 P3 P4 HS0 HB0 c0 c1 c2 c3
    go_wp2
    go_ret2
    exact EncB.made rfl O6.out HB6.out
  all_goals
    have hf := okO_bad (a := a) (b := b) (c := c) (d := d) (by omega)
    have E := Lib.hid (show bytesO (a, b, c, d) = [] by rw [hbn, hf]; rfl)
    rw [hf, E.out]
    clear hok hle hbn hf E
    go_enter Try.func17, Try.ntmps17
    go_wp2
    go_ret2
    exact EncB.no rfl rfl HB0.out
end Go.Proofs.Ytfpdcljeepjogaa
