/- LineRemarks. -/
import Derived.Test.YtcpmjbfpnlmjmaaDoorLnRm
namespace Go.Proofs.YtcpmjbfpnlmjmaaDoor
open Go.RowKit

set_option maxHeartbeats 4000000 in
set_option maxRecDepth 4000 in
theorem lineRemarks_walk (v0 : Value) (bs : List UInt8) (at1 in1 : Int) (v3 : Value) (rm : List UInt8) (w : World) (hr0 : Rdv w v0 (bv bs)) (_hz0 : bs.length ≤ 140737488351232) (hr3 : Rdv w v3 (bv rm)) (_hz3 : rm.length ≤ 140737488351232) (hm : MaxIs w) :
    Calls Tryd.prog 6 #[v0, .int .i64 at1, .int .i64 in1, v3] w fun e w' => e = .returned (.bool true) ∧ Below w.heap.size w w' := by
  by_cases hall : bs.length ≤ 5000 ∧ 0 ≤ in1 ∧ in1 ≤ 50 ∧ rm.length ≤ 200
  · obtain ⟨h1, h2, h3, h4⟩ := hall
    obtain ⟨n, rfl⟩ : ∃ n : Nat, in1 = (n : Int) := ⟨in1.toNat, by omega⟩
    exact remarks_main v0 v3 bs rm at1 n w hr0 hr3 h1 (by omega) h4 hm
  · have HA := Lib.hid (awake10 w hm)
    have hl0 := hr0.len_le
    have hl3 := hr3.len_le
    obtain ⟨a0, cap0, rfl, -⟩ := hr0
    obtain ⟨a3, cap3, rfl, -⟩ := hr3
    rw [bv_len] at hl0 hl3 ⊢
    rw [bv_len]
    unfold maxLen at hl0 hl3
    obtain ⟨N, hN⟩ : ∃ N, bs.length = N := ⟨_, rfl⟩
    obtain ⟨M, hM⟩ : ∃ M, rm.length = M := ⟨_, rfl⟩
    rw [hN] at hall hl0 ⊢
    rw [hM] at hall hl3 ⊢
    have hc : 5000 < N ∨ (N ≤ 5000 ∧ in1 < 0) ∨ (N ≤ 5000 ∧ 0 ≤ in1 ∧ 50 < in1) ∨ (N ≤ 5000 ∧ 0 ≤ in1 ∧ in1 ≤ 50 ∧ 200 < M) := by omega
    clear hN hM hall hm
    rcases hc with h1 | ⟨h1, h2⟩ | ⟨h1, h2, h3⟩ | ⟨h1, h2, h3, h4⟩
    · have t1 : (5000 : Int) < (N : Int) := by omega
      go_enter Tryd.func6, Tryd.ntmps6
      go_wp2_with (go_at_call 7; refine HA.out.mono ?_; rintro e w3 ⟨rfl, b3⟩; have B3 := Lib.hid b3; clear b3)
      go_ret
      exact ⟨rfl, B3.out⟩
    · have t1 : ¬ (5000 : Int) < (N : Int) := by omega
      go_enter Tryd.func6, Tryd.ntmps6
      go_wp2_with (go_at_call 7; refine HA.out.mono ?_; rintro e w3 ⟨rfl, b3⟩; have B3 := Lib.hid b3; clear b3)
      go_ret
      exact ⟨rfl, B3.out⟩
    · have t1 : ¬ (5000 : Int) < (N : Int) := by omega
      have t2 : ¬ in1 < 0 := by omega
      go_enter Tryd.func6, Tryd.ntmps6
      go_wp2_with (go_at_call 7; refine HA.out.mono ?_; rintro e w3 ⟨rfl, b3⟩; have B3 := Lib.hid b3; clear b3)
      go_ret
      exact ⟨rfl, B3.out⟩
    · have t1 : ¬ (5000 : Int) < (N : Int) := by omega
      have t2 : ¬ in1 < 0 := by omega
      have t3 : ¬ (50 : Int) < in1 := by omega
      have t4 : (200 : Int) < (M : Int) := by omega
      go_enter Tryd.func6, Tryd.ntmps6
      go_wp2_with (go_at_call 7; refine HA.out.mono ?_; rintro e w3 ⟨rfl, b3⟩; have B3 := Lib.hid b3; clear b3)
      go_ret
      exact ⟨rfl, B3.out⟩
end Go.Proofs.YtcpmjbfpnlmjmaaDoor
