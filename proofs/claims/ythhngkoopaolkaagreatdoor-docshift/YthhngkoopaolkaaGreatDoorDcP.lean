/- Walks of doc.fail, must, nodeKind; where a parser stands. -/
import Derived.Test.YthhngkoopaolkaaGreatDoorDcB
import Derived.BigQuiet
namespace Go.Proofs.YthhngkoopaolkaaGreatDoor
open Go.RowKit

/-- A parser's own panic, on its way; and taken. -/
def gaveD (k n : Int) : List PanicEntry := [{ v := .iface 94 (.agg #[.int .i64 k, .int .i64 n]), recovered := false }]
def tookD (k n : Int) : List PanicEntry := [{ v := .iface 94 (.agg #[.int .i64 k, .int .i64 n]), recovered := true }]
set_option maxHeartbeats 400000 in
theorem dfail_any (k n : Int) (w : World) :
    Calls Tryz.prog 74 #[.int .i64 k, .int .i64 n] w fun e w' => e = .panicked (gaveD k n) ∧ w' = w := by
  go_enter Tryz.func74, Tryz.ntmps74
  go_wp2
  exact ⟨rfl, rfl, rfl⟩
set_option maxHeartbeats 400000 in
theorem dmust_true (k n : Int) (w : World) :
    Calls Tryz.prog 72 #[.bool true, .int .i64 k, .int .i64 n] w fun e w' => e = .returned (.tuple #[]) ∧ w' = w := by
  go_enter Tryz.func72, Tryz.ntmps72
  go_wp2
  go_end0
  exact ⟨rfl, rfl⟩
set_option maxHeartbeats 400000 in
theorem dmust_false (k n : Int) (w : World) :
    Calls Tryz.prog 72 #[.bool false, .int .i64 k, .int .i64 n] w fun e w' => e = .panicked (gaveD k n) ∧ w' = w := by
  have HF := Lib.hid (dfail_any k n w)
  go_enter Tryz.func72, Tryz.ntmps72
  go_wp2_with fail
  refine HF.out.mono ?_
  rintro e w2 ⟨rfl, hw⟩
  replace hw := hw.symm
  subst hw
  exact ⟨rfl, rfl, rfl⟩
set_option maxHeartbeats 400000 in
theorem nodeKind_any (k : Int) (w : World) :
    Calls Tryz.prog 105 #[.int .i64 k] w fun e w' => e = .returned (.int .i64 (DC.nk k)) ∧ w' = w := by
  unfold DC.nk
  by_cases h1 : k = 1
  · rw [if_pos h1]
    have h3 : (k == 3) = false := by rw [h1]; rfl
    have h1' : (k == 1) = true := by rw [h1]; rfl
    go_enter Tryz.func105, Tryz.ntmps105
    go_wp2
    go_ret
    exact ⟨rfl, rfl⟩
  rw [if_neg h1]
  by_cases h2 : k = 2
  · rw [if_pos h2]
    have h3 : (k == 3) = false := by rw [h2]; rfl
    have h1' : (k == 1) = false := by rw [h2]; rfl
    have h2' : (k == 2) = true := by rw [h2]; rfl
    go_enter Tryz.func105, Tryz.ntmps105
    go_wp2
    go_ret
    exact ⟨rfl, rfl⟩
  rw [if_neg h2]
  by_cases h3 : k = 3
  · rw [if_pos h3]
    have h3' : (k == 3) = true := by rw [h3]; rfl
    go_enter Tryz.func105, Tryz.ntmps105
    go_wp2
    go_ret
    exact ⟨rfl, rfl⟩
  · rw [if_neg h3]
    have h1' : (k == 1) = false := beq_eq_false_iff_ne.2 h1
    have h2' : (k == 2) = false := beq_eq_false_iff_ne.2 h2
    have h3' : (k == 3) = false := beq_eq_false_iff_ne.2 h3
    go_enter Tryz.func105, Tryz.ntmps105
    go_wp2
    go_ret
    exact ⟨rfl, rfl⟩
end Go.Proofs.YthhngkoopaolkaaGreatDoor
