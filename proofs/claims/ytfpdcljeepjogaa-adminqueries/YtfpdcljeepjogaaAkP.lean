/- Walks of what gives up by a panic, and of what takes it. -/
import Derived.Test.YtfpdcljeepjogaaDsA
import Derived.Test.YtfpdcljeepjogaaStr
import Derived.Recover
namespace Go.Proofs.Ytfpdcljeepjogaa
open Go.RowKit

/-- A reader's own panic, on its way. -/
def gaveUp : List PanicEntry := [{ v := .iface 76 (.agg #[]), recovered := false }]
def tookIt : List PanicEntry := [{ v := .iface 76 (.agg #[]), recovered := true }]
set_option maxHeartbeats 400000 in
theorem must_true (p : Value) (w : World) :
    Calls Try.prog 51 #[p, .bool true] w fun e w' => e = .returned (.tuple #[]) ∧ w' = w := by
  go_enter Try.func51, Try.ntmps51
  go_wp2
  go_end0
  exact ⟨rfl, rfl⟩
set_option maxHeartbeats 400000 in
theorem must_false (p : Value) (w : World) :
    Calls Try.prog 51 #[p, .bool false] w fun e w' => e = .panicked gaveUp ∧ w' = w := by
  go_enter Try.func51, Try.ntmps51
  go_wp2
  exact ⟨rfl, rfl, rfl⟩
theorem must_any (p : Value) (b : Bool) (w : World) :
    Calls Try.prog 51 #[p, .bool b] w fun e w' => e = (if b then .returned (.tuple #[]) else .panicked gaveUp) ∧ w' = w := by
  cases b
  · exact must_false p w
  · exact must_true p w
set_option maxHeartbeats 400000 in
theorem gaveup_nil (w : World) :
    Calls Try.prog 45 #[.nilIface] w fun e w' => e = .returned (.bool false) ∧ w' = w := by
  go_enter Try.func45, Try.ntmps45
  go_wp2
  go_ret
  exact ⟨rfl, rfl⟩
theorem assert_yes (w : World) : (Instr.typeAssert (.iface 76 (.agg #[])) 20 76 true).run Try.prog w = .ok (.tuple #[.agg #[], .bool true]) w := by kernel_rfl
set_option maxHeartbeats 400000 in
theorem gaveup_yes (w : World) :
    Calls Try.prog 45 #[.iface 76 (.agg #[])] w fun e w' => e = .returned (.bool true) ∧ w' = w := by
  have ha := assert_yes w
  go_enter Try.func45, Try.ntmps45
  go_wp2
  go_ret
  exact ⟨rfl, rfl⟩

end Go.Proofs.Ytfpdcljeepjogaa
