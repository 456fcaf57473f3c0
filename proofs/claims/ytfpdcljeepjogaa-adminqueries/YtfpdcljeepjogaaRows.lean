/-
  No cell of these rows narrows 'for every input' (looked for: loops, veiled, ifaces, maps, wideKeys, modest, calm, conditions, laid).
  DERIVED. THE GIVEN ROWS OF THIS SEAT. 5 by the template 'for every input the law returns true; each argument reads behind the call as it read before'; 0 by the template 'total and deterministic' (their statements: YtfpdcljeepjogaaTotals.lean).
  GIVEN WITH THE SEED: the statements are not yours to turn. If you find one false, say at which input.
  Laid BY PROGRAM, IN A SANDBOX (cutbox-rows.mjs): the forced cells as the released guide's own fill.sh prints them over the translation 0da6c6d5498bb553… (all of the seat's roots in one cut). By AI agents, Wed Nov 11 2026. No macro, syntax, notation, axiom, sorry.
-/
import Derived.Test.YtfpdcljeepjogaaChecked
import GoSem.Claim
import GoSem.ClaimJoined
import GoSem.ClaimMapViews
import Derived.JoinedTies
import Derived.KernelRfl
namespace Go.Proofs.Ytfpdcljeepjogaa
/- THE CELL 'sum', in the pinned program and in every row, IS THE sha256 OF THE DUMP (.gsa) THAT YtfpdcljeepjogaaProg.lean LOADS. Nothing in Lean hashes anything: it is a label: what it is worth is what the hold of that sum in a sandbox is worth. -/
noncomputable def Try.pinned : Pinned := { name := "ytfpdcljeepjogaa", sum := "0da6c6d5498bb553ecdb56ee6e835ea0f3692fcd0cd3e5916e6f0eaf323b38b1", checked := Try.checked }
namespace Rows
def none {H : Type} : Left H := { results := [], args := [] }

/-- 'turncocklaw9.AdminQueries': WHATEVER THE INPUT: true; the input reads as it did. -/
def adminQueriesSpec : ChangeSpec := { name := "adminQueries", fn := fun _ => fun
  | [d] => { results := [.lit (.bool true)], args := [d] }
  | _ => none }
def adminQueriesRow : OpenClaim := { program := "ytfpdcljeepjogaa", sum := "0da6c6d5498bb553ecdb56ee6e835ea0f3692fcd0cd3e5916e6f0eaf323b38b1", func := "turncock/turncocklaw9.AdminQueries", spec := "adminQueries", unfollowed := true, recurses := true, apart := false }
def AdminQueriesSaid : Prop := adminQueriesRow.holds Try.pinned (OpenSpec.ofChange adminQueriesSpec)

/-- ITS FALSE NEIGHBOUR: 'it returns false'. Refute it at one input. -/
def adminQueriesWrong : ChangeSpec := { name := "adminQueries", fn := fun _ => fun
  | [d] => { results := [.lit (.bool false)], args := [d] }
  | _ => none }
def AdminQueriesWrongFalsely : Prop := adminQueriesRow.holds Try.pinned (OpenSpec.ofChange adminQueriesWrong)

/-- 'turncocklaw9.AdminReports': WHATEVER THE INPUT: true; the input reads as it did. -/
def adminReportsSpec : ChangeSpec := { name := "adminReports", fn := fun _ => fun
  | [d] => { results := [.lit (.bool true)], args := [d] }
  | _ => none }
def adminReportsRow : OpenClaim := { program := "ytfpdcljeepjogaa", sum := "0da6c6d5498bb553ecdb56ee6e835ea0f3692fcd0cd3e5916e6f0eaf323b38b1", func := "turncock/turncocklaw9.AdminReports", spec := "adminReports", unfollowed := true, recurses := true, apart := false }
def AdminReportsSaid : Prop := adminReportsRow.holds Try.pinned (OpenSpec.ofChange adminReportsSpec)

/-- ITS FALSE NEIGHBOUR: 'it returns false'. Refute it at one input. -/
def adminReportsWrong : ChangeSpec := { name := "adminReports", fn := fun _ => fun
  | [d] => { results := [.lit (.bool false)], args := [d] }
  | _ => none }
def AdminReportsWrongFalsely : Prop := adminReportsRow.holds Try.pinned (OpenSpec.ofChange adminReportsWrong)

/-- 'turncocklaw9.AdminOops': WHATEVER THE INPUT: true; the input reads as it did. -/
def adminOopsSpec : ChangeSpec := { name := "adminOops", fn := fun _ => fun
  | [d] => { results := [.lit (.bool true)], args := [d] }
  | _ => none }
def adminOopsRow : OpenClaim := { program := "ytfpdcljeepjogaa", sum := "0da6c6d5498bb553ecdb56ee6e835ea0f3692fcd0cd3e5916e6f0eaf323b38b1", func := "turncock/turncocklaw9.AdminOops", spec := "adminOops", unfollowed := true, recurses := true, apart := false }
def AdminOopsSaid : Prop := adminOopsRow.holds Try.pinned (OpenSpec.ofChange adminOopsSpec)

/-- ITS FALSE NEIGHBOUR: 'it returns false'. Refute it at one input. -/
def adminOopsWrong : ChangeSpec := { name := "adminOops", fn := fun _ => fun
  | [d] => { results := [.lit (.bool false)], args := [d] }
  | _ => none }
def AdminOopsWrongFalsely : Prop := adminOopsRow.holds Try.pinned (OpenSpec.ofChange adminOopsWrong)

/-- 'turncocklaw9.AdminReads': WHATEVER THE INPUT: true; the input reads as it did. -/
def adminReadsSpec : ChangeSpec := { name := "adminReads", fn := fun _ => fun
  | [d] => { results := [.lit (.bool true)], args := [d] }
  | _ => none }
def adminReadsRow : OpenClaim := { program := "ytfpdcljeepjogaa", sum := "0da6c6d5498bb553ecdb56ee6e835ea0f3692fcd0cd3e5916e6f0eaf323b38b1", func := "turncock/turncocklaw9.AdminReads", spec := "adminReads", unfollowed := true, recurses := true, apart := false }
def AdminReadsSaid : Prop := adminReadsRow.holds Try.pinned (OpenSpec.ofChange adminReadsSpec)

/-- ITS FALSE NEIGHBOUR: 'it returns false'. Refute it at one input. -/
def adminReadsWrong : ChangeSpec := { name := "adminReads", fn := fun _ => fun
  | [d] => { results := [.lit (.bool false)], args := [d] }
  | _ => none }
def AdminReadsWrongFalsely : Prop := adminReadsRow.holds Try.pinned (OpenSpec.ofChange adminReadsWrong)

/-- 'turncocklaw9.AdminOnly': WHATEVER THE INPUT: true; the input reads as it did. -/
def adminOnlySpec : ChangeSpec := { name := "adminOnly", fn := fun _ => fun
  | [d] => { results := [.lit (.bool true)], args := [d] }
  | _ => none }
def adminOnlyRow : OpenClaim := { program := "ytfpdcljeepjogaa", sum := "0da6c6d5498bb553ecdb56ee6e835ea0f3692fcd0cd3e5916e6f0eaf323b38b1", func := "turncock/turncocklaw9.AdminOnly", spec := "adminOnly", unfollowed := true, recurses := true, apart := false }
def AdminOnlySaid : Prop := adminOnlyRow.holds Try.pinned (OpenSpec.ofChange adminOnlySpec)

/-- ITS FALSE NEIGHBOUR: 'it returns false'. Refute it at one input. -/
def adminOnlyWrong : ChangeSpec := { name := "adminOnly", fn := fun _ => fun
  | [d] => { results := [.lit (.bool false)], args := [d] }
  | _ => none }
def AdminOnlyWrongFalsely : Prop := adminOnlyRow.holds Try.pinned (OpenSpec.ofChange adminOnlyWrong)

/- THE SECOND FORM. 'bulk': how many values and letters a reading holds, each counted each time it is reached (what is shared counts as often as it is met; a slice's spare places count too). A statement '..UptoSaid' is the law's where the arguments, and the package variables that the reading takes, are together of bulk at most 1048576: NARROWER than '..Said'. Prove '..Said' where nothing that the law and all that it calls make is longer than what came in: it says more and counts as full. Else prove '..UptoSaid'. A law counts once. -/
mutual
def uptoBulk {H : Type} : DataW H → Nat
  | .lit (.string bytes) => bytes.length + 1
  | .lit _ => 1
  | .nil => 1
  | .ptr d => uptoBulk d + 1
  | .slice elems spare => uptoBulkAll elems + uptoBulkAll spare + 1
  | .agg parts => uptoBulkAll parts + 1
  | .iface _ d => uptoBulk d + 1
  | .map entries => uptoBulkEntries entries + 1
  | .held _ => 1
def uptoBulkAll {H : Type} : List (DataW H) → Nat
  | [] => 0
  | d :: r => uptoBulk d + uptoBulkAll r
def uptoBulkEntries {H : Type} : List (Lit × DataW H) → Nat
  | [] => 0
  | x :: r => uptoBulkEntry x + uptoBulkEntries r
def uptoBulkEntry {H : Type} : Lit × DataW H → Nat
  | (.string bytes, d) => bytes.length + uptoBulk d + 1
  | (_, d) => uptoBulk d + 1
 end
def uptoSmall : (H : Type) → List (DataW H) → Bool := fun _ ds => decide (uptoBulkAll ds ≤ 1048576)
def OpenSpec.upto (s : _root_.Go.ChangeSpec) : _root_.Go.OpenSpec := { _root_.Go.OpenSpec.ofChange s with cond := some uptoSmall }

/-- 'turncocklaw9.AdminQueries', WHERE WHAT IT READS IS OF BULK AT MOST 1048576: true; the input reads as it did. -/
def adminQueriesUptoRow : OpenClaim := { program := "ytfpdcljeepjogaa", sum := "0da6c6d5498bb553ecdb56ee6e835ea0f3692fcd0cd3e5916e6f0eaf323b38b1", func := "turncock/turncocklaw9.AdminQueries", spec := "adminQueries", unfollowed := true, recurses := true, apart := false, narrowed := true }
def AdminQueriesUptoSaid : Prop := adminQueriesUptoRow.holds Try.pinned (OpenSpec.upto adminQueriesSpec)

/-- 'turncocklaw9.AdminReports', WHERE WHAT IT READS IS OF BULK AT MOST 1048576: true; the input reads as it did. -/
def adminReportsUptoRow : OpenClaim := { program := "ytfpdcljeepjogaa", sum := "0da6c6d5498bb553ecdb56ee6e835ea0f3692fcd0cd3e5916e6f0eaf323b38b1", func := "turncock/turncocklaw9.AdminReports", spec := "adminReports", unfollowed := true, recurses := true, apart := false, narrowed := true }
def AdminReportsUptoSaid : Prop := adminReportsUptoRow.holds Try.pinned (OpenSpec.upto adminReportsSpec)

/-- 'turncocklaw9.AdminOops', WHERE WHAT IT READS IS OF BULK AT MOST 1048576: true; the input reads as it did. -/
def adminOopsUptoRow : OpenClaim := { program := "ytfpdcljeepjogaa", sum := "0da6c6d5498bb553ecdb56ee6e835ea0f3692fcd0cd3e5916e6f0eaf323b38b1", func := "turncock/turncocklaw9.AdminOops", spec := "adminOops", unfollowed := true, recurses := true, apart := false, narrowed := true }
def AdminOopsUptoSaid : Prop := adminOopsUptoRow.holds Try.pinned (OpenSpec.upto adminOopsSpec)

/-- 'turncocklaw9.AdminReads', WHERE WHAT IT READS IS OF BULK AT MOST 1048576: true; the input reads as it did. -/
def adminReadsUptoRow : OpenClaim := { program := "ytfpdcljeepjogaa", sum := "0da6c6d5498bb553ecdb56ee6e835ea0f3692fcd0cd3e5916e6f0eaf323b38b1", func := "turncock/turncocklaw9.AdminReads", spec := "adminReads", unfollowed := true, recurses := true, apart := false, narrowed := true }
def AdminReadsUptoSaid : Prop := adminReadsUptoRow.holds Try.pinned (OpenSpec.upto adminReadsSpec)

/-- 'turncocklaw9.AdminOnly', WHERE WHAT IT READS IS OF BULK AT MOST 1048576: true; the input reads as it did. -/
def adminOnlyUptoRow : OpenClaim := { program := "ytfpdcljeepjogaa", sum := "0da6c6d5498bb553ecdb56ee6e835ea0f3692fcd0cd3e5916e6f0eaf323b38b1", func := "turncock/turncocklaw9.AdminOnly", spec := "adminOnly", unfollowed := true, recurses := true, apart := false, narrowed := true }
def AdminOnlyUptoSaid : Prop := adminOnlyUptoRow.holds Try.pinned (OpenSpec.upto adminOnlySpec)

end Rows
end Go.Proofs.Ytfpdcljeepjogaa
