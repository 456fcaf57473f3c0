/-
  No cell of these rows narrows 'for every input' (looked for: loops, veiled, ifaces, maps, wideKeys, modest, calm, conditions, laid).
  DERIVED. THE GIVEN ROWS OF THIS SEAT. 5 by the template 'for every input the law returns true; each argument reads behind the call as it read before'; 0 by the template 'total and deterministic' (their statements: YthbmmnjpiflgdaaTotals.lean).
  GIVEN WITH THE SEED: the statements are not yours to turn. If you find one false, say at which input.
  Laid BY PROGRAM, IN A SANDBOX (cutbox-rows.mjs): the forced cells as the released guide's own fill.sh prints them over the translation a783f9329bb83ad8… (all of the seat's roots in one cut). By AI agents, Wed Nov 11 2026. No macro, syntax, notation, axiom, sorry.
-/
import Derived.Test.YthbmmnjpiflgdaaChecked
import GoSem.Claim
import GoSem.ClaimJoined
import GoSem.ClaimMapViews
import Derived.JoinedTies
import Derived.KernelRfl
namespace Go.Proofs.Ythbmmnjpiflgdaa
/- THE CELL 'sum', in the pinned program and in every row, IS THE sha256 OF THE DUMP (.gsa) THAT YthbmmnjpiflgdaaProg.lean LOADS. Nothing in Lean hashes anything: it is a label: what it is worth is what the hold of that sum in a sandbox is worth. -/
noncomputable def Try.pinned : Pinned := { name := "ythbmmnjpiflgdaa", sum := "a783f9329bb83ad83aec6020cde067e588715a17e5cd615a538b89c1ae2968fe", checked := Try.checked }
namespace Rows
def none {H : Type} : Left H := { results := [], args := [] }

/-- 'turncocklaw7.AskMakes': WHATEVER THE INPUT: true; the input reads as it did. -/
def askMakesSpec : ChangeSpec := { name := "askMakes", fn := fun _ => fun
  | [d] => { results := [.lit (.bool true)], args := [d] }
  | _ => none }
def askMakesRow : OpenClaim := { program := "ythbmmnjpiflgdaa", sum := "a783f9329bb83ad83aec6020cde067e588715a17e5cd615a538b89c1ae2968fe", func := "turncock/turncocklaw7.AskMakes", spec := "askMakes", unfollowed := true, recurses := true, apart := false }
def AskMakesSaid : Prop := askMakesRow.holds Try.pinned (OpenSpec.ofChange askMakesSpec)

/-- ITS FALSE NEIGHBOUR: 'it returns false'. Refute it at one input. -/
def askMakesWrong : ChangeSpec := { name := "askMakes", fn := fun _ => fun
  | [d] => { results := [.lit (.bool false)], args := [d] }
  | _ => none }
def AskMakesWrongFalsely : Prop := askMakesRow.holds Try.pinned (OpenSpec.ofChange askMakesWrong)

/-- 'turncocklaw7.AskBack': WHATEVER THE INPUT: true; the input reads as it did. -/
def askBackSpec : ChangeSpec := { name := "askBack", fn := fun _ => fun
  | [d] => { results := [.lit (.bool true)], args := [d] }
  | _ => none }
def askBackRow : OpenClaim := { program := "ythbmmnjpiflgdaa", sum := "a783f9329bb83ad83aec6020cde067e588715a17e5cd615a538b89c1ae2968fe", func := "turncock/turncocklaw7.AskBack", spec := "askBack", unfollowed := true, recurses := true, apart := false }
def AskBackSaid : Prop := askBackRow.holds Try.pinned (OpenSpec.ofChange askBackSpec)

/-- ITS FALSE NEIGHBOUR: 'it returns false'. Refute it at one input. -/
def askBackWrong : ChangeSpec := { name := "askBack", fn := fun _ => fun
  | [d] => { results := [.lit (.bool false)], args := [d] }
  | _ => none }
def AskBackWrongFalsely : Prop := askBackRow.holds Try.pinned (OpenSpec.ofChange askBackWrong)

/-- 'turncocklaw7.AskReads': WHATEVER THE INPUT: true; the input reads as it did. -/
def askReadsSpec : ChangeSpec := { name := "askReads", fn := fun _ => fun
  | [d] => { results := [.lit (.bool true)], args := [d] }
  | _ => none }
def askReadsRow : OpenClaim := { program := "ythbmmnjpiflgdaa", sum := "a783f9329bb83ad83aec6020cde067e588715a17e5cd615a538b89c1ae2968fe", func := "turncock/turncocklaw7.AskReads", spec := "askReads", unfollowed := true, recurses := true, apart := false }
def AskReadsSaid : Prop := askReadsRow.holds Try.pinned (OpenSpec.ofChange askReadsSpec)

/-- ITS FALSE NEIGHBOUR: 'it returns false'. Refute it at one input. -/
def askReadsWrong : ChangeSpec := { name := "askReads", fn := fun _ => fun
  | [d] => { results := [.lit (.bool false)], args := [d] }
  | _ => none }
def AskReadsWrongFalsely : Prop := askReadsRow.holds Try.pinned (OpenSpec.ofChange askReadsWrong)

/-- 'turncocklaw7.AskCut': WHATEVER THE INPUT: true; the input reads as it did. -/
def askCutSpec : ChangeSpec := { name := "askCut", fn := fun _ => fun
  | [d1, d2, d3] => { results := [.lit (.bool true)], args := [d1, d2, d3] }
  | _ => none }
def askCutRow : OpenClaim := { program := "ythbmmnjpiflgdaa", sum := "a783f9329bb83ad83aec6020cde067e588715a17e5cd615a538b89c1ae2968fe", func := "turncock/turncocklaw7.AskCut", spec := "askCut", unfollowed := true, recurses := true, apart := false }
def AskCutSaid : Prop := askCutRow.holds Try.pinned (OpenSpec.ofChange askCutSpec)

/-- ITS FALSE NEIGHBOUR: 'it returns false'. Refute it at one input. -/
def askCutWrong : ChangeSpec := { name := "askCut", fn := fun _ => fun
  | [d1, d2, d3] => { results := [.lit (.bool false)], args := [d1, d2, d3] }
  | _ => none }
def AskCutWrongFalsely : Prop := askCutRow.holds Try.pinned (OpenSpec.ofChange askCutWrong)

/-- 'turncocklaw7.AskSame': WHATEVER THE INPUT: true; the input reads as it did. -/
def askSameSpec : ChangeSpec := { name := "askSame", fn := fun _ => fun
  | [d1, d2] => { results := [.lit (.bool true)], args := [d1, d2] }
  | _ => none }
def askSameRow : OpenClaim := { program := "ythbmmnjpiflgdaa", sum := "a783f9329bb83ad83aec6020cde067e588715a17e5cd615a538b89c1ae2968fe", func := "turncock/turncocklaw7.AskSame", spec := "askSame", unfollowed := true, recurses := true, apart := false }
def AskSameSaid : Prop := askSameRow.holds Try.pinned (OpenSpec.ofChange askSameSpec)

/-- ITS FALSE NEIGHBOUR: 'it returns false'. Refute it at one input. -/
def askSameWrong : ChangeSpec := { name := "askSame", fn := fun _ => fun
  | [d1, d2] => { results := [.lit (.bool false)], args := [d1, d2] }
  | _ => none }
def AskSameWrongFalsely : Prop := askSameRow.holds Try.pinned (OpenSpec.ofChange askSameWrong)

/- THE SECOND FORM. 'bulk': how many values and letters a reading holds, each counted each time it is reached (what is shared counts as often as it is met; a slice's spare places count too). A statement '..UptoSaid' is the law's where the arguments, and the package variables that the reading takes, are together of bulk at most 1048576: NARROWER than '..Said'. Prove '..Said' where nothing that the law and all that it calls make is longer than what came in: it says more and counts as full. Else prove '..UptoSaid'. A law counts once. -/
mutual
def uptoBulk {H : Type} : DataW H → Nat
  | .lit (.string bytes) => bytes.length + 1
  | .lit _ => 1
  | .nil => 1
  | .ptr d => uptoBulk d + 1
  | .slice elems spare => uptoBulkAll elems + uptoBulkAll spare + 1
  | .agg parts => uptoBulkAll parts + 1
  | .iface _ d => uptoBulk d + 1
  | .map entries => uptoBulkEntries entries + 1
  | .held _ => 1
def uptoBulkAll {H : Type} : List (DataW H) → Nat
  | [] => 0
  | d :: r => uptoBulk d + uptoBulkAll r
def uptoBulkEntries {H : Type} : List (Lit × DataW H) → Nat
  | [] => 0
  | x :: r => uptoBulkEntry x + uptoBulkEntries r
def uptoBulkEntry {H : Type} : Lit × DataW H → Nat
  | (.string bytes, d) => bytes.length + uptoBulk d + 1
  | (_, d) => uptoBulk d + 1
 end
def uptoSmall : (H : Type) → List (DataW H) → Bool := fun _ ds => decide (uptoBulkAll ds ≤ 1048576)
def OpenSpec.upto (s : _root_.Go.ChangeSpec) : _root_.Go.OpenSpec := { _root_.Go.OpenSpec.ofChange s with cond := some uptoSmall }

/-- 'turncocklaw7.AskMakes', WHERE WHAT IT READS IS OF BULK AT MOST 1048576: true; the input reads as it did. -/
def askMakesUptoRow : OpenClaim := { program := "ythbmmnjpiflgdaa", sum := "a783f9329bb83ad83aec6020cde067e588715a17e5cd615a538b89c1ae2968fe", func := "turncock/turncocklaw7.AskMakes", spec := "askMakes", unfollowed := true, recurses := true, apart := false, narrowed := true }
def AskMakesUptoSaid : Prop := askMakesUptoRow.holds Try.pinned (OpenSpec.upto askMakesSpec)

/-- 'turncocklaw7.AskBack', WHERE WHAT IT READS IS OF BULK AT MOST 1048576: true; the input reads as it did. -/
def askBackUptoRow : OpenClaim := { program := "ythbmmnjpiflgdaa", sum := "a783f9329bb83ad83aec6020cde067e588715a17e5cd615a538b89c1ae2968fe", func := "turncock/turncocklaw7.AskBack", spec := "askBack", unfollowed := true, recurses := true, apart := false, narrowed := true }
def AskBackUptoSaid : Prop := askBackUptoRow.holds Try.pinned (OpenSpec.upto askBackSpec)

/-- 'turncocklaw7.AskReads', WHERE WHAT IT READS IS OF BULK AT MOST 1048576: true; the input reads as it did. -/
def askReadsUptoRow : OpenClaim := { program := "ythbmmnjpiflgdaa", sum := "a783f9329bb83ad83aec6020cde067e588715a17e5cd615a538b89c1ae2968fe", func := "turncock/turncocklaw7.AskReads", spec := "askReads", unfollowed := true, recurses := true, apart := false, narrowed := true }
def AskReadsUptoSaid : Prop := askReadsUptoRow.holds Try.pinned (OpenSpec.upto askReadsSpec)

/-- 'turncocklaw7.AskCut', WHERE WHAT IT READS IS OF BULK AT MOST 1048576: true; the input reads as it did. -/
def askCutUptoRow : OpenClaim := { program := "ythbmmnjpiflgdaa", sum := "a783f9329bb83ad83aec6020cde067e588715a17e5cd615a538b89c1ae2968fe", func := "turncock/turncocklaw7.AskCut", spec := "askCut", unfollowed := true, recurses := true, apart := false, narrowed := true }
def AskCutUptoSaid : Prop := askCutUptoRow.holds Try.pinned (OpenSpec.upto askCutSpec)

/-- 'turncocklaw7.AskSame', WHERE WHAT IT READS IS OF BULK AT MOST 1048576: true; the input reads as it did. -/
def askSameUptoRow : OpenClaim := { program := "ythbmmnjpiflgdaa", sum := "a783f9329bb83ad83aec6020cde067e588715a17e5cd615a538b89c1ae2968fe", func := "turncock/turncocklaw7.AskSame", spec := "askSame", unfollowed := true, recurses := true, apart := false, narrowed := true }
def AskSameUptoSaid : Prop := askSameUptoRow.holds Try.pinned (OpenSpec.upto askSameSpec)

end Rows
end Go.Proofs.Ythbmmnjpiflgdaa
