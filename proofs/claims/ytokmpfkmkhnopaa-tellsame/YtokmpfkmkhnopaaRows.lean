/-
  No cell of these rows narrows 'for every input' (looked for: loops, veiled, ifaces, maps, wideKeys, modest, calm, conditions, laid).
  DERIVED. THE GIVEN ROWS OF THIS SEAT. 4 by the template 'for every input the law returns true; each argument reads behind the call as it read before'; 0 by the template 'total and deterministic' (their statements: YtokmpfkmkhnopaaTotals.lean).
  GIVEN WITH THE SEED: the statements are not yours to turn. If you find one false, say at which input.
  Laid BY PROGRAM, IN A SANDBOX (cutbox-rows.mjs): the forced cells as the released guide's own fill.sh prints them over the translation 1e36dfa2924e3d7b… (all of the seat's roots in one cut). By AI agents, Wed Nov 11 2026. No macro, syntax, notation, axiom, sorry.
-/
import Derived.Test.YtokmpfkmkhnopaaChecked
import GoSem.Claim
import GoSem.ClaimJoined
import GoSem.ClaimMapViews
import Derived.JoinedTies
import Derived.KernelRfl
namespace Go.Proofs.Ytokmpfkmkhnopaa
/- THE CELL 'sum', in the pinned program and in every row, IS THE sha256 OF THE DUMP (.gsa) THAT YtokmpfkmkhnopaaProg.lean LOADS. Nothing in Lean hashes anything: it is a label: what it is worth is what the hold of that sum in a sandbox is worth. -/
noncomputable def Try.pinned : Pinned := { name := "ytokmpfkmkhnopaa", sum := "1e36dfa2924e3d7b8364d41c0a468f1ad566dc013c134399d609499588586b2c", checked := Try.checked }
namespace Rows
def none {H : Type} : Left H := { results := [], args := [] }

/-- 'turncocklaw8.TellMakes': WHATEVER THE INPUT: true; the input reads as it did. -/
def tellMakesSpec : ChangeSpec := { name := "tellMakes", fn := fun _ => fun
  | [d] => { results := [.lit (.bool true)], args := [d] }
  | _ => none }
def tellMakesRow : OpenClaim := { program := "ytokmpfkmkhnopaa", sum := "1e36dfa2924e3d7b8364d41c0a468f1ad566dc013c134399d609499588586b2c", func := "turncock/turncocklaw8.TellMakes", spec := "tellMakes", unfollowed := true, recurses := true, apart := false }
def TellMakesSaid : Prop := tellMakesRow.holds Try.pinned (OpenSpec.ofChange tellMakesSpec)

/-- ITS FALSE NEIGHBOUR: 'it returns false'. Refute it at one input. -/
def tellMakesWrong : ChangeSpec := { name := "tellMakes", fn := fun _ => fun
  | [d] => { results := [.lit (.bool false)], args := [d] }
  | _ => none }
def TellMakesWrongFalsely : Prop := tellMakesRow.holds Try.pinned (OpenSpec.ofChange tellMakesWrong)

/-- 'turncocklaw8.TellBack': WHATEVER THE INPUT: true; the input reads as it did. -/
def tellBackSpec : ChangeSpec := { name := "tellBack", fn := fun _ => fun
  | [d] => { results := [.lit (.bool true)], args := [d] }
  | _ => none }
def tellBackRow : OpenClaim := { program := "ytokmpfkmkhnopaa", sum := "1e36dfa2924e3d7b8364d41c0a468f1ad566dc013c134399d609499588586b2c", func := "turncock/turncocklaw8.TellBack", spec := "tellBack", unfollowed := true, recurses := true, apart := false }
def TellBackSaid : Prop := tellBackRow.holds Try.pinned (OpenSpec.ofChange tellBackSpec)

/-- ITS FALSE NEIGHBOUR: 'it returns false'. Refute it at one input. -/
def tellBackWrong : ChangeSpec := { name := "tellBack", fn := fun _ => fun
  | [d] => { results := [.lit (.bool false)], args := [d] }
  | _ => none }
def TellBackWrongFalsely : Prop := tellBackRow.holds Try.pinned (OpenSpec.ofChange tellBackWrong)

/-- 'turncocklaw8.TellReads': WHATEVER THE INPUT: true; the input reads as it did. -/
def tellReadsSpec : ChangeSpec := { name := "tellReads", fn := fun _ => fun
  | [d] => { results := [.lit (.bool true)], args := [d] }
  | _ => none }
def tellReadsRow : OpenClaim := { program := "ytokmpfkmkhnopaa", sum := "1e36dfa2924e3d7b8364d41c0a468f1ad566dc013c134399d609499588586b2c", func := "turncock/turncocklaw8.TellReads", spec := "tellReads", unfollowed := true, recurses := true, apart := false }
def TellReadsSaid : Prop := tellReadsRow.holds Try.pinned (OpenSpec.ofChange tellReadsSpec)

/-- ITS FALSE NEIGHBOUR: 'it returns false'. Refute it at one input. -/
def tellReadsWrong : ChangeSpec := { name := "tellReads", fn := fun _ => fun
  | [d] => { results := [.lit (.bool false)], args := [d] }
  | _ => none }
def TellReadsWrongFalsely : Prop := tellReadsRow.holds Try.pinned (OpenSpec.ofChange tellReadsWrong)

/-- 'turncocklaw8.TellSame': WHATEVER THE INPUT: true; the input reads as it did. -/
def tellSameSpec : ChangeSpec := { name := "tellSame", fn := fun _ => fun
  | [d1, d2] => { results := [.lit (.bool true)], args := [d1, d2] }
  | _ => none }
def tellSameRow : OpenClaim := { program := "ytokmpfkmkhnopaa", sum := "1e36dfa2924e3d7b8364d41c0a468f1ad566dc013c134399d609499588586b2c", func := "turncock/turncocklaw8.TellSame", spec := "tellSame", unfollowed := true, recurses := true, apart := false }
def TellSameSaid : Prop := tellSameRow.holds Try.pinned (OpenSpec.ofChange tellSameSpec)

/-- ITS FALSE NEIGHBOUR: 'it returns false'. Refute it at one input. -/
def tellSameWrong : ChangeSpec := { name := "tellSame", fn := fun _ => fun
  | [d1, d2] => { results := [.lit (.bool false)], args := [d1, d2] }
  | _ => none }
def TellSameWrongFalsely : Prop := tellSameRow.holds Try.pinned (OpenSpec.ofChange tellSameWrong)

/- THE SECOND FORM. 'bulk': how many values and letters a reading holds, each counted each time it is reached (what is shared counts as often as it is met; a slice's spare places count too). A statement '..UptoSaid' is the law's where the arguments, and the package variables that the reading takes, are together of bulk at most 1048576: NARROWER than '..Said'. Prove '..Said' where nothing that the law and all that it calls make is longer than what came in: it says more and counts as full. Else prove '..UptoSaid'. A law counts once. -/
mutual
def uptoBulk {H : Type} : DataW H → Nat
  | .lit (.string bytes) => bytes.length + 1
  | .lit _ => 1
  | .nil => 1
  | .ptr d => uptoBulk d + 1
  | .slice elems spare => uptoBulkAll elems + uptoBulkAll spare + 1
  | .agg parts => uptoBulkAll parts + 1
  | .iface _ d => uptoBulk d + 1
  | .map entries => uptoBulkEntries entries + 1
  | .held _ => 1
def uptoBulkAll {H : Type} : List (DataW H) → Nat
  | [] => 0
  | d :: r => uptoBulk d + uptoBulkAll r
def uptoBulkEntries {H : Type} : List (Lit × DataW H) → Nat
  | [] => 0
  | x :: r => uptoBulkEntry x + uptoBulkEntries r
def uptoBulkEntry {H : Type} : Lit × DataW H → Nat
  | (.string bytes, d) => bytes.length + uptoBulk d + 1
  | (_, d) => uptoBulk d + 1
 end
def uptoSmall : (H : Type) → List (DataW H) → Bool := fun _ ds => decide (uptoBulkAll ds ≤ 1048576)
def OpenSpec.upto (s : _root_.Go.ChangeSpec) : _root_.Go.OpenSpec := { _root_.Go.OpenSpec.ofChange s with cond := some uptoSmall }

/-- 'turncocklaw8.TellMakes', WHERE WHAT IT READS IS OF BULK AT MOST 1048576: true; the input reads as it did. -/
def tellMakesUptoRow : OpenClaim := { program := "ytokmpfkmkhnopaa", sum := "1e36dfa2924e3d7b8364d41c0a468f1ad566dc013c134399d609499588586b2c", func := "turncock/turncocklaw8.TellMakes", spec := "tellMakes", unfollowed := true, recurses := true, apart := false, narrowed := true }
def TellMakesUptoSaid : Prop := tellMakesUptoRow.holds Try.pinned (OpenSpec.upto tellMakesSpec)

/-- 'turncocklaw8.TellBack', WHERE WHAT IT READS IS OF BULK AT MOST 1048576: true; the input reads as it did. -/
def tellBackUptoRow : OpenClaim := { program := "ytokmpfkmkhnopaa", sum := "1e36dfa2924e3d7b8364d41c0a468f1ad566dc013c134399d609499588586b2c", func := "turncock/turncocklaw8.TellBack", spec := "tellBack", unfollowed := true, recurses := true, apart := false, narrowed := true }
def TellBackUptoSaid : Prop := tellBackUptoRow.holds Try.pinned (OpenSpec.upto tellBackSpec)

/-- 'turncocklaw8.TellReads', WHERE WHAT IT READS IS OF BULK AT MOST 1048576: true; the input reads as it did. -/
def tellReadsUptoRow : OpenClaim := { program := "ytokmpfkmkhnopaa", sum := "1e36dfa2924e3d7b8364d41c0a468f1ad566dc013c134399d609499588586b2c", func := "turncock/turncocklaw8.TellReads", spec := "tellReads", unfollowed := true, recurses := true, apart := false, narrowed := true }
def TellReadsUptoSaid : Prop := tellReadsUptoRow.holds Try.pinned (OpenSpec.upto tellReadsSpec)

/-- 'turncocklaw8.TellSame', WHERE WHAT IT READS IS OF BULK AT MOST 1048576: true; the input reads as it did. -/
def tellSameUptoRow : OpenClaim := { program := "ytokmpfkmkhnopaa", sum := "1e36dfa2924e3d7b8364d41c0a468f1ad566dc013c134399d609499588586b2c", func := "turncock/turncocklaw8.TellSame", spec := "tellSame", unfollowed := true, recurses := true, apart := false, narrowed := true }
def TellSameUptoSaid : Prop := tellSameUptoRow.holds Try.pinned (OpenSpec.upto tellSameSpec)

end Rows
end Go.Proofs.Ytokmpfkmkhnopaa
