/-
  No cell of these rows narrows 'for every input' (looked for: loops, veiled, ifaces, maps, wideKeys, modest, calm, conditions, laid).
  DERIVED. THE GIVEN ROWS OF THIS SEAT. 3 by the template 'for every input the law returns true; each argument reads behind the call as it read before'; 0 by the template 'total and deterministic' (their statements: YtaajdodicepbdaaTotals.lean).
  GIVEN WITH THE SEED: the statements are not yours to turn. If you find one false, say at which input.
  Laid BY PROGRAM, IN A SANDBOX (cutbox-rows.mjs): the forced cells as the released guide's own fill.sh prints them over the translation ffb13622e6c92843… (all of the seat's roots in one cut). By AI agents, Wed Nov 11 2026. No macro, syntax, notation, axiom, sorry.
-/
import Derived.Test.YtaajdodicepbdaaChecked
import GoSem.Claim
import GoSem.ClaimJoined
import GoSem.ClaimMapViews
import Derived.JoinedTies
import Derived.KernelRfl
namespace Go.Proofs.Ytaajdodicepbdaa
/- THE CELL 'sum', in the pinned program and in every row, IS THE sha256 OF THE DUMP (.gsa) THAT YtaajdodicepbdaaProg.lean LOADS. Nothing in Lean hashes anything: it is a label: what it is worth is what the hold of that sum in a sandbox is worth. -/
noncomputable def Try.pinned : Pinned := { name := "ytaajdodicepbdaa", sum := "ffb13622e6c92843dc0e7eaec05c227421c13158a2dde6ce8c4d80ac738d278b", checked := Try.checked }
namespace Rows
def none {H : Type} : Left H := { results := [], args := [] }

/-- 'turncocklaw4.ReasmFeeds': WHATEVER THE INPUT: true; the input reads as it did. -/
def reasmFeedsSpec : ChangeSpec := { name := "reasmFeeds", fn := fun _ => fun
  | [d1, d2] => { results := [.lit (.bool true)], args := [d1, d2] }
  | _ => none }
def reasmFeedsRow : OpenClaim := { program := "ytaajdodicepbdaa", sum := "ffb13622e6c92843dc0e7eaec05c227421c13158a2dde6ce8c4d80ac738d278b", func := "turncock/turncocklaw4.ReasmFeeds", spec := "reasmFeeds", apart := false }
def ReasmFeedsSaid : Prop := reasmFeedsRow.holds Try.pinned (OpenSpec.ofChange reasmFeedsSpec)

/-- ITS FALSE NEIGHBOUR: 'it returns false'. Refute it at one input. -/
def reasmFeedsWrong : ChangeSpec := { name := "reasmFeeds", fn := fun _ => fun
  | [d1, d2] => { results := [.lit (.bool false)], args := [d1, d2] }
  | _ => none }
def ReasmFeedsWrongFalsely : Prop := reasmFeedsRow.holds Try.pinned (OpenSpec.ofChange reasmFeedsWrong)

/-- 'turncocklaw4.ReasmPieces': WHATEVER THE INPUT: true; the input reads as it did. -/
def reasmPiecesSpec : ChangeSpec := { name := "reasmPieces", fn := fun _ => fun
  | [d1, d2, d3, d4] => { results := [.lit (.bool true)], args := [d1, d2, d3, d4] }
  | _ => none }
def reasmPiecesRow : OpenClaim := { program := "ytaajdodicepbdaa", sum := "ffb13622e6c92843dc0e7eaec05c227421c13158a2dde6ce8c4d80ac738d278b", func := "turncock/turncocklaw4.ReasmPieces", spec := "reasmPieces", apart := false }
def ReasmPiecesSaid : Prop := reasmPiecesRow.holds Try.pinned (OpenSpec.ofChange reasmPiecesSpec)

/-- ITS FALSE NEIGHBOUR: 'it returns false'. Refute it at one input. -/
def reasmPiecesWrong : ChangeSpec := { name := "reasmPieces", fn := fun _ => fun
  | [d1, d2, d3, d4] => { results := [.lit (.bool false)], args := [d1, d2, d3, d4] }
  | _ => none }
def ReasmPiecesWrongFalsely : Prop := reasmPiecesRow.holds Try.pinned (OpenSpec.ofChange reasmPiecesWrong)

/-- 'turncocklaw4.ReasmOff': WHATEVER THE INPUT: true; the input reads as it did. -/
def reasmOffSpec : ChangeSpec := { name := "reasmOff", fn := fun _ => fun
  | [d1, d2, d3] => { results := [.lit (.bool true)], args := [d1, d2, d3] }
  | _ => none }
def reasmOffRow : OpenClaim := { program := "ytaajdodicepbdaa", sum := "ffb13622e6c92843dc0e7eaec05c227421c13158a2dde6ce8c4d80ac738d278b", func := "turncock/turncocklaw4.ReasmOff", spec := "reasmOff", apart := false }
def ReasmOffSaid : Prop := reasmOffRow.holds Try.pinned (OpenSpec.ofChange reasmOffSpec)

/-- ITS FALSE NEIGHBOUR: 'it returns false'. Refute it at one input. -/
def reasmOffWrong : ChangeSpec := { name := "reasmOff", fn := fun _ => fun
  | [d1, d2, d3] => { results := [.lit (.bool false)], args := [d1, d2, d3] }
  | _ => none }
def ReasmOffWrongFalsely : Prop := reasmOffRow.holds Try.pinned (OpenSpec.ofChange reasmOffWrong)

/- THE SECOND FORM. 'bulk': how many values and letters a reading holds, each counted each time it is reached (what is shared counts as often as it is met; a slice's spare places count too). A statement '..UptoSaid' is the law's where the arguments, and the package variables that the reading takes, are together of bulk at most 1048576: NARROWER than '..Said'. Prove '..Said' where nothing that the law and all that it calls make is longer than what came in: it says more and counts as full. Else prove '..UptoSaid'. A law counts once. -/
mutual
def uptoBulk {H : Type} : DataW H → Nat
  | .lit (.string bytes) => bytes.length + 1
  | .lit _ => 1
  | .nil => 1
  | .ptr d => uptoBulk d + 1
  | .slice elems spare => uptoBulkAll elems + uptoBulkAll spare + 1
  | .agg parts => uptoBulkAll parts + 1
  | .iface _ d => uptoBulk d + 1
  | .map entries => uptoBulkEntries entries + 1
  | .held _ => 1
def uptoBulkAll {H : Type} : List (DataW H) → Nat
  | [] => 0
  | d :: r => uptoBulk d + uptoBulkAll r
def uptoBulkEntries {H : Type} : List (Lit × DataW H) → Nat
  | [] => 0
  | x :: r => uptoBulkEntry x + uptoBulkEntries r
def uptoBulkEntry {H : Type} : Lit × DataW H → Nat
  | (.string bytes, d) => bytes.length + uptoBulk d + 1
  | (_, d) => uptoBulk d + 1
 end
def uptoSmall : (H : Type) → List (DataW H) → Bool := fun _ ds => decide (uptoBulkAll ds ≤ 1048576)
def OpenSpec.upto (s : _root_.Go.ChangeSpec) : _root_.Go.OpenSpec := { _root_.Go.OpenSpec.ofChange s with cond := some uptoSmall }

/-- 'turncocklaw4.ReasmFeeds', WHERE WHAT IT READS IS OF BULK AT MOST 1048576: true; the input reads as it did. -/
def reasmFeedsUptoRow : OpenClaim := { program := "ytaajdodicepbdaa", sum := "ffb13622e6c92843dc0e7eaec05c227421c13158a2dde6ce8c4d80ac738d278b", func := "turncock/turncocklaw4.ReasmFeeds", spec := "reasmFeeds", apart := false, narrowed := true }
def ReasmFeedsUptoSaid : Prop := reasmFeedsUptoRow.holds Try.pinned (OpenSpec.upto reasmFeedsSpec)

/-- 'turncocklaw4.ReasmPieces', WHERE WHAT IT READS IS OF BULK AT MOST 1048576: true; the input reads as it did. -/
def reasmPiecesUptoRow : OpenClaim := { program := "ytaajdodicepbdaa", sum := "ffb13622e6c92843dc0e7eaec05c227421c13158a2dde6ce8c4d80ac738d278b", func := "turncock/turncocklaw4.ReasmPieces", spec := "reasmPieces", apart := false, narrowed := true }
def ReasmPiecesUptoSaid : Prop := reasmPiecesUptoRow.holds Try.pinned (OpenSpec.upto reasmPiecesSpec)

/-- 'turncocklaw4.ReasmOff', WHERE WHAT IT READS IS OF BULK AT MOST 1048576: true; the input reads as it did. -/
def reasmOffUptoRow : OpenClaim := { program := "ytaajdodicepbdaa", sum := "ffb13622e6c92843dc0e7eaec05c227421c13158a2dde6ce8c4d80ac738d278b", func := "turncock/turncocklaw4.ReasmOff", spec := "reasmOff", apart := false, narrowed := true }
def ReasmOffUptoSaid : Prop := reasmOffUptoRow.holds Try.pinned (OpenSpec.upto reasmOffSpec)

end Rows
end Go.Proofs.Ytaajdodicepbdaa
