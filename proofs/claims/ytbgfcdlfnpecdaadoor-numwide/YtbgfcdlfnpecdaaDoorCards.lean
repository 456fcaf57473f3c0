/-
  DERIVED. GIVEN WITH THE SEED: THE CARDS: each row of YtbgfcdlfnpecdaaDoorRows.lean that lists a variable, with what it lists TIED to the program's text (the seventh form; the later family's looks); each row that meets fmt, with fmt's text TOLD by the authors' own Lean function (tested against real Go, not proved from fmt's source: count such statements apart). THE CARD IS WHAT COUNTS. Prove the row's statement (the work); the ties are given (YtbgfcdlfnpecdaaDoorTie.lean); close each card by the builder's one call (the guide's Derived/Test/ToyasCard.lean, 'card_holds'). Laid BY PROGRAM, IN A SANDBOX (cutbox-door.mjs). By AI agents, Wed Nov 11 2026. No macro, syntax, notation, axiom, sorry.
-/
import Derived.Test.YtbgfcdlfnpecdaaDoorRows
import GoSem.ClaimSeven
namespace Go.Proofs.YtbgfcdlfnpecdaaDoor
namespace Rows

/-- THE TIED CARD OF 'turncocklaw1.NumSums'. -/
def numSumsCard : Claim7 := { stood := { row := numSumsRow, standIns := [], harness := (true, "aab5d632a6887a94847bd5fbc6aa81bf1b3292ba517254d943fb9b113c5df737"), looks := false }, kinds := [], alts := [], laidByText := true, laidKinds := [.data, .data, .data], laidTests := true, laidLooks := .later }
def NumSumsCardSaid : Prop := Claim7.holds Tryd.pinned (.plain (OpenSpec.ofChange numSumsSpec)) numSumsCard

/-- THE TIED CARD OF 'turncocklaw1.NumWide'. -/
def numWideCard : Claim7 := { stood := { row := numWideRow, standIns := [], harness := (true, "aab5d632a6887a94847bd5fbc6aa81bf1b3292ba517254d943fb9b113c5df737"), looks := false }, kinds := [], alts := [], laidByText := true, laidKinds := [.data, .data, .data], laidTests := true, laidLooks := .later }
def NumWideCardSaid : Prop := Claim7.holds Tryd.pinned (.plain (OpenSpec.ofChange numWideSpec)) numWideCard

/-- THE TIED CARD OF 'turncocklaw1.NumReads'. -/
def numReadsCard : Claim7 := { stood := { row := numReadsRow, standIns := [], harness := (true, "aab5d632a6887a94847bd5fbc6aa81bf1b3292ba517254d943fb9b113c5df737"), looks := false }, kinds := [], alts := [], laidByText := true, laidKinds := [.data, .data, .data], laidTests := true, laidLooks := .later }
def NumReadsCardSaid : Prop := Claim7.holds Tryd.pinned (.plain (OpenSpec.ofChange numReadsSpec)) numReadsCard

/-- THE TIED CARD OF 'turncocklaw1.NumBack'. -/
def numBackCard : Claim7 := { stood := { row := numBackRow, standIns := [], harness := (true, "aab5d632a6887a94847bd5fbc6aa81bf1b3292ba517254d943fb9b113c5df737"), looks := false }, kinds := [], alts := [], laidByText := true, laidKinds := [.data, .data, .data], laidTests := true, laidLooks := .later }
def NumBackCardSaid : Prop := Claim7.holds Tryd.pinned (.plain (OpenSpec.ofChange numBackSpec)) numBackCard

/-- THE SECOND FORM's CARD OF 'turncocklaw1.NumSums'. -/
def numSumsUptoCard : Claim7 := { stood := { row := numSumsUptoRow, standIns := [], harness := (true, "aab5d632a6887a94847bd5fbc6aa81bf1b3292ba517254d943fb9b113c5df737"), looks := false }, kinds := [], alts := [], laidByText := true, laidKinds := [.data, .data, .data], laidTests := true, laidLooks := .later }
def NumSumsUptoCardSaid : Prop := Claim7.holds Tryd.pinned (.plain (OpenSpec.upto numSumsSpec)) numSumsUptoCard

/-- THE SECOND FORM's CARD OF 'turncocklaw1.NumWide'. -/
def numWideUptoCard : Claim7 := { stood := { row := numWideUptoRow, standIns := [], harness := (true, "aab5d632a6887a94847bd5fbc6aa81bf1b3292ba517254d943fb9b113c5df737"), looks := false }, kinds := [], alts := [], laidByText := true, laidKinds := [.data, .data, .data], laidTests := true, laidLooks := .later }
def NumWideUptoCardSaid : Prop := Claim7.holds Tryd.pinned (.plain (OpenSpec.upto numWideSpec)) numWideUptoCard

/-- THE SECOND FORM's CARD OF 'turncocklaw1.NumReads'. -/
def numReadsUptoCard : Claim7 := { stood := { row := numReadsUptoRow, standIns := [], harness := (true, "aab5d632a6887a94847bd5fbc6aa81bf1b3292ba517254d943fb9b113c5df737"), looks := false }, kinds := [], alts := [], laidByText := true, laidKinds := [.data, .data, .data], laidTests := true, laidLooks := .later }
def NumReadsUptoCardSaid : Prop := Claim7.holds Tryd.pinned (.plain (OpenSpec.upto numReadsSpec)) numReadsUptoCard

/-- THE SECOND FORM's CARD OF 'turncocklaw1.NumBack'. -/
def numBackUptoCard : Claim7 := { stood := { row := numBackUptoRow, standIns := [], harness := (true, "aab5d632a6887a94847bd5fbc6aa81bf1b3292ba517254d943fb9b113c5df737"), looks := false }, kinds := [], alts := [], laidByText := true, laidKinds := [.data, .data, .data], laidTests := true, laidLooks := .later }
def NumBackUptoCardSaid : Prop := Claim7.holds Tryd.pinned (.plain (OpenSpec.upto numBackSpec)) numBackUptoCard
end Rows
end Go.Proofs.YtbgfcdlfnpecdaaDoor
