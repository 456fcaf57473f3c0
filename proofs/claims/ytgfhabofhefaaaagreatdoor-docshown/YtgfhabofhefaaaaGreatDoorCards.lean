/-
  DERIVED. GIVEN WITH THE SEED: THE CARDS: each row of YtgfhabofhefaaaaGreatDoorRows.lean that lists a variable, with what it lists TIED to the program's text (the seventh form; the later family's looks); each row that meets fmt, with fmt's text TOLD by the authors' own Lean function (tested against real Go, not proved from fmt's source: count such statements apart). THE CARD IS WHAT COUNTS. Prove the row's statement (the work); the ties are given (YtgfhabofhefaaaaGreatDoorTie.lean); close each card by the builder's one call (the guide's Derived/Test/ToyasCard.lean, 'card_holds'). Laid BY PROGRAM, IN A SANDBOX (cutbox-door.mjs). By AI agents, Wed Nov 11 2026. No macro, syntax, notation, axiom, sorry.
-/
import Derived.Test.YtgfhabofhefaaaaGreatDoorRows
import GoSem.ClaimSeven
namespace Go.Proofs.YtgfhabofhefaaaaGreatDoor
namespace Rows

/-- THE TIED CARD OF 'turncocklaw12.DocShown'. -/
def docShownCard : Claim7 := { stood := { row := docShownRow, standIns := [], harness := (true, "727517805f4191a513ff32894c5f393210d4f1aad4e87c843b7b97f42ea79b5f"), looks := true }, kinds := [], alts := [], laidByText := true, laidKinds := [.data, .pinned], laidTests := true, laidLooks := .later }
def DocShownCardSaid : Prop := Claim7.holds Tryz.pinned (.plain (OpenSpec.ofChange docShownSpec)) docShownCard

/-- THE TIED CARD OF 'turncocklaw13.ShowMade'. -/
def showMadeCard : Claim7 := { stood := { row := showMadeRow, standIns := [], harness := (true, "727517805f4191a513ff32894c5f393210d4f1aad4e87c843b7b97f42ea79b5f"), looks := true }, kinds := [], alts := [], laidByText := true, laidKinds := [.data, .pinned], laidTests := true, laidLooks := .later }
def ShowMadeCardSaid : Prop := Claim7.holds Tryz.pinned (.plain (OpenSpec.ofChange showMadeSpec)) showMadeCard

/-- THE SECOND FORM's CARD OF 'turncocklaw12.DocShown'. -/
def docShownUptoCard : Claim7 := { stood := { row := docShownUptoRow, standIns := [], harness := (true, "727517805f4191a513ff32894c5f393210d4f1aad4e87c843b7b97f42ea79b5f"), looks := true }, kinds := [], alts := [], laidByText := true, laidKinds := [.data, .pinned], laidTests := true, laidLooks := .later }
def DocShownUptoCardSaid : Prop := Claim7.holds Tryz.pinned (.plain (OpenSpec.upto docShownSpec)) docShownUptoCard

/-- THE SECOND FORM's CARD OF 'turncocklaw13.ShowMade'. -/
def showMadeUptoCard : Claim7 := { stood := { row := showMadeUptoRow, standIns := [], harness := (true, "727517805f4191a513ff32894c5f393210d4f1aad4e87c843b7b97f42ea79b5f"), looks := true }, kinds := [], alts := [], laidByText := true, laidKinds := [.data, .pinned], laidTests := true, laidLooks := .later }
def ShowMadeUptoCardSaid : Prop := Claim7.holds Tryz.pinned (.plain (OpenSpec.upto showMadeSpec)) showMadeUptoCard
end Rows
end Go.Proofs.YtgfhabofhefaaaaGreatDoor
