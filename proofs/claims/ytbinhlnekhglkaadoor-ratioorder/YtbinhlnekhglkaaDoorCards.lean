/-
  DERIVED. GIVEN WITH THE SEED: THE CARDS: each row of YtbinhlnekhglkaaDoorRows.lean that lists a variable, with what it lists TIED to the program's text (the seventh form; the later family's looks); each row that meets fmt, with fmt's text TOLD by the authors' own Lean function (tested against real Go, not proved from fmt's source: count such statements apart). THE CARD IS WHAT COUNTS. Prove the row's statement (the work); the ties are given (YtbinhlnekhglkaaDoorTie.lean); close each card by the builder's one call (the guide's Derived/Test/ToyasCard.lean, 'card_holds'). Laid BY PROGRAM, IN A SANDBOX (cutbox-door.mjs). By AI agents, Wed Nov 11 2026. No macro, syntax, notation, axiom, sorry.
-/
import Derived.Test.YtbinhlnekhglkaaDoorRows
import GoSem.ClaimSeven
namespace Go.Proofs.YtbinhlnekhglkaaDoor
namespace Rows

/-- THE TIED CARD OF 'turncocklaw5.RatioOf'. -/
def ratioOfCard : Claim7 := { stood := { row := ratioOfRow, standIns := [], harness := (true, "5fc9856f5c38d17839a97b6adbf51978395ae21986a296ec97e71740d6b74ce3"), looks := false }, kinds := [], alts := [], laidByText := true, laidKinds := [.data, .data, .data], laidTests := true, laidLooks := .later }
def RatioOfCardSaid : Prop := Claim7.holds Tryd.pinned (.plain (OpenSpec.ofChange ratioOfSpec)) ratioOfCard

/-- THE TIED CARD OF 'turncocklaw5.RatioOrder'. -/
def ratioOrderCard : Claim7 := { stood := { row := ratioOrderRow, standIns := [], harness := (true, "5fc9856f5c38d17839a97b6adbf51978395ae21986a296ec97e71740d6b74ce3"), looks := false }, kinds := [], alts := [], laidByText := true, laidKinds := [.data, .data, .data], laidTests := true, laidLooks := .later }
def RatioOrderCardSaid : Prop := Claim7.holds Tryd.pinned (.plain (OpenSpec.ofChange ratioOrderSpec)) ratioOrderCard

/-- THE TIED CARD OF 'turncocklaw5.RatioRow'. -/
def ratioRowCard : Claim7 := { stood := { row := ratioRowRow, standIns := [], harness := (true, "5fc9856f5c38d17839a97b6adbf51978395ae21986a296ec97e71740d6b74ce3"), looks := false }, kinds := [], alts := [], laidByText := true, laidKinds := [.data, .data, .data], laidTests := true, laidLooks := .later }
def RatioRowCardSaid : Prop := Claim7.holds Tryd.pinned (.plain (OpenSpec.ofChange ratioRowSpec)) ratioRowCard

/-- THE TIED CARD OF 'turncocklaw5.RatioNear'. -/
def ratioNearCard : Claim7 := { stood := { row := ratioNearRow, standIns := [], harness := (true, "5fc9856f5c38d17839a97b6adbf51978395ae21986a296ec97e71740d6b74ce3"), looks := false }, kinds := [], alts := [], laidByText := true, laidKinds := [.data, .data, .data], laidTests := true, laidLooks := .later }
def RatioNearCardSaid : Prop := Claim7.holds Tryd.pinned (.plain (OpenSpec.ofChange ratioNearSpec)) ratioNearCard

/-- THE TIED CARD OF 'turncocklaw5.RatioRises'. -/
def ratioRisesCard : Claim7 := { stood := { row := ratioRisesRow, standIns := [], harness := (true, "5fc9856f5c38d17839a97b6adbf51978395ae21986a296ec97e71740d6b74ce3"), looks := false }, kinds := [], alts := [], laidByText := true, laidKinds := [.data, .data, .data], laidTests := true, laidLooks := .later }
def RatioRisesCardSaid : Prop := Claim7.holds Tryd.pinned (.plain (OpenSpec.ofChange ratioRisesSpec)) ratioRisesCard

/-- THE TIED CARD OF 'turncocklaw5.RatioText'. -/
def ratioTextCard : Claim7 := { stood := { row := ratioTextRow, standIns := [], harness := (true, "5fc9856f5c38d17839a97b6adbf51978395ae21986a296ec97e71740d6b74ce3"), looks := false }, kinds := [], alts := [], laidByText := true, laidKinds := [.data, .data, .data], laidTests := true, laidLooks := .later }
def RatioTextCardSaid : Prop := Claim7.holds Tryd.pinned (.plain (OpenSpec.ofChange ratioTextSpec)) ratioTextCard

/-- THE TIED CARD OF 'turncocklaw5.RatioParse'. -/
def ratioParseCard : Claim7 := { stood := { row := ratioParseRow, standIns := [], harness := (true, "5fc9856f5c38d17839a97b6adbf51978395ae21986a296ec97e71740d6b74ce3"), looks := false }, kinds := [], alts := [], laidByText := true, laidKinds := [.data, .data, .data], laidTests := true, laidLooks := .later }
def RatioParseCardSaid : Prop := Claim7.holds Tryd.pinned (.plain (OpenSpec.ofChange ratioParseSpec)) ratioParseCard

/-- THE TIED CARD OF 'turncocklaw5.RatioWrite'. -/
def ratioWriteCard : Claim7 := { stood := { row := ratioWriteRow, standIns := [], harness := (true, "5fc9856f5c38d17839a97b6adbf51978395ae21986a296ec97e71740d6b74ce3"), looks := false }, kinds := [], alts := [], laidByText := true, laidKinds := [.data, .data, .data], laidTests := true, laidLooks := .later }
def RatioWriteCardSaid : Prop := Claim7.holds Tryd.pinned (.plain (OpenSpec.ofChange ratioWriteSpec)) ratioWriteCard

/-- THE TIED CARD OF 'turncocklaw5.RatioBack'. -/
def ratioBackCard : Claim7 := { stood := { row := ratioBackRow, standIns := [], harness := (true, "5fc9856f5c38d17839a97b6adbf51978395ae21986a296ec97e71740d6b74ce3"), looks := false }, kinds := [], alts := [], laidByText := true, laidKinds := [.data, .data, .data], laidTests := true, laidLooks := .later }
def RatioBackCardSaid : Prop := Claim7.holds Tryd.pinned (.plain (OpenSpec.ofChange ratioBackSpec)) ratioBackCard

/-- THE TIED CARD OF 'turncocklaw5.RatioDigits'. -/
def ratioDigitsCard : Claim7 := { stood := { row := ratioDigitsRow, standIns := [], harness := (true, "5fc9856f5c38d17839a97b6adbf51978395ae21986a296ec97e71740d6b74ce3"), looks := false }, kinds := [], alts := [], laidByText := true, laidKinds := [.data, .data, .data], laidTests := true, laidLooks := .later }
def RatioDigitsCardSaid : Prop := Claim7.holds Tryd.pinned (.plain (OpenSpec.ofChange ratioDigitsSpec)) ratioDigitsCard

/-- THE SECOND FORM's CARD OF 'turncocklaw5.RatioOf'. -/
def ratioOfUptoCard : Claim7 := { stood := { row := ratioOfUptoRow, standIns := [], harness := (true, "5fc9856f5c38d17839a97b6adbf51978395ae21986a296ec97e71740d6b74ce3"), looks := false }, kinds := [], alts := [], laidByText := true, laidKinds := [.data, .data, .data], laidTests := true, laidLooks := .later }
def RatioOfUptoCardSaid : Prop := Claim7.holds Tryd.pinned (.plain (OpenSpec.upto ratioOfSpec)) ratioOfUptoCard

/-- THE SECOND FORM's CARD OF 'turncocklaw5.RatioOrder'. -/
def ratioOrderUptoCard : Claim7 := { stood := { row := ratioOrderUptoRow, standIns := [], harness := (true, "5fc9856f5c38d17839a97b6adbf51978395ae21986a296ec97e71740d6b74ce3"), looks := false }, kinds := [], alts := [], laidByText := true, laidKinds := [.data, .data, .data], laidTests := true, laidLooks := .later }
def RatioOrderUptoCardSaid : Prop := Claim7.holds Tryd.pinned (.plain (OpenSpec.upto ratioOrderSpec)) ratioOrderUptoCard

/-- THE SECOND FORM's CARD OF 'turncocklaw5.RatioRow'. -/
def ratioRowUptoCard : Claim7 := { stood := { row := ratioRowUptoRow, standIns := [], harness := (true, "5fc9856f5c38d17839a97b6adbf51978395ae21986a296ec97e71740d6b74ce3"), looks := false }, kinds := [], alts := [], laidByText := true, laidKinds := [.data, .data, .data], laidTests := true, laidLooks := .later }
def RatioRowUptoCardSaid : Prop := Claim7.holds Tryd.pinned (.plain (OpenSpec.upto ratioRowSpec)) ratioRowUptoCard

/-- THE SECOND FORM's CARD OF 'turncocklaw5.RatioNear'. -/
def ratioNearUptoCard : Claim7 := { stood := { row := ratioNearUptoRow, standIns := [], harness := (true, "5fc9856f5c38d17839a97b6adbf51978395ae21986a296ec97e71740d6b74ce3"), looks := false }, kinds := [], alts := [], laidByText := true, laidKinds := [.data, .data, .data], laidTests := true, laidLooks := .later }
def RatioNearUptoCardSaid : Prop := Claim7.holds Tryd.pinned (.plain (OpenSpec.upto ratioNearSpec)) ratioNearUptoCard

/-- THE SECOND FORM's CARD OF 'turncocklaw5.RatioRises'. -/
def ratioRisesUptoCard : Claim7 := { stood := { row := ratioRisesUptoRow, standIns := [], harness := (true, "5fc9856f5c38d17839a97b6adbf51978395ae21986a296ec97e71740d6b74ce3"), looks := false }, kinds := [], alts := [], laidByText := true, laidKinds := [.data, .data, .data], laidTests := true, laidLooks := .later }
def RatioRisesUptoCardSaid : Prop := Claim7.holds Tryd.pinned (.plain (OpenSpec.upto ratioRisesSpec)) ratioRisesUptoCard

/-- THE SECOND FORM's CARD OF 'turncocklaw5.RatioText'. -/
def ratioTextUptoCard : Claim7 := { stood := { row := ratioTextUptoRow, standIns := [], harness := (true, "5fc9856f5c38d17839a97b6adbf51978395ae21986a296ec97e71740d6b74ce3"), looks := false }, kinds := [], alts := [], laidByText := true, laidKinds := [.data, .data, .data], laidTests := true, laidLooks := .later }
def RatioTextUptoCardSaid : Prop := Claim7.holds Tryd.pinned (.plain (OpenSpec.upto ratioTextSpec)) ratioTextUptoCard

/-- THE SECOND FORM's CARD OF 'turncocklaw5.RatioParse'. -/
def ratioParseUptoCard : Claim7 := { stood := { row := ratioParseUptoRow, standIns := [], harness := (true, "5fc9856f5c38d17839a97b6adbf51978395ae21986a296ec97e71740d6b74ce3"), looks := false }, kinds := [], alts := [], laidByText := true, laidKinds := [.data, .data, .data], laidTests := true, laidLooks := .later }
def RatioParseUptoCardSaid : Prop := Claim7.holds Tryd.pinned (.plain (OpenSpec.upto ratioParseSpec)) ratioParseUptoCard

/-- THE SECOND FORM's CARD OF 'turncocklaw5.RatioWrite'. -/
def ratioWriteUptoCard : Claim7 := { stood := { row := ratioWriteUptoRow, standIns := [], harness := (true, "5fc9856f5c38d17839a97b6adbf51978395ae21986a296ec97e71740d6b74ce3"), looks := false }, kinds := [], alts := [], laidByText := true, laidKinds := [.data, .data, .data], laidTests := true, laidLooks := .later }
def RatioWriteUptoCardSaid : Prop := Claim7.holds Tryd.pinned (.plain (OpenSpec.upto ratioWriteSpec)) ratioWriteUptoCard

/-- THE SECOND FORM's CARD OF 'turncocklaw5.RatioBack'. -/
def ratioBackUptoCard : Claim7 := { stood := { row := ratioBackUptoRow, standIns := [], harness := (true, "5fc9856f5c38d17839a97b6adbf51978395ae21986a296ec97e71740d6b74ce3"), looks := false }, kinds := [], alts := [], laidByText := true, laidKinds := [.data, .data, .data], laidTests := true, laidLooks := .later }
def RatioBackUptoCardSaid : Prop := Claim7.holds Tryd.pinned (.plain (OpenSpec.upto ratioBackSpec)) ratioBackUptoCard

/-- THE SECOND FORM's CARD OF 'turncocklaw5.RatioDigits'. -/
def ratioDigitsUptoCard : Claim7 := { stood := { row := ratioDigitsUptoRow, standIns := [], harness := (true, "5fc9856f5c38d17839a97b6adbf51978395ae21986a296ec97e71740d6b74ce3"), looks := false }, kinds := [], alts := [], laidByText := true, laidKinds := [.data, .data, .data], laidTests := true, laidLooks := .later }
def RatioDigitsUptoCardSaid : Prop := Claim7.holds Tryd.pinned (.plain (OpenSpec.upto ratioDigitsSpec)) ratioDigitsUptoCard
end Rows
end Go.Proofs.YtbinhlnekhglkaaDoor
