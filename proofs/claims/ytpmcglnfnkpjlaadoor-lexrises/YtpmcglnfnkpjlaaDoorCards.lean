/-
  DERIVED. GIVEN WITH THE SEED: THE CARDS: each row of YtpmcglnfnkpjlaaDoorRows.lean that lists a variable, with what it lists TIED to the program's text (the seventh form; the later family's looks); each row that meets fmt, with fmt's text TOLD by the authors' own Lean function (tested against real Go, not proved from fmt's source: count such statements apart). THE CARD IS WHAT COUNTS. Prove the row's statement (the work); the ties are given (YtpmcglnfnkpjlaaDoorTie.lean); close each card by the builder's one call (the guide's Derived/Test/ToyasCard.lean, 'card_holds'). Laid BY PROGRAM, IN A SANDBOX (cutbox-door.mjs). By AI agents, Wed Nov 11 2026. No macro, syntax, notation, axiom, sorry.
-/
import Derived.Test.YtpmcglnfnkpjlaaDoorRows
import GoSem.ClaimSeven
namespace Go.Proofs.YtpmcglnfnkpjlaaDoor
namespace Rows

/-- THE TIED CARD OF 'turncocklaw11.LexRow'. -/
def lexRowCard : Claim7 := { stood := { row := lexRowRow, standIns := [], harness := (true, "c2c3f693543e8f3352d7e04c11df6cda7970f7185464126fbb0457ccfa4f13a9"), looks := true }, kinds := [], alts := [], laidByText := true, laidKinds := [.data, .pinned], laidTests := true, laidLooks := .later }
def LexRowCardSaid : Prop := Claim7.holds Tryd.pinned (.plain (OpenSpec.ofChange lexRowSpec)) lexRowCard

/-- THE TIED CARD OF 'turncocklaw11.LexAll'. -/
def lexAllCard : Claim7 := { stood := { row := lexAllRow, standIns := [], harness := (true, "c2c3f693543e8f3352d7e04c11df6cda7970f7185464126fbb0457ccfa4f13a9"), looks := true }, kinds := [], alts := [], laidByText := true, laidKinds := [.data, .pinned], laidTests := true, laidLooks := .later }
def LexAllCardSaid : Prop := Claim7.holds Tryd.pinned (.plain (OpenSpec.ofChange lexAllSpec)) lexAllCard

/-- THE TIED CARD OF 'turncocklaw11.LexRises'. -/
def lexRisesCard : Claim7 := { stood := { row := lexRisesRow, standIns := [], harness := (true, "c2c3f693543e8f3352d7e04c11df6cda7970f7185464126fbb0457ccfa4f13a9"), looks := true }, kinds := [], alts := [], laidByText := true, laidKinds := [.data, .pinned], laidTests := true, laidLooks := .later }
def LexRisesCardSaid : Prop := Claim7.holds Tryd.pinned (.plain (OpenSpec.ofChange lexRisesSpec)) lexRisesCard

/-- THE TIED CARD OF 'turncocklaw11.LexQuoted'. -/
def lexQuotedCard : Claim7 := { stood := { row := lexQuotedRow, standIns := [], harness := (true, "c2c3f693543e8f3352d7e04c11df6cda7970f7185464126fbb0457ccfa4f13a9"), looks := true }, kinds := [], alts := [], laidByText := true, laidKinds := [.data, .pinned], laidTests := true, laidLooks := .later }
def LexQuotedCardSaid : Prop := Claim7.holds Tryd.pinned (.plain (OpenSpec.ofChange lexQuotedSpec)) lexQuotedCard

/-- THE TIED CARD OF 'turncocklaw11.LexSingle'. -/
def lexSingleCard : Claim7 := { stood := { row := lexSingleRow, standIns := [], harness := (true, "c2c3f693543e8f3352d7e04c11df6cda7970f7185464126fbb0457ccfa4f13a9"), looks := true }, kinds := [], alts := [], laidByText := true, laidKinds := [.data, .pinned], laidTests := true, laidLooks := .later }
def LexSingleCardSaid : Prop := Claim7.holds Tryd.pinned (.plain (OpenSpec.ofChange lexSingleSpec)) lexSingleCard

/-- THE SECOND FORM's CARD OF 'turncocklaw11.LexRow'. -/
def lexRowUptoCard : Claim7 := { stood := { row := lexRowUptoRow, standIns := [], harness := (true, "c2c3f693543e8f3352d7e04c11df6cda7970f7185464126fbb0457ccfa4f13a9"), looks := true }, kinds := [], alts := [], laidByText := true, laidKinds := [.data, .pinned], laidTests := true, laidLooks := .later }
def LexRowUptoCardSaid : Prop := Claim7.holds Tryd.pinned (.plain (OpenSpec.upto lexRowSpec)) lexRowUptoCard

/-- THE SECOND FORM's CARD OF 'turncocklaw11.LexAll'. -/
def lexAllUptoCard : Claim7 := { stood := { row := lexAllUptoRow, standIns := [], harness := (true, "c2c3f693543e8f3352d7e04c11df6cda7970f7185464126fbb0457ccfa4f13a9"), looks := true }, kinds := [], alts := [], laidByText := true, laidKinds := [.data, .pinned], laidTests := true, laidLooks := .later }
def LexAllUptoCardSaid : Prop := Claim7.holds Tryd.pinned (.plain (OpenSpec.upto lexAllSpec)) lexAllUptoCard

/-- THE SECOND FORM's CARD OF 'turncocklaw11.LexRises'. -/
def lexRisesUptoCard : Claim7 := { stood := { row := lexRisesUptoRow, standIns := [], harness := (true, "c2c3f693543e8f3352d7e04c11df6cda7970f7185464126fbb0457ccfa4f13a9"), looks := true }, kinds := [], alts := [], laidByText := true, laidKinds := [.data, .pinned], laidTests := true, laidLooks := .later }
def LexRisesUptoCardSaid : Prop := Claim7.holds Tryd.pinned (.plain (OpenSpec.upto lexRisesSpec)) lexRisesUptoCard

/-- THE SECOND FORM's CARD OF 'turncocklaw11.LexQuoted'. -/
def lexQuotedUptoCard : Claim7 := { stood := { row := lexQuotedUptoRow, standIns := [], harness := (true, "c2c3f693543e8f3352d7e04c11df6cda7970f7185464126fbb0457ccfa4f13a9"), looks := true }, kinds := [], alts := [], laidByText := true, laidKinds := [.data, .pinned], laidTests := true, laidLooks := .later }
def LexQuotedUptoCardSaid : Prop := Claim7.holds Tryd.pinned (.plain (OpenSpec.upto lexQuotedSpec)) lexQuotedUptoCard

/-- THE SECOND FORM's CARD OF 'turncocklaw11.LexSingle'. -/
def lexSingleUptoCard : Claim7 := { stood := { row := lexSingleUptoRow, standIns := [], harness := (true, "c2c3f693543e8f3352d7e04c11df6cda7970f7185464126fbb0457ccfa4f13a9"), looks := true }, kinds := [], alts := [], laidByText := true, laidKinds := [.data, .pinned], laidTests := true, laidLooks := .later }
def LexSingleUptoCardSaid : Prop := Claim7.holds Tryd.pinned (.plain (OpenSpec.upto lexSingleSpec)) lexSingleUptoCard
end Rows
end Go.Proofs.YtpmcglnfnkpjlaaDoor
