/-
  NARROWER THAN 'FOR EVERY INPUT', by the rows' own cells (each row's printed sentence says how): DescText: laid · DescRead: laid · DescApart: laid · DescEscape: laid · DescName: laid.
  DERIVED. THE GIVEN ROWS OF THIS SEAT. 5 by the template 'for every input the law returns true; each argument reads behind the call as it read before'; 0 by the template 'total and deterministic' (their statements: YtepnjhhpnabpnaaDoorTotals.lean).
  GIVEN WITH THE SEED: the statements are not yours to turn. If you find one false, say at which input.
  Laid BY PROGRAM, IN A SANDBOX (cutbox-rows.mjs): the forced cells as the released guide's own fill.sh prints them over the translation dd83d7182d1e3b73… (all of the seat's roots in one cut). By AI agents, Wed Nov 11 2026. No macro, syntax, notation, axiom, sorry.
-/
import Derived.Test.YtepnjhhpnabpnaaDoorChecked
import GoSem.PinnedTables
import GoSem.Claim
import GoSem.ClaimJoined
import GoSem.ClaimMapViews
import Derived.JoinedTies
import Derived.KernelRfl
namespace Go.Proofs.YtepnjhhpnabpnaaDoor
/- THE CELL 'sum', in the pinned program and in every row, IS THE sha256 OF THE DUMP (.gsa) THAT YtepnjhhpnabpnaaDoorProg.lean LOADS. Nothing in Lean hashes anything: it is a label: what it is worth is what the hold of that sum in a sandbox is worth. -/
noncomputable def Tryd.pinned : Pinned := { name := "ytepnjhhpnabpnaadoor", sum := "dd83d7182d1e3b73005d163f1617214911a49a69385c7cf68ebb16dab499cc10", checked := Tryd.checked }
namespace Rows
def none {H : Type} : Left H := { results := [], args := [] }

/- WHAT THE LISTED PACKAGE-LEVEL VARIABLES READ AS WHEN THE CALL BEGINS. Each datum BY PROGRAM (the guide's laid-datum.mjs) off the statement by which the dump's own 'gosem.cut.vars' lays the variable. In a bare row this is a premise. The card (YtepnjhhpnabpnaaDoorCards.lean) ties it to the program's text. -/
def laid_unicode_utf8_acceptRanges {H : Type} : DataW H := .agg [.agg [.lit (.int .u8 128), .lit (.int .u8 191)], .agg [.lit (.int .u8 160), .lit (.int .u8 191)], .agg [.lit (.int .u8 128), .lit (.int .u8 159)], .agg [.lit (.int .u8 144), .lit (.int .u8 191)], .agg [.lit (.int .u8 128), .lit (.int .u8 143)], .agg [.lit (.int .u8 0), .lit (.int .u8 0)], .agg [.lit (.int .u8 0), .lit (.int .u8 0)], .agg [.lit (.int .u8 0), .lit (.int .u8 0)], .agg [.lit (.int .u8 0), .lit (.int .u8 0)], .agg [.lit (.int .u8 0), .lit (.int .u8 0)], .agg [.lit (.int .u8 0), .lit (.int .u8 0)], .agg [.lit (.int .u8 0), .lit (.int .u8 0)], .agg [.lit (.int .u8 0), .lit (.int .u8 0)], .agg [.lit (.int .u8 0), .lit (.int .u8 0)], .agg [.lit (.int .u8 0), .lit (.int .u8 0)], .agg [.lit (.int .u8 0), .lit (.int .u8 0)]]
def laid_turncock_desc_plain {H : Type} : DataW H := .agg [.agg [.lit (.int .u8 97), .lit (.int .u8 122)], .agg [.lit (.int .u8 65), .lit (.int .u8 90)], .agg [.lit (.int .u8 48), .lit (.int .u8 57)], .agg [.lit (.int .u8 45), .lit (.int .u8 45)], .agg [.lit (.int .u8 95), .lit (.int .u8 95)], .agg [.lit (.int .u8 46), .lit (.int .u8 46)], .agg [.lit (.int .u8 47), .lit (.int .u8 47)], .agg [.lit (.int .u8 58), .lit (.int .u8 58)]]
/-- One of Go's own tables, pinned by name: the form's constant. -/
def laid_unicode_utf8_first : DataW Unit := Go.Pinned.utf8First

/-- 'turncocklaw6.DescText': WHATEVER THE INPUT: true; the input reads as it did. -/
def descTextSpec : ChangeSpec := { name := "descText", fn := fun _ => fun
  | [d] => { results := [.lit (.bool true)], args := [d] }
  | _ => none }
def descTextRow : OpenClaim := { program := "ytepnjhhpnabpnaadoor", sum := "dd83d7182d1e3b73005d163f1617214911a49a69385c7cf68ebb16dab499cc10", func := "turncock/turncocklaw6.DescText", spec := "descText", inPlace := ["internal/bytealg.CountString", "internal/bytealg.IndexByteString", "internal/bytealg.IndexString", "internal/abi.NoEscape", "internal/bytealg.MakeNoZero"], named := ["unicode/utf8.first", "unicode/utf8.acceptRanges", "internal/bytealg.MaxLen", "turncock/desc.plain"], apart := false, laid := [("unicode/utf8.acceptRanges", laid_unicode_utf8_acceptRanges), ("turncock/desc.plain", laid_turncock_desc_plain), ("unicode/utf8.first", laid_unicode_utf8_first)] }
def DescTextSaid : Prop := descTextRow.holds Tryd.pinned (OpenSpec.ofChange descTextSpec)

/-- ITS FALSE NEIGHBOUR: 'it returns false'. Refute it at one input. -/
def descTextWrong : ChangeSpec := { name := "descText", fn := fun _ => fun
  | [d] => { results := [.lit (.bool false)], args := [d] }
  | _ => none }
def DescTextWrongFalsely : Prop := descTextRow.holds Tryd.pinned (OpenSpec.ofChange descTextWrong)

/-- 'turncocklaw6.DescRead': WHATEVER THE INPUT: true; the input reads as it did. -/
def descReadSpec : ChangeSpec := { name := "descRead", fn := fun _ => fun
  | [d] => { results := [.lit (.bool true)], args := [d] }
  | _ => none }
def descReadRow : OpenClaim := { program := "ytepnjhhpnabpnaadoor", sum := "dd83d7182d1e3b73005d163f1617214911a49a69385c7cf68ebb16dab499cc10", func := "turncock/turncocklaw6.DescRead", spec := "descRead", inPlace := ["internal/bytealg.CountString", "internal/bytealg.IndexByteString", "internal/bytealg.IndexString", "internal/abi.NoEscape", "internal/bytealg.MakeNoZero"], named := ["unicode/utf8.first", "unicode/utf8.acceptRanges", "internal/bytealg.MaxLen", "turncock/desc.plain"], apart := false, laid := [("unicode/utf8.acceptRanges", laid_unicode_utf8_acceptRanges), ("turncock/desc.plain", laid_turncock_desc_plain), ("unicode/utf8.first", laid_unicode_utf8_first)] }
def DescReadSaid : Prop := descReadRow.holds Tryd.pinned (OpenSpec.ofChange descReadSpec)

/-- ITS FALSE NEIGHBOUR: 'it returns false'. Refute it at one input. -/
def descReadWrong : ChangeSpec := { name := "descRead", fn := fun _ => fun
  | [d] => { results := [.lit (.bool false)], args := [d] }
  | _ => none }
def DescReadWrongFalsely : Prop := descReadRow.holds Tryd.pinned (OpenSpec.ofChange descReadWrong)

/-- 'turncocklaw6.DescApart': WHATEVER THE INPUT: true; the input reads as it did. -/
def descApartSpec : ChangeSpec := { name := "descApart", fn := fun _ => fun
  | [d1, d2] => { results := [.lit (.bool true)], args := [d1, d2] }
  | _ => none }
def descApartRow : OpenClaim := { program := "ytepnjhhpnabpnaadoor", sum := "dd83d7182d1e3b73005d163f1617214911a49a69385c7cf68ebb16dab499cc10", func := "turncock/turncocklaw6.DescApart", spec := "descApart", inPlace := ["internal/bytealg.CountString", "internal/bytealg.IndexByteString", "internal/bytealg.IndexString", "internal/abi.NoEscape", "internal/bytealg.MakeNoZero"], named := ["unicode/utf8.first", "unicode/utf8.acceptRanges", "internal/bytealg.MaxLen", "turncock/desc.plain"], apart := false, laid := [("unicode/utf8.acceptRanges", laid_unicode_utf8_acceptRanges), ("turncock/desc.plain", laid_turncock_desc_plain), ("unicode/utf8.first", laid_unicode_utf8_first)] }
def DescApartSaid : Prop := descApartRow.holds Tryd.pinned (OpenSpec.ofChange descApartSpec)

/-- ITS FALSE NEIGHBOUR: 'it returns false'. Refute it at one input. -/
def descApartWrong : ChangeSpec := { name := "descApart", fn := fun _ => fun
  | [d1, d2] => { results := [.lit (.bool false)], args := [d1, d2] }
  | _ => none }
def DescApartWrongFalsely : Prop := descApartRow.holds Tryd.pinned (OpenSpec.ofChange descApartWrong)

/-- 'turncocklaw6.DescEscape': WHATEVER THE INPUT: true; the input reads as it did. -/
def descEscapeSpec : ChangeSpec := { name := "descEscape", fn := fun _ => fun
  | [d1, d2] => { results := [.lit (.bool true)], args := [d1, d2] }
  | _ => none }
def descEscapeRow : OpenClaim := { program := "ytepnjhhpnabpnaadoor", sum := "dd83d7182d1e3b73005d163f1617214911a49a69385c7cf68ebb16dab499cc10", func := "turncock/turncocklaw6.DescEscape", spec := "descEscape", inPlace := ["internal/bytealg.CountString", "internal/bytealg.IndexByteString", "internal/bytealg.IndexString", "internal/abi.NoEscape", "internal/bytealg.MakeNoZero"], named := ["unicode/utf8.first", "unicode/utf8.acceptRanges", "internal/bytealg.MaxLen", "turncock/desc.plain"], apart := false, laid := [("unicode/utf8.acceptRanges", laid_unicode_utf8_acceptRanges), ("turncock/desc.plain", laid_turncock_desc_plain), ("unicode/utf8.first", laid_unicode_utf8_first)] }
def DescEscapeSaid : Prop := descEscapeRow.holds Tryd.pinned (OpenSpec.ofChange descEscapeSpec)

/-- ITS FALSE NEIGHBOUR: 'it returns false'. Refute it at one input. -/
def descEscapeWrong : ChangeSpec := { name := "descEscape", fn := fun _ => fun
  | [d1, d2] => { results := [.lit (.bool false)], args := [d1, d2] }
  | _ => none }
def DescEscapeWrongFalsely : Prop := descEscapeRow.holds Tryd.pinned (OpenSpec.ofChange descEscapeWrong)

/-- 'turncocklaw6.DescName': WHATEVER THE INPUT: true; the input reads as it did. -/
def descNameSpec : ChangeSpec := { name := "descName", fn := fun _ => fun
  | [d] => { results := [.lit (.bool true)], args := [d] }
  | _ => none }
def descNameRow : OpenClaim := { program := "ytepnjhhpnabpnaadoor", sum := "dd83d7182d1e3b73005d163f1617214911a49a69385c7cf68ebb16dab499cc10", func := "turncock/turncocklaw6.DescName", spec := "descName", inPlace := ["internal/bytealg.CountString", "internal/bytealg.IndexByteString", "internal/bytealg.IndexString", "internal/abi.NoEscape", "internal/bytealg.MakeNoZero"], named := ["unicode/utf8.first", "unicode/utf8.acceptRanges", "internal/bytealg.MaxLen", "turncock/desc.plain"], apart := false, laid := [("unicode/utf8.acceptRanges", laid_unicode_utf8_acceptRanges), ("turncock/desc.plain", laid_turncock_desc_plain), ("unicode/utf8.first", laid_unicode_utf8_first)] }
def DescNameSaid : Prop := descNameRow.holds Tryd.pinned (OpenSpec.ofChange descNameSpec)

/-- ITS FALSE NEIGHBOUR: 'it returns false'. Refute it at one input. -/
def descNameWrong : ChangeSpec := { name := "descName", fn := fun _ => fun
  | [d] => { results := [.lit (.bool false)], args := [d] }
  | _ => none }
def DescNameWrongFalsely : Prop := descNameRow.holds Tryd.pinned (OpenSpec.ofChange descNameWrong)

/- THE SECOND FORM. 'bulk': how many values and letters a reading holds, each counted each time it is reached (what is shared counts as often as it is met; a slice's spare places count too). A statement '..UptoSaid' is the law's where the arguments, and the package variables that the reading takes, are together of bulk at most 1048576: NARROWER than '..Said'. Prove '..Said' where nothing that the law and all that it calls make is longer than what came in: it says more and counts as full. Else prove '..UptoSaid'. A law counts once. -/
mutual
def uptoBulk {H : Type} : DataW H → Nat
  | .lit (.string bytes) => bytes.length + 1
  | .lit _ => 1
  | .nil => 1
  | .ptr d => uptoBulk d + 1
  | .slice elems spare => uptoBulkAll elems + uptoBulkAll spare + 1
  | .agg parts => uptoBulkAll parts + 1
  | .iface _ d => uptoBulk d + 1
  | .map entries => uptoBulkEntries entries + 1
  | .held _ => 1
def uptoBulkAll {H : Type} : List (DataW H) → Nat
  | [] => 0
  | d :: r => uptoBulk d + uptoBulkAll r
def uptoBulkEntries {H : Type} : List (Lit × DataW H) → Nat
  | [] => 0
  | x :: r => uptoBulkEntry x + uptoBulkEntries r
def uptoBulkEntry {H : Type} : Lit × DataW H → Nat
  | (.string bytes, d) => bytes.length + uptoBulk d + 1
  | (_, d) => uptoBulk d + 1
 end
def uptoSmall : (H : Type) → List (DataW H) → Bool := fun _ ds => decide (uptoBulkAll ds ≤ 1048576)
def OpenSpec.upto (s : _root_.Go.ChangeSpec) : _root_.Go.OpenSpec := { _root_.Go.OpenSpec.ofChange s with cond := some uptoSmall }

/-- 'turncocklaw6.DescText', WHERE WHAT IT READS IS OF BULK AT MOST 1048576: true; the input reads as it did. -/
def descTextUptoRow : OpenClaim := { program := "ytepnjhhpnabpnaadoor", sum := "dd83d7182d1e3b73005d163f1617214911a49a69385c7cf68ebb16dab499cc10", func := "turncock/turncocklaw6.DescText", spec := "descText", inPlace := ["internal/bytealg.CountString", "internal/bytealg.IndexByteString", "internal/bytealg.IndexString", "internal/abi.NoEscape", "internal/bytealg.MakeNoZero"], named := ["unicode/utf8.first", "unicode/utf8.acceptRanges", "internal/bytealg.MaxLen", "turncock/desc.plain"], apart := false, laid := [("unicode/utf8.acceptRanges", laid_unicode_utf8_acceptRanges), ("turncock/desc.plain", laid_turncock_desc_plain), ("unicode/utf8.first", laid_unicode_utf8_first)], narrowed := true }
def DescTextUptoSaid : Prop := descTextUptoRow.holds Tryd.pinned (OpenSpec.upto descTextSpec)

/-- 'turncocklaw6.DescRead', WHERE WHAT IT READS IS OF BULK AT MOST 1048576: true; the input reads as it did. -/
def descReadUptoRow : OpenClaim := { program := "ytepnjhhpnabpnaadoor", sum := "dd83d7182d1e3b73005d163f1617214911a49a69385c7cf68ebb16dab499cc10", func := "turncock/turncocklaw6.DescRead", spec := "descRead", inPlace := ["internal/bytealg.CountString", "internal/bytealg.IndexByteString", "internal/bytealg.IndexString", "internal/abi.NoEscape", "internal/bytealg.MakeNoZero"], named := ["unicode/utf8.first", "unicode/utf8.acceptRanges", "internal/bytealg.MaxLen", "turncock/desc.plain"], apart := false, laid := [("unicode/utf8.acceptRanges", laid_unicode_utf8_acceptRanges), ("turncock/desc.plain", laid_turncock_desc_plain), ("unicode/utf8.first", laid_unicode_utf8_first)], narrowed := true }
def DescReadUptoSaid : Prop := descReadUptoRow.holds Tryd.pinned (OpenSpec.upto descReadSpec)

/-- 'turncocklaw6.DescApart', WHERE WHAT IT READS IS OF BULK AT MOST 1048576: true; the input reads as it did. -/
def descApartUptoRow : OpenClaim := { program := "ytepnjhhpnabpnaadoor", sum := "dd83d7182d1e3b73005d163f1617214911a49a69385c7cf68ebb16dab499cc10", func := "turncock/turncocklaw6.DescApart", spec := "descApart", inPlace := ["internal/bytealg.CountString", "internal/bytealg.IndexByteString", "internal/bytealg.IndexString", "internal/abi.NoEscape", "internal/bytealg.MakeNoZero"], named := ["unicode/utf8.first", "unicode/utf8.acceptRanges", "internal/bytealg.MaxLen", "turncock/desc.plain"], apart := false, laid := [("unicode/utf8.acceptRanges", laid_unicode_utf8_acceptRanges), ("turncock/desc.plain", laid_turncock_desc_plain), ("unicode/utf8.first", laid_unicode_utf8_first)], narrowed := true }
def DescApartUptoSaid : Prop := descApartUptoRow.holds Tryd.pinned (OpenSpec.upto descApartSpec)

/-- 'turncocklaw6.DescEscape', WHERE WHAT IT READS IS OF BULK AT MOST 1048576: true; the input reads as it did. -/
def descEscapeUptoRow : OpenClaim := { program := "ytepnjhhpnabpnaadoor", sum := "dd83d7182d1e3b73005d163f1617214911a49a69385c7cf68ebb16dab499cc10", func := "turncock/turncocklaw6.DescEscape", spec := "descEscape", inPlace := ["internal/bytealg.CountString", "internal/bytealg.IndexByteString", "internal/bytealg.IndexString", "internal/abi.NoEscape", "internal/bytealg.MakeNoZero"], named := ["unicode/utf8.first", "unicode/utf8.acceptRanges", "internal/bytealg.MaxLen", "turncock/desc.plain"], apart := false, laid := [("unicode/utf8.acceptRanges", laid_unicode_utf8_acceptRanges), ("turncock/desc.plain", laid_turncock_desc_plain), ("unicode/utf8.first", laid_unicode_utf8_first)], narrowed := true }
def DescEscapeUptoSaid : Prop := descEscapeUptoRow.holds Tryd.pinned (OpenSpec.upto descEscapeSpec)

/-- 'turncocklaw6.DescName', WHERE WHAT IT READS IS OF BULK AT MOST 1048576: true; the input reads as it did. -/
def descNameUptoRow : OpenClaim := { program := "ytepnjhhpnabpnaadoor", sum := "dd83d7182d1e3b73005d163f1617214911a49a69385c7cf68ebb16dab499cc10", func := "turncock/turncocklaw6.DescName", spec := "descName", inPlace := ["internal/bytealg.CountString", "internal/bytealg.IndexByteString", "internal/bytealg.IndexString", "internal/abi.NoEscape", "internal/bytealg.MakeNoZero"], named := ["unicode/utf8.first", "unicode/utf8.acceptRanges", "internal/bytealg.MaxLen", "turncock/desc.plain"], apart := false, laid := [("unicode/utf8.acceptRanges", laid_unicode_utf8_acceptRanges), ("turncock/desc.plain", laid_turncock_desc_plain), ("unicode/utf8.first", laid_unicode_utf8_first)], narrowed := true }
def DescNameUptoSaid : Prop := descNameUptoRow.holds Tryd.pinned (OpenSpec.upto descNameSpec)

end Rows
end Go.Proofs.YtepnjhhpnabpnaaDoor
