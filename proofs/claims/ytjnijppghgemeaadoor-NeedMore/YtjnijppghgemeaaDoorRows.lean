/-
  NARROWER THAN 'FOR EVERY INPUT', by the rows' own cells (each row's printed sentence says how): NeedKeys: laid · NeedEnough: laid · NeedBoth: laid · NeedMore: laid · NeedLess: laid · NeedNames: laid.
  DERIVED. THE GIVEN ROWS OF THIS SEAT. 6 by the template 'for every input the law returns true; each argument reads behind the call as it read before'; 0 by the template 'total and deterministic' (their statements: YtjnijppghgemeaaDoorTotals.lean).
  GIVEN WITH THE SEED: the statements are not yours to turn. If you find one false, say at which input.
  Laid BY PROGRAM, IN A SANDBOX (cutbox-rows.mjs): the forced cells as the released guide's own fill.sh prints them over the translation c0f7575d97856052… (all of the seat's roots in one cut). By AI agents, Wed Nov 11 2026. No macro, syntax, notation, axiom, sorry.
-/
import Derived.Test.YtjnijppghgemeaaDoorChecked
import GoSem.PinnedTables
import GoSem.Claim
import GoSem.ClaimJoined
import GoSem.ClaimMapViews
import Derived.JoinedTies
import Derived.KernelRfl
namespace Go.Proofs.YtjnijppghgemeaaDoor
/- THE CELL 'sum', in the pinned program and in every row, IS THE sha256 OF THE DUMP (.gsa) THAT YtjnijppghgemeaaDoorProg.lean LOADS. Nothing in Lean hashes anything: it is a label: what it is worth is what the hold of that sum in a sandbox is worth. -/
noncomputable def Tryd.pinned : Pinned := { name := "ytjnijppghgemeaadoor", sum := "c0f7575d978560522a5e07efadb478d5c1ede03ac7c818d718a826dcb5dec00f", checked := Tryd.checked }
namespace Rows
def none {H : Type} : Left H := { results := [], args := [] }

/- WHAT THE LISTED PACKAGE-LEVEL VARIABLES READ AS WHEN THE CALL BEGINS. Each datum BY PROGRAM (the guide's laid-datum.mjs) off the statement by which the dump's own 'gosem.cut.vars' lays the variable. In a bare row this is a premise. The card (YtjnijppghgemeaaDoorCards.lean) ties it to the program's text. -/
def laid_unicode_utf8_acceptRanges {H : Type} : DataW H := .agg [.agg [.lit (.int .u8 128), .lit (.int .u8 191)], .agg [.lit (.int .u8 160), .lit (.int .u8 191)], .agg [.lit (.int .u8 128), .lit (.int .u8 159)], .agg [.lit (.int .u8 144), .lit (.int .u8 191)], .agg [.lit (.int .u8 128), .lit (.int .u8 143)], .agg [.lit (.int .u8 0), .lit (.int .u8 0)], .agg [.lit (.int .u8 0), .lit (.int .u8 0)], .agg [.lit (.int .u8 0), .lit (.int .u8 0)], .agg [.lit (.int .u8 0), .lit (.int .u8 0)], .agg [.lit (.int .u8 0), .lit (.int .u8 0)], .agg [.lit (.int .u8 0), .lit (.int .u8 0)], .agg [.lit (.int .u8 0), .lit (.int .u8 0)], .agg [.lit (.int .u8 0), .lit (.int .u8 0)], .agg [.lit (.int .u8 0), .lit (.int .u8 0)], .agg [.lit (.int .u8 0), .lit (.int .u8 0)], .agg [.lit (.int .u8 0), .lit (.int .u8 0)]]
def laid_undertone_token_arrows {H : Type} : DataW H := .agg [.lit (.string [45, 62, 32]), .lit (.string [60, 45, 32])]
def laid_undertone_token_names {H : Type} : DataW H := .agg [.lit (.string [63]), .lit (.string [101]), .lit (.string [115]), .lit (.string [101, 101]), .lit (.string [101, 115]), .lit (.string [115, 101]), .lit (.string [115, 115]), .lit (.string [112, 115, 107])]
def laid_undertone_base_table {H : Type} : DataW H := .agg [.agg [.lit (.string [78]), .lit (.string [60, 45, 32, 115, 10, 46, 46, 46, 10, 45, 62, 32, 101, 44, 32, 101, 115, 10])], .agg [.lit (.string [75]), .lit (.string [45, 62, 32, 115, 10, 60, 45, 32, 115, 10, 46, 46, 46, 10, 45, 62, 32, 101, 44, 32, 101, 115, 44, 32, 115, 115, 10])], .agg [.lit (.string [88]), .lit (.string [60, 45, 32, 115, 10, 46, 46, 46, 10, 45, 62, 32, 101, 44, 32, 101, 115, 44, 32, 115, 44, 32, 115, 115, 10])], .agg [.lit (.string [78, 78]), .lit (.string [45, 62, 32, 101, 10, 60, 45, 32, 101, 44, 32, 101, 101, 10])], .agg [.lit (.string [78, 75]), .lit (.string [60, 45, 32, 115, 10, 46, 46, 46, 10, 45, 62, 32, 101, 44, 32, 101, 115, 10, 60, 45, 32, 101, 44, 32, 101, 101, 10])], .agg [.lit (.string [78, 88]), .lit (.string [45, 62, 32, 101, 10, 60, 45, 32, 101, 44, 32, 101, 101, 44, 32, 115, 44, 32, 101, 115, 10])], .agg [.lit (.string [88, 78]), .lit (.string [45, 62, 32, 101, 10, 60, 45, 32, 101, 44, 32, 101, 101, 10, 45, 62, 32, 115, 44, 32, 115, 101, 10])], .agg [.lit (.string [88, 75]), .lit (.string [60, 45, 32, 115, 10, 46, 46, 46, 10, 45, 62, 32, 101, 44, 32, 101, 115, 10, 60, 45, 32, 101, 44, 32, 101, 101, 10, 45, 62, 32, 115, 44, 32, 115, 101, 10])], .agg [.lit (.string [88, 88]), .lit (.string [45, 62, 32, 101, 10, 60, 45, 32, 101, 44, 32, 101, 101, 44, 32, 115, 44, 32, 101, 115, 10, 45, 62, 32, 115, 44, 32, 115, 101, 10])], .agg [.lit (.string [75, 78]), .lit (.string [45, 62, 32, 115, 10, 46, 46, 46, 10, 45, 62, 32, 101, 10, 60, 45, 32, 101, 44, 32, 101, 101, 44, 32, 115, 101, 10])], .agg [.lit (.string [75, 75]), .lit (.string [45, 62, 32, 115, 10, 60, 45, 32, 115, 10, 46, 46, 46, 10, 45, 62, 32, 101, 44, 32, 101, 115, 44, 32, 115, 115, 10, 60, 45, 32, 101, 44, 32, 101, 101, 44, 32, 115, 101, 10])], .agg [.lit (.string [75, 88]), .lit (.string [45, 62, 32, 115, 10, 46, 46, 46, 10, 45, 62, 32, 101, 10, 60, 45, 32, 101, 44, 32, 101, 101, 44, 32, 115, 101, 44, 32, 115, 44, 32, 101, 115, 10])], .agg [.lit (.string [73, 78]), .lit (.string [45, 62, 32, 101, 44, 32, 115, 10, 60, 45, 32, 101, 44, 32, 101, 101, 44, 32, 115, 101, 10])], .agg [.lit (.string [73, 75]), .lit (.string [60, 45, 32, 115, 10, 46, 46, 46, 10, 45, 62, 32, 101, 44, 32, 101, 115, 44, 32, 115, 44, 32, 115, 115, 10, 60, 45, 32, 101, 44, 32, 101, 101, 44, 32, 115, 101, 10])], .agg [.lit (.string [73, 88]), .lit (.string [45, 62, 32, 101, 44, 32, 115, 10, 60, 45, 32, 101, 44, 32, 101, 101, 44, 32, 115, 101, 44, 32, 115, 44, 32, 101, 115, 10])]]
def laid_undertone_valid_keys {H : Type} : DataW H := .agg [.agg [.lit (.int .i64 0), .lit (.int .i64 0)], .agg [.lit (.int .i64 0), .lit (.int .i64 0)], .agg [.lit (.int .i64 0), .lit (.int .i64 0)], .agg [.lit (.int .i64 1), .lit (.int .i64 1)], .agg [.lit (.int .i64 1), .lit (.int .i64 2)], .agg [.lit (.int .i64 2), .lit (.int .i64 1)], .agg [.lit (.int .i64 2), .lit (.int .i64 2)], .agg [.lit (.int .i64 0), .lit (.int .i64 0)]]
/-- One of Go's own tables, pinned by name: the form's constant. -/
def laid_unicode_utf8_first : DataW Unit := Go.Pinned.utf8First

/-- 'undertonelaw08.NeedKeys': WHATEVER THE INPUT: true; the input reads as it did. -/
def needKeysSpec : ChangeSpec := { name := "needKeys", fn := fun _ => fun
  | [d1, d2] => { results := [.lit (.bool true)], args := [d1, d2] }
  | _ => none }
def needKeysRow : OpenClaim := { program := "ytjnijppghgemeaadoor", sum := "c0f7575d978560522a5e07efadb478d5c1ede03ac7c818d718a826dcb5dec00f", func := "undertone/undertonelaw08.NeedKeys", spec := "needKeys", inPlace := ["internal/bytealg.IndexByteString", "internal/bytealg.IndexString", "internal/bytealg.CountString", "internal/abi.NoEscape", "internal/bytealg.MakeNoZero"], named := ["undertone/base.table", "internal/bytealg.MaxLen", "undertone/token.arrows", "unicode/utf8.first", "unicode/utf8.acceptRanges", "undertone/token.names", "undertone/valid.keys"], apart := false, laid := [("unicode/utf8.acceptRanges", laid_unicode_utf8_acceptRanges), ("undertone/token.arrows", laid_undertone_token_arrows), ("undertone/token.names", laid_undertone_token_names), ("undertone/base.table", laid_undertone_base_table), ("undertone/valid.keys", laid_undertone_valid_keys), ("unicode/utf8.first", laid_unicode_utf8_first)] }
def NeedKeysSaid : Prop := needKeysRow.holds Tryd.pinned (OpenSpec.ofChange needKeysSpec)

/-- ITS FALSE NEIGHBOUR: 'it returns false'. Refute it at one input. -/
def needKeysWrong : ChangeSpec := { name := "needKeys", fn := fun _ => fun
  | [d1, d2] => { results := [.lit (.bool false)], args := [d1, d2] }
  | _ => none }
def NeedKeysWrongFalsely : Prop := needKeysRow.holds Tryd.pinned (OpenSpec.ofChange needKeysWrong)

/-- 'undertonelaw08.NeedEnough': WHATEVER THE INPUT: true; the input reads as it did. -/
def needEnoughSpec : ChangeSpec := { name := "needEnough", fn := fun _ => fun
  | [d1, d2] => { results := [.lit (.bool true)], args := [d1, d2] }
  | _ => none }
def needEnoughRow : OpenClaim := { program := "ytjnijppghgemeaadoor", sum := "c0f7575d978560522a5e07efadb478d5c1ede03ac7c818d718a826dcb5dec00f", func := "undertone/undertonelaw08.NeedEnough", spec := "needEnough", inPlace := ["internal/bytealg.IndexByteString", "internal/bytealg.IndexString", "internal/bytealg.CountString", "internal/abi.NoEscape", "internal/bytealg.MakeNoZero"], named := ["undertone/base.table", "internal/bytealg.MaxLen", "undertone/token.arrows", "unicode/utf8.first", "unicode/utf8.acceptRanges", "undertone/token.names", "undertone/valid.keys"], apart := false, laid := [("unicode/utf8.acceptRanges", laid_unicode_utf8_acceptRanges), ("undertone/token.arrows", laid_undertone_token_arrows), ("undertone/token.names", laid_undertone_token_names), ("undertone/base.table", laid_undertone_base_table), ("undertone/valid.keys", laid_undertone_valid_keys), ("unicode/utf8.first", laid_unicode_utf8_first)] }
def NeedEnoughSaid : Prop := needEnoughRow.holds Tryd.pinned (OpenSpec.ofChange needEnoughSpec)

/-- ITS FALSE NEIGHBOUR: 'it returns false'. Refute it at one input. -/
def needEnoughWrong : ChangeSpec := { name := "needEnough", fn := fun _ => fun
  | [d1, d2] => { results := [.lit (.bool false)], args := [d1, d2] }
  | _ => none }
def NeedEnoughWrongFalsely : Prop := needEnoughRow.holds Tryd.pinned (OpenSpec.ofChange needEnoughWrong)

/-- 'undertonelaw08.NeedBoth': WHATEVER THE INPUT: true; the input reads as it did. -/
def needBothSpec : ChangeSpec := { name := "needBoth", fn := fun _ => fun
  | [d1, d2] => { results := [.lit (.bool true)], args := [d1, d2] }
  | _ => none }
def needBothRow : OpenClaim := { program := "ytjnijppghgemeaadoor", sum := "c0f7575d978560522a5e07efadb478d5c1ede03ac7c818d718a826dcb5dec00f", func := "undertone/undertonelaw08.NeedBoth", spec := "needBoth", inPlace := ["internal/bytealg.IndexByteString", "internal/bytealg.IndexString", "internal/bytealg.CountString", "internal/abi.NoEscape", "internal/bytealg.MakeNoZero"], named := ["undertone/valid.keys", "undertone/base.table", "internal/bytealg.MaxLen", "undertone/token.arrows", "unicode/utf8.first", "unicode/utf8.acceptRanges", "undertone/token.names"], apart := false, laid := [("unicode/utf8.acceptRanges", laid_unicode_utf8_acceptRanges), ("undertone/token.arrows", laid_undertone_token_arrows), ("undertone/token.names", laid_undertone_token_names), ("undertone/base.table", laid_undertone_base_table), ("undertone/valid.keys", laid_undertone_valid_keys), ("unicode/utf8.first", laid_unicode_utf8_first)] }
def NeedBothSaid : Prop := needBothRow.holds Tryd.pinned (OpenSpec.ofChange needBothSpec)

/-- ITS FALSE NEIGHBOUR: 'it returns false'. Refute it at one input. -/
def needBothWrong : ChangeSpec := { name := "needBoth", fn := fun _ => fun
  | [d1, d2] => { results := [.lit (.bool false)], args := [d1, d2] }
  | _ => none }
def NeedBothWrongFalsely : Prop := needBothRow.holds Tryd.pinned (OpenSpec.ofChange needBothWrong)

/-- 'undertonelaw08.NeedMore': WHATEVER THE INPUT: true; the input reads as it did. -/
def needMoreSpec : ChangeSpec := { name := "needMore", fn := fun _ => fun
  | [d1, d2, d3] => { results := [.lit (.bool true)], args := [d1, d2, d3] }
  | _ => none }
def needMoreRow : OpenClaim := { program := "ytjnijppghgemeaadoor", sum := "c0f7575d978560522a5e07efadb478d5c1ede03ac7c818d718a826dcb5dec00f", func := "undertone/undertonelaw08.NeedMore", spec := "needMore", inPlace := ["slices.overlaps[int]", "internal/bytealg.IndexByteString", "internal/bytealg.IndexString", "internal/bytealg.CountString", "internal/abi.NoEscape", "internal/bytealg.MakeNoZero"], named := ["undertone/base.table", "internal/bytealg.MaxLen", "undertone/token.arrows", "unicode/utf8.first", "unicode/utf8.acceptRanges", "undertone/token.names", "undertone/valid.keys"], apart := false, laid := [("unicode/utf8.acceptRanges", laid_unicode_utf8_acceptRanges), ("undertone/token.arrows", laid_undertone_token_arrows), ("undertone/token.names", laid_undertone_token_names), ("undertone/base.table", laid_undertone_base_table), ("undertone/valid.keys", laid_undertone_valid_keys), ("unicode/utf8.first", laid_unicode_utf8_first)] }
def NeedMoreSaid : Prop := needMoreRow.holds Tryd.pinned (OpenSpec.ofChange needMoreSpec)

/-- ITS FALSE NEIGHBOUR: 'it returns false'. Refute it at one input. -/
def needMoreWrong : ChangeSpec := { name := "needMore", fn := fun _ => fun
  | [d1, d2, d3] => { results := [.lit (.bool false)], args := [d1, d2, d3] }
  | _ => none }
def NeedMoreWrongFalsely : Prop := needMoreRow.holds Tryd.pinned (OpenSpec.ofChange needMoreWrong)

/-- 'undertonelaw08.NeedLess': WHATEVER THE INPUT: true; the input reads as it did. -/
def needLessSpec : ChangeSpec := { name := "needLess", fn := fun _ => fun
  | [d1, d2] => { results := [.lit (.bool true)], args := [d1, d2] }
  | _ => none }
def needLessRow : OpenClaim := { program := "ytjnijppghgemeaadoor", sum := "c0f7575d978560522a5e07efadb478d5c1ede03ac7c818d718a826dcb5dec00f", func := "undertone/undertonelaw08.NeedLess", spec := "needLess", inPlace := ["internal/bytealg.IndexByteString", "internal/bytealg.IndexString", "internal/bytealg.CountString", "internal/abi.NoEscape", "internal/bytealg.MakeNoZero"], named := ["undertone/base.table", "internal/bytealg.MaxLen", "undertone/token.arrows", "unicode/utf8.first", "unicode/utf8.acceptRanges", "undertone/token.names", "undertone/valid.keys"], apart := false, laid := [("unicode/utf8.acceptRanges", laid_unicode_utf8_acceptRanges), ("undertone/token.arrows", laid_undertone_token_arrows), ("undertone/token.names", laid_undertone_token_names), ("undertone/base.table", laid_undertone_base_table), ("undertone/valid.keys", laid_undertone_valid_keys), ("unicode/utf8.first", laid_unicode_utf8_first)] }
def NeedLessSaid : Prop := needLessRow.holds Tryd.pinned (OpenSpec.ofChange needLessSpec)

/-- ITS FALSE NEIGHBOUR: 'it returns false'. Refute it at one input. -/
def needLessWrong : ChangeSpec := { name := "needLess", fn := fun _ => fun
  | [d1, d2] => { results := [.lit (.bool false)], args := [d1, d2] }
  | _ => none }
def NeedLessWrongFalsely : Prop := needLessRow.holds Tryd.pinned (OpenSpec.ofChange needLessWrong)

/-- 'undertonelaw08.NeedNames': WHATEVER THE INPUT: true; the input reads as it did. -/
def needNamesSpec : ChangeSpec := { name := "needNames", fn := fun _ => fun
  | [d] => { results := [.lit (.bool true)], args := [d] }
  | _ => none }
def needNamesRow : OpenClaim := { program := "ytjnijppghgemeaadoor", sum := "c0f7575d978560522a5e07efadb478d5c1ede03ac7c818d718a826dcb5dec00f", func := "undertone/undertonelaw08.NeedNames", spec := "needNames", inPlace := ["internal/bytealg.IndexByteString", "internal/bytealg.IndexString", "internal/bytealg.CountString", "internal/abi.NoEscape", "internal/bytealg.MakeNoZero"], named := ["undertone/base.table", "internal/bytealg.MaxLen", "undertone/token.arrows", "unicode/utf8.first", "unicode/utf8.acceptRanges", "undertone/token.names", "undertone/valid.keys"], apart := false, laid := [("unicode/utf8.acceptRanges", laid_unicode_utf8_acceptRanges), ("undertone/token.arrows", laid_undertone_token_arrows), ("undertone/token.names", laid_undertone_token_names), ("undertone/base.table", laid_undertone_base_table), ("undertone/valid.keys", laid_undertone_valid_keys), ("unicode/utf8.first", laid_unicode_utf8_first)] }
def NeedNamesSaid : Prop := needNamesRow.holds Tryd.pinned (OpenSpec.ofChange needNamesSpec)

/-- ITS FALSE NEIGHBOUR: 'it returns false'. Refute it at one input. -/
def needNamesWrong : ChangeSpec := { name := "needNames", fn := fun _ => fun
  | [d] => { results := [.lit (.bool false)], args := [d] }
  | _ => none }
def NeedNamesWrongFalsely : Prop := needNamesRow.holds Tryd.pinned (OpenSpec.ofChange needNamesWrong)

/- THE SECOND FORM. 'bulk': how many values and letters a reading holds, each counted each time it is reached (what is shared counts as often as it is met; a slice's spare places count too). A statement '..UptoSaid' is the law's where the arguments, and the package variables that the reading takes, are together of bulk at most 1048576: NARROWER than '..Said'. Prove '..Said' where nothing that the law and all that it calls make is longer than what came in: it says more and counts as full. Else prove '..UptoSaid'. A law counts once. -/
mutual
def uptoBulk {H : Type} : DataW H → Nat
  | .lit (.string bytes) => bytes.length + 1
  | .lit _ => 1
  | .nil => 1
  | .ptr d => uptoBulk d + 1
  | .slice elems spare => uptoBulkAll elems + uptoBulkAll spare + 1
  | .agg parts => uptoBulkAll parts + 1
  | .iface _ d => uptoBulk d + 1
  | .map entries => uptoBulkEntries entries + 1
  | .held _ => 1
def uptoBulkAll {H : Type} : List (DataW H) → Nat
  | [] => 0
  | d :: r => uptoBulk d + uptoBulkAll r
def uptoBulkEntries {H : Type} : List (Lit × DataW H) → Nat
  | [] => 0
  | x :: r => uptoBulkEntry x + uptoBulkEntries r
def uptoBulkEntry {H : Type} : Lit × DataW H → Nat
  | (.string bytes, d) => bytes.length + uptoBulk d + 1
  | (_, d) => uptoBulk d + 1
 end
def uptoSmall : (H : Type) → List (DataW H) → Bool := fun _ ds => decide (uptoBulkAll ds ≤ 1048576)
def OpenSpec.upto (s : _root_.Go.ChangeSpec) : _root_.Go.OpenSpec := { _root_.Go.OpenSpec.ofChange s with cond := some uptoSmall }

/-- 'undertonelaw08.NeedKeys', WHERE WHAT IT READS IS OF BULK AT MOST 1048576: true; the input reads as it did. -/
def needKeysUptoRow : OpenClaim := { program := "ytjnijppghgemeaadoor", sum := "c0f7575d978560522a5e07efadb478d5c1ede03ac7c818d718a826dcb5dec00f", func := "undertone/undertonelaw08.NeedKeys", spec := "needKeys", inPlace := ["internal/bytealg.IndexByteString", "internal/bytealg.IndexString", "internal/bytealg.CountString", "internal/abi.NoEscape", "internal/bytealg.MakeNoZero"], named := ["undertone/base.table", "internal/bytealg.MaxLen", "undertone/token.arrows", "unicode/utf8.first", "unicode/utf8.acceptRanges", "undertone/token.names", "undertone/valid.keys"], apart := false, laid := [("unicode/utf8.acceptRanges", laid_unicode_utf8_acceptRanges), ("undertone/token.arrows", laid_undertone_token_arrows), ("undertone/token.names", laid_undertone_token_names), ("undertone/base.table", laid_undertone_base_table), ("undertone/valid.keys", laid_undertone_valid_keys), ("unicode/utf8.first", laid_unicode_utf8_first)], narrowed := true }
def NeedKeysUptoSaid : Prop := needKeysUptoRow.holds Tryd.pinned (OpenSpec.upto needKeysSpec)

/-- 'undertonelaw08.NeedEnough', WHERE WHAT IT READS IS OF BULK AT MOST 1048576: true; the input reads as it did. -/
def needEnoughUptoRow : OpenClaim := { program := "ytjnijppghgemeaadoor", sum := "c0f7575d978560522a5e07efadb478d5c1ede03ac7c818d718a826dcb5dec00f", func := "undertone/undertonelaw08.NeedEnough", spec := "needEnough", inPlace := ["internal/bytealg.IndexByteString", "internal/bytealg.IndexString", "internal/bytealg.CountString", "internal/abi.NoEscape", "internal/bytealg.MakeNoZero"], named := ["undertone/base.table", "internal/bytealg.MaxLen", "undertone/token.arrows", "unicode/utf8.first", "unicode/utf8.acceptRanges", "undertone/token.names", "undertone/valid.keys"], apart := false, laid := [("unicode/utf8.acceptRanges", laid_unicode_utf8_acceptRanges), ("undertone/token.arrows", laid_undertone_token_arrows), ("undertone/token.names", laid_undertone_token_names), ("undertone/base.table", laid_undertone_base_table), ("undertone/valid.keys", laid_undertone_valid_keys), ("unicode/utf8.first", laid_unicode_utf8_first)], narrowed := true }
def NeedEnoughUptoSaid : Prop := needEnoughUptoRow.holds Tryd.pinned (OpenSpec.upto needEnoughSpec)

/-- 'undertonelaw08.NeedBoth', WHERE WHAT IT READS IS OF BULK AT MOST 1048576: true; the input reads as it did. -/
def needBothUptoRow : OpenClaim := { program := "ytjnijppghgemeaadoor", sum := "c0f7575d978560522a5e07efadb478d5c1ede03ac7c818d718a826dcb5dec00f", func := "undertone/undertonelaw08.NeedBoth", spec := "needBoth", inPlace := ["internal/bytealg.IndexByteString", "internal/bytealg.IndexString", "internal/bytealg.CountString", "internal/abi.NoEscape", "internal/bytealg.MakeNoZero"], named := ["undertone/valid.keys", "undertone/base.table", "internal/bytealg.MaxLen", "undertone/token.arrows", "unicode/utf8.first", "unicode/utf8.acceptRanges", "undertone/token.names"], apart := false, laid := [("unicode/utf8.acceptRanges", laid_unicode_utf8_acceptRanges), ("undertone/token.arrows", laid_undertone_token_arrows), ("undertone/token.names", laid_undertone_token_names), ("undertone/base.table", laid_undertone_base_table), ("undertone/valid.keys", laid_undertone_valid_keys), ("unicode/utf8.first", laid_unicode_utf8_first)], narrowed := true }
def NeedBothUptoSaid : Prop := needBothUptoRow.holds Tryd.pinned (OpenSpec.upto needBothSpec)

/-- 'undertonelaw08.NeedMore', WHERE WHAT IT READS IS OF BULK AT MOST 1048576: true; the input reads as it did. -/
def needMoreUptoRow : OpenClaim := { program := "ytjnijppghgemeaadoor", sum := "c0f7575d978560522a5e07efadb478d5c1ede03ac7c818d718a826dcb5dec00f", func := "undertone/undertonelaw08.NeedMore", spec := "needMore", inPlace := ["slices.overlaps[int]", "internal/bytealg.IndexByteString", "internal/bytealg.IndexString", "internal/bytealg.CountString", "internal/abi.NoEscape", "internal/bytealg.MakeNoZero"], named := ["undertone/base.table", "internal/bytealg.MaxLen", "undertone/token.arrows", "unicode/utf8.first", "unicode/utf8.acceptRanges", "undertone/token.names", "undertone/valid.keys"], apart := false, laid := [("unicode/utf8.acceptRanges", laid_unicode_utf8_acceptRanges), ("undertone/token.arrows", laid_undertone_token_arrows), ("undertone/token.names", laid_undertone_token_names), ("undertone/base.table", laid_undertone_base_table), ("undertone/valid.keys", laid_undertone_valid_keys), ("unicode/utf8.first", laid_unicode_utf8_first)], narrowed := true }
def NeedMoreUptoSaid : Prop := needMoreUptoRow.holds Tryd.pinned (OpenSpec.upto needMoreSpec)

/-- 'undertonelaw08.NeedLess', WHERE WHAT IT READS IS OF BULK AT MOST 1048576: true; the input reads as it did. -/
def needLessUptoRow : OpenClaim := { program := "ytjnijppghgemeaadoor", sum := "c0f7575d978560522a5e07efadb478d5c1ede03ac7c818d718a826dcb5dec00f", func := "undertone/undertonelaw08.NeedLess", spec := "needLess", inPlace := ["internal/bytealg.IndexByteString", "internal/bytealg.IndexString", "internal/bytealg.CountString", "internal/abi.NoEscape", "internal/bytealg.MakeNoZero"], named := ["undertone/base.table", "internal/bytealg.MaxLen", "undertone/token.arrows", "unicode/utf8.first", "unicode/utf8.acceptRanges", "undertone/token.names", "undertone/valid.keys"], apart := false, laid := [("unicode/utf8.acceptRanges", laid_unicode_utf8_acceptRanges), ("undertone/token.arrows", laid_undertone_token_arrows), ("undertone/token.names", laid_undertone_token_names), ("undertone/base.table", laid_undertone_base_table), ("undertone/valid.keys", laid_undertone_valid_keys), ("unicode/utf8.first", laid_unicode_utf8_first)], narrowed := true }
def NeedLessUptoSaid : Prop := needLessUptoRow.holds Tryd.pinned (OpenSpec.upto needLessSpec)

/-- 'undertonelaw08.NeedNames', WHERE WHAT IT READS IS OF BULK AT MOST 1048576: true; the input reads as it did. -/
def needNamesUptoRow : OpenClaim := { program := "ytjnijppghgemeaadoor", sum := "c0f7575d978560522a5e07efadb478d5c1ede03ac7c818d718a826dcb5dec00f", func := "undertone/undertonelaw08.NeedNames", spec := "needNames", inPlace := ["internal/bytealg.IndexByteString", "internal/bytealg.IndexString", "internal/bytealg.CountString", "internal/abi.NoEscape", "internal/bytealg.MakeNoZero"], named := ["undertone/base.table", "internal/bytealg.MaxLen", "undertone/token.arrows", "unicode/utf8.first", "unicode/utf8.acceptRanges", "undertone/token.names", "undertone/valid.keys"], apart := false, laid := [("unicode/utf8.acceptRanges", laid_unicode_utf8_acceptRanges), ("undertone/token.arrows", laid_undertone_token_arrows), ("undertone/token.names", laid_undertone_token_names), ("undertone/base.table", laid_undertone_base_table), ("undertone/valid.keys", laid_undertone_valid_keys), ("unicode/utf8.first", laid_unicode_utf8_first)], narrowed := true }
def NeedNamesUptoSaid : Prop := needNamesUptoRow.holds Tryd.pinned (OpenSpec.upto needNamesSpec)

end Rows
end Go.Proofs.YtjnijppghgemeaaDoor
