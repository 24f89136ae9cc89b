/-
  NARROWER THAN 'FOR EVERY INPUT', by the rows' own cells (each row's printed sentence says how): LevelTable: laid · LevelMessages: laid · LevelGrows: laid · LevelMixes: laid · LevelReach: laid · LevelSteps: laid · LevelEnds: laid.
  DERIVED. THE GIVEN ROWS OF THIS SEAT. 7 by the template 'for every input the law returns true; each argument reads behind the call as it read before'; 0 by the template 'total and deterministic' (their statements: YtahbbojhdkillaaDoorTotals.lean).
  GIVEN WITH THE SEED: the statements are not yours to turn. If you find one false, say at which input.
  Laid BY PROGRAM, IN A SANDBOX (cutbox-rows.mjs): the forced cells as the released guide's own fill.sh prints them over the translation 516963b04e399d76… (all of the seat's roots in one cut). By AI agents, Wed Nov 11 2026. No macro, syntax, notation, axiom, sorry.
-/
import Derived.Test.YtahbbojhdkillaaDoorChecked
import GoSem.PinnedTables
import GoSem.Claim
import GoSem.ClaimJoined
import GoSem.ClaimMapViews
import Derived.JoinedTies
import Derived.KernelRfl
namespace Go.Proofs.YtahbbojhdkillaaDoor
/- THE CELL 'sum', in the pinned program and in every row, IS THE sha256 OF THE DUMP (.gsa) THAT YtahbbojhdkillaaDoorProg.lean LOADS. Nothing in Lean hashes anything: it is a label: what it is worth is what the hold of that sum in a sandbox is worth. -/
noncomputable def Tryd.pinned : Pinned := { name := "ytahbbojhdkillaadoor", sum := "516963b04e399d76da25467035655b39ff11b6abb5ed40ff04cf1d2dc149a5c5", checked := Tryd.checked }
namespace Rows
def none {H : Type} : Left H := { results := [], args := [] }

/- WHAT THE LISTED PACKAGE-LEVEL VARIABLES READ AS WHEN THE CALL BEGINS. Each datum BY PROGRAM (the guide's laid-datum.mjs) off the statement by which the dump's own 'gosem.cut.vars' lays the variable. In a bare row this is a premise. The card (YtahbbojhdkillaaDoorCards.lean) ties it to the program's text. -/
def laid_unicode_utf8_acceptRanges {H : Type} : DataW H := .agg [.agg [.lit (.int .u8 128), .lit (.int .u8 191)], .agg [.lit (.int .u8 160), .lit (.int .u8 191)], .agg [.lit (.int .u8 128), .lit (.int .u8 159)], .agg [.lit (.int .u8 144), .lit (.int .u8 191)], .agg [.lit (.int .u8 128), .lit (.int .u8 143)], .agg [.lit (.int .u8 0), .lit (.int .u8 0)], .agg [.lit (.int .u8 0), .lit (.int .u8 0)], .agg [.lit (.int .u8 0), .lit (.int .u8 0)], .agg [.lit (.int .u8 0), .lit (.int .u8 0)], .agg [.lit (.int .u8 0), .lit (.int .u8 0)], .agg [.lit (.int .u8 0), .lit (.int .u8 0)], .agg [.lit (.int .u8 0), .lit (.int .u8 0)], .agg [.lit (.int .u8 0), .lit (.int .u8 0)], .agg [.lit (.int .u8 0), .lit (.int .u8 0)], .agg [.lit (.int .u8 0), .lit (.int .u8 0)], .agg [.lit (.int .u8 0), .lit (.int .u8 0)]]
def laid_undertone_token_arrows {H : Type} : DataW H := .agg [.lit (.string [45, 62, 32]), .lit (.string [60, 45, 32])]
def laid_undertone_token_names {H : Type} : DataW H := .agg [.lit (.string [63]), .lit (.string [101]), .lit (.string [115]), .lit (.string [101, 101]), .lit (.string [101, 115]), .lit (.string [115, 101]), .lit (.string [115, 115]), .lit (.string [112, 115, 107])]
def laid_undertone_base_table {H : Type} : DataW H := .agg [.agg [.lit (.string [78]), .lit (.string [60, 45, 32, 115, 10, 46, 46, 46, 10, 45, 62, 32, 101, 44, 32, 101, 115, 10])], .agg [.lit (.string [75]), .lit (.string [45, 62, 32, 115, 10, 60, 45, 32, 115, 10, 46, 46, 46, 10, 45, 62, 32, 101, 44, 32, 101, 115, 44, 32, 115, 115, 10])], .agg [.lit (.string [88]), .lit (.string [60, 45, 32, 115, 10, 46, 46, 46, 10, 45, 62, 32, 101, 44, 32, 101, 115, 44, 32, 115, 44, 32, 115, 115, 10])], .agg [.lit (.string [78, 78]), .lit (.string [45, 62, 32, 101, 10, 60, 45, 32, 101, 44, 32, 101, 101, 10])], .agg [.lit (.string [78, 75]), .lit (.string [60, 45, 32, 115, 10, 46, 46, 46, 10, 45, 62, 32, 101, 44, 32, 101, 115, 10, 60, 45, 32, 101, 44, 32, 101, 101, 10])], .agg [.lit (.string [78, 88]), .lit (.string [45, 62, 32, 101, 10, 60, 45, 32, 101, 44, 32, 101, 101, 44, 32, 115, 44, 32, 101, 115, 10])], .agg [.lit (.string [88, 78]), .lit (.string [45, 62, 32, 101, 10, 60, 45, 32, 101, 44, 32, 101, 101, 10, 45, 62, 32, 115, 44, 32, 115, 101, 10])], .agg [.lit (.string [88, 75]), .lit (.string [60, 45, 32, 115, 10, 46, 46, 46, 10, 45, 62, 32, 101, 44, 32, 101, 115, 10, 60, 45, 32, 101, 44, 32, 101, 101, 10, 45, 62, 32, 115, 44, 32, 115, 101, 10])], .agg [.lit (.string [88, 88]), .lit (.string [45, 62, 32, 101, 10, 60, 45, 32, 101, 44, 32, 101, 101, 44, 32, 115, 44, 32, 101, 115, 10, 45, 62, 32, 115, 44, 32, 115, 101, 10])], .agg [.lit (.string [75, 78]), .lit (.string [45, 62, 32, 115, 10, 46, 46, 46, 10, 45, 62, 32, 101, 10, 60, 45, 32, 101, 44, 32, 101, 101, 44, 32, 115, 101, 10])], .agg [.lit (.string [75, 75]), .lit (.string [45, 62, 32, 115, 10, 60, 45, 32, 115, 10, 46, 46, 46, 10, 45, 62, 32, 101, 44, 32, 101, 115, 44, 32, 115, 115, 10, 60, 45, 32, 101, 44, 32, 101, 101, 44, 32, 115, 101, 10])], .agg [.lit (.string [75, 88]), .lit (.string [45, 62, 32, 115, 10, 46, 46, 46, 10, 45, 62, 32, 101, 10, 60, 45, 32, 101, 44, 32, 101, 101, 44, 32, 115, 101, 44, 32, 115, 44, 32, 101, 115, 10])], .agg [.lit (.string [73, 78]), .lit (.string [45, 62, 32, 101, 44, 32, 115, 10, 60, 45, 32, 101, 44, 32, 101, 101, 44, 32, 115, 101, 10])], .agg [.lit (.string [73, 75]), .lit (.string [60, 45, 32, 115, 10, 46, 46, 46, 10, 45, 62, 32, 101, 44, 32, 101, 115, 44, 32, 115, 44, 32, 115, 115, 10, 60, 45, 32, 101, 44, 32, 101, 101, 44, 32, 115, 101, 10])], .agg [.lit (.string [73, 88]), .lit (.string [45, 62, 32, 101, 44, 32, 115, 10, 60, 45, 32, 101, 44, 32, 101, 101, 44, 32, 115, 101, 44, 32, 115, 44, 32, 101, 115, 10])]]
def laid_undertone_valid_keys {H : Type} : DataW H := .agg [.agg [.lit (.int .i64 0), .lit (.int .i64 0)], .agg [.lit (.int .i64 0), .lit (.int .i64 0)], .agg [.lit (.int .i64 0), .lit (.int .i64 0)], .agg [.lit (.int .i64 1), .lit (.int .i64 1)], .agg [.lit (.int .i64 1), .lit (.int .i64 2)], .agg [.lit (.int .i64 2), .lit (.int .i64 1)], .agg [.lit (.int .i64 2), .lit (.int .i64 2)], .agg [.lit (.int .i64 0), .lit (.int .i64 0)]]
def laid_undertone_level_proofs {H : Type} : DataW H := .agg [.lit (.int .i64 5), .lit (.int .i64 4)]
/-- One of Go's own tables, pinned by name: the form's constant. -/
def laid_unicode_utf8_first : DataW Unit := Go.Pinned.utf8First

/-- 'undertonelaw09.LevelTable': WHATEVER THE INPUT: true; the input reads as it did. -/
def levelTableSpec : ChangeSpec := { name := "levelTable", fn := fun _ => fun
  | [d] => { results := [.lit (.bool true)], args := [d] }
  | _ => none }
def levelTableRow : OpenClaim := { program := "ytahbbojhdkillaadoor", sum := "516963b04e399d76da25467035655b39ff11b6abb5ed40ff04cf1d2dc149a5c5", func := "undertone/undertonelaw09.LevelTable", spec := "levelTable", inPlace := ["internal/bytealg.IndexByteString", "internal/bytealg.IndexString", "internal/bytealg.CountString", "internal/abi.NoEscape", "internal/bytealg.MakeNoZero"], named := ["undertone/base.table", "internal/bytealg.MaxLen", "undertone/token.arrows", "unicode/utf8.first", "unicode/utf8.acceptRanges", "undertone/token.names", "undertone/valid.keys", "undertone/level.proofs"], apart := false, laid := [("unicode/utf8.acceptRanges", laid_unicode_utf8_acceptRanges), ("undertone/token.arrows", laid_undertone_token_arrows), ("undertone/token.names", laid_undertone_token_names), ("undertone/base.table", laid_undertone_base_table), ("undertone/valid.keys", laid_undertone_valid_keys), ("undertone/level.proofs", laid_undertone_level_proofs), ("unicode/utf8.first", laid_unicode_utf8_first)] }
def LevelTableSaid : Prop := levelTableRow.holds Tryd.pinned (OpenSpec.ofChange levelTableSpec)

/-- ITS FALSE NEIGHBOUR: 'it returns false'. Refute it at one input. -/
def levelTableWrong : ChangeSpec := { name := "levelTable", fn := fun _ => fun
  | [d] => { results := [.lit (.bool false)], args := [d] }
  | _ => none }
def LevelTableWrongFalsely : Prop := levelTableRow.holds Tryd.pinned (OpenSpec.ofChange levelTableWrong)

/-- 'undertonelaw09.LevelMessages': WHATEVER THE INPUT: true; the input reads as it did. -/
def levelMessagesSpec : ChangeSpec := { name := "levelMessages", fn := fun _ => fun
  | [d1, d2] => { results := [.lit (.bool true)], args := [d1, d2] }
  | _ => none }
def levelMessagesRow : OpenClaim := { program := "ytahbbojhdkillaadoor", sum := "516963b04e399d76da25467035655b39ff11b6abb5ed40ff04cf1d2dc149a5c5", func := "undertone/undertonelaw09.LevelMessages", spec := "levelMessages", inPlace := ["internal/bytealg.IndexByteString", "internal/bytealg.IndexString", "internal/bytealg.CountString", "internal/abi.NoEscape", "internal/bytealg.MakeNoZero"], named := ["undertone/base.table", "internal/bytealg.MaxLen", "undertone/token.arrows", "unicode/utf8.first", "unicode/utf8.acceptRanges", "undertone/token.names", "undertone/valid.keys", "undertone/level.proofs"], apart := false, laid := [("unicode/utf8.acceptRanges", laid_unicode_utf8_acceptRanges), ("undertone/token.arrows", laid_undertone_token_arrows), ("undertone/token.names", laid_undertone_token_names), ("undertone/base.table", laid_undertone_base_table), ("undertone/valid.keys", laid_undertone_valid_keys), ("undertone/level.proofs", laid_undertone_level_proofs), ("unicode/utf8.first", laid_unicode_utf8_first)] }
def LevelMessagesSaid : Prop := levelMessagesRow.holds Tryd.pinned (OpenSpec.ofChange levelMessagesSpec)

/-- ITS FALSE NEIGHBOUR: 'it returns false'. Refute it at one input. -/
def levelMessagesWrong : ChangeSpec := { name := "levelMessages", fn := fun _ => fun
  | [d1, d2] => { results := [.lit (.bool false)], args := [d1, d2] }
  | _ => none }
def LevelMessagesWrongFalsely : Prop := levelMessagesRow.holds Tryd.pinned (OpenSpec.ofChange levelMessagesWrong)

/-- 'undertonelaw09.LevelGrows': WHATEVER THE INPUT: true; the input reads as it did. -/
def levelGrowsSpec : ChangeSpec := { name := "levelGrows", fn := fun _ => fun
  | [d1, d2, d3] => { results := [.lit (.bool true)], args := [d1, d2, d3] }
  | _ => none }
def levelGrowsRow : OpenClaim := { program := "ytahbbojhdkillaadoor", sum := "516963b04e399d76da25467035655b39ff11b6abb5ed40ff04cf1d2dc149a5c5", func := "undertone/undertonelaw09.LevelGrows", spec := "levelGrows", inPlace := ["internal/bytealg.IndexByteString", "internal/bytealg.IndexString", "internal/bytealg.CountString", "internal/abi.NoEscape", "internal/bytealg.MakeNoZero"], named := ["undertone/base.table", "internal/bytealg.MaxLen", "undertone/token.arrows", "unicode/utf8.first", "unicode/utf8.acceptRanges", "undertone/token.names", "undertone/valid.keys", "undertone/level.proofs"], apart := false, laid := [("unicode/utf8.acceptRanges", laid_unicode_utf8_acceptRanges), ("undertone/token.arrows", laid_undertone_token_arrows), ("undertone/token.names", laid_undertone_token_names), ("undertone/base.table", laid_undertone_base_table), ("undertone/valid.keys", laid_undertone_valid_keys), ("undertone/level.proofs", laid_undertone_level_proofs), ("unicode/utf8.first", laid_unicode_utf8_first)] }
def LevelGrowsSaid : Prop := levelGrowsRow.holds Tryd.pinned (OpenSpec.ofChange levelGrowsSpec)

/-- ITS FALSE NEIGHBOUR: 'it returns false'. Refute it at one input. -/
def levelGrowsWrong : ChangeSpec := { name := "levelGrows", fn := fun _ => fun
  | [d1, d2, d3] => { results := [.lit (.bool false)], args := [d1, d2, d3] }
  | _ => none }
def LevelGrowsWrongFalsely : Prop := levelGrowsRow.holds Tryd.pinned (OpenSpec.ofChange levelGrowsWrong)

/-- 'undertonelaw09.LevelMixes': WHATEVER THE INPUT: true; the input reads as it did. -/
def levelMixesSpec : ChangeSpec := { name := "levelMixes", fn := fun _ => fun
  | [d1, d2] => { results := [.lit (.bool true)], args := [d1, d2] }
  | _ => none }
def levelMixesRow : OpenClaim := { program := "ytahbbojhdkillaadoor", sum := "516963b04e399d76da25467035655b39ff11b6abb5ed40ff04cf1d2dc149a5c5", func := "undertone/undertonelaw09.LevelMixes", spec := "levelMixes", inPlace := ["internal/bytealg.IndexByteString", "internal/bytealg.IndexString", "internal/bytealg.CountString", "internal/abi.NoEscape", "internal/bytealg.MakeNoZero"], named := ["undertone/base.table", "internal/bytealg.MaxLen", "undertone/token.arrows", "unicode/utf8.first", "unicode/utf8.acceptRanges", "undertone/token.names", "undertone/valid.keys", "undertone/level.proofs"], apart := false, laid := [("unicode/utf8.acceptRanges", laid_unicode_utf8_acceptRanges), ("undertone/token.arrows", laid_undertone_token_arrows), ("undertone/token.names", laid_undertone_token_names), ("undertone/base.table", laid_undertone_base_table), ("undertone/valid.keys", laid_undertone_valid_keys), ("undertone/level.proofs", laid_undertone_level_proofs), ("unicode/utf8.first", laid_unicode_utf8_first)] }
def LevelMixesSaid : Prop := levelMixesRow.holds Tryd.pinned (OpenSpec.ofChange levelMixesSpec)

/-- ITS FALSE NEIGHBOUR: 'it returns false'. Refute it at one input. -/
def levelMixesWrong : ChangeSpec := { name := "levelMixes", fn := fun _ => fun
  | [d1, d2] => { results := [.lit (.bool false)], args := [d1, d2] }
  | _ => none }
def LevelMixesWrongFalsely : Prop := levelMixesRow.holds Tryd.pinned (OpenSpec.ofChange levelMixesWrong)

/-- 'undertonelaw09.LevelReach': WHATEVER THE INPUT: true; the input reads as it did. -/
def levelReachSpec : ChangeSpec := { name := "levelReach", fn := fun _ => fun
  | [d1, d2, d3] => { results := [.lit (.bool true)], args := [d1, d2, d3] }
  | _ => none }
def levelReachRow : OpenClaim := { program := "ytahbbojhdkillaadoor", sum := "516963b04e399d76da25467035655b39ff11b6abb5ed40ff04cf1d2dc149a5c5", func := "undertone/undertonelaw09.LevelReach", spec := "levelReach", inPlace := ["internal/bytealg.IndexByteString", "internal/bytealg.IndexString", "internal/bytealg.CountString", "internal/abi.NoEscape", "internal/bytealg.MakeNoZero"], named := ["undertone/base.table", "internal/bytealg.MaxLen", "undertone/token.arrows", "unicode/utf8.first", "unicode/utf8.acceptRanges", "undertone/token.names", "undertone/valid.keys", "undertone/level.proofs"], apart := false, laid := [("unicode/utf8.acceptRanges", laid_unicode_utf8_acceptRanges), ("undertone/token.arrows", laid_undertone_token_arrows), ("undertone/token.names", laid_undertone_token_names), ("undertone/base.table", laid_undertone_base_table), ("undertone/valid.keys", laid_undertone_valid_keys), ("undertone/level.proofs", laid_undertone_level_proofs), ("unicode/utf8.first", laid_unicode_utf8_first)] }
def LevelReachSaid : Prop := levelReachRow.holds Tryd.pinned (OpenSpec.ofChange levelReachSpec)

/-- ITS FALSE NEIGHBOUR: 'it returns false'. Refute it at one input. -/
def levelReachWrong : ChangeSpec := { name := "levelReach", fn := fun _ => fun
  | [d1, d2, d3] => { results := [.lit (.bool false)], args := [d1, d2, d3] }
  | _ => none }
def LevelReachWrongFalsely : Prop := levelReachRow.holds Tryd.pinned (OpenSpec.ofChange levelReachWrong)

/-- 'undertonelaw09.LevelSteps': WHATEVER THE INPUT: true; the input reads as it did. -/
def levelStepsSpec : ChangeSpec := { name := "levelSteps", fn := fun _ => fun
  | [d1, d2, d3] => { results := [.lit (.bool true)], args := [d1, d2, d3] }
  | _ => none }
def levelStepsRow : OpenClaim := { program := "ytahbbojhdkillaadoor", sum := "516963b04e399d76da25467035655b39ff11b6abb5ed40ff04cf1d2dc149a5c5", func := "undertone/undertonelaw09.LevelSteps", spec := "levelSteps", inPlace := ["internal/bytealg.IndexByteString", "internal/bytealg.IndexString", "internal/bytealg.CountString", "internal/abi.NoEscape", "internal/bytealg.MakeNoZero"], named := ["undertone/base.table", "internal/bytealg.MaxLen", "undertone/token.arrows", "unicode/utf8.first", "unicode/utf8.acceptRanges", "undertone/token.names", "undertone/valid.keys", "undertone/level.proofs"], apart := false, laid := [("unicode/utf8.acceptRanges", laid_unicode_utf8_acceptRanges), ("undertone/token.arrows", laid_undertone_token_arrows), ("undertone/token.names", laid_undertone_token_names), ("undertone/base.table", laid_undertone_base_table), ("undertone/valid.keys", laid_undertone_valid_keys), ("undertone/level.proofs", laid_undertone_level_proofs), ("unicode/utf8.first", laid_unicode_utf8_first)] }
def LevelStepsSaid : Prop := levelStepsRow.holds Tryd.pinned (OpenSpec.ofChange levelStepsSpec)

/-- ITS FALSE NEIGHBOUR: 'it returns false'. Refute it at one input. -/
def levelStepsWrong : ChangeSpec := { name := "levelSteps", fn := fun _ => fun
  | [d1, d2, d3] => { results := [.lit (.bool false)], args := [d1, d2, d3] }
  | _ => none }
def LevelStepsWrongFalsely : Prop := levelStepsRow.holds Tryd.pinned (OpenSpec.ofChange levelStepsWrong)

/-- 'undertonelaw09.LevelEnds': WHATEVER THE INPUT: true; the input reads as it did. -/
def levelEndsSpec : ChangeSpec := { name := "levelEnds", fn := fun _ => fun
  | [d] => { results := [.lit (.bool true)], args := [d] }
  | _ => none }
def levelEndsRow : OpenClaim := { program := "ytahbbojhdkillaadoor", sum := "516963b04e399d76da25467035655b39ff11b6abb5ed40ff04cf1d2dc149a5c5", func := "undertone/undertonelaw09.LevelEnds", spec := "levelEnds", inPlace := ["internal/bytealg.IndexByteString", "internal/bytealg.IndexString", "internal/bytealg.CountString", "internal/abi.NoEscape", "internal/bytealg.MakeNoZero"], named := ["undertone/base.table", "internal/bytealg.MaxLen", "undertone/token.arrows", "unicode/utf8.first", "unicode/utf8.acceptRanges", "undertone/token.names", "undertone/valid.keys", "undertone/level.proofs"], apart := false, laid := [("unicode/utf8.acceptRanges", laid_unicode_utf8_acceptRanges), ("undertone/token.arrows", laid_undertone_token_arrows), ("undertone/token.names", laid_undertone_token_names), ("undertone/base.table", laid_undertone_base_table), ("undertone/valid.keys", laid_undertone_valid_keys), ("undertone/level.proofs", laid_undertone_level_proofs), ("unicode/utf8.first", laid_unicode_utf8_first)] }
def LevelEndsSaid : Prop := levelEndsRow.holds Tryd.pinned (OpenSpec.ofChange levelEndsSpec)

/-- ITS FALSE NEIGHBOUR: 'it returns false'. Refute it at one input. -/
def levelEndsWrong : ChangeSpec := { name := "levelEnds", fn := fun _ => fun
  | [d] => { results := [.lit (.bool false)], args := [d] }
  | _ => none }
def LevelEndsWrongFalsely : Prop := levelEndsRow.holds Tryd.pinned (OpenSpec.ofChange levelEndsWrong)

/- THE SECOND FORM. 'bulk': how many values and letters a reading holds, each counted each time it is reached (what is shared counts as often as it is met; a slice's spare places count too). A statement '..UptoSaid' is the law's where the arguments, and the package variables that the reading takes, are together of bulk at most 1048576: NARROWER than '..Said'. Prove '..Said' where nothing that the law and all that it calls make is longer than what came in: it says more and counts as full. Else prove '..UptoSaid'. A law counts once. -/
mutual
def uptoBulk {H : Type} : DataW H → Nat
  | .lit (.string bytes) => bytes.length + 1
  | .lit _ => 1
  | .nil => 1
  | .ptr d => uptoBulk d + 1
  | .slice elems spare => uptoBulkAll elems + uptoBulkAll spare + 1
  | .agg parts => uptoBulkAll parts + 1
  | .iface _ d => uptoBulk d + 1
  | .map entries => uptoBulkEntries entries + 1
  | .held _ => 1
def uptoBulkAll {H : Type} : List (DataW H) → Nat
  | [] => 0
  | d :: r => uptoBulk d + uptoBulkAll r
def uptoBulkEntries {H : Type} : List (Lit × DataW H) → Nat
  | [] => 0
  | x :: r => uptoBulkEntry x + uptoBulkEntries r
def uptoBulkEntry {H : Type} : Lit × DataW H → Nat
  | (.string bytes, d) => bytes.length + uptoBulk d + 1
  | (_, d) => uptoBulk d + 1
 end
def uptoSmall : (H : Type) → List (DataW H) → Bool := fun _ ds => decide (uptoBulkAll ds ≤ 1048576)
def OpenSpec.upto (s : _root_.Go.ChangeSpec) : _root_.Go.OpenSpec := { _root_.Go.OpenSpec.ofChange s with cond := some uptoSmall }

/-- 'undertonelaw09.LevelTable', WHERE WHAT IT READS IS OF BULK AT MOST 1048576: true; the input reads as it did. -/
def levelTableUptoRow : OpenClaim := { program := "ytahbbojhdkillaadoor", sum := "516963b04e399d76da25467035655b39ff11b6abb5ed40ff04cf1d2dc149a5c5", func := "undertone/undertonelaw09.LevelTable", spec := "levelTable", inPlace := ["internal/bytealg.IndexByteString", "internal/bytealg.IndexString", "internal/bytealg.CountString", "internal/abi.NoEscape", "internal/bytealg.MakeNoZero"], named := ["undertone/base.table", "internal/bytealg.MaxLen", "undertone/token.arrows", "unicode/utf8.first", "unicode/utf8.acceptRanges", "undertone/token.names", "undertone/valid.keys", "undertone/level.proofs"], apart := false, laid := [("unicode/utf8.acceptRanges", laid_unicode_utf8_acceptRanges), ("undertone/token.arrows", laid_undertone_token_arrows), ("undertone/token.names", laid_undertone_token_names), ("undertone/base.table", laid_undertone_base_table), ("undertone/valid.keys", laid_undertone_valid_keys), ("undertone/level.proofs", laid_undertone_level_proofs), ("unicode/utf8.first", laid_unicode_utf8_first)], narrowed := true }
def LevelTableUptoSaid : Prop := levelTableUptoRow.holds Tryd.pinned (OpenSpec.upto levelTableSpec)

/-- 'undertonelaw09.LevelMessages', WHERE WHAT IT READS IS OF BULK AT MOST 1048576: true; the input reads as it did. -/
def levelMessagesUptoRow : OpenClaim := { program := "ytahbbojhdkillaadoor", sum := "516963b04e399d76da25467035655b39ff11b6abb5ed40ff04cf1d2dc149a5c5", func := "undertone/undertonelaw09.LevelMessages", spec := "levelMessages", inPlace := ["internal/bytealg.IndexByteString", "internal/bytealg.IndexString", "internal/bytealg.CountString", "internal/abi.NoEscape", "internal/bytealg.MakeNoZero"], named := ["undertone/base.table", "internal/bytealg.MaxLen", "undertone/token.arrows", "unicode/utf8.first", "unicode/utf8.acceptRanges", "undertone/token.names", "undertone/valid.keys", "undertone/level.proofs"], apart := false, laid := [("unicode/utf8.acceptRanges", laid_unicode_utf8_acceptRanges), ("undertone/token.arrows", laid_undertone_token_arrows), ("undertone/token.names", laid_undertone_token_names), ("undertone/base.table", laid_undertone_base_table), ("undertone/valid.keys", laid_undertone_valid_keys), ("undertone/level.proofs", laid_undertone_level_proofs), ("unicode/utf8.first", laid_unicode_utf8_first)], narrowed := true }
def LevelMessagesUptoSaid : Prop := levelMessagesUptoRow.holds Tryd.pinned (OpenSpec.upto levelMessagesSpec)

/-- 'undertonelaw09.LevelGrows', WHERE WHAT IT READS IS OF BULK AT MOST 1048576: true; the input reads as it did. -/
def levelGrowsUptoRow : OpenClaim := { program := "ytahbbojhdkillaadoor", sum := "516963b04e399d76da25467035655b39ff11b6abb5ed40ff04cf1d2dc149a5c5", func := "undertone/undertonelaw09.LevelGrows", spec := "levelGrows", inPlace := ["internal/bytealg.IndexByteString", "internal/bytealg.IndexString", "internal/bytealg.CountString", "internal/abi.NoEscape", "internal/bytealg.MakeNoZero"], named := ["undertone/base.table", "internal/bytealg.MaxLen", "undertone/token.arrows", "unicode/utf8.first", "unicode/utf8.acceptRanges", "undertone/token.names", "undertone/valid.keys", "undertone/level.proofs"], apart := false, laid := [("unicode/utf8.acceptRanges", laid_unicode_utf8_acceptRanges), ("undertone/token.arrows", laid_undertone_token_arrows), ("undertone/token.names", laid_undertone_token_names), ("undertone/base.table", laid_undertone_base_table), ("undertone/valid.keys", laid_undertone_valid_keys), ("undertone/level.proofs", laid_undertone_level_proofs), ("unicode/utf8.first", laid_unicode_utf8_first)], narrowed := true }
def LevelGrowsUptoSaid : Prop := levelGrowsUptoRow.holds Tryd.pinned (OpenSpec.upto levelGrowsSpec)

/-- 'undertonelaw09.LevelMixes', WHERE WHAT IT READS IS OF BULK AT MOST 1048576: true; the input reads as it did. -/
def levelMixesUptoRow : OpenClaim := { program := "ytahbbojhdkillaadoor", sum := "516963b04e399d76da25467035655b39ff11b6abb5ed40ff04cf1d2dc149a5c5", func := "undertone/undertonelaw09.LevelMixes", spec := "levelMixes", inPlace := ["internal/bytealg.IndexByteString", "internal/bytealg.IndexString", "internal/bytealg.CountString", "internal/abi.NoEscape", "internal/bytealg.MakeNoZero"], named := ["undertone/base.table", "internal/bytealg.MaxLen", "undertone/token.arrows", "unicode/utf8.first", "unicode/utf8.acceptRanges", "undertone/token.names", "undertone/valid.keys", "undertone/level.proofs"], apart := false, laid := [("unicode/utf8.acceptRanges", laid_unicode_utf8_acceptRanges), ("undertone/token.arrows", laid_undertone_token_arrows), ("undertone/token.names", laid_undertone_token_names), ("undertone/base.table", laid_undertone_base_table), ("undertone/valid.keys", laid_undertone_valid_keys), ("undertone/level.proofs", laid_undertone_level_proofs), ("unicode/utf8.first", laid_unicode_utf8_first)], narrowed := true }
def LevelMixesUptoSaid : Prop := levelMixesUptoRow.holds Tryd.pinned (OpenSpec.upto levelMixesSpec)

/-- 'undertonelaw09.LevelReach', WHERE WHAT IT READS IS OF BULK AT MOST 1048576: true; the input reads as it did. -/
def levelReachUptoRow : OpenClaim := { program := "ytahbbojhdkillaadoor", sum := "516963b04e399d76da25467035655b39ff11b6abb5ed40ff04cf1d2dc149a5c5", func := "undertone/undertonelaw09.LevelReach", spec := "levelReach", inPlace := ["internal/bytealg.IndexByteString", "internal/bytealg.IndexString", "internal/bytealg.CountString", "internal/abi.NoEscape", "internal/bytealg.MakeNoZero"], named := ["undertone/base.table", "internal/bytealg.MaxLen", "undertone/token.arrows", "unicode/utf8.first", "unicode/utf8.acceptRanges", "undertone/token.names", "undertone/valid.keys", "undertone/level.proofs"], apart := false, laid := [("unicode/utf8.acceptRanges", laid_unicode_utf8_acceptRanges), ("undertone/token.arrows", laid_undertone_token_arrows), ("undertone/token.names", laid_undertone_token_names), ("undertone/base.table", laid_undertone_base_table), ("undertone/valid.keys", laid_undertone_valid_keys), ("undertone/level.proofs", laid_undertone_level_proofs), ("unicode/utf8.first", laid_unicode_utf8_first)], narrowed := true }
def LevelReachUptoSaid : Prop := levelReachUptoRow.holds Tryd.pinned (OpenSpec.upto levelReachSpec)

/-- 'undertonelaw09.LevelSteps', WHERE WHAT IT READS IS OF BULK AT MOST 1048576: true; the input reads as it did. -/
def levelStepsUptoRow : OpenClaim := { program := "ytahbbojhdkillaadoor", sum := "516963b04e399d76da25467035655b39ff11b6abb5ed40ff04cf1d2dc149a5c5", func := "undertone/undertonelaw09.LevelSteps", spec := "levelSteps", inPlace := ["internal/bytealg.IndexByteString", "internal/bytealg.IndexString", "internal/bytealg.CountString", "internal/abi.NoEscape", "internal/bytealg.MakeNoZero"], named := ["undertone/base.table", "internal/bytealg.MaxLen", "undertone/token.arrows", "unicode/utf8.first", "unicode/utf8.acceptRanges", "undertone/token.names", "undertone/valid.keys", "undertone/level.proofs"], apart := false, laid := [("unicode/utf8.acceptRanges", laid_unicode_utf8_acceptRanges), ("undertone/token.arrows", laid_undertone_token_arrows), ("undertone/token.names", laid_undertone_token_names), ("undertone/base.table", laid_undertone_base_table), ("undertone/valid.keys", laid_undertone_valid_keys), ("undertone/level.proofs", laid_undertone_level_proofs), ("unicode/utf8.first", laid_unicode_utf8_first)], narrowed := true }
def LevelStepsUptoSaid : Prop := levelStepsUptoRow.holds Tryd.pinned (OpenSpec.upto levelStepsSpec)

/-- 'undertonelaw09.LevelEnds', WHERE WHAT IT READS IS OF BULK AT MOST 1048576: true; the input reads as it did. -/
def levelEndsUptoRow : OpenClaim := { program := "ytahbbojhdkillaadoor", sum := "516963b04e399d76da25467035655b39ff11b6abb5ed40ff04cf1d2dc149a5c5", func := "undertone/undertonelaw09.LevelEnds", spec := "levelEnds", inPlace := ["internal/bytealg.IndexByteString", "internal/bytealg.IndexString", "internal/bytealg.CountString", "internal/abi.NoEscape", "internal/bytealg.MakeNoZero"], named := ["undertone/base.table", "internal/bytealg.MaxLen", "undertone/token.arrows", "unicode/utf8.first", "unicode/utf8.acceptRanges", "undertone/token.names", "undertone/valid.keys", "undertone/level.proofs"], apart := false, laid := [("unicode/utf8.acceptRanges", laid_unicode_utf8_acceptRanges), ("undertone/token.arrows", laid_undertone_token_arrows), ("undertone/token.names", laid_undertone_token_names), ("undertone/base.table", laid_undertone_base_table), ("undertone/valid.keys", laid_undertone_valid_keys), ("undertone/level.proofs", laid_undertone_level_proofs), ("unicode/utf8.first", laid_unicode_utf8_first)], narrowed := true }
def LevelEndsUptoSaid : Prop := levelEndsUptoRow.holds Tryd.pinned (OpenSpec.upto levelEndsSpec)

end Rows
end Go.Proofs.YtahbbojhdkillaaDoor
