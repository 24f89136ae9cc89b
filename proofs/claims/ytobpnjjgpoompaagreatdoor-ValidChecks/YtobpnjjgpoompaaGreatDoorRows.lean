/-
  NARROWER THAN 'FOR EVERY INPUT', by the rows' own cells (each row's printed sentence says how): ValidChecks: laid · ValidBases: laid · ValidMeans: laid · ValidPre: laid · ValidSeals: laid · ValidTurns: laid.
  DERIVED. THE GIVEN ROWS OF THIS SEAT. 6 by the template 'for every input the law returns true; each argument reads behind the call as it read before'; 0 by the template 'total and deterministic' (their statements: YtobpnjjgpoompaaGreatDoorTotals.lean).
  GIVEN WITH THE SEED: the statements are not yours to turn. If you find one false, say at which input.
  Laid BY PROGRAM, IN A SANDBOX (cutbox-rows.mjs): the forced cells as the released guide's own fill.sh prints them over the translation 6a6dabe13bda0bd2… (all of the seat's roots in one cut). By AI agents, Wed Nov 11 2026. No macro, syntax, notation, axiom, sorry.
-/
import Derived.Test.YtobpnjjgpoompaaGreatDoorChecked
import GoSem.PinnedTables
import GoSem.Claim
import GoSem.ClaimJoined
import GoSem.ClaimMapViews
import Derived.JoinedTies
import Derived.KernelRfl
namespace Go.Proofs.YtobpnjjgpoompaaGreatDoor
/- THE CELL 'sum', in the pinned program and in every row, IS THE sha256 OF THE DUMP (.gsa) THAT YtobpnjjgpoompaaGreatDoorProg.lean LOADS. Nothing in Lean hashes anything: it is a label: what it is worth is what the hold of that sum in a sandbox is worth. -/
noncomputable def Tryz.pinned : Pinned := { name := "ytobpnjjgpoompaagreatdoor", sum := "6a6dabe13bda0bd2cbf769c106288542dc73644d2dc9eb8f9d32ac793a490be9", checked := Tryz.checked }
namespace Rows
def none {H : Type} : Left H := { results := [], args := [] }

/- WHAT THE LISTED PACKAGE-LEVEL VARIABLES READ AS WHEN THE CALL BEGINS. Each datum BY PROGRAM (the guide's laid-datum.mjs) off the statement by which the dump's own 'gosem.cut.vars' lays the variable. In a bare row this is a premise. The card (YtobpnjjgpoompaaGreatDoorCards.lean) ties it to the program's text. -/
def laid_math_bits_deBruijn32tab {H : Type} : DataW H := .agg [.lit (.int .u8 0), .lit (.int .u8 1), .lit (.int .u8 28), .lit (.int .u8 2), .lit (.int .u8 29), .lit (.int .u8 14), .lit (.int .u8 24), .lit (.int .u8 3), .lit (.int .u8 30), .lit (.int .u8 22), .lit (.int .u8 20), .lit (.int .u8 15), .lit (.int .u8 25), .lit (.int .u8 17), .lit (.int .u8 4), .lit (.int .u8 8), .lit (.int .u8 31), .lit (.int .u8 27), .lit (.int .u8 13), .lit (.int .u8 23), .lit (.int .u8 21), .lit (.int .u8 19), .lit (.int .u8 16), .lit (.int .u8 7), .lit (.int .u8 26), .lit (.int .u8 12), .lit (.int .u8 18), .lit (.int .u8 6), .lit (.int .u8 11), .lit (.int .u8 5), .lit (.int .u8 10), .lit (.int .u8 9)]
def laid_math_bits_deBruijn64tab {H : Type} : DataW H := .agg [.lit (.int .u8 0), .lit (.int .u8 1), .lit (.int .u8 56), .lit (.int .u8 2), .lit (.int .u8 57), .lit (.int .u8 49), .lit (.int .u8 28), .lit (.int .u8 3), .lit (.int .u8 61), .lit (.int .u8 58), .lit (.int .u8 42), .lit (.int .u8 50), .lit (.int .u8 38), .lit (.int .u8 29), .lit (.int .u8 17), .lit (.int .u8 4), .lit (.int .u8 62), .lit (.int .u8 47), .lit (.int .u8 59), .lit (.int .u8 36), .lit (.int .u8 45), .lit (.int .u8 43), .lit (.int .u8 51), .lit (.int .u8 22), .lit (.int .u8 53), .lit (.int .u8 39), .lit (.int .u8 33), .lit (.int .u8 30), .lit (.int .u8 24), .lit (.int .u8 18), .lit (.int .u8 12), .lit (.int .u8 5), .lit (.int .u8 63), .lit (.int .u8 55), .lit (.int .u8 48), .lit (.int .u8 27), .lit (.int .u8 60), .lit (.int .u8 41), .lit (.int .u8 37), .lit (.int .u8 16), .lit (.int .u8 46), .lit (.int .u8 35), .lit (.int .u8 44), .lit (.int .u8 21), .lit (.int .u8 52), .lit (.int .u8 32), .lit (.int .u8 23), .lit (.int .u8 11), .lit (.int .u8 54), .lit (.int .u8 26), .lit (.int .u8 40), .lit (.int .u8 15), .lit (.int .u8 34), .lit (.int .u8 20), .lit (.int .u8 31), .lit (.int .u8 10), .lit (.int .u8 25), .lit (.int .u8 14), .lit (.int .u8 19), .lit (.int .u8 9), .lit (.int .u8 13), .lit (.int .u8 8), .lit (.int .u8 7), .lit (.int .u8 6)]
def laid_internal_strconv_uint64pow10 {H : Type} : DataW H := .agg [.lit (.int .u64 1), .lit (.int .u64 10), .lit (.int .u64 100), .lit (.int .u64 1000), .lit (.int .u64 10000), .lit (.int .u64 100000), .lit (.int .u64 1000000), .lit (.int .u64 10000000), .lit (.int .u64 100000000), .lit (.int .u64 1000000000), .lit (.int .u64 10000000000), .lit (.int .u64 100000000000), .lit (.int .u64 1000000000000), .lit (.int .u64 10000000000000), .lit (.int .u64 100000000000000), .lit (.int .u64 1000000000000000), .lit (.int .u64 10000000000000000), .lit (.int .u64 100000000000000000), .lit (.int .u64 1000000000000000000), .lit (.int .u64 10000000000000000000)]
def laid_unicode_utf8_acceptRanges {H : Type} : DataW H := .agg [.agg [.lit (.int .u8 128), .lit (.int .u8 191)], .agg [.lit (.int .u8 160), .lit (.int .u8 191)], .agg [.lit (.int .u8 128), .lit (.int .u8 159)], .agg [.lit (.int .u8 144), .lit (.int .u8 191)], .agg [.lit (.int .u8 128), .lit (.int .u8 143)], .agg [.lit (.int .u8 0), .lit (.int .u8 0)], .agg [.lit (.int .u8 0), .lit (.int .u8 0)], .agg [.lit (.int .u8 0), .lit (.int .u8 0)], .agg [.lit (.int .u8 0), .lit (.int .u8 0)], .agg [.lit (.int .u8 0), .lit (.int .u8 0)], .agg [.lit (.int .u8 0), .lit (.int .u8 0)], .agg [.lit (.int .u8 0), .lit (.int .u8 0)], .agg [.lit (.int .u8 0), .lit (.int .u8 0)], .agg [.lit (.int .u8 0), .lit (.int .u8 0)], .agg [.lit (.int .u8 0), .lit (.int .u8 0)], .agg [.lit (.int .u8 0), .lit (.int .u8 0)]]
def laid_undertone_token_arrows {H : Type} : DataW H := .agg [.lit (.string [45, 62, 32]), .lit (.string [60, 45, 32])]
def laid_undertone_token_names {H : Type} : DataW H := .agg [.lit (.string [63]), .lit (.string [101]), .lit (.string [115]), .lit (.string [101, 101]), .lit (.string [101, 115]), .lit (.string [115, 101]), .lit (.string [115, 115]), .lit (.string [112, 115, 107])]
def laid_undertone_base_table {H : Type} : DataW H := .agg [.agg [.lit (.string [78]), .lit (.string [60, 45, 32, 115, 10, 46, 46, 46, 10, 45, 62, 32, 101, 44, 32, 101, 115, 10])], .agg [.lit (.string [75]), .lit (.string [45, 62, 32, 115, 10, 60, 45, 32, 115, 10, 46, 46, 46, 10, 45, 62, 32, 101, 44, 32, 101, 115, 44, 32, 115, 115, 10])], .agg [.lit (.string [88]), .lit (.string [60, 45, 32, 115, 10, 46, 46, 46, 10, 45, 62, 32, 101, 44, 32, 101, 115, 44, 32, 115, 44, 32, 115, 115, 10])], .agg [.lit (.string [78, 78]), .lit (.string [45, 62, 32, 101, 10, 60, 45, 32, 101, 44, 32, 101, 101, 10])], .agg [.lit (.string [78, 75]), .lit (.string [60, 45, 32, 115, 10, 46, 46, 46, 10, 45, 62, 32, 101, 44, 32, 101, 115, 10, 60, 45, 32, 101, 44, 32, 101, 101, 10])], .agg [.lit (.string [78, 88]), .lit (.string [45, 62, 32, 101, 10, 60, 45, 32, 101, 44, 32, 101, 101, 44, 32, 115, 44, 32, 101, 115, 10])], .agg [.lit (.string [88, 78]), .lit (.string [45, 62, 32, 101, 10, 60, 45, 32, 101, 44, 32, 101, 101, 10, 45, 62, 32, 115, 44, 32, 115, 101, 10])], .agg [.lit (.string [88, 75]), .lit (.string [60, 45, 32, 115, 10, 46, 46, 46, 10, 45, 62, 32, 101, 44, 32, 101, 115, 10, 60, 45, 32, 101, 44, 32, 101, 101, 10, 45, 62, 32, 115, 44, 32, 115, 101, 10])], .agg [.lit (.string [88, 88]), .lit (.string [45, 62, 32, 101, 10, 60, 45, 32, 101, 44, 32, 101, 101, 44, 32, 115, 44, 32, 101, 115, 10, 45, 62, 32, 115, 44, 32, 115, 101, 10])], .agg [.lit (.string [75, 78]), .lit (.string [45, 62, 32, 115, 10, 46, 46, 46, 10, 45, 62, 32, 101, 10, 60, 45, 32, 101, 44, 32, 101, 101, 44, 32, 115, 101, 10])], .agg [.lit (.string [75, 75]), .lit (.string [45, 62, 32, 115, 10, 60, 45, 32, 115, 10, 46, 46, 46, 10, 45, 62, 32, 101, 44, 32, 101, 115, 44, 32, 115, 115, 10, 60, 45, 32, 101, 44, 32, 101, 101, 44, 32, 115, 101, 10])], .agg [.lit (.string [75, 88]), .lit (.string [45, 62, 32, 115, 10, 46, 46, 46, 10, 45, 62, 32, 101, 10, 60, 45, 32, 101, 44, 32, 101, 101, 44, 32, 115, 101, 44, 32, 115, 44, 32, 101, 115, 10])], .agg [.lit (.string [73, 78]), .lit (.string [45, 62, 32, 101, 44, 32, 115, 10, 60, 45, 32, 101, 44, 32, 101, 101, 44, 32, 115, 101, 10])], .agg [.lit (.string [73, 75]), .lit (.string [60, 45, 32, 115, 10, 46, 46, 46, 10, 45, 62, 32, 101, 44, 32, 101, 115, 44, 32, 115, 44, 32, 115, 115, 10, 60, 45, 32, 101, 44, 32, 101, 101, 44, 32, 115, 101, 10])], .agg [.lit (.string [73, 88]), .lit (.string [45, 62, 32, 101, 44, 32, 115, 10, 60, 45, 32, 101, 44, 32, 101, 101, 44, 32, 115, 101, 44, 32, 115, 44, 32, 101, 115, 10])]]
def laid_undertone_valid_keys {H : Type} : DataW H := .agg [.agg [.lit (.int .i64 0), .lit (.int .i64 0)], .agg [.lit (.int .i64 0), .lit (.int .i64 0)], .agg [.lit (.int .i64 0), .lit (.int .i64 0)], .agg [.lit (.int .i64 1), .lit (.int .i64 1)], .agg [.lit (.int .i64 1), .lit (.int .i64 2)], .agg [.lit (.int .i64 2), .lit (.int .i64 1)], .agg [.lit (.int .i64 2), .lit (.int .i64 2)], .agg [.lit (.int .i64 0), .lit (.int .i64 0)]]
/-- One of Go's own tables, pinned by name: the form's constant. -/
def laid_unicode_utf8_first : DataW Unit := Go.Pinned.utf8First

/-- 'undertonelaw07.ValidChecks': WHATEVER THE INPUT: true; the input reads as it did. -/
def validChecksSpec : ChangeSpec := { name := "validChecks", fn := fun _ => fun
  | [d] => { results := [.lit (.bool true)], args := [d] }
  | _ => none }
def validChecksRow : OpenClaim := { program := "ytobpnjjgpoompaagreatdoor", sum := "6a6dabe13bda0bd2cbf769c106288542dc73644d2dc9eb8f9d32ac793a490be9", func := "undertone/undertonelaw07.ValidChecks", spec := "validChecks", inPlace := ["internal/bytealg.IndexByteString", "internal/bytealg.IndexString", "internal/bytealg.CountString", "internal/abi.NoEscape", "internal/bytealg.MakeNoZero", "slices.overlaps[int]"], unfollowed := true, recurses := true, named := ["internal/bytealg.MaxLen", "undertone/token.arrows", "unicode/utf8.first", "unicode/utf8.acceptRanges", "undertone/token.names", "undertone/valid.keys", "undertone/base.table", "internal/strconv.uint64pow10", "math/bits.deBruijn32tab", "math/bits.deBruijn64tab"], apart := false, laid := [("math/bits.deBruijn32tab", laid_math_bits_deBruijn32tab), ("math/bits.deBruijn64tab", laid_math_bits_deBruijn64tab), ("internal/strconv.uint64pow10", laid_internal_strconv_uint64pow10), ("unicode/utf8.acceptRanges", laid_unicode_utf8_acceptRanges), ("undertone/token.arrows", laid_undertone_token_arrows), ("undertone/token.names", laid_undertone_token_names), ("undertone/base.table", laid_undertone_base_table), ("undertone/valid.keys", laid_undertone_valid_keys), ("unicode/utf8.first", laid_unicode_utf8_first)] }
def ValidChecksSaid : Prop := validChecksRow.holds Tryz.pinned (OpenSpec.ofChange validChecksSpec)

/-- ITS FALSE NEIGHBOUR: 'it returns false'. Refute it at one input. -/
def validChecksWrong : ChangeSpec := { name := "validChecks", fn := fun _ => fun
  | [d] => { results := [.lit (.bool false)], args := [d] }
  | _ => none }
def ValidChecksWrongFalsely : Prop := validChecksRow.holds Tryz.pinned (OpenSpec.ofChange validChecksWrong)

/-- 'undertonelaw07.ValidBases': WHATEVER THE INPUT: true; the input reads as it did. -/
def validBasesSpec : ChangeSpec := { name := "validBases", fn := fun _ => fun
  | [d] => { results := [.lit (.bool true)], args := [d] }
  | _ => none }
def validBasesRow : OpenClaim := { program := "ytobpnjjgpoompaagreatdoor", sum := "6a6dabe13bda0bd2cbf769c106288542dc73644d2dc9eb8f9d32ac793a490be9", func := "undertone/undertonelaw07.ValidBases", spec := "validBases", inPlace := ["internal/bytealg.IndexByteString", "internal/bytealg.IndexString", "internal/bytealg.CountString", "internal/abi.NoEscape", "internal/bytealg.MakeNoZero", "slices.overlaps[int]"], unfollowed := true, recurses := true, named := ["undertone/base.table", "internal/bytealg.MaxLen", "undertone/token.arrows", "unicode/utf8.first", "unicode/utf8.acceptRanges", "undertone/token.names", "undertone/valid.keys", "internal/strconv.uint64pow10", "math/bits.deBruijn32tab", "math/bits.deBruijn64tab"], apart := false, laid := [("math/bits.deBruijn32tab", laid_math_bits_deBruijn32tab), ("math/bits.deBruijn64tab", laid_math_bits_deBruijn64tab), ("internal/strconv.uint64pow10", laid_internal_strconv_uint64pow10), ("unicode/utf8.acceptRanges", laid_unicode_utf8_acceptRanges), ("undertone/token.arrows", laid_undertone_token_arrows), ("undertone/token.names", laid_undertone_token_names), ("undertone/base.table", laid_undertone_base_table), ("undertone/valid.keys", laid_undertone_valid_keys), ("unicode/utf8.first", laid_unicode_utf8_first)] }
def ValidBasesSaid : Prop := validBasesRow.holds Tryz.pinned (OpenSpec.ofChange validBasesSpec)

/-- ITS FALSE NEIGHBOUR: 'it returns false'. Refute it at one input. -/
def validBasesWrong : ChangeSpec := { name := "validBases", fn := fun _ => fun
  | [d] => { results := [.lit (.bool false)], args := [d] }
  | _ => none }
def ValidBasesWrongFalsely : Prop := validBasesRow.holds Tryz.pinned (OpenSpec.ofChange validBasesWrong)

/-- 'undertonelaw07.ValidMeans': WHATEVER THE INPUT: true; the input reads as it did. -/
def validMeansSpec : ChangeSpec := { name := "validMeans", fn := fun _ => fun
  | [d] => { results := [.lit (.bool true)], args := [d] }
  | _ => none }
def validMeansRow : OpenClaim := { program := "ytobpnjjgpoompaagreatdoor", sum := "6a6dabe13bda0bd2cbf769c106288542dc73644d2dc9eb8f9d32ac793a490be9", func := "undertone/undertonelaw07.ValidMeans", spec := "validMeans", inPlace := ["internal/bytealg.IndexByteString", "internal/bytealg.IndexString", "internal/bytealg.CountString", "internal/abi.NoEscape", "internal/bytealg.MakeNoZero", "slices.overlaps[int]"], unfollowed := true, recurses := true, named := ["undertone/valid.keys", "internal/bytealg.MaxLen", "undertone/token.arrows", "unicode/utf8.first", "unicode/utf8.acceptRanges", "undertone/token.names", "undertone/base.table", "internal/strconv.uint64pow10", "math/bits.deBruijn32tab", "math/bits.deBruijn64tab"], apart := false, laid := [("math/bits.deBruijn32tab", laid_math_bits_deBruijn32tab), ("math/bits.deBruijn64tab", laid_math_bits_deBruijn64tab), ("internal/strconv.uint64pow10", laid_internal_strconv_uint64pow10), ("unicode/utf8.acceptRanges", laid_unicode_utf8_acceptRanges), ("undertone/token.arrows", laid_undertone_token_arrows), ("undertone/token.names", laid_undertone_token_names), ("undertone/base.table", laid_undertone_base_table), ("undertone/valid.keys", laid_undertone_valid_keys), ("unicode/utf8.first", laid_unicode_utf8_first)] }
def ValidMeansSaid : Prop := validMeansRow.holds Tryz.pinned (OpenSpec.ofChange validMeansSpec)

/-- ITS FALSE NEIGHBOUR: 'it returns false'. Refute it at one input. -/
def validMeansWrong : ChangeSpec := { name := "validMeans", fn := fun _ => fun
  | [d] => { results := [.lit (.bool false)], args := [d] }
  | _ => none }
def ValidMeansWrongFalsely : Prop := validMeansRow.holds Tryz.pinned (OpenSpec.ofChange validMeansWrong)

/-- 'undertonelaw07.ValidPre': WHATEVER THE INPUT: true; the input reads as it did. -/
def validPreSpec : ChangeSpec := { name := "validPre", fn := fun _ => fun
  | [d] => { results := [.lit (.bool true)], args := [d] }
  | _ => none }
def validPreRow : OpenClaim := { program := "ytobpnjjgpoompaagreatdoor", sum := "6a6dabe13bda0bd2cbf769c106288542dc73644d2dc9eb8f9d32ac793a490be9", func := "undertone/undertonelaw07.ValidPre", spec := "validPre", inPlace := ["internal/bytealg.IndexByteString", "internal/bytealg.IndexString", "internal/bytealg.CountString", "internal/abi.NoEscape", "internal/bytealg.MakeNoZero", "slices.overlaps[int]"], unfollowed := true, recurses := true, named := ["undertone/valid.keys", "internal/bytealg.MaxLen", "undertone/token.arrows", "unicode/utf8.first", "unicode/utf8.acceptRanges", "undertone/token.names", "undertone/base.table", "internal/strconv.uint64pow10", "math/bits.deBruijn32tab", "math/bits.deBruijn64tab"], apart := false, laid := [("math/bits.deBruijn32tab", laid_math_bits_deBruijn32tab), ("math/bits.deBruijn64tab", laid_math_bits_deBruijn64tab), ("internal/strconv.uint64pow10", laid_internal_strconv_uint64pow10), ("unicode/utf8.acceptRanges", laid_unicode_utf8_acceptRanges), ("undertone/token.arrows", laid_undertone_token_arrows), ("undertone/token.names", laid_undertone_token_names), ("undertone/base.table", laid_undertone_base_table), ("undertone/valid.keys", laid_undertone_valid_keys), ("unicode/utf8.first", laid_unicode_utf8_first)] }
def ValidPreSaid : Prop := validPreRow.holds Tryz.pinned (OpenSpec.ofChange validPreSpec)

/-- ITS FALSE NEIGHBOUR: 'it returns false'. Refute it at one input. -/
def validPreWrong : ChangeSpec := { name := "validPre", fn := fun _ => fun
  | [d] => { results := [.lit (.bool false)], args := [d] }
  | _ => none }
def ValidPreWrongFalsely : Prop := validPreRow.holds Tryz.pinned (OpenSpec.ofChange validPreWrong)

/-- 'undertonelaw07.ValidSeals': WHATEVER THE INPUT: true; the input reads as it did. -/
def validSealsSpec : ChangeSpec := { name := "validSeals", fn := fun _ => fun
  | [d] => { results := [.lit (.bool true)], args := [d] }
  | _ => none }
def validSealsRow : OpenClaim := { program := "ytobpnjjgpoompaagreatdoor", sum := "6a6dabe13bda0bd2cbf769c106288542dc73644d2dc9eb8f9d32ac793a490be9", func := "undertone/undertonelaw07.ValidSeals", spec := "validSeals", inPlace := ["internal/bytealg.IndexByteString", "internal/bytealg.IndexString", "internal/bytealg.CountString", "internal/abi.NoEscape", "internal/bytealg.MakeNoZero", "slices.overlaps[int]"], unfollowed := true, recurses := true, named := ["undertone/valid.keys", "internal/bytealg.MaxLen", "undertone/token.arrows", "unicode/utf8.first", "unicode/utf8.acceptRanges", "undertone/token.names", "undertone/base.table", "internal/strconv.uint64pow10", "math/bits.deBruijn32tab", "math/bits.deBruijn64tab"], apart := false, laid := [("math/bits.deBruijn32tab", laid_math_bits_deBruijn32tab), ("math/bits.deBruijn64tab", laid_math_bits_deBruijn64tab), ("internal/strconv.uint64pow10", laid_internal_strconv_uint64pow10), ("unicode/utf8.acceptRanges", laid_unicode_utf8_acceptRanges), ("undertone/token.arrows", laid_undertone_token_arrows), ("undertone/token.names", laid_undertone_token_names), ("undertone/base.table", laid_undertone_base_table), ("undertone/valid.keys", laid_undertone_valid_keys), ("unicode/utf8.first", laid_unicode_utf8_first)] }
def ValidSealsSaid : Prop := validSealsRow.holds Tryz.pinned (OpenSpec.ofChange validSealsSpec)

/-- ITS FALSE NEIGHBOUR: 'it returns false'. Refute it at one input. -/
def validSealsWrong : ChangeSpec := { name := "validSeals", fn := fun _ => fun
  | [d] => { results := [.lit (.bool false)], args := [d] }
  | _ => none }
def ValidSealsWrongFalsely : Prop := validSealsRow.holds Tryz.pinned (OpenSpec.ofChange validSealsWrong)

/-- 'undertonelaw07.ValidTurns': WHATEVER THE INPUT: true; the input reads as it did. -/
def validTurnsSpec : ChangeSpec := { name := "validTurns", fn := fun _ => fun
  | [d] => { results := [.lit (.bool true)], args := [d] }
  | _ => none }
def validTurnsRow : OpenClaim := { program := "ytobpnjjgpoompaagreatdoor", sum := "6a6dabe13bda0bd2cbf769c106288542dc73644d2dc9eb8f9d32ac793a490be9", func := "undertone/undertonelaw07.ValidTurns", spec := "validTurns", inPlace := ["internal/bytealg.IndexByteString", "internal/bytealg.IndexString", "internal/bytealg.CountString", "internal/abi.NoEscape", "internal/bytealg.MakeNoZero", "slices.overlaps[int]"], unfollowed := true, recurses := true, named := ["internal/bytealg.MaxLen", "undertone/token.arrows", "unicode/utf8.first", "unicode/utf8.acceptRanges", "undertone/token.names", "undertone/valid.keys", "undertone/base.table", "internal/strconv.uint64pow10", "math/bits.deBruijn32tab", "math/bits.deBruijn64tab"], apart := false, laid := [("math/bits.deBruijn32tab", laid_math_bits_deBruijn32tab), ("math/bits.deBruijn64tab", laid_math_bits_deBruijn64tab), ("internal/strconv.uint64pow10", laid_internal_strconv_uint64pow10), ("unicode/utf8.acceptRanges", laid_unicode_utf8_acceptRanges), ("undertone/token.arrows", laid_undertone_token_arrows), ("undertone/token.names", laid_undertone_token_names), ("undertone/base.table", laid_undertone_base_table), ("undertone/valid.keys", laid_undertone_valid_keys), ("unicode/utf8.first", laid_unicode_utf8_first)] }
def ValidTurnsSaid : Prop := validTurnsRow.holds Tryz.pinned (OpenSpec.ofChange validTurnsSpec)

/-- ITS FALSE NEIGHBOUR: 'it returns false'. Refute it at one input. -/
def validTurnsWrong : ChangeSpec := { name := "validTurns", fn := fun _ => fun
  | [d] => { results := [.lit (.bool false)], args := [d] }
  | _ => none }
def ValidTurnsWrongFalsely : Prop := validTurnsRow.holds Tryz.pinned (OpenSpec.ofChange validTurnsWrong)

/- THE SECOND FORM. 'bulk': how many values and letters a reading holds, each counted each time it is reached (what is shared counts as often as it is met; a slice's spare places count too). A statement '..UptoSaid' is the law's where the arguments, and the package variables that the reading takes, are together of bulk at most 1048576: NARROWER than '..Said'. Prove '..Said' where nothing that the law and all that it calls make is longer than what came in: it says more and counts as full. Else prove '..UptoSaid'. A law counts once. -/
mutual
def uptoBulk {H : Type} : DataW H → Nat
  | .lit (.string bytes) => bytes.length + 1
  | .lit _ => 1
  | .nil => 1
  | .ptr d => uptoBulk d + 1
  | .slice elems spare => uptoBulkAll elems + uptoBulkAll spare + 1
  | .agg parts => uptoBulkAll parts + 1
  | .iface _ d => uptoBulk d + 1
  | .map entries => uptoBulkEntries entries + 1
  | .held _ => 1
def uptoBulkAll {H : Type} : List (DataW H) → Nat
  | [] => 0
  | d :: r => uptoBulk d + uptoBulkAll r
def uptoBulkEntries {H : Type} : List (Lit × DataW H) → Nat
  | [] => 0
  | x :: r => uptoBulkEntry x + uptoBulkEntries r
def uptoBulkEntry {H : Type} : Lit × DataW H → Nat
  | (.string bytes, d) => bytes.length + uptoBulk d + 1
  | (_, d) => uptoBulk d + 1
 end
def uptoSmall : (H : Type) → List (DataW H) → Bool := fun _ ds => decide (uptoBulkAll ds ≤ 1048576)
def OpenSpec.upto (s : _root_.Go.ChangeSpec) : _root_.Go.OpenSpec := { _root_.Go.OpenSpec.ofChange s with cond := some uptoSmall }

/-- 'undertonelaw07.ValidChecks', WHERE WHAT IT READS IS OF BULK AT MOST 1048576: true; the input reads as it did. -/
def validChecksUptoRow : OpenClaim := { program := "ytobpnjjgpoompaagreatdoor", sum := "6a6dabe13bda0bd2cbf769c106288542dc73644d2dc9eb8f9d32ac793a490be9", func := "undertone/undertonelaw07.ValidChecks", spec := "validChecks", inPlace := ["internal/bytealg.IndexByteString", "internal/bytealg.IndexString", "internal/bytealg.CountString", "internal/abi.NoEscape", "internal/bytealg.MakeNoZero", "slices.overlaps[int]"], unfollowed := true, recurses := true, named := ["internal/bytealg.MaxLen", "undertone/token.arrows", "unicode/utf8.first", "unicode/utf8.acceptRanges", "undertone/token.names", "undertone/valid.keys", "undertone/base.table", "internal/strconv.uint64pow10", "math/bits.deBruijn32tab", "math/bits.deBruijn64tab"], apart := false, laid := [("math/bits.deBruijn32tab", laid_math_bits_deBruijn32tab), ("math/bits.deBruijn64tab", laid_math_bits_deBruijn64tab), ("internal/strconv.uint64pow10", laid_internal_strconv_uint64pow10), ("unicode/utf8.acceptRanges", laid_unicode_utf8_acceptRanges), ("undertone/token.arrows", laid_undertone_token_arrows), ("undertone/token.names", laid_undertone_token_names), ("undertone/base.table", laid_undertone_base_table), ("undertone/valid.keys", laid_undertone_valid_keys), ("unicode/utf8.first", laid_unicode_utf8_first)], narrowed := true }
def ValidChecksUptoSaid : Prop := validChecksUptoRow.holds Tryz.pinned (OpenSpec.upto validChecksSpec)

/-- 'undertonelaw07.ValidBases', WHERE WHAT IT READS IS OF BULK AT MOST 1048576: true; the input reads as it did. -/
def validBasesUptoRow : OpenClaim := { program := "ytobpnjjgpoompaagreatdoor", sum := "6a6dabe13bda0bd2cbf769c106288542dc73644d2dc9eb8f9d32ac793a490be9", func := "undertone/undertonelaw07.ValidBases", spec := "validBases", inPlace := ["internal/bytealg.IndexByteString", "internal/bytealg.IndexString", "internal/bytealg.CountString", "internal/abi.NoEscape", "internal/bytealg.MakeNoZero", "slices.overlaps[int]"], unfollowed := true, recurses := true, named := ["undertone/base.table", "internal/bytealg.MaxLen", "undertone/token.arrows", "unicode/utf8.first", "unicode/utf8.acceptRanges", "undertone/token.names", "undertone/valid.keys", "internal/strconv.uint64pow10", "math/bits.deBruijn32tab", "math/bits.deBruijn64tab"], apart := false, laid := [("math/bits.deBruijn32tab", laid_math_bits_deBruijn32tab), ("math/bits.deBruijn64tab", laid_math_bits_deBruijn64tab), ("internal/strconv.uint64pow10", laid_internal_strconv_uint64pow10), ("unicode/utf8.acceptRanges", laid_unicode_utf8_acceptRanges), ("undertone/token.arrows", laid_undertone_token_arrows), ("undertone/token.names", laid_undertone_token_names), ("undertone/base.table", laid_undertone_base_table), ("undertone/valid.keys", laid_undertone_valid_keys), ("unicode/utf8.first", laid_unicode_utf8_first)], narrowed := true }
def ValidBasesUptoSaid : Prop := validBasesUptoRow.holds Tryz.pinned (OpenSpec.upto validBasesSpec)

/-- 'undertonelaw07.ValidMeans', WHERE WHAT IT READS IS OF BULK AT MOST 1048576: true; the input reads as it did. -/
def validMeansUptoRow : OpenClaim := { program := "ytobpnjjgpoompaagreatdoor", sum := "6a6dabe13bda0bd2cbf769c106288542dc73644d2dc9eb8f9d32ac793a490be9", func := "undertone/undertonelaw07.ValidMeans", spec := "validMeans", inPlace := ["internal/bytealg.IndexByteString", "internal/bytealg.IndexString", "internal/bytealg.CountString", "internal/abi.NoEscape", "internal/bytealg.MakeNoZero", "slices.overlaps[int]"], unfollowed := true, recurses := true, named := ["undertone/valid.keys", "internal/bytealg.MaxLen", "undertone/token.arrows", "unicode/utf8.first", "unicode/utf8.acceptRanges", "undertone/token.names", "undertone/base.table", "internal/strconv.uint64pow10", "math/bits.deBruijn32tab", "math/bits.deBruijn64tab"], apart := false, laid := [("math/bits.deBruijn32tab", laid_math_bits_deBruijn32tab), ("math/bits.deBruijn64tab", laid_math_bits_deBruijn64tab), ("internal/strconv.uint64pow10", laid_internal_strconv_uint64pow10), ("unicode/utf8.acceptRanges", laid_unicode_utf8_acceptRanges), ("undertone/token.arrows", laid_undertone_token_arrows), ("undertone/token.names", laid_undertone_token_names), ("undertone/base.table", laid_undertone_base_table), ("undertone/valid.keys", laid_undertone_valid_keys), ("unicode/utf8.first", laid_unicode_utf8_first)], narrowed := true }
def ValidMeansUptoSaid : Prop := validMeansUptoRow.holds Tryz.pinned (OpenSpec.upto validMeansSpec)

/-- 'undertonelaw07.ValidPre', WHERE WHAT IT READS IS OF BULK AT MOST 1048576: true; the input reads as it did. -/
def validPreUptoRow : OpenClaim := { program := "ytobpnjjgpoompaagreatdoor", sum := "6a6dabe13bda0bd2cbf769c106288542dc73644d2dc9eb8f9d32ac793a490be9", func := "undertone/undertonelaw07.ValidPre", spec := "validPre", inPlace := ["internal/bytealg.IndexByteString", "internal/bytealg.IndexString", "internal/bytealg.CountString", "internal/abi.NoEscape", "internal/bytealg.MakeNoZero", "slices.overlaps[int]"], unfollowed := true, recurses := true, named := ["undertone/valid.keys", "internal/bytealg.MaxLen", "undertone/token.arrows", "unicode/utf8.first", "unicode/utf8.acceptRanges", "undertone/token.names", "undertone/base.table", "internal/strconv.uint64pow10", "math/bits.deBruijn32tab", "math/bits.deBruijn64tab"], apart := false, laid := [("math/bits.deBruijn32tab", laid_math_bits_deBruijn32tab), ("math/bits.deBruijn64tab", laid_math_bits_deBruijn64tab), ("internal/strconv.uint64pow10", laid_internal_strconv_uint64pow10), ("unicode/utf8.acceptRanges", laid_unicode_utf8_acceptRanges), ("undertone/token.arrows", laid_undertone_token_arrows), ("undertone/token.names", laid_undertone_token_names), ("undertone/base.table", laid_undertone_base_table), ("undertone/valid.keys", laid_undertone_valid_keys), ("unicode/utf8.first", laid_unicode_utf8_first)], narrowed := true }
def ValidPreUptoSaid : Prop := validPreUptoRow.holds Tryz.pinned (OpenSpec.upto validPreSpec)

/-- 'undertonelaw07.ValidSeals', WHERE WHAT IT READS IS OF BULK AT MOST 1048576: true; the input reads as it did. -/
def validSealsUptoRow : OpenClaim := { program := "ytobpnjjgpoompaagreatdoor", sum := "6a6dabe13bda0bd2cbf769c106288542dc73644d2dc9eb8f9d32ac793a490be9", func := "undertone/undertonelaw07.ValidSeals", spec := "validSeals", inPlace := ["internal/bytealg.IndexByteString", "internal/bytealg.IndexString", "internal/bytealg.CountString", "internal/abi.NoEscape", "internal/bytealg.MakeNoZero", "slices.overlaps[int]"], unfollowed := true, recurses := true, named := ["undertone/valid.keys", "internal/bytealg.MaxLen", "undertone/token.arrows", "unicode/utf8.first", "unicode/utf8.acceptRanges", "undertone/token.names", "undertone/base.table", "internal/strconv.uint64pow10", "math/bits.deBruijn32tab", "math/bits.deBruijn64tab"], apart := false, laid := [("math/bits.deBruijn32tab", laid_math_bits_deBruijn32tab), ("math/bits.deBruijn64tab", laid_math_bits_deBruijn64tab), ("internal/strconv.uint64pow10", laid_internal_strconv_uint64pow10), ("unicode/utf8.acceptRanges", laid_unicode_utf8_acceptRanges), ("undertone/token.arrows", laid_undertone_token_arrows), ("undertone/token.names", laid_undertone_token_names), ("undertone/base.table", laid_undertone_base_table), ("undertone/valid.keys", laid_undertone_valid_keys), ("unicode/utf8.first", laid_unicode_utf8_first)], narrowed := true }
def ValidSealsUptoSaid : Prop := validSealsUptoRow.holds Tryz.pinned (OpenSpec.upto validSealsSpec)

/-- 'undertonelaw07.ValidTurns', WHERE WHAT IT READS IS OF BULK AT MOST 1048576: true; the input reads as it did. -/
def validTurnsUptoRow : OpenClaim := { program := "ytobpnjjgpoompaagreatdoor", sum := "6a6dabe13bda0bd2cbf769c106288542dc73644d2dc9eb8f9d32ac793a490be9", func := "undertone/undertonelaw07.ValidTurns", spec := "validTurns", inPlace := ["internal/bytealg.IndexByteString", "internal/bytealg.IndexString", "internal/bytealg.CountString", "internal/abi.NoEscape", "internal/bytealg.MakeNoZero", "slices.overlaps[int]"], unfollowed := true, recurses := true, named := ["internal/bytealg.MaxLen", "undertone/token.arrows", "unicode/utf8.first", "unicode/utf8.acceptRanges", "undertone/token.names", "undertone/valid.keys", "undertone/base.table", "internal/strconv.uint64pow10", "math/bits.deBruijn32tab", "math/bits.deBruijn64tab"], apart := false, laid := [("math/bits.deBruijn32tab", laid_math_bits_deBruijn32tab), ("math/bits.deBruijn64tab", laid_math_bits_deBruijn64tab), ("internal/strconv.uint64pow10", laid_internal_strconv_uint64pow10), ("unicode/utf8.acceptRanges", laid_unicode_utf8_acceptRanges), ("undertone/token.arrows", laid_undertone_token_arrows), ("undertone/token.names", laid_undertone_token_names), ("undertone/base.table", laid_undertone_base_table), ("undertone/valid.keys", laid_undertone_valid_keys), ("unicode/utf8.first", laid_unicode_utf8_first)], narrowed := true }
def ValidTurnsUptoSaid : Prop := validTurnsUptoRow.holds Tryz.pinned (OpenSpec.upto validTurnsSpec)

end Rows
end Go.Proofs.YtobpnjjgpoompaaGreatDoor
