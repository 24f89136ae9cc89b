/-
  NARROWER THAN 'FOR EVERY INPUT', by the rows' own cells (each row's printed sentence says how): TermMakes: laid · TermCompares: laid · TermShares: laid · TermCopies: laid · TermFinds: laid · TermGrows: laid · TermOdds: laid · TermNumbers: laid.
  DERIVED. THE GIVEN ROWS OF THIS SEAT. 8 by the template 'for every input the law returns true; each argument reads behind the call as it read before'; 0 by the template 'total and deterministic' (their statements: YtemjhhjalnlmlaaDoorTotals.lean).
  GIVEN WITH THE SEED: the statements are not yours to turn. If you find one false, say at which input.
  Laid BY PROGRAM, IN A SANDBOX (cutbox-rows.mjs): the forced cells as the released guide's own fill.sh prints them over the translation 4482a8153f8d95ca… (all of the seat's roots in one cut). By AI agents, Wed Nov 11 2026. No macro, syntax, notation, axiom, sorry.
-/
import Derived.Test.YtemjhhjalnlmlaaDoorChecked
import GoSem.Claim
import GoSem.ClaimJoined
import GoSem.ClaimMapViews
import Derived.JoinedTies
import Derived.KernelRfl
namespace Go.Proofs.YtemjhhjalnlmlaaDoor
/- THE CELL 'sum', in the pinned program and in every row, IS THE sha256 OF THE DUMP (.gsa) THAT YtemjhhjalnlmlaaDoorProg.lean LOADS. Nothing in Lean hashes anything: it is a label: what it is worth is what the hold of that sum in a sandbox is worth. -/
noncomputable def Tryd.pinned : Pinned := { name := "ytemjhhjalnlmlaadoor", sum := "4482a8153f8d95cafdb1baa4e580110b3a901999f89a5a3b05de211703c3aed4", checked := Tryd.checked }
namespace Rows
def none {H : Type} : Left H := { results := [], args := [] }

/- WHAT THE LISTED PACKAGE-LEVEL VARIABLES READ AS WHEN THE CALL BEGINS. Each datum BY PROGRAM (the guide's laid-datum.mjs) off the statement by which the dump's own 'gosem.cut.vars' lays the variable. In a bare row this is a premise. The card (YtemjhhjalnlmlaaDoorCards.lean) ties it to the program's text. -/
def laid_undertone_term_shapes {H : Type} : DataW H := .agg [.agg [.lit (.int .u64 0), .lit (.int .u64 0), .lit (.int .i64 0)], .agg [.lit (.int .u64 0), .lit (.int .u64 18446744073709551615), .lit (.int .i64 0)], .agg [.lit (.int .u64 0), .lit (.int .u64 0), .lit (.int .i64 1)], .agg [.lit (.int .u64 0), .lit (.int .u64 0), .lit (.int .i64 2)], .agg [.lit (.int .u64 0), .lit (.int .u64 0), .lit (.int .i64 2)], .agg [.lit (.int .u64 0), .lit (.int .u64 0), .lit (.int .i64 2)], .agg [.lit (.int .u64 1), .lit (.int .u64 4), .lit (.int .i64 2)], .agg [.lit (.int .u64 0), .lit (.int .u64 18446744073709551615), .lit (.int .i64 3)], .agg [.lit (.int .u64 0), .lit (.int .u64 0), .lit (.int .i64 2)], .agg [.lit (.int .u64 0), .lit (.int .u64 18446744073709551615), .lit (.int .i64 0)]]

/-- 'undertonelaw01.TermMakes': WHATEVER THE INPUT: true; the input reads as it did. -/
def termMakesSpec : ChangeSpec := { name := "termMakes", fn := fun _ => fun
  | [d1, d2] => { results := [.lit (.bool true)], args := [d1, d2] }
  | _ => none }
def termMakesRow : OpenClaim := { program := "ytemjhhjalnlmlaadoor", sum := "4482a8153f8d95cafdb1baa4e580110b3a901999f89a5a3b05de211703c3aed4", func := "undertone/undertonelaw01.TermMakes", spec := "termMakes", recurses := true, named := ["undertone/term.shapes"], plainKeys := false, apart := false, laid := [("undertone/term.shapes", laid_undertone_term_shapes)] }
def TermMakesSaid : Prop := termMakesRow.holds Tryd.pinned (OpenSpec.ofChange termMakesSpec)

/-- ITS FALSE NEIGHBOUR: 'it returns false'. Refute it at one input. -/
def termMakesWrong : ChangeSpec := { name := "termMakes", fn := fun _ => fun
  | [d1, d2] => { results := [.lit (.bool false)], args := [d1, d2] }
  | _ => none }
def TermMakesWrongFalsely : Prop := termMakesRow.holds Tryd.pinned (OpenSpec.ofChange termMakesWrong)

/-- 'undertonelaw01.TermCompares': WHATEVER THE INPUT: true; the input reads as it did. -/
def termComparesSpec : ChangeSpec := { name := "termCompares", fn := fun _ => fun
  | [d1, d2, d3, d4] => { results := [.lit (.bool true)], args := [d1, d2, d3, d4] }
  | _ => none }
def termComparesRow : OpenClaim := { program := "ytemjhhjalnlmlaadoor", sum := "4482a8153f8d95cafdb1baa4e580110b3a901999f89a5a3b05de211703c3aed4", func := "undertone/undertonelaw01.TermCompares", spec := "termCompares", recurses := true, named := ["undertone/term.shapes"], plainKeys := false, apart := false, laid := [("undertone/term.shapes", laid_undertone_term_shapes)] }
def TermComparesSaid : Prop := termComparesRow.holds Tryd.pinned (OpenSpec.ofChange termComparesSpec)

/-- ITS FALSE NEIGHBOUR: 'it returns false'. Refute it at one input. -/
def termComparesWrong : ChangeSpec := { name := "termCompares", fn := fun _ => fun
  | [d1, d2, d3, d4] => { results := [.lit (.bool false)], args := [d1, d2, d3, d4] }
  | _ => none }
def TermComparesWrongFalsely : Prop := termComparesRow.holds Tryd.pinned (OpenSpec.ofChange termComparesWrong)

/-- 'undertonelaw01.TermShares': WHATEVER THE INPUT: true; the input reads as it did. -/
def termSharesSpec : ChangeSpec := { name := "termShares", fn := fun _ => fun
  | [d1, d2, d3, d4] => { results := [.lit (.bool true)], args := [d1, d2, d3, d4] }
  | _ => none }
def termSharesRow : OpenClaim := { program := "ytemjhhjalnlmlaadoor", sum := "4482a8153f8d95cafdb1baa4e580110b3a901999f89a5a3b05de211703c3aed4", func := "undertone/undertonelaw01.TermShares", spec := "termShares", recurses := true, named := ["undertone/term.shapes"], plainKeys := false, apart := false, laid := [("undertone/term.shapes", laid_undertone_term_shapes)] }
def TermSharesSaid : Prop := termSharesRow.holds Tryd.pinned (OpenSpec.ofChange termSharesSpec)

/-- ITS FALSE NEIGHBOUR: 'it returns false'. Refute it at one input. -/
def termSharesWrong : ChangeSpec := { name := "termShares", fn := fun _ => fun
  | [d1, d2, d3, d4] => { results := [.lit (.bool false)], args := [d1, d2, d3, d4] }
  | _ => none }
def TermSharesWrongFalsely : Prop := termSharesRow.holds Tryd.pinned (OpenSpec.ofChange termSharesWrong)

/-- 'undertonelaw01.TermCopies': WHATEVER THE INPUT: true; the input reads as it did. -/
def termCopiesSpec : ChangeSpec := { name := "termCopies", fn := fun _ => fun
  | [d1, d2] => { results := [.lit (.bool true)], args := [d1, d2] }
  | _ => none }
def termCopiesRow : OpenClaim := { program := "ytemjhhjalnlmlaadoor", sum := "4482a8153f8d95cafdb1baa4e580110b3a901999f89a5a3b05de211703c3aed4", func := "undertone/undertonelaw01.TermCopies", spec := "termCopies", inPlace := ["maps.clone"], recurses := true, named := ["undertone/term.shapes"], plainKeys := false, apart := false, laid := [("undertone/term.shapes", laid_undertone_term_shapes)] }
def TermCopiesSaid : Prop := termCopiesRow.holds Tryd.pinned (OpenSpec.ofChange termCopiesSpec)

/-- ITS FALSE NEIGHBOUR: 'it returns false'. Refute it at one input. -/
def termCopiesWrong : ChangeSpec := { name := "termCopies", fn := fun _ => fun
  | [d1, d2] => { results := [.lit (.bool false)], args := [d1, d2] }
  | _ => none }
def TermCopiesWrongFalsely : Prop := termCopiesRow.holds Tryd.pinned (OpenSpec.ofChange termCopiesWrong)

/-- 'undertonelaw01.TermFinds': WHATEVER THE INPUT: true; the input reads as it did. -/
def termFindsSpec : ChangeSpec := { name := "termFinds", fn := fun _ => fun
  | [d1, d2] => { results := [.lit (.bool true)], args := [d1, d2] }
  | _ => none }
def termFindsRow : OpenClaim := { program := "ytemjhhjalnlmlaadoor", sum := "4482a8153f8d95cafdb1baa4e580110b3a901999f89a5a3b05de211703c3aed4", func := "undertone/undertonelaw01.TermFinds", spec := "termFinds", recurses := true, named := ["undertone/term.shapes"], plainKeys := false, apart := false, laid := [("undertone/term.shapes", laid_undertone_term_shapes)] }
def TermFindsSaid : Prop := termFindsRow.holds Tryd.pinned (OpenSpec.ofChange termFindsSpec)

/-- ITS FALSE NEIGHBOUR: 'it returns false'. Refute it at one input. -/
def termFindsWrong : ChangeSpec := { name := "termFinds", fn := fun _ => fun
  | [d1, d2] => { results := [.lit (.bool false)], args := [d1, d2] }
  | _ => none }
def TermFindsWrongFalsely : Prop := termFindsRow.holds Tryd.pinned (OpenSpec.ofChange termFindsWrong)

/-- 'undertonelaw01.TermGrows': WHATEVER THE INPUT: true; the input reads as it did. -/
def termGrowsSpec : ChangeSpec := { name := "termGrows", fn := fun _ => fun
  | [d] => { results := [.lit (.bool true)], args := [d] }
  | _ => none }
def termGrowsRow : OpenClaim := { program := "ytemjhhjalnlmlaadoor", sum := "4482a8153f8d95cafdb1baa4e580110b3a901999f89a5a3b05de211703c3aed4", func := "undertone/undertonelaw01.TermGrows", spec := "termGrows", recurses := true, named := ["undertone/term.shapes"], plainKeys := false, apart := false, laid := [("undertone/term.shapes", laid_undertone_term_shapes)] }
def TermGrowsSaid : Prop := termGrowsRow.holds Tryd.pinned (OpenSpec.ofChange termGrowsSpec)

/-- ITS FALSE NEIGHBOUR: 'it returns false'. Refute it at one input. -/
def termGrowsWrong : ChangeSpec := { name := "termGrows", fn := fun _ => fun
  | [d] => { results := [.lit (.bool false)], args := [d] }
  | _ => none }
def TermGrowsWrongFalsely : Prop := termGrowsRow.holds Tryd.pinned (OpenSpec.ofChange termGrowsWrong)

/-- 'undertonelaw01.TermOdds': WHATEVER THE INPUT: true; the input reads as it did. -/
def termOddsSpec : ChangeSpec := { name := "termOdds", fn := fun _ => fun
  | [d1, d2, d3] => { results := [.lit (.bool true)], args := [d1, d2, d3] }
  | _ => none }
def termOddsRow : OpenClaim := { program := "ytemjhhjalnlmlaadoor", sum := "4482a8153f8d95cafdb1baa4e580110b3a901999f89a5a3b05de211703c3aed4", func := "undertone/undertonelaw01.TermOdds", spec := "termOdds", recurses := true, named := ["undertone/term.shapes"], plainKeys := false, apart := false, laid := [("undertone/term.shapes", laid_undertone_term_shapes)] }
def TermOddsSaid : Prop := termOddsRow.holds Tryd.pinned (OpenSpec.ofChange termOddsSpec)

/-- ITS FALSE NEIGHBOUR: 'it returns false'. Refute it at one input. -/
def termOddsWrong : ChangeSpec := { name := "termOdds", fn := fun _ => fun
  | [d1, d2, d3] => { results := [.lit (.bool false)], args := [d1, d2, d3] }
  | _ => none }
def TermOddsWrongFalsely : Prop := termOddsRow.holds Tryd.pinned (OpenSpec.ofChange termOddsWrong)

/-- 'undertonelaw01.TermNumbers': WHATEVER THE INPUT: true; the input reads as it did. -/
def termNumbersSpec : ChangeSpec := { name := "termNumbers", fn := fun _ => fun
  | [d1, d2] => { results := [.lit (.bool true)], args := [d1, d2] }
  | _ => none }
def termNumbersRow : OpenClaim := { program := "ytemjhhjalnlmlaadoor", sum := "4482a8153f8d95cafdb1baa4e580110b3a901999f89a5a3b05de211703c3aed4", func := "undertone/undertonelaw01.TermNumbers", spec := "termNumbers", named := ["undertone/term.shapes"], plainKeys := false, apart := false, laid := [("undertone/term.shapes", laid_undertone_term_shapes)] }
def TermNumbersSaid : Prop := termNumbersRow.holds Tryd.pinned (OpenSpec.ofChange termNumbersSpec)

/-- ITS FALSE NEIGHBOUR: 'it returns false'. Refute it at one input. -/
def termNumbersWrong : ChangeSpec := { name := "termNumbers", fn := fun _ => fun
  | [d1, d2] => { results := [.lit (.bool false)], args := [d1, d2] }
  | _ => none }
def TermNumbersWrongFalsely : Prop := termNumbersRow.holds Tryd.pinned (OpenSpec.ofChange termNumbersWrong)

/- THE SECOND FORM. 'bulk': how many values and letters a reading holds, each counted each time it is reached (what is shared counts as often as it is met; a slice's spare places count too). A statement '..UptoSaid' is the law's where the arguments, and the package variables that the reading takes, are together of bulk at most 1048576: NARROWER than '..Said'. Prove '..Said' where nothing that the law and all that it calls make is longer than what came in: it says more and counts as full. Else prove '..UptoSaid'. A law counts once. -/
mutual
def uptoBulk {H : Type} : DataW H → Nat
  | .lit (.string bytes) => bytes.length + 1
  | .lit _ => 1
  | .nil => 1
  | .ptr d => uptoBulk d + 1
  | .slice elems spare => uptoBulkAll elems + uptoBulkAll spare + 1
  | .agg parts => uptoBulkAll parts + 1
  | .iface _ d => uptoBulk d + 1
  | .map entries => uptoBulkEntries entries + 1
  | .held _ => 1
def uptoBulkAll {H : Type} : List (DataW H) → Nat
  | [] => 0
  | d :: r => uptoBulk d + uptoBulkAll r
def uptoBulkEntries {H : Type} : List (Lit × DataW H) → Nat
  | [] => 0
  | x :: r => uptoBulkEntry x + uptoBulkEntries r
def uptoBulkEntry {H : Type} : Lit × DataW H → Nat
  | (.string bytes, d) => bytes.length + uptoBulk d + 1
  | (_, d) => uptoBulk d + 1
 end
def uptoSmall : (H : Type) → List (DataW H) → Bool := fun _ ds => decide (uptoBulkAll ds ≤ 1048576)
def OpenSpec.upto (s : _root_.Go.ChangeSpec) : _root_.Go.OpenSpec := { _root_.Go.OpenSpec.ofChange s with cond := some uptoSmall }

/-- 'undertonelaw01.TermMakes', WHERE WHAT IT READS IS OF BULK AT MOST 1048576: true; the input reads as it did. -/
def termMakesUptoRow : OpenClaim := { program := "ytemjhhjalnlmlaadoor", sum := "4482a8153f8d95cafdb1baa4e580110b3a901999f89a5a3b05de211703c3aed4", func := "undertone/undertonelaw01.TermMakes", spec := "termMakes", recurses := true, named := ["undertone/term.shapes"], plainKeys := false, apart := false, laid := [("undertone/term.shapes", laid_undertone_term_shapes)], narrowed := true }
def TermMakesUptoSaid : Prop := termMakesUptoRow.holds Tryd.pinned (OpenSpec.upto termMakesSpec)

/-- 'undertonelaw01.TermCompares', WHERE WHAT IT READS IS OF BULK AT MOST 1048576: true; the input reads as it did. -/
def termComparesUptoRow : OpenClaim := { program := "ytemjhhjalnlmlaadoor", sum := "4482a8153f8d95cafdb1baa4e580110b3a901999f89a5a3b05de211703c3aed4", func := "undertone/undertonelaw01.TermCompares", spec := "termCompares", recurses := true, named := ["undertone/term.shapes"], plainKeys := false, apart := false, laid := [("undertone/term.shapes", laid_undertone_term_shapes)], narrowed := true }
def TermComparesUptoSaid : Prop := termComparesUptoRow.holds Tryd.pinned (OpenSpec.upto termComparesSpec)

/-- 'undertonelaw01.TermShares', WHERE WHAT IT READS IS OF BULK AT MOST 1048576: true; the input reads as it did. -/
def termSharesUptoRow : OpenClaim := { program := "ytemjhhjalnlmlaadoor", sum := "4482a8153f8d95cafdb1baa4e580110b3a901999f89a5a3b05de211703c3aed4", func := "undertone/undertonelaw01.TermShares", spec := "termShares", recurses := true, named := ["undertone/term.shapes"], plainKeys := false, apart := false, laid := [("undertone/term.shapes", laid_undertone_term_shapes)], narrowed := true }
def TermSharesUptoSaid : Prop := termSharesUptoRow.holds Tryd.pinned (OpenSpec.upto termSharesSpec)

/-- 'undertonelaw01.TermCopies', WHERE WHAT IT READS IS OF BULK AT MOST 1048576: true; the input reads as it did. -/
def termCopiesUptoRow : OpenClaim := { program := "ytemjhhjalnlmlaadoor", sum := "4482a8153f8d95cafdb1baa4e580110b3a901999f89a5a3b05de211703c3aed4", func := "undertone/undertonelaw01.TermCopies", spec := "termCopies", inPlace := ["maps.clone"], recurses := true, named := ["undertone/term.shapes"], plainKeys := false, apart := false, laid := [("undertone/term.shapes", laid_undertone_term_shapes)], narrowed := true }
def TermCopiesUptoSaid : Prop := termCopiesUptoRow.holds Tryd.pinned (OpenSpec.upto termCopiesSpec)

/-- 'undertonelaw01.TermFinds', WHERE WHAT IT READS IS OF BULK AT MOST 1048576: true; the input reads as it did. -/
def termFindsUptoRow : OpenClaim := { program := "ytemjhhjalnlmlaadoor", sum := "4482a8153f8d95cafdb1baa4e580110b3a901999f89a5a3b05de211703c3aed4", func := "undertone/undertonelaw01.TermFinds", spec := "termFinds", recurses := true, named := ["undertone/term.shapes"], plainKeys := false, apart := false, laid := [("undertone/term.shapes", laid_undertone_term_shapes)], narrowed := true }
def TermFindsUptoSaid : Prop := termFindsUptoRow.holds Tryd.pinned (OpenSpec.upto termFindsSpec)

/-- 'undertonelaw01.TermGrows', WHERE WHAT IT READS IS OF BULK AT MOST 1048576: true; the input reads as it did. -/
def termGrowsUptoRow : OpenClaim := { program := "ytemjhhjalnlmlaadoor", sum := "4482a8153f8d95cafdb1baa4e580110b3a901999f89a5a3b05de211703c3aed4", func := "undertone/undertonelaw01.TermGrows", spec := "termGrows", recurses := true, named := ["undertone/term.shapes"], plainKeys := false, apart := false, laid := [("undertone/term.shapes", laid_undertone_term_shapes)], narrowed := true }
def TermGrowsUptoSaid : Prop := termGrowsUptoRow.holds Tryd.pinned (OpenSpec.upto termGrowsSpec)

/-- 'undertonelaw01.TermOdds', WHERE WHAT IT READS IS OF BULK AT MOST 1048576: true; the input reads as it did. -/
def termOddsUptoRow : OpenClaim := { program := "ytemjhhjalnlmlaadoor", sum := "4482a8153f8d95cafdb1baa4e580110b3a901999f89a5a3b05de211703c3aed4", func := "undertone/undertonelaw01.TermOdds", spec := "termOdds", recurses := true, named := ["undertone/term.shapes"], plainKeys := false, apart := false, laid := [("undertone/term.shapes", laid_undertone_term_shapes)], narrowed := true }
def TermOddsUptoSaid : Prop := termOddsUptoRow.holds Tryd.pinned (OpenSpec.upto termOddsSpec)

/-- 'undertonelaw01.TermNumbers', WHERE WHAT IT READS IS OF BULK AT MOST 1048576: true; the input reads as it did. -/
def termNumbersUptoRow : OpenClaim := { program := "ytemjhhjalnlmlaadoor", sum := "4482a8153f8d95cafdb1baa4e580110b3a901999f89a5a3b05de211703c3aed4", func := "undertone/undertonelaw01.TermNumbers", spec := "termNumbers", named := ["undertone/term.shapes"], plainKeys := false, apart := false, laid := [("undertone/term.shapes", laid_undertone_term_shapes)], narrowed := true }
def TermNumbersUptoSaid : Prop := termNumbersUptoRow.holds Tryd.pinned (OpenSpec.upto termNumbersSpec)

end Rows
end Go.Proofs.YtemjhhjalnlmlaaDoor
