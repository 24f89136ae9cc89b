/-
  NARROWER THAN 'FOR EVERY INPUT', by the rows' own cells (each row's printed sentence says how): SymBoth: laid · SymApart: laid · SymNames: laid · SymSplits: laid.
  DERIVED. THE GIVEN ROWS OF THIS SEAT. 4 by the template 'for every input the law returns true; each argument reads behind the call as it read before'; 0 by the template 'total and deterministic' (their statements: YtgjhhipkfglpgaaDoorTotals.lean).
  GIVEN WITH THE SEED: the statements are not yours to turn. If you find one false, say at which input.
  Laid BY PROGRAM, IN A SANDBOX (cutbox-rows.mjs): the forced cells as the released guide's own fill.sh prints them over the translation cadd64ac685c435c… (all of the seat's roots in one cut). By AI agents, Wed Nov 11 2026. No macro, syntax, notation, axiom, sorry.
-/
import Derived.Test.YtgjhhipkfglpgaaDoorChecked
import GoSem.Claim
import GoSem.ClaimJoined
import GoSem.ClaimMapViews
import Derived.JoinedTies
import Derived.KernelRfl
namespace Go.Proofs.YtgjhhipkfglpgaaDoor
/- THE CELL 'sum', in the pinned program and in every row, IS THE sha256 OF THE DUMP (.gsa) THAT YtgjhhipkfglpgaaDoorProg.lean LOADS. Nothing in Lean hashes anything: it is a label: what it is worth is what the hold of that sum in a sandbox is worth. -/
noncomputable def Tryd.pinned : Pinned := { name := "ytgjhhipkfglpgaadoor", sum := "cadd64ac685c435c43732153efff8923b831df0c7b78dfc5a7eb160f4dfc54f9", checked := Tryd.checked }
namespace Rows
def none {H : Type} : Left H := { results := [], args := [] }

/- WHAT THE LISTED PACKAGE-LEVEL VARIABLES READ AS WHEN THE CALL BEGINS. Each datum BY PROGRAM (the guide's laid-datum.mjs) off the statement by which the dump's own 'gosem.cut.vars' lays the variable. In a bare row this is a premise. The card (YtgjhhipkfglpgaaDoorCards.lean) ties it to the program's text. -/
def laid_undertone_term_shapes {H : Type} : DataW H := .agg [.agg [.lit (.int .u64 0), .lit (.int .u64 0), .lit (.int .i64 0)], .agg [.lit (.int .u64 0), .lit (.int .u64 18446744073709551615), .lit (.int .i64 0)], .agg [.lit (.int .u64 0), .lit (.int .u64 0), .lit (.int .i64 1)], .agg [.lit (.int .u64 0), .lit (.int .u64 0), .lit (.int .i64 2)], .agg [.lit (.int .u64 0), .lit (.int .u64 0), .lit (.int .i64 2)], .agg [.lit (.int .u64 0), .lit (.int .u64 0), .lit (.int .i64 2)], .agg [.lit (.int .u64 1), .lit (.int .u64 4), .lit (.int .i64 2)], .agg [.lit (.int .u64 0), .lit (.int .u64 18446744073709551615), .lit (.int .i64 3)], .agg [.lit (.int .u64 0), .lit (.int .u64 0), .lit (.int .i64 2)], .agg [.lit (.int .u64 0), .lit (.int .u64 18446744073709551615), .lit (.int .i64 0)]]

/-- 'undertonelaw11.SymBoth': WHATEVER THE INPUT: true; the input reads as it did. -/
def symBothSpec : ChangeSpec := { name := "symBoth", fn := fun _ => fun
  | [d1, d2] => { results := [.lit (.bool true)], args := [d1, d2] }
  | _ => none }
def symBothRow : OpenClaim := { program := "ytgjhhipkfglpgaadoor", sum := "cadd64ac685c435c43732153efff8923b831df0c7b78dfc5a7eb160f4dfc54f9", func := "undertone/undertonelaw11.SymBoth", spec := "symBoth", recurses := true, named := ["undertone/term.shapes"], plainKeys := false, apart := false, laid := [("undertone/term.shapes", laid_undertone_term_shapes)] }
def SymBothSaid : Prop := symBothRow.holds Tryd.pinned (OpenSpec.ofChange symBothSpec)

/-- ITS FALSE NEIGHBOUR: 'it returns false'. Refute it at one input. -/
def symBothWrong : ChangeSpec := { name := "symBoth", fn := fun _ => fun
  | [d1, d2] => { results := [.lit (.bool false)], args := [d1, d2] }
  | _ => none }
def SymBothWrongFalsely : Prop := symBothRow.holds Tryd.pinned (OpenSpec.ofChange symBothWrong)

/-- 'undertonelaw11.SymApart': WHATEVER THE INPUT: true; the input reads as it did. -/
def symApartSpec : ChangeSpec := { name := "symApart", fn := fun _ => fun
  | [d1, d2, d3, d4] => { results := [.lit (.bool true)], args := [d1, d2, d3, d4] }
  | _ => none }
def symApartRow : OpenClaim := { program := "ytgjhhipkfglpgaadoor", sum := "cadd64ac685c435c43732153efff8923b831df0c7b78dfc5a7eb160f4dfc54f9", func := "undertone/undertonelaw11.SymApart", spec := "symApart", recurses := true, named := ["undertone/term.shapes"], plainKeys := false, apart := false, laid := [("undertone/term.shapes", laid_undertone_term_shapes)] }
def SymApartSaid : Prop := symApartRow.holds Tryd.pinned (OpenSpec.ofChange symApartSpec)

/-- ITS FALSE NEIGHBOUR: 'it returns false'. Refute it at one input. -/
def symApartWrong : ChangeSpec := { name := "symApart", fn := fun _ => fun
  | [d1, d2, d3, d4] => { results := [.lit (.bool false)], args := [d1, d2, d3, d4] }
  | _ => none }
def SymApartWrongFalsely : Prop := symApartRow.holds Tryd.pinned (OpenSpec.ofChange symApartWrong)

/-- 'undertonelaw11.SymNames': WHATEVER THE INPUT: true; the input reads as it did. -/
def symNamesSpec : ChangeSpec := { name := "symNames", fn := fun _ => fun
  | [d1, d2, d3] => { results := [.lit (.bool true)], args := [d1, d2, d3] }
  | _ => none }
def symNamesRow : OpenClaim := { program := "ytgjhhipkfglpgaadoor", sum := "cadd64ac685c435c43732153efff8923b831df0c7b78dfc5a7eb160f4dfc54f9", func := "undertone/undertonelaw11.SymNames", spec := "symNames", named := ["undertone/term.shapes"], plainKeys := false, apart := false, laid := [("undertone/term.shapes", laid_undertone_term_shapes)] }
def SymNamesSaid : Prop := symNamesRow.holds Tryd.pinned (OpenSpec.ofChange symNamesSpec)

/-- ITS FALSE NEIGHBOUR: 'it returns false'. Refute it at one input. -/
def symNamesWrong : ChangeSpec := { name := "symNames", fn := fun _ => fun
  | [d1, d2, d3] => { results := [.lit (.bool false)], args := [d1, d2, d3] }
  | _ => none }
def SymNamesWrongFalsely : Prop := symNamesRow.holds Tryd.pinned (OpenSpec.ofChange symNamesWrong)

/-- 'undertonelaw11.SymSplits': WHATEVER THE INPUT: true; the input reads as it did. -/
def symSplitsSpec : ChangeSpec := { name := "symSplits", fn := fun _ => fun
  | [d1, d2, d3] => { results := [.lit (.bool true)], args := [d1, d2, d3] }
  | _ => none }
def symSplitsRow : OpenClaim := { program := "ytgjhhipkfglpgaadoor", sum := "cadd64ac685c435c43732153efff8923b831df0c7b78dfc5a7eb160f4dfc54f9", func := "undertone/undertonelaw11.SymSplits", spec := "symSplits", recurses := true, named := ["undertone/term.shapes"], plainKeys := false, apart := false, laid := [("undertone/term.shapes", laid_undertone_term_shapes)] }
def SymSplitsSaid : Prop := symSplitsRow.holds Tryd.pinned (OpenSpec.ofChange symSplitsSpec)

/-- ITS FALSE NEIGHBOUR: 'it returns false'. Refute it at one input. -/
def symSplitsWrong : ChangeSpec := { name := "symSplits", fn := fun _ => fun
  | [d1, d2, d3] => { results := [.lit (.bool false)], args := [d1, d2, d3] }
  | _ => none }
def SymSplitsWrongFalsely : Prop := symSplitsRow.holds Tryd.pinned (OpenSpec.ofChange symSplitsWrong)

/- THE SECOND FORM. 'bulk': how many values and letters a reading holds, each counted each time it is reached (what is shared counts as often as it is met; a slice's spare places count too). A statement '..UptoSaid' is the law's where the arguments, and the package variables that the reading takes, are together of bulk at most 1048576: NARROWER than '..Said'. Prove '..Said' where nothing that the law and all that it calls make is longer than what came in: it says more and counts as full. Else prove '..UptoSaid'. A law counts once. -/
mutual
def uptoBulk {H : Type} : DataW H → Nat
  | .lit (.string bytes) => bytes.length + 1
  | .lit _ => 1
  | .nil => 1
  | .ptr d => uptoBulk d + 1
  | .slice elems spare => uptoBulkAll elems + uptoBulkAll spare + 1
  | .agg parts => uptoBulkAll parts + 1
  | .iface _ d => uptoBulk d + 1
  | .map entries => uptoBulkEntries entries + 1
  | .held _ => 1
def uptoBulkAll {H : Type} : List (DataW H) → Nat
  | [] => 0
  | d :: r => uptoBulk d + uptoBulkAll r
def uptoBulkEntries {H : Type} : List (Lit × DataW H) → Nat
  | [] => 0
  | x :: r => uptoBulkEntry x + uptoBulkEntries r
def uptoBulkEntry {H : Type} : Lit × DataW H → Nat
  | (.string bytes, d) => bytes.length + uptoBulk d + 1
  | (_, d) => uptoBulk d + 1
 end
def uptoSmall : (H : Type) → List (DataW H) → Bool := fun _ ds => decide (uptoBulkAll ds ≤ 1048576)
def OpenSpec.upto (s : _root_.Go.ChangeSpec) : _root_.Go.OpenSpec := { _root_.Go.OpenSpec.ofChange s with cond := some uptoSmall }

/-- 'undertonelaw11.SymBoth', WHERE WHAT IT READS IS OF BULK AT MOST 1048576: true; the input reads as it did. -/
def symBothUptoRow : OpenClaim := { program := "ytgjhhipkfglpgaadoor", sum := "cadd64ac685c435c43732153efff8923b831df0c7b78dfc5a7eb160f4dfc54f9", func := "undertone/undertonelaw11.SymBoth", spec := "symBoth", recurses := true, named := ["undertone/term.shapes"], plainKeys := false, apart := false, laid := [("undertone/term.shapes", laid_undertone_term_shapes)], narrowed := true }
def SymBothUptoSaid : Prop := symBothUptoRow.holds Tryd.pinned (OpenSpec.upto symBothSpec)

/-- 'undertonelaw11.SymApart', WHERE WHAT IT READS IS OF BULK AT MOST 1048576: true; the input reads as it did. -/
def symApartUptoRow : OpenClaim := { program := "ytgjhhipkfglpgaadoor", sum := "cadd64ac685c435c43732153efff8923b831df0c7b78dfc5a7eb160f4dfc54f9", func := "undertone/undertonelaw11.SymApart", spec := "symApart", recurses := true, named := ["undertone/term.shapes"], plainKeys := false, apart := false, laid := [("undertone/term.shapes", laid_undertone_term_shapes)], narrowed := true }
def SymApartUptoSaid : Prop := symApartUptoRow.holds Tryd.pinned (OpenSpec.upto symApartSpec)

/-- 'undertonelaw11.SymNames', WHERE WHAT IT READS IS OF BULK AT MOST 1048576: true; the input reads as it did. -/
def symNamesUptoRow : OpenClaim := { program := "ytgjhhipkfglpgaadoor", sum := "cadd64ac685c435c43732153efff8923b831df0c7b78dfc5a7eb160f4dfc54f9", func := "undertone/undertonelaw11.SymNames", spec := "symNames", named := ["undertone/term.shapes"], plainKeys := false, apart := false, laid := [("undertone/term.shapes", laid_undertone_term_shapes)], narrowed := true }
def SymNamesUptoSaid : Prop := symNamesUptoRow.holds Tryd.pinned (OpenSpec.upto symNamesSpec)

/-- 'undertonelaw11.SymSplits', WHERE WHAT IT READS IS OF BULK AT MOST 1048576: true; the input reads as it did. -/
def symSplitsUptoRow : OpenClaim := { program := "ytgjhhipkfglpgaadoor", sum := "cadd64ac685c435c43732153efff8923b831df0c7b78dfc5a7eb160f4dfc54f9", func := "undertone/undertonelaw11.SymSplits", spec := "symSplits", recurses := true, named := ["undertone/term.shapes"], plainKeys := false, apart := false, laid := [("undertone/term.shapes", laid_undertone_term_shapes)], narrowed := true }
def SymSplitsUptoSaid : Prop := symSplitsUptoRow.holds Tryd.pinned (OpenSpec.upto symSplitsSpec)

end Rows
end Go.Proofs.YtgjhhipkfglpgaaDoor
