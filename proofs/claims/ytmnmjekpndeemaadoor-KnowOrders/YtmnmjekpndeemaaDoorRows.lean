/-
  NARROWER THAN 'FOR EVERY INPUT', by the rows' own cells (each row's printed sentence says how): KnowLearns: laid · KnowCans: laid · KnowGrows: laid · KnowOrders: laid · KnowSeals: laid.
  DERIVED. THE GIVEN ROWS OF THIS SEAT. 5 by the template 'for every input the law returns true; each argument reads behind the call as it read before'; 0 by the template 'total and deterministic' (their statements: YtmnmjekpndeemaaDoorTotals.lean).
  GIVEN WITH THE SEED: the statements are not yours to turn. If you find one false, say at which input.
  Laid BY PROGRAM, IN A SANDBOX (cutbox-rows.mjs): the forced cells as the released guide's own fill.sh prints them over the translation 2d9391ef4a810a3b… (all of the seat's roots in one cut). By AI agents, Wed Nov 11 2026. No macro, syntax, notation, axiom, sorry.
-/
import Derived.Test.YtmnmjekpndeemaaDoorChecked
import GoSem.Claim
import GoSem.ClaimJoined
import GoSem.ClaimMapViews
import Derived.JoinedTies
import Derived.KernelRfl
namespace Go.Proofs.YtmnmjekpndeemaaDoor
/- THE CELL 'sum', in the pinned program and in every row, IS THE sha256 OF THE DUMP (.gsa) THAT YtmnmjekpndeemaaDoorProg.lean LOADS. Nothing in Lean hashes anything: it is a label: what it is worth is what the hold of that sum in a sandbox is worth. -/
noncomputable def Tryd.pinned : Pinned := { name := "ytmnmjekpndeemaadoor", sum := "2d9391ef4a810a3be76d7a68704b328cc6dda7d4fe5faea2c0a3fe971de979bd", checked := Tryd.checked }
namespace Rows
def none {H : Type} : Left H := { results := [], args := [] }

/- WHAT THE LISTED PACKAGE-LEVEL VARIABLES READ AS WHEN THE CALL BEGINS. Each datum BY PROGRAM (the guide's laid-datum.mjs) off the statement by which the dump's own 'gosem.cut.vars' lays the variable. In a bare row this is a premise. The card (YtmnmjekpndeemaaDoorCards.lean) ties it to the program's text. -/
def laid_undertone_term_shapes {H : Type} : DataW H := .agg [.agg [.lit (.int .u64 0), .lit (.int .u64 0), .lit (.int .i64 0)], .agg [.lit (.int .u64 0), .lit (.int .u64 18446744073709551615), .lit (.int .i64 0)], .agg [.lit (.int .u64 0), .lit (.int .u64 0), .lit (.int .i64 1)], .agg [.lit (.int .u64 0), .lit (.int .u64 0), .lit (.int .i64 2)], .agg [.lit (.int .u64 0), .lit (.int .u64 0), .lit (.int .i64 2)], .agg [.lit (.int .u64 0), .lit (.int .u64 0), .lit (.int .i64 2)], .agg [.lit (.int .u64 1), .lit (.int .u64 4), .lit (.int .i64 2)], .agg [.lit (.int .u64 0), .lit (.int .u64 18446744073709551615), .lit (.int .i64 3)], .agg [.lit (.int .u64 0), .lit (.int .u64 0), .lit (.int .i64 2)], .agg [.lit (.int .u64 0), .lit (.int .u64 18446744073709551615), .lit (.int .i64 0)]]

/-- 'undertonelaw03.KnowLearns': WHATEVER THE INPUT: true; the input reads as it did. -/
def knowLearnsSpec : ChangeSpec := { name := "knowLearns", fn := fun _ => fun
  | [d1, d2] => { results := [.lit (.bool true)], args := [d1, d2] }
  | _ => none }
def knowLearnsRow : OpenClaim := { program := "ytmnmjekpndeemaadoor", sum := "2d9391ef4a810a3be76d7a68704b328cc6dda7d4fe5faea2c0a3fe971de979bd", func := "undertone/undertonelaw03.KnowLearns", spec := "knowLearns", unfollowed := true, recurses := true, named := ["undertone/term.shapes"], plainKeys := false, apart := false, laid := [("undertone/term.shapes", laid_undertone_term_shapes)] }
def KnowLearnsSaid : Prop := knowLearnsRow.holds Tryd.pinned (OpenSpec.ofChange knowLearnsSpec)

/-- ITS FALSE NEIGHBOUR: 'it returns false'. Refute it at one input. -/
def knowLearnsWrong : ChangeSpec := { name := "knowLearns", fn := fun _ => fun
  | [d1, d2] => { results := [.lit (.bool false)], args := [d1, d2] }
  | _ => none }
def KnowLearnsWrongFalsely : Prop := knowLearnsRow.holds Tryd.pinned (OpenSpec.ofChange knowLearnsWrong)

/-- 'undertonelaw03.KnowCans': WHATEVER THE INPUT: true; the input reads as it did. -/
def knowCansSpec : ChangeSpec := { name := "knowCans", fn := fun _ => fun
  | [d1, d2] => { results := [.lit (.bool true)], args := [d1, d2] }
  | _ => none }
def knowCansRow : OpenClaim := { program := "ytmnmjekpndeemaadoor", sum := "2d9391ef4a810a3be76d7a68704b328cc6dda7d4fe5faea2c0a3fe971de979bd", func := "undertone/undertonelaw03.KnowCans", spec := "knowCans", unfollowed := true, recurses := true, named := ["undertone/term.shapes"], plainKeys := false, apart := false, laid := [("undertone/term.shapes", laid_undertone_term_shapes)] }
def KnowCansSaid : Prop := knowCansRow.holds Tryd.pinned (OpenSpec.ofChange knowCansSpec)

/-- ITS FALSE NEIGHBOUR: 'it returns false'. Refute it at one input. -/
def knowCansWrong : ChangeSpec := { name := "knowCans", fn := fun _ => fun
  | [d1, d2] => { results := [.lit (.bool false)], args := [d1, d2] }
  | _ => none }
def KnowCansWrongFalsely : Prop := knowCansRow.holds Tryd.pinned (OpenSpec.ofChange knowCansWrong)

/-- 'undertonelaw03.KnowGrows': WHATEVER THE INPUT: true; the input reads as it did. -/
def knowGrowsSpec : ChangeSpec := { name := "knowGrows", fn := fun _ => fun
  | [d1, d2, d3] => { results := [.lit (.bool true)], args := [d1, d2, d3] }
  | _ => none }
def knowGrowsRow : OpenClaim := { program := "ytmnmjekpndeemaadoor", sum := "2d9391ef4a810a3be76d7a68704b328cc6dda7d4fe5faea2c0a3fe971de979bd", func := "undertone/undertonelaw03.KnowGrows", spec := "knowGrows", inPlace := ["maps.clone"], unfollowed := true, recurses := true, named := ["undertone/term.shapes"], plainKeys := false, apart := false, laid := [("undertone/term.shapes", laid_undertone_term_shapes)] }
def KnowGrowsSaid : Prop := knowGrowsRow.holds Tryd.pinned (OpenSpec.ofChange knowGrowsSpec)

/-- ITS FALSE NEIGHBOUR: 'it returns false'. Refute it at one input. -/
def knowGrowsWrong : ChangeSpec := { name := "knowGrows", fn := fun _ => fun
  | [d1, d2, d3] => { results := [.lit (.bool false)], args := [d1, d2, d3] }
  | _ => none }
def KnowGrowsWrongFalsely : Prop := knowGrowsRow.holds Tryd.pinned (OpenSpec.ofChange knowGrowsWrong)

/-- 'undertonelaw03.KnowOrders': WHATEVER THE INPUT: true; the input reads as it did. -/
def knowOrdersSpec : ChangeSpec := { name := "knowOrders", fn := fun _ => fun
  | [d1, d2] => { results := [.lit (.bool true)], args := [d1, d2] }
  | _ => none }
def knowOrdersRow : OpenClaim := { program := "ytmnmjekpndeemaadoor", sum := "2d9391ef4a810a3be76d7a68704b328cc6dda7d4fe5faea2c0a3fe971de979bd", func := "undertone/undertonelaw03.KnowOrders", spec := "knowOrders", unfollowed := true, recurses := true, named := ["undertone/term.shapes"], plainKeys := false, apart := false, laid := [("undertone/term.shapes", laid_undertone_term_shapes)] }
def KnowOrdersSaid : Prop := knowOrdersRow.holds Tryd.pinned (OpenSpec.ofChange knowOrdersSpec)

/-- ITS FALSE NEIGHBOUR: 'it returns false'. Refute it at one input. -/
def knowOrdersWrong : ChangeSpec := { name := "knowOrders", fn := fun _ => fun
  | [d1, d2] => { results := [.lit (.bool false)], args := [d1, d2] }
  | _ => none }
def KnowOrdersWrongFalsely : Prop := knowOrdersRow.holds Tryd.pinned (OpenSpec.ofChange knowOrdersWrong)

/-- 'undertonelaw03.KnowSeals': WHATEVER THE INPUT: true; the input reads as it did. -/
def knowSealsSpec : ChangeSpec := { name := "knowSeals", fn := fun _ => fun
  | [d1, d2] => { results := [.lit (.bool true)], args := [d1, d2] }
  | _ => none }
def knowSealsRow : OpenClaim := { program := "ytmnmjekpndeemaadoor", sum := "2d9391ef4a810a3be76d7a68704b328cc6dda7d4fe5faea2c0a3fe971de979bd", func := "undertone/undertonelaw03.KnowSeals", spec := "knowSeals", unfollowed := true, recurses := true, named := ["undertone/term.shapes"], plainKeys := false, apart := false, laid := [("undertone/term.shapes", laid_undertone_term_shapes)] }
def KnowSealsSaid : Prop := knowSealsRow.holds Tryd.pinned (OpenSpec.ofChange knowSealsSpec)

/-- ITS FALSE NEIGHBOUR: 'it returns false'. Refute it at one input. -/
def knowSealsWrong : ChangeSpec := { name := "knowSeals", fn := fun _ => fun
  | [d1, d2] => { results := [.lit (.bool false)], args := [d1, d2] }
  | _ => none }
def KnowSealsWrongFalsely : Prop := knowSealsRow.holds Tryd.pinned (OpenSpec.ofChange knowSealsWrong)

/- THE SECOND FORM. 'bulk': how many values and letters a reading holds, each counted each time it is reached (what is shared counts as often as it is met; a slice's spare places count too). A statement '..UptoSaid' is the law's where the arguments, and the package variables that the reading takes, are together of bulk at most 1048576: NARROWER than '..Said'. Prove '..Said' where nothing that the law and all that it calls make is longer than what came in: it says more and counts as full. Else prove '..UptoSaid'. A law counts once. -/
mutual
def uptoBulk {H : Type} : DataW H → Nat
  | .lit (.string bytes) => bytes.length + 1
  | .lit _ => 1
  | .nil => 1
  | .ptr d => uptoBulk d + 1
  | .slice elems spare => uptoBulkAll elems + uptoBulkAll spare + 1
  | .agg parts => uptoBulkAll parts + 1
  | .iface _ d => uptoBulk d + 1
  | .map entries => uptoBulkEntries entries + 1
  | .held _ => 1
def uptoBulkAll {H : Type} : List (DataW H) → Nat
  | [] => 0
  | d :: r => uptoBulk d + uptoBulkAll r
def uptoBulkEntries {H : Type} : List (Lit × DataW H) → Nat
  | [] => 0
  | x :: r => uptoBulkEntry x + uptoBulkEntries r
def uptoBulkEntry {H : Type} : Lit × DataW H → Nat
  | (.string bytes, d) => bytes.length + uptoBulk d + 1
  | (_, d) => uptoBulk d + 1
 end
def uptoSmall : (H : Type) → List (DataW H) → Bool := fun _ ds => decide (uptoBulkAll ds ≤ 1048576)
def OpenSpec.upto (s : _root_.Go.ChangeSpec) : _root_.Go.OpenSpec := { _root_.Go.OpenSpec.ofChange s with cond := some uptoSmall }

/-- 'undertonelaw03.KnowLearns', WHERE WHAT IT READS IS OF BULK AT MOST 1048576: true; the input reads as it did. -/
def knowLearnsUptoRow : OpenClaim := { program := "ytmnmjekpndeemaadoor", sum := "2d9391ef4a810a3be76d7a68704b328cc6dda7d4fe5faea2c0a3fe971de979bd", func := "undertone/undertonelaw03.KnowLearns", spec := "knowLearns", unfollowed := true, recurses := true, named := ["undertone/term.shapes"], plainKeys := false, apart := false, laid := [("undertone/term.shapes", laid_undertone_term_shapes)], narrowed := true }
def KnowLearnsUptoSaid : Prop := knowLearnsUptoRow.holds Tryd.pinned (OpenSpec.upto knowLearnsSpec)

/-- 'undertonelaw03.KnowCans', WHERE WHAT IT READS IS OF BULK AT MOST 1048576: true; the input reads as it did. -/
def knowCansUptoRow : OpenClaim := { program := "ytmnmjekpndeemaadoor", sum := "2d9391ef4a810a3be76d7a68704b328cc6dda7d4fe5faea2c0a3fe971de979bd", func := "undertone/undertonelaw03.KnowCans", spec := "knowCans", unfollowed := true, recurses := true, named := ["undertone/term.shapes"], plainKeys := false, apart := false, laid := [("undertone/term.shapes", laid_undertone_term_shapes)], narrowed := true }
def KnowCansUptoSaid : Prop := knowCansUptoRow.holds Tryd.pinned (OpenSpec.upto knowCansSpec)

/-- 'undertonelaw03.KnowGrows', WHERE WHAT IT READS IS OF BULK AT MOST 1048576: true; the input reads as it did. -/
def knowGrowsUptoRow : OpenClaim := { program := "ytmnmjekpndeemaadoor", sum := "2d9391ef4a810a3be76d7a68704b328cc6dda7d4fe5faea2c0a3fe971de979bd", func := "undertone/undertonelaw03.KnowGrows", spec := "knowGrows", inPlace := ["maps.clone"], unfollowed := true, recurses := true, named := ["undertone/term.shapes"], plainKeys := false, apart := false, laid := [("undertone/term.shapes", laid_undertone_term_shapes)], narrowed := true }
def KnowGrowsUptoSaid : Prop := knowGrowsUptoRow.holds Tryd.pinned (OpenSpec.upto knowGrowsSpec)

/-- 'undertonelaw03.KnowOrders', WHERE WHAT IT READS IS OF BULK AT MOST 1048576: true; the input reads as it did. -/
def knowOrdersUptoRow : OpenClaim := { program := "ytmnmjekpndeemaadoor", sum := "2d9391ef4a810a3be76d7a68704b328cc6dda7d4fe5faea2c0a3fe971de979bd", func := "undertone/undertonelaw03.KnowOrders", spec := "knowOrders", unfollowed := true, recurses := true, named := ["undertone/term.shapes"], plainKeys := false, apart := false, laid := [("undertone/term.shapes", laid_undertone_term_shapes)], narrowed := true }
def KnowOrdersUptoSaid : Prop := knowOrdersUptoRow.holds Tryd.pinned (OpenSpec.upto knowOrdersSpec)

/-- 'undertonelaw03.KnowSeals', WHERE WHAT IT READS IS OF BULK AT MOST 1048576: true; the input reads as it did. -/
def knowSealsUptoRow : OpenClaim := { program := "ytmnmjekpndeemaadoor", sum := "2d9391ef4a810a3be76d7a68704b328cc6dda7d4fe5faea2c0a3fe971de979bd", func := "undertone/undertonelaw03.KnowSeals", spec := "knowSeals", unfollowed := true, recurses := true, named := ["undertone/term.shapes"], plainKeys := false, apart := false, laid := [("undertone/term.shapes", laid_undertone_term_shapes)], narrowed := true }
def KnowSealsUptoSaid : Prop := knowSealsUptoRow.holds Tryd.pinned (OpenSpec.upto knowSealsSpec)

end Rows
end Go.Proofs.YtmnmjekpndeemaaDoor
