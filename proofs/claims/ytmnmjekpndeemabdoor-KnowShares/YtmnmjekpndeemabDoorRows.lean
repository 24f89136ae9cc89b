/-
  NARROWER THAN 'FOR EVERY INPUT', by the rows' own cells (each row's printed sentence says how): KnowNothing: laid · KnowAll: laid · KnowShares: laid.
  DERIVED. THE GIVEN ROWS OF THIS SEAT. 3 by the template 'for every input the law returns true; each argument reads behind the call as it read before'; 0 by the template 'total and deterministic' (their statements: YtmnmjekpndeemabDoorTotals.lean).
  GIVEN WITH THE SEED: the statements are not yours to turn. If you find one false, say at which input.
  Laid BY PROGRAM, IN A SANDBOX (cutbox-rows.mjs): the forced cells as the released guide's own fill.sh prints them over the translation 4db8c756f802f448… (all of the seat's roots in one cut). By AI agents, Wed Nov 11 2026. No macro, syntax, notation, axiom, sorry.
-/
import Derived.Test.YtmnmjekpndeemabDoorChecked
import GoSem.Claim
import GoSem.ClaimJoined
import GoSem.ClaimMapViews
import Derived.JoinedTies
import Derived.KernelRfl
namespace Go.Proofs.YtmnmjekpndeemabDoor
/- THE CELL 'sum', in the pinned program and in every row, IS THE sha256 OF THE DUMP (.gsa) THAT YtmnmjekpndeemabDoorProg.lean LOADS. Nothing in Lean hashes anything: it is a label: what it is worth is what the hold of that sum in a sandbox is worth. -/
noncomputable def Tryd.pinned : Pinned := { name := "ytmnmjekpndeemabdoor", sum := "4db8c756f802f448f8500c081aae9e712978266b5d324f397cde44d7be924530", checked := Tryd.checked }
namespace Rows
def none {H : Type} : Left H := { results := [], args := [] }

/- WHAT THE LISTED PACKAGE-LEVEL VARIABLES READ AS WHEN THE CALL BEGINS. Each datum BY PROGRAM (the guide's laid-datum.mjs) off the statement by which the dump's own 'gosem.cut.vars' lays the variable. In a bare row this is a premise. The card (YtmnmjekpndeemabDoorCards.lean) ties it to the program's text. -/
def laid_undertone_term_shapes {H : Type} : DataW H := .agg [.agg [.lit (.int .u64 0), .lit (.int .u64 0), .lit (.int .i64 0)], .agg [.lit (.int .u64 0), .lit (.int .u64 18446744073709551615), .lit (.int .i64 0)], .agg [.lit (.int .u64 0), .lit (.int .u64 0), .lit (.int .i64 1)], .agg [.lit (.int .u64 0), .lit (.int .u64 0), .lit (.int .i64 2)], .agg [.lit (.int .u64 0), .lit (.int .u64 0), .lit (.int .i64 2)], .agg [.lit (.int .u64 0), .lit (.int .u64 0), .lit (.int .i64 2)], .agg [.lit (.int .u64 1), .lit (.int .u64 4), .lit (.int .i64 2)], .agg [.lit (.int .u64 0), .lit (.int .u64 18446744073709551615), .lit (.int .i64 3)], .agg [.lit (.int .u64 0), .lit (.int .u64 0), .lit (.int .i64 2)], .agg [.lit (.int .u64 0), .lit (.int .u64 18446744073709551615), .lit (.int .i64 0)]]

/-- 'undertonelaw03.KnowNothing': WHATEVER THE INPUT: true; the input reads as it did. -/
def knowNothingSpec : ChangeSpec := { name := "knowNothing", fn := fun _ => fun
  | [d] => { results := [.lit (.bool true)], args := [d] }
  | _ => none }
def knowNothingRow : OpenClaim := { program := "ytmnmjekpndeemabdoor", sum := "4db8c756f802f448f8500c081aae9e712978266b5d324f397cde44d7be924530", func := "undertone/undertonelaw03.KnowNothing", spec := "knowNothing", unfollowed := true, recurses := true, named := ["undertone/term.shapes"], plainKeys := false, apart := false, laid := [("undertone/term.shapes", laid_undertone_term_shapes)] }
def KnowNothingSaid : Prop := knowNothingRow.holds Tryd.pinned (OpenSpec.ofChange knowNothingSpec)

/-- ITS FALSE NEIGHBOUR: 'it returns false'. Refute it at one input. -/
def knowNothingWrong : ChangeSpec := { name := "knowNothing", fn := fun _ => fun
  | [d] => { results := [.lit (.bool false)], args := [d] }
  | _ => none }
def KnowNothingWrongFalsely : Prop := knowNothingRow.holds Tryd.pinned (OpenSpec.ofChange knowNothingWrong)

/-- 'undertonelaw03.KnowAll': WHATEVER THE INPUT: true; the input reads as it did. -/
def knowAllSpec : ChangeSpec := { name := "knowAll", fn := fun _ => fun
  | [d] => { results := [.lit (.bool true)], args := [d] }
  | _ => none }
def knowAllRow : OpenClaim := { program := "ytmnmjekpndeemabdoor", sum := "4db8c756f802f448f8500c081aae9e712978266b5d324f397cde44d7be924530", func := "undertone/undertonelaw03.KnowAll", spec := "knowAll", unfollowed := true, recurses := true, named := ["undertone/term.shapes"], plainKeys := false, apart := false, laid := [("undertone/term.shapes", laid_undertone_term_shapes)] }
def KnowAllSaid : Prop := knowAllRow.holds Tryd.pinned (OpenSpec.ofChange knowAllSpec)

/-- ITS FALSE NEIGHBOUR: 'it returns false'. Refute it at one input. -/
def knowAllWrong : ChangeSpec := { name := "knowAll", fn := fun _ => fun
  | [d] => { results := [.lit (.bool false)], args := [d] }
  | _ => none }
def KnowAllWrongFalsely : Prop := knowAllRow.holds Tryd.pinned (OpenSpec.ofChange knowAllWrong)

/-- 'undertonelaw03.KnowShares': WHATEVER THE INPUT: true; the input reads as it did. -/
def knowSharesSpec : ChangeSpec := { name := "knowShares", fn := fun _ => fun
  | [d1, d2, d3, d4] => { results := [.lit (.bool true)], args := [d1, d2, d3, d4] }
  | _ => none }
def knowSharesRow : OpenClaim := { program := "ytmnmjekpndeemabdoor", sum := "4db8c756f802f448f8500c081aae9e712978266b5d324f397cde44d7be924530", func := "undertone/undertonelaw03.KnowShares", spec := "knowShares", unfollowed := true, recurses := true, named := ["undertone/term.shapes"], plainKeys := false, apart := false, laid := [("undertone/term.shapes", laid_undertone_term_shapes)] }
def KnowSharesSaid : Prop := knowSharesRow.holds Tryd.pinned (OpenSpec.ofChange knowSharesSpec)

/-- ITS FALSE NEIGHBOUR: 'it returns false'. Refute it at one input. -/
def knowSharesWrong : ChangeSpec := { name := "knowShares", fn := fun _ => fun
  | [d1, d2, d3, d4] => { results := [.lit (.bool false)], args := [d1, d2, d3, d4] }
  | _ => none }
def KnowSharesWrongFalsely : Prop := knowSharesRow.holds Tryd.pinned (OpenSpec.ofChange knowSharesWrong)

/- THE SECOND FORM. 'bulk': how many values and letters a reading holds, each counted each time it is reached (what is shared counts as often as it is met; a slice's spare places count too). A statement '..UptoSaid' is the law's where the arguments, and the package variables that the reading takes, are together of bulk at most 1048576: NARROWER than '..Said'. Prove '..Said' where nothing that the law and all that it calls make is longer than what came in: it says more and counts as full. Else prove '..UptoSaid'. A law counts once. -/
mutual
def uptoBulk {H : Type} : DataW H → Nat
  | .lit (.string bytes) => bytes.length + 1
  | .lit _ => 1
  | .nil => 1
  | .ptr d => uptoBulk d + 1
  | .slice elems spare => uptoBulkAll elems + uptoBulkAll spare + 1
  | .agg parts => uptoBulkAll parts + 1
  | .iface _ d => uptoBulk d + 1
  | .map entries => uptoBulkEntries entries + 1
  | .held _ => 1
def uptoBulkAll {H : Type} : List (DataW H) → Nat
  | [] => 0
  | d :: r => uptoBulk d + uptoBulkAll r
def uptoBulkEntries {H : Type} : List (Lit × DataW H) → Nat
  | [] => 0
  | x :: r => uptoBulkEntry x + uptoBulkEntries r
def uptoBulkEntry {H : Type} : Lit × DataW H → Nat
  | (.string bytes, d) => bytes.length + uptoBulk d + 1
  | (_, d) => uptoBulk d + 1
 end
def uptoSmall : (H : Type) → List (DataW H) → Bool := fun _ ds => decide (uptoBulkAll ds ≤ 1048576)
def OpenSpec.upto (s : _root_.Go.ChangeSpec) : _root_.Go.OpenSpec := { _root_.Go.OpenSpec.ofChange s with cond := some uptoSmall }

/-- 'undertonelaw03.KnowNothing', WHERE WHAT IT READS IS OF BULK AT MOST 1048576: true; the input reads as it did. -/
def knowNothingUptoRow : OpenClaim := { program := "ytmnmjekpndeemabdoor", sum := "4db8c756f802f448f8500c081aae9e712978266b5d324f397cde44d7be924530", func := "undertone/undertonelaw03.KnowNothing", spec := "knowNothing", unfollowed := true, recurses := true, named := ["undertone/term.shapes"], plainKeys := false, apart := false, laid := [("undertone/term.shapes", laid_undertone_term_shapes)], narrowed := true }
def KnowNothingUptoSaid : Prop := knowNothingUptoRow.holds Tryd.pinned (OpenSpec.upto knowNothingSpec)

/-- 'undertonelaw03.KnowAll', WHERE WHAT IT READS IS OF BULK AT MOST 1048576: true; the input reads as it did. -/
def knowAllUptoRow : OpenClaim := { program := "ytmnmjekpndeemabdoor", sum := "4db8c756f802f448f8500c081aae9e712978266b5d324f397cde44d7be924530", func := "undertone/undertonelaw03.KnowAll", spec := "knowAll", unfollowed := true, recurses := true, named := ["undertone/term.shapes"], plainKeys := false, apart := false, laid := [("undertone/term.shapes", laid_undertone_term_shapes)], narrowed := true }
def KnowAllUptoSaid : Prop := knowAllUptoRow.holds Tryd.pinned (OpenSpec.upto knowAllSpec)

/-- 'undertonelaw03.KnowShares', WHERE WHAT IT READS IS OF BULK AT MOST 1048576: true; the input reads as it did. -/
def knowSharesUptoRow : OpenClaim := { program := "ytmnmjekpndeemabdoor", sum := "4db8c756f802f448f8500c081aae9e712978266b5d324f397cde44d7be924530", func := "undertone/undertonelaw03.KnowShares", spec := "knowShares", unfollowed := true, recurses := true, named := ["undertone/term.shapes"], plainKeys := false, apart := false, laid := [("undertone/term.shapes", laid_undertone_term_shapes)], narrowed := true }
def KnowSharesUptoSaid : Prop := knowSharesUptoRow.holds Tryd.pinned (OpenSpec.upto knowSharesSpec)

end Rows
end Go.Proofs.YtmnmjekpndeemabDoor
