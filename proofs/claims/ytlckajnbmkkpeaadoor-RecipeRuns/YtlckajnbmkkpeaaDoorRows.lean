/-
  NARROWER THAN 'FOR EVERY INPUT', by the rows' own cells (each row's printed sentence says how): KnowLearns: laid · KnowGrows: laid · KnowNothing: laid · RecipeRuns: laid · RecipeCans: laid · RecipeHears: laid · RecipeParts: laid · RecipeJoins: laid · RecipeAgain: laid.
  DERIVED. THE GIVEN ROWS OF THIS SEAT. 9 by the template 'for every input the law returns true; each argument reads behind the call as it read before'; 0 by the template 'total and deterministic' (their statements: YtlckajnbmkkpeaaDoorTotals.lean).
  GIVEN WITH THE SEED: the statements are not yours to turn. If you find one false, say at which input.
  Laid BY PROGRAM, IN A SANDBOX (cutbox-rows.mjs): the forced cells as the released guide's own fill.sh prints them over the translation 601885e0932150e5… (all of the seat's roots in one cut). By AI agents, Wed Nov 11 2026. No macro, syntax, notation, axiom, sorry.
-/
import Derived.Test.YtlckajnbmkkpeaaDoorChecked
import GoSem.Claim
import GoSem.ClaimJoined
import GoSem.ClaimMapViews
import Derived.JoinedTies
import Derived.KernelRfl
namespace Go.Proofs.YtlckajnbmkkpeaaDoor
/- THE CELL 'sum', in the pinned program and in every row, IS THE sha256 OF THE DUMP (.gsa) THAT YtlckajnbmkkpeaaDoorProg.lean LOADS. Nothing in Lean hashes anything: it is a label: what it is worth is what the hold of that sum in a sandbox is worth. -/
noncomputable def Tryd.pinned : Pinned := { name := "ytlckajnbmkkpeaadoor", sum := "601885e0932150e5301cb9356914c1085c219919b3c73b115225f50d3122e1f4", checked := Tryd.checked }
namespace Rows
def none {H : Type} : Left H := { results := [], args := [] }

/- WHAT THE LISTED PACKAGE-LEVEL VARIABLES READ AS WHEN THE CALL BEGINS. Each datum BY PROGRAM (the guide's laid-datum.mjs) off the statement by which the dump's own 'gosem.cut.vars' lays the variable. In a bare row this is a premise. The card (YtlckajnbmkkpeaaDoorCards.lean) ties it to the program's text. -/
def laid_undertone_term_shapes {H : Type} : DataW H := .agg [.agg [.lit (.int .u64 0), .lit (.int .u64 0), .lit (.int .i64 0)], .agg [.lit (.int .u64 0), .lit (.int .u64 18446744073709551615), .lit (.int .i64 0)], .agg [.lit (.int .u64 0), .lit (.int .u64 0), .lit (.int .i64 1)], .agg [.lit (.int .u64 0), .lit (.int .u64 0), .lit (.int .i64 2)], .agg [.lit (.int .u64 0), .lit (.int .u64 0), .lit (.int .i64 2)], .agg [.lit (.int .u64 0), .lit (.int .u64 0), .lit (.int .i64 2)], .agg [.lit (.int .u64 1), .lit (.int .u64 4), .lit (.int .i64 2)], .agg [.lit (.int .u64 0), .lit (.int .u64 18446744073709551615), .lit (.int .i64 3)], .agg [.lit (.int .u64 0), .lit (.int .u64 0), .lit (.int .i64 2)], .agg [.lit (.int .u64 0), .lit (.int .u64 18446744073709551615), .lit (.int .i64 0)]]
def laid_undertone_recipe_shapes {H : Type} : DataW H := .agg [.agg [.lit (.int .u64 0), .lit (.int .u64 0), .lit (.int .i64 1)], .agg [.lit (.int .u64 0), .lit (.int .u64 1048575), .lit (.int .i64 0)], .agg [.lit (.int .u64 0), .lit (.int .u64 0), .lit (.int .i64 1)], .agg [.lit (.int .u64 0), .lit (.int .u64 0), .lit (.int .i64 2)], .agg [.lit (.int .u64 0), .lit (.int .u64 0), .lit (.int .i64 0)], .agg [.lit (.int .u64 0), .lit (.int .u64 0), .lit (.int .i64 2)], .agg [.lit (.int .u64 1), .lit (.int .u64 4), .lit (.int .i64 2)], .agg [.lit (.int .u64 0), .lit (.int .u64 18446744073709551615), .lit (.int .i64 3)], .agg [.lit (.int .u64 0), .lit (.int .u64 0), .lit (.int .i64 2)], .agg [.lit (.int .u64 0), .lit (.int .u64 18446744073709551615), .lit (.int .i64 0)], .agg [.lit (.int .u64 0), .lit (.int .u64 0), .lit (.int .i64 1)], .agg [.lit (.int .u64 0), .lit (.int .u64 0), .lit (.int .i64 1)], .agg [.lit (.int .u64 0), .lit (.int .u64 0), .lit (.int .i64 2)], .agg [.lit (.int .u64 0), .lit (.int .u64 0), .lit (.int .i64 0)]]

/-- 'undertonelaw03.KnowLearns': WHATEVER THE INPUT: true; the input reads as it did. -/
def knowLearnsSpec : ChangeSpec := { name := "knowLearns", fn := fun _ => fun
  | [d1, d2] => { results := [.lit (.bool true)], args := [d1, d2] }
  | _ => none }
def knowLearnsRow : OpenClaim := { program := "ytlckajnbmkkpeaadoor", sum := "601885e0932150e5301cb9356914c1085c219919b3c73b115225f50d3122e1f4", func := "undertone/undertonelaw03.KnowLearns", spec := "knowLearns", unfollowed := true, recurses := true, named := ["undertone/term.shapes"], plainKeys := false, apart := false, laid := [("undertone/term.shapes", laid_undertone_term_shapes)] }
def KnowLearnsSaid : Prop := knowLearnsRow.holds Tryd.pinned (OpenSpec.ofChange knowLearnsSpec)

/-- ITS FALSE NEIGHBOUR: 'it returns false'. Refute it at one input. -/
def knowLearnsWrong : ChangeSpec := { name := "knowLearns", fn := fun _ => fun
  | [d1, d2] => { results := [.lit (.bool false)], args := [d1, d2] }
  | _ => none }
def KnowLearnsWrongFalsely : Prop := knowLearnsRow.holds Tryd.pinned (OpenSpec.ofChange knowLearnsWrong)

/-- 'undertonelaw03.KnowGrows': WHATEVER THE INPUT: true; the input reads as it did. -/
def knowGrowsSpec : ChangeSpec := { name := "knowGrows", fn := fun _ => fun
  | [d1, d2, d3] => { results := [.lit (.bool true)], args := [d1, d2, d3] }
  | _ => none }
def knowGrowsRow : OpenClaim := { program := "ytlckajnbmkkpeaadoor", sum := "601885e0932150e5301cb9356914c1085c219919b3c73b115225f50d3122e1f4", func := "undertone/undertonelaw03.KnowGrows", spec := "knowGrows", inPlace := ["maps.clone"], unfollowed := true, recurses := true, named := ["undertone/term.shapes"], plainKeys := false, apart := false, laid := [("undertone/term.shapes", laid_undertone_term_shapes)] }
def KnowGrowsSaid : Prop := knowGrowsRow.holds Tryd.pinned (OpenSpec.ofChange knowGrowsSpec)

/-- ITS FALSE NEIGHBOUR: 'it returns false'. Refute it at one input. -/
def knowGrowsWrong : ChangeSpec := { name := "knowGrows", fn := fun _ => fun
  | [d1, d2, d3] => { results := [.lit (.bool false)], args := [d1, d2, d3] }
  | _ => none }
def KnowGrowsWrongFalsely : Prop := knowGrowsRow.holds Tryd.pinned (OpenSpec.ofChange knowGrowsWrong)

/-- 'undertonelaw03.KnowNothing': WHATEVER THE INPUT: true; the input reads as it did. -/
def knowNothingSpec : ChangeSpec := { name := "knowNothing", fn := fun _ => fun
  | [d] => { results := [.lit (.bool true)], args := [d] }
  | _ => none }
def knowNothingRow : OpenClaim := { program := "ytlckajnbmkkpeaadoor", sum := "601885e0932150e5301cb9356914c1085c219919b3c73b115225f50d3122e1f4", func := "undertone/undertonelaw03.KnowNothing", spec := "knowNothing", unfollowed := true, recurses := true, named := ["undertone/term.shapes"], plainKeys := false, apart := false, laid := [("undertone/term.shapes", laid_undertone_term_shapes)] }
def KnowNothingSaid : Prop := knowNothingRow.holds Tryd.pinned (OpenSpec.ofChange knowNothingSpec)

/-- ITS FALSE NEIGHBOUR: 'it returns false'. Refute it at one input. -/
def knowNothingWrong : ChangeSpec := { name := "knowNothing", fn := fun _ => fun
  | [d] => { results := [.lit (.bool false)], args := [d] }
  | _ => none }
def KnowNothingWrongFalsely : Prop := knowNothingRow.holds Tryd.pinned (OpenSpec.ofChange knowNothingWrong)

/-- 'undertonelaw04.RecipeRuns': WHATEVER THE INPUT: true; the input reads as it did. -/
def recipeRunsSpec : ChangeSpec := { name := "recipeRuns", fn := fun _ => fun
  | [d1, d2, d3, d4] => { results := [.lit (.bool true)], args := [d1, d2, d3, d4] }
  | _ => none }
def recipeRunsRow : OpenClaim := { program := "ytlckajnbmkkpeaadoor", sum := "601885e0932150e5301cb9356914c1085c219919b3c73b115225f50d3122e1f4", func := "undertone/undertonelaw04.RecipeRuns", spec := "recipeRuns", unfollowed := true, recurses := true, named := ["undertone/term.shapes", "undertone/recipe.shapes"], plainKeys := false, apart := false, laid := [("undertone/term.shapes", laid_undertone_term_shapes), ("undertone/recipe.shapes", laid_undertone_recipe_shapes)] }
def RecipeRunsSaid : Prop := recipeRunsRow.holds Tryd.pinned (OpenSpec.ofChange recipeRunsSpec)

/-- ITS FALSE NEIGHBOUR: 'it returns false'. Refute it at one input. -/
def recipeRunsWrong : ChangeSpec := { name := "recipeRuns", fn := fun _ => fun
  | [d1, d2, d3, d4] => { results := [.lit (.bool false)], args := [d1, d2, d3, d4] }
  | _ => none }
def RecipeRunsWrongFalsely : Prop := recipeRunsRow.holds Tryd.pinned (OpenSpec.ofChange recipeRunsWrong)

/-- 'undertonelaw04.RecipeCans': WHATEVER THE INPUT: true; the input reads as it did. -/
def recipeCansSpec : ChangeSpec := { name := "recipeCans", fn := fun _ => fun
  | [d1, d2, d3] => { results := [.lit (.bool true)], args := [d1, d2, d3] }
  | _ => none }
def recipeCansRow : OpenClaim := { program := "ytlckajnbmkkpeaadoor", sum := "601885e0932150e5301cb9356914c1085c219919b3c73b115225f50d3122e1f4", func := "undertone/undertonelaw04.RecipeCans", spec := "recipeCans", unfollowed := true, recurses := true, named := ["undertone/term.shapes", "undertone/recipe.shapes"], plainKeys := false, apart := false, laid := [("undertone/term.shapes", laid_undertone_term_shapes), ("undertone/recipe.shapes", laid_undertone_recipe_shapes)] }
def RecipeCansSaid : Prop := recipeCansRow.holds Tryd.pinned (OpenSpec.ofChange recipeCansSpec)

/-- ITS FALSE NEIGHBOUR: 'it returns false'. Refute it at one input. -/
def recipeCansWrong : ChangeSpec := { name := "recipeCans", fn := fun _ => fun
  | [d1, d2, d3] => { results := [.lit (.bool false)], args := [d1, d2, d3] }
  | _ => none }
def RecipeCansWrongFalsely : Prop := recipeCansRow.holds Tryd.pinned (OpenSpec.ofChange recipeCansWrong)

/-- 'undertonelaw04.RecipeHears': WHATEVER THE INPUT: true; the input reads as it did. -/
def recipeHearsSpec : ChangeSpec := { name := "recipeHears", fn := fun _ => fun
  | [d1, d2, d3] => { results := [.lit (.bool true)], args := [d1, d2, d3] }
  | _ => none }
def recipeHearsRow : OpenClaim := { program := "ytlckajnbmkkpeaadoor", sum := "601885e0932150e5301cb9356914c1085c219919b3c73b115225f50d3122e1f4", func := "undertone/undertonelaw04.RecipeHears", spec := "recipeHears", unfollowed := true, recurses := true, named := ["undertone/term.shapes", "undertone/recipe.shapes"], plainKeys := false, apart := false, laid := [("undertone/term.shapes", laid_undertone_term_shapes), ("undertone/recipe.shapes", laid_undertone_recipe_shapes)] }
def RecipeHearsSaid : Prop := recipeHearsRow.holds Tryd.pinned (OpenSpec.ofChange recipeHearsSpec)

/-- ITS FALSE NEIGHBOUR: 'it returns false'. Refute it at one input. -/
def recipeHearsWrong : ChangeSpec := { name := "recipeHears", fn := fun _ => fun
  | [d1, d2, d3] => { results := [.lit (.bool false)], args := [d1, d2, d3] }
  | _ => none }
def RecipeHearsWrongFalsely : Prop := recipeHearsRow.holds Tryd.pinned (OpenSpec.ofChange recipeHearsWrong)

/-- 'undertonelaw04.RecipeParts': WHATEVER THE INPUT: true; the input reads as it did. -/
def recipePartsSpec : ChangeSpec := { name := "recipeParts", fn := fun _ => fun
  | [d1, d2, d3] => { results := [.lit (.bool true)], args := [d1, d2, d3] }
  | _ => none }
def recipePartsRow : OpenClaim := { program := "ytlckajnbmkkpeaadoor", sum := "601885e0932150e5301cb9356914c1085c219919b3c73b115225f50d3122e1f4", func := "undertone/undertonelaw04.RecipeParts", spec := "recipeParts", unfollowed := true, recurses := true, named := ["undertone/recipe.shapes", "undertone/term.shapes"], plainKeys := false, apart := false, laid := [("undertone/term.shapes", laid_undertone_term_shapes), ("undertone/recipe.shapes", laid_undertone_recipe_shapes)] }
def RecipePartsSaid : Prop := recipePartsRow.holds Tryd.pinned (OpenSpec.ofChange recipePartsSpec)

/-- ITS FALSE NEIGHBOUR: 'it returns false'. Refute it at one input. -/
def recipePartsWrong : ChangeSpec := { name := "recipeParts", fn := fun _ => fun
  | [d1, d2, d3] => { results := [.lit (.bool false)], args := [d1, d2, d3] }
  | _ => none }
def RecipePartsWrongFalsely : Prop := recipePartsRow.holds Tryd.pinned (OpenSpec.ofChange recipePartsWrong)

/-- 'undertonelaw04.RecipeJoins': WHATEVER THE INPUT: true; the input reads as it did. -/
def recipeJoinsSpec : ChangeSpec := { name := "recipeJoins", fn := fun _ => fun
  | [d1, d2, d3, d4] => { results := [.lit (.bool true)], args := [d1, d2, d3, d4] }
  | _ => none }
def recipeJoinsRow : OpenClaim := { program := "ytlckajnbmkkpeaadoor", sum := "601885e0932150e5301cb9356914c1085c219919b3c73b115225f50d3122e1f4", func := "undertone/undertonelaw04.RecipeJoins", spec := "recipeJoins", unfollowed := true, recurses := true, named := ["undertone/term.shapes", "undertone/recipe.shapes"], plainKeys := false, apart := false, laid := [("undertone/term.shapes", laid_undertone_term_shapes), ("undertone/recipe.shapes", laid_undertone_recipe_shapes)] }
def RecipeJoinsSaid : Prop := recipeJoinsRow.holds Tryd.pinned (OpenSpec.ofChange recipeJoinsSpec)

/-- ITS FALSE NEIGHBOUR: 'it returns false'. Refute it at one input. -/
def recipeJoinsWrong : ChangeSpec := { name := "recipeJoins", fn := fun _ => fun
  | [d1, d2, d3, d4] => { results := [.lit (.bool false)], args := [d1, d2, d3, d4] }
  | _ => none }
def RecipeJoinsWrongFalsely : Prop := recipeJoinsRow.holds Tryd.pinned (OpenSpec.ofChange recipeJoinsWrong)

/-- 'undertonelaw04.RecipeAgain': WHATEVER THE INPUT: true; the input reads as it did. -/
def recipeAgainSpec : ChangeSpec := { name := "recipeAgain", fn := fun _ => fun
  | [d1, d2, d3] => { results := [.lit (.bool true)], args := [d1, d2, d3] }
  | _ => none }
def recipeAgainRow : OpenClaim := { program := "ytlckajnbmkkpeaadoor", sum := "601885e0932150e5301cb9356914c1085c219919b3c73b115225f50d3122e1f4", func := "undertone/undertonelaw04.RecipeAgain", spec := "recipeAgain", unfollowed := true, recurses := true, named := ["undertone/term.shapes", "undertone/recipe.shapes"], plainKeys := false, apart := false, laid := [("undertone/term.shapes", laid_undertone_term_shapes), ("undertone/recipe.shapes", laid_undertone_recipe_shapes)] }
def RecipeAgainSaid : Prop := recipeAgainRow.holds Tryd.pinned (OpenSpec.ofChange recipeAgainSpec)

/-- ITS FALSE NEIGHBOUR: 'it returns false'. Refute it at one input. -/
def recipeAgainWrong : ChangeSpec := { name := "recipeAgain", fn := fun _ => fun
  | [d1, d2, d3] => { results := [.lit (.bool false)], args := [d1, d2, d3] }
  | _ => none }
def RecipeAgainWrongFalsely : Prop := recipeAgainRow.holds Tryd.pinned (OpenSpec.ofChange recipeAgainWrong)

/- THE SECOND FORM. 'bulk': how many values and letters a reading holds, each counted each time it is reached (what is shared counts as often as it is met; a slice's spare places count too). A statement '..UptoSaid' is the law's where the arguments, and the package variables that the reading takes, are together of bulk at most 1048576: NARROWER than '..Said'. Prove '..Said' where nothing that the law and all that it calls make is longer than what came in: it says more and counts as full. Else prove '..UptoSaid'. A law counts once. -/
mutual
def uptoBulk {H : Type} : DataW H → Nat
  | .lit (.string bytes) => bytes.length + 1
  | .lit _ => 1
  | .nil => 1
  | .ptr d => uptoBulk d + 1
  | .slice elems spare => uptoBulkAll elems + uptoBulkAll spare + 1
  | .agg parts => uptoBulkAll parts + 1
  | .iface _ d => uptoBulk d + 1
  | .map entries => uptoBulkEntries entries + 1
  | .held _ => 1
def uptoBulkAll {H : Type} : List (DataW H) → Nat
  | [] => 0
  | d :: r => uptoBulk d + uptoBulkAll r
def uptoBulkEntries {H : Type} : List (Lit × DataW H) → Nat
  | [] => 0
  | x :: r => uptoBulkEntry x + uptoBulkEntries r
def uptoBulkEntry {H : Type} : Lit × DataW H → Nat
  | (.string bytes, d) => bytes.length + uptoBulk d + 1
  | (_, d) => uptoBulk d + 1
 end
def uptoSmall : (H : Type) → List (DataW H) → Bool := fun _ ds => decide (uptoBulkAll ds ≤ 1048576)
def OpenSpec.upto (s : _root_.Go.ChangeSpec) : _root_.Go.OpenSpec := { _root_.Go.OpenSpec.ofChange s with cond := some uptoSmall }

/-- 'undertonelaw03.KnowLearns', WHERE WHAT IT READS IS OF BULK AT MOST 1048576: true; the input reads as it did. -/
def knowLearnsUptoRow : OpenClaim := { program := "ytlckajnbmkkpeaadoor", sum := "601885e0932150e5301cb9356914c1085c219919b3c73b115225f50d3122e1f4", func := "undertone/undertonelaw03.KnowLearns", spec := "knowLearns", unfollowed := true, recurses := true, named := ["undertone/term.shapes"], plainKeys := false, apart := false, laid := [("undertone/term.shapes", laid_undertone_term_shapes)], narrowed := true }
def KnowLearnsUptoSaid : Prop := knowLearnsUptoRow.holds Tryd.pinned (OpenSpec.upto knowLearnsSpec)

/-- 'undertonelaw03.KnowGrows', WHERE WHAT IT READS IS OF BULK AT MOST 1048576: true; the input reads as it did. -/
def knowGrowsUptoRow : OpenClaim := { program := "ytlckajnbmkkpeaadoor", sum := "601885e0932150e5301cb9356914c1085c219919b3c73b115225f50d3122e1f4", func := "undertone/undertonelaw03.KnowGrows", spec := "knowGrows", inPlace := ["maps.clone"], unfollowed := true, recurses := true, named := ["undertone/term.shapes"], plainKeys := false, apart := false, laid := [("undertone/term.shapes", laid_undertone_term_shapes)], narrowed := true }
def KnowGrowsUptoSaid : Prop := knowGrowsUptoRow.holds Tryd.pinned (OpenSpec.upto knowGrowsSpec)

/-- 'undertonelaw03.KnowNothing', WHERE WHAT IT READS IS OF BULK AT MOST 1048576: true; the input reads as it did. -/
def knowNothingUptoRow : OpenClaim := { program := "ytlckajnbmkkpeaadoor", sum := "601885e0932150e5301cb9356914c1085c219919b3c73b115225f50d3122e1f4", func := "undertone/undertonelaw03.KnowNothing", spec := "knowNothing", unfollowed := true, recurses := true, named := ["undertone/term.shapes"], plainKeys := false, apart := false, laid := [("undertone/term.shapes", laid_undertone_term_shapes)], narrowed := true }
def KnowNothingUptoSaid : Prop := knowNothingUptoRow.holds Tryd.pinned (OpenSpec.upto knowNothingSpec)

/-- 'undertonelaw04.RecipeRuns', WHERE WHAT IT READS IS OF BULK AT MOST 1048576: true; the input reads as it did. -/
def recipeRunsUptoRow : OpenClaim := { program := "ytlckajnbmkkpeaadoor", sum := "601885e0932150e5301cb9356914c1085c219919b3c73b115225f50d3122e1f4", func := "undertone/undertonelaw04.RecipeRuns", spec := "recipeRuns", unfollowed := true, recurses := true, named := ["undertone/term.shapes", "undertone/recipe.shapes"], plainKeys := false, apart := false, laid := [("undertone/term.shapes", laid_undertone_term_shapes), ("undertone/recipe.shapes", laid_undertone_recipe_shapes)], narrowed := true }
def RecipeRunsUptoSaid : Prop := recipeRunsUptoRow.holds Tryd.pinned (OpenSpec.upto recipeRunsSpec)

/-- 'undertonelaw04.RecipeCans', WHERE WHAT IT READS IS OF BULK AT MOST 1048576: true; the input reads as it did. -/
def recipeCansUptoRow : OpenClaim := { program := "ytlckajnbmkkpeaadoor", sum := "601885e0932150e5301cb9356914c1085c219919b3c73b115225f50d3122e1f4", func := "undertone/undertonelaw04.RecipeCans", spec := "recipeCans", unfollowed := true, recurses := true, named := ["undertone/term.shapes", "undertone/recipe.shapes"], plainKeys := false, apart := false, laid := [("undertone/term.shapes", laid_undertone_term_shapes), ("undertone/recipe.shapes", laid_undertone_recipe_shapes)], narrowed := true }
def RecipeCansUptoSaid : Prop := recipeCansUptoRow.holds Tryd.pinned (OpenSpec.upto recipeCansSpec)

/-- 'undertonelaw04.RecipeHears', WHERE WHAT IT READS IS OF BULK AT MOST 1048576: true; the input reads as it did. -/
def recipeHearsUptoRow : OpenClaim := { program := "ytlckajnbmkkpeaadoor", sum := "601885e0932150e5301cb9356914c1085c219919b3c73b115225f50d3122e1f4", func := "undertone/undertonelaw04.RecipeHears", spec := "recipeHears", unfollowed := true, recurses := true, named := ["undertone/term.shapes", "undertone/recipe.shapes"], plainKeys := false, apart := false, laid := [("undertone/term.shapes", laid_undertone_term_shapes), ("undertone/recipe.shapes", laid_undertone_recipe_shapes)], narrowed := true }
def RecipeHearsUptoSaid : Prop := recipeHearsUptoRow.holds Tryd.pinned (OpenSpec.upto recipeHearsSpec)

/-- 'undertonelaw04.RecipeParts', WHERE WHAT IT READS IS OF BULK AT MOST 1048576: true; the input reads as it did. -/
def recipePartsUptoRow : OpenClaim := { program := "ytlckajnbmkkpeaadoor", sum := "601885e0932150e5301cb9356914c1085c219919b3c73b115225f50d3122e1f4", func := "undertone/undertonelaw04.RecipeParts", spec := "recipeParts", unfollowed := true, recurses := true, named := ["undertone/recipe.shapes", "undertone/term.shapes"], plainKeys := false, apart := false, laid := [("undertone/term.shapes", laid_undertone_term_shapes), ("undertone/recipe.shapes", laid_undertone_recipe_shapes)], narrowed := true }
def RecipePartsUptoSaid : Prop := recipePartsUptoRow.holds Tryd.pinned (OpenSpec.upto recipePartsSpec)

/-- 'undertonelaw04.RecipeJoins', WHERE WHAT IT READS IS OF BULK AT MOST 1048576: true; the input reads as it did. -/
def recipeJoinsUptoRow : OpenClaim := { program := "ytlckajnbmkkpeaadoor", sum := "601885e0932150e5301cb9356914c1085c219919b3c73b115225f50d3122e1f4", func := "undertone/undertonelaw04.RecipeJoins", spec := "recipeJoins", unfollowed := true, recurses := true, named := ["undertone/term.shapes", "undertone/recipe.shapes"], plainKeys := false, apart := false, laid := [("undertone/term.shapes", laid_undertone_term_shapes), ("undertone/recipe.shapes", laid_undertone_recipe_shapes)], narrowed := true }
def RecipeJoinsUptoSaid : Prop := recipeJoinsUptoRow.holds Tryd.pinned (OpenSpec.upto recipeJoinsSpec)

/-- 'undertonelaw04.RecipeAgain', WHERE WHAT IT READS IS OF BULK AT MOST 1048576: true; the input reads as it did. -/
def recipeAgainUptoRow : OpenClaim := { program := "ytlckajnbmkkpeaadoor", sum := "601885e0932150e5301cb9356914c1085c219919b3c73b115225f50d3122e1f4", func := "undertone/undertonelaw04.RecipeAgain", spec := "recipeAgain", unfollowed := true, recurses := true, named := ["undertone/term.shapes", "undertone/recipe.shapes"], plainKeys := false, apart := false, laid := [("undertone/term.shapes", laid_undertone_term_shapes), ("undertone/recipe.shapes", laid_undertone_recipe_shapes)], narrowed := true }
def RecipeAgainUptoSaid : Prop := recipeAgainUptoRow.holds Tryd.pinned (OpenSpec.upto recipeAgainSpec)

end Rows
end Go.Proofs.YtlckajnbmkkpeaaDoor
