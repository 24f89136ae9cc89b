/-
  DERIVED. GIVEN WITH THE SEED: THE CARDS: each row of YtlckajnbmkkpeaaDoorRows.lean that lists a variable, with what it lists TIED to the program's text (the seventh form; the later family's looks); each row that meets fmt, with fmt's text TOLD by the authors' own Lean function (tested against real Go, not proved from fmt's source: count such statements apart). THE CARD IS WHAT COUNTS. Prove the row's statement (the work); the ties are given (YtlckajnbmkkpeaaDoorTie.lean); close each card by the builder's one call (the guide's Derived/Test/ToyasCard.lean, 'card_holds'). Laid BY PROGRAM, IN A SANDBOX (cutbox-door.mjs). By AI agents, Wed Nov 11 2026. No macro, syntax, notation, axiom, sorry.
-/
import Derived.Test.YtlckajnbmkkpeaaDoorRows
import GoSem.ClaimSeven
namespace Go.Proofs.YtlckajnbmkkpeaaDoor
namespace Rows

/-- THE TIED CARD OF 'undertonelaw03.KnowLearns'. -/
def knowLearnsCard : Claim7 := { stood := { row := knowLearnsRow, standIns := [], harness := (true, "f882e8047418d9cea6313e341d706e2d7d2bdeb3dc6a094627cc7546e75cfe21"), looks := true }, kinds := [], alts := [], laidByText := true, laidKinds := [.data], laidTests := true, laidLooks := .later }
def KnowLearnsCardSaid : Prop := Claim7.holds Tryd.pinned (.plain (OpenSpec.ofChange knowLearnsSpec)) knowLearnsCard

/-- THE TIED CARD OF 'undertonelaw03.KnowGrows'. -/
def knowGrowsCard : Claim7 := { stood := { row := knowGrowsRow, standIns := [], harness := (true, "f882e8047418d9cea6313e341d706e2d7d2bdeb3dc6a094627cc7546e75cfe21"), looks := true }, kinds := [], alts := [], laidByText := true, laidKinds := [.data], laidTests := true, laidLooks := .later }
def KnowGrowsCardSaid : Prop := Claim7.holds Tryd.pinned (.plain (OpenSpec.ofChange knowGrowsSpec)) knowGrowsCard

/-- THE TIED CARD OF 'undertonelaw03.KnowNothing'. -/
def knowNothingCard : Claim7 := { stood := { row := knowNothingRow, standIns := [], harness := (true, "f882e8047418d9cea6313e341d706e2d7d2bdeb3dc6a094627cc7546e75cfe21"), looks := true }, kinds := [], alts := [], laidByText := true, laidKinds := [.data], laidTests := true, laidLooks := .later }
def KnowNothingCardSaid : Prop := Claim7.holds Tryd.pinned (.plain (OpenSpec.ofChange knowNothingSpec)) knowNothingCard

/-- THE TIED CARD OF 'undertonelaw04.RecipeRuns'. -/
def recipeRunsCard : Claim7 := { stood := { row := recipeRunsRow, standIns := [], harness := (true, "f882e8047418d9cea6313e341d706e2d7d2bdeb3dc6a094627cc7546e75cfe21"), looks := true }, kinds := [], alts := [], laidByText := true, laidKinds := [.data, .data], laidTests := true, laidLooks := .later }
def RecipeRunsCardSaid : Prop := Claim7.holds Tryd.pinned (.plain (OpenSpec.ofChange recipeRunsSpec)) recipeRunsCard

/-- THE TIED CARD OF 'undertonelaw04.RecipeCans'. -/
def recipeCansCard : Claim7 := { stood := { row := recipeCansRow, standIns := [], harness := (true, "f882e8047418d9cea6313e341d706e2d7d2bdeb3dc6a094627cc7546e75cfe21"), looks := true }, kinds := [], alts := [], laidByText := true, laidKinds := [.data, .data], laidTests := true, laidLooks := .later }
def RecipeCansCardSaid : Prop := Claim7.holds Tryd.pinned (.plain (OpenSpec.ofChange recipeCansSpec)) recipeCansCard

/-- THE TIED CARD OF 'undertonelaw04.RecipeHears'. -/
def recipeHearsCard : Claim7 := { stood := { row := recipeHearsRow, standIns := [], harness := (true, "f882e8047418d9cea6313e341d706e2d7d2bdeb3dc6a094627cc7546e75cfe21"), looks := true }, kinds := [], alts := [], laidByText := true, laidKinds := [.data, .data], laidTests := true, laidLooks := .later }
def RecipeHearsCardSaid : Prop := Claim7.holds Tryd.pinned (.plain (OpenSpec.ofChange recipeHearsSpec)) recipeHearsCard

/-- THE TIED CARD OF 'undertonelaw04.RecipeParts'. -/
def recipePartsCard : Claim7 := { stood := { row := recipePartsRow, standIns := [], harness := (true, "f882e8047418d9cea6313e341d706e2d7d2bdeb3dc6a094627cc7546e75cfe21"), looks := true }, kinds := [], alts := [], laidByText := true, laidKinds := [.data, .data], laidTests := true, laidLooks := .later }
def RecipePartsCardSaid : Prop := Claim7.holds Tryd.pinned (.plain (OpenSpec.ofChange recipePartsSpec)) recipePartsCard

/-- THE TIED CARD OF 'undertonelaw04.RecipeJoins'. -/
def recipeJoinsCard : Claim7 := { stood := { row := recipeJoinsRow, standIns := [], harness := (true, "f882e8047418d9cea6313e341d706e2d7d2bdeb3dc6a094627cc7546e75cfe21"), looks := true }, kinds := [], alts := [], laidByText := true, laidKinds := [.data, .data], laidTests := true, laidLooks := .later }
def RecipeJoinsCardSaid : Prop := Claim7.holds Tryd.pinned (.plain (OpenSpec.ofChange recipeJoinsSpec)) recipeJoinsCard

/-- THE TIED CARD OF 'undertonelaw04.RecipeAgain'. -/
def recipeAgainCard : Claim7 := { stood := { row := recipeAgainRow, standIns := [], harness := (true, "f882e8047418d9cea6313e341d706e2d7d2bdeb3dc6a094627cc7546e75cfe21"), looks := true }, kinds := [], alts := [], laidByText := true, laidKinds := [.data, .data], laidTests := true, laidLooks := .later }
def RecipeAgainCardSaid : Prop := Claim7.holds Tryd.pinned (.plain (OpenSpec.ofChange recipeAgainSpec)) recipeAgainCard

/-- THE SECOND FORM's CARD OF 'undertonelaw03.KnowLearns'. -/
def knowLearnsUptoCard : Claim7 := { stood := { row := knowLearnsUptoRow, standIns := [], harness := (true, "f882e8047418d9cea6313e341d706e2d7d2bdeb3dc6a094627cc7546e75cfe21"), looks := true }, kinds := [], alts := [], laidByText := true, laidKinds := [.data], laidTests := true, laidLooks := .later }
def KnowLearnsUptoCardSaid : Prop := Claim7.holds Tryd.pinned (.plain (OpenSpec.upto knowLearnsSpec)) knowLearnsUptoCard

/-- THE SECOND FORM's CARD OF 'undertonelaw03.KnowGrows'. -/
def knowGrowsUptoCard : Claim7 := { stood := { row := knowGrowsUptoRow, standIns := [], harness := (true, "f882e8047418d9cea6313e341d706e2d7d2bdeb3dc6a094627cc7546e75cfe21"), looks := true }, kinds := [], alts := [], laidByText := true, laidKinds := [.data], laidTests := true, laidLooks := .later }
def KnowGrowsUptoCardSaid : Prop := Claim7.holds Tryd.pinned (.plain (OpenSpec.upto knowGrowsSpec)) knowGrowsUptoCard

/-- THE SECOND FORM's CARD OF 'undertonelaw03.KnowNothing'. -/
def knowNothingUptoCard : Claim7 := { stood := { row := knowNothingUptoRow, standIns := [], harness := (true, "f882e8047418d9cea6313e341d706e2d7d2bdeb3dc6a094627cc7546e75cfe21"), looks := true }, kinds := [], alts := [], laidByText := true, laidKinds := [.data], laidTests := true, laidLooks := .later }
def KnowNothingUptoCardSaid : Prop := Claim7.holds Tryd.pinned (.plain (OpenSpec.upto knowNothingSpec)) knowNothingUptoCard

/-- THE SECOND FORM's CARD OF 'undertonelaw04.RecipeRuns'. -/
def recipeRunsUptoCard : Claim7 := { stood := { row := recipeRunsUptoRow, standIns := [], harness := (true, "f882e8047418d9cea6313e341d706e2d7d2bdeb3dc6a094627cc7546e75cfe21"), looks := true }, kinds := [], alts := [], laidByText := true, laidKinds := [.data, .data], laidTests := true, laidLooks := .later }
def RecipeRunsUptoCardSaid : Prop := Claim7.holds Tryd.pinned (.plain (OpenSpec.upto recipeRunsSpec)) recipeRunsUptoCard

/-- THE SECOND FORM's CARD OF 'undertonelaw04.RecipeCans'. -/
def recipeCansUptoCard : Claim7 := { stood := { row := recipeCansUptoRow, standIns := [], harness := (true, "f882e8047418d9cea6313e341d706e2d7d2bdeb3dc6a094627cc7546e75cfe21"), looks := true }, kinds := [], alts := [], laidByText := true, laidKinds := [.data, .data], laidTests := true, laidLooks := .later }
def RecipeCansUptoCardSaid : Prop := Claim7.holds Tryd.pinned (.plain (OpenSpec.upto recipeCansSpec)) recipeCansUptoCard

/-- THE SECOND FORM's CARD OF 'undertonelaw04.RecipeHears'. -/
def recipeHearsUptoCard : Claim7 := { stood := { row := recipeHearsUptoRow, standIns := [], harness := (true, "f882e8047418d9cea6313e341d706e2d7d2bdeb3dc6a094627cc7546e75cfe21"), looks := true }, kinds := [], alts := [], laidByText := true, laidKinds := [.data, .data], laidTests := true, laidLooks := .later }
def RecipeHearsUptoCardSaid : Prop := Claim7.holds Tryd.pinned (.plain (OpenSpec.upto recipeHearsSpec)) recipeHearsUptoCard

/-- THE SECOND FORM's CARD OF 'undertonelaw04.RecipeParts'. -/
def recipePartsUptoCard : Claim7 := { stood := { row := recipePartsUptoRow, standIns := [], harness := (true, "f882e8047418d9cea6313e341d706e2d7d2bdeb3dc6a094627cc7546e75cfe21"), looks := true }, kinds := [], alts := [], laidByText := true, laidKinds := [.data, .data], laidTests := true, laidLooks := .later }
def RecipePartsUptoCardSaid : Prop := Claim7.holds Tryd.pinned (.plain (OpenSpec.upto recipePartsSpec)) recipePartsUptoCard

/-- THE SECOND FORM's CARD OF 'undertonelaw04.RecipeJoins'. -/
def recipeJoinsUptoCard : Claim7 := { stood := { row := recipeJoinsUptoRow, standIns := [], harness := (true, "f882e8047418d9cea6313e341d706e2d7d2bdeb3dc6a094627cc7546e75cfe21"), looks := true }, kinds := [], alts := [], laidByText := true, laidKinds := [.data, .data], laidTests := true, laidLooks := .later }
def RecipeJoinsUptoCardSaid : Prop := Claim7.holds Tryd.pinned (.plain (OpenSpec.upto recipeJoinsSpec)) recipeJoinsUptoCard

/-- THE SECOND FORM's CARD OF 'undertonelaw04.RecipeAgain'. -/
def recipeAgainUptoCard : Claim7 := { stood := { row := recipeAgainUptoRow, standIns := [], harness := (true, "f882e8047418d9cea6313e341d706e2d7d2bdeb3dc6a094627cc7546e75cfe21"), looks := true }, kinds := [], alts := [], laidByText := true, laidKinds := [.data, .data], laidTests := true, laidLooks := .later }
def RecipeAgainUptoCardSaid : Prop := Claim7.holds Tryd.pinned (.plain (OpenSpec.upto recipeAgainSpec)) recipeAgainUptoCard
end Rows
end Go.Proofs.YtlckajnbmkkpeaaDoor
