/-
  DERIVED. GIVEN WITH THE SEED: THE CARDS: each row of YtemjhhjalnlmlaaDoorRows.lean that lists a variable, with what it lists TIED to the program's text (the seventh form; the later family's looks); each row that meets fmt, with fmt's text TOLD by the authors' own Lean function (tested against real Go, not proved from fmt's source: count such statements apart). THE CARD IS WHAT COUNTS. Prove the row's statement (the work); the ties are given (YtemjhhjalnlmlaaDoorTie.lean); close each card by the builder's one call (the guide's Derived/Test/ToyasCard.lean, 'card_holds'). Laid BY PROGRAM, IN A SANDBOX (cutbox-door.mjs). By AI agents, Wed Nov 11 2026. No macro, syntax, notation, axiom, sorry.
-/
import Derived.Test.YtemjhhjalnlmlaaDoorRows
import GoSem.ClaimSeven
namespace Go.Proofs.YtemjhhjalnlmlaaDoor
namespace Rows

/-- THE TIED CARD OF 'undertonelaw01.TermMakes'. -/
def termMakesCard : Claim7 := { stood := { row := termMakesRow, standIns := [], harness := (true, "dfcf2ad8f84366647f23d81258249eac52976e41ccc87fa51846aab5cd96954b"), looks := true }, kinds := [], alts := [], laidByText := true, laidKinds := [.data], laidTests := true, laidLooks := .later }
def TermMakesCardSaid : Prop := Claim7.holds Tryd.pinned (.plain (OpenSpec.ofChange termMakesSpec)) termMakesCard

/-- THE TIED CARD OF 'undertonelaw01.TermCompares'. -/
def termComparesCard : Claim7 := { stood := { row := termComparesRow, standIns := [], harness := (true, "dfcf2ad8f84366647f23d81258249eac52976e41ccc87fa51846aab5cd96954b"), looks := true }, kinds := [], alts := [], laidByText := true, laidKinds := [.data], laidTests := true, laidLooks := .later }
def TermComparesCardSaid : Prop := Claim7.holds Tryd.pinned (.plain (OpenSpec.ofChange termComparesSpec)) termComparesCard

/-- THE TIED CARD OF 'undertonelaw01.TermShares'. -/
def termSharesCard : Claim7 := { stood := { row := termSharesRow, standIns := [], harness := (true, "dfcf2ad8f84366647f23d81258249eac52976e41ccc87fa51846aab5cd96954b"), looks := true }, kinds := [], alts := [], laidByText := true, laidKinds := [.data], laidTests := true, laidLooks := .later }
def TermSharesCardSaid : Prop := Claim7.holds Tryd.pinned (.plain (OpenSpec.ofChange termSharesSpec)) termSharesCard

/-- THE TIED CARD OF 'undertonelaw01.TermCopies'. -/
def termCopiesCard : Claim7 := { stood := { row := termCopiesRow, standIns := [], harness := (true, "dfcf2ad8f84366647f23d81258249eac52976e41ccc87fa51846aab5cd96954b"), looks := true }, kinds := [], alts := [], laidByText := true, laidKinds := [.data], laidTests := true, laidLooks := .later }
def TermCopiesCardSaid : Prop := Claim7.holds Tryd.pinned (.plain (OpenSpec.ofChange termCopiesSpec)) termCopiesCard

/-- THE TIED CARD OF 'undertonelaw01.TermFinds'. -/
def termFindsCard : Claim7 := { stood := { row := termFindsRow, standIns := [], harness := (true, "dfcf2ad8f84366647f23d81258249eac52976e41ccc87fa51846aab5cd96954b"), looks := true }, kinds := [], alts := [], laidByText := true, laidKinds := [.data], laidTests := true, laidLooks := .later }
def TermFindsCardSaid : Prop := Claim7.holds Tryd.pinned (.plain (OpenSpec.ofChange termFindsSpec)) termFindsCard

/-- THE TIED CARD OF 'undertonelaw01.TermGrows'. -/
def termGrowsCard : Claim7 := { stood := { row := termGrowsRow, standIns := [], harness := (true, "dfcf2ad8f84366647f23d81258249eac52976e41ccc87fa51846aab5cd96954b"), looks := true }, kinds := [], alts := [], laidByText := true, laidKinds := [.data], laidTests := true, laidLooks := .later }
def TermGrowsCardSaid : Prop := Claim7.holds Tryd.pinned (.plain (OpenSpec.ofChange termGrowsSpec)) termGrowsCard

/-- THE TIED CARD OF 'undertonelaw01.TermOdds'. -/
def termOddsCard : Claim7 := { stood := { row := termOddsRow, standIns := [], harness := (true, "dfcf2ad8f84366647f23d81258249eac52976e41ccc87fa51846aab5cd96954b"), looks := true }, kinds := [], alts := [], laidByText := true, laidKinds := [.data], laidTests := true, laidLooks := .later }
def TermOddsCardSaid : Prop := Claim7.holds Tryd.pinned (.plain (OpenSpec.ofChange termOddsSpec)) termOddsCard

/-- THE TIED CARD OF 'undertonelaw01.TermNumbers'. -/
def termNumbersCard : Claim7 := { stood := { row := termNumbersRow, standIns := [], harness := (true, "dfcf2ad8f84366647f23d81258249eac52976e41ccc87fa51846aab5cd96954b"), looks := true }, kinds := [], alts := [], laidByText := true, laidKinds := [.data], laidTests := true, laidLooks := .later }
def TermNumbersCardSaid : Prop := Claim7.holds Tryd.pinned (.plain (OpenSpec.ofChange termNumbersSpec)) termNumbersCard

/-- THE SECOND FORM's CARD OF 'undertonelaw01.TermMakes'. -/
def termMakesUptoCard : Claim7 := { stood := { row := termMakesUptoRow, standIns := [], harness := (true, "dfcf2ad8f84366647f23d81258249eac52976e41ccc87fa51846aab5cd96954b"), looks := true }, kinds := [], alts := [], laidByText := true, laidKinds := [.data], laidTests := true, laidLooks := .later }
def TermMakesUptoCardSaid : Prop := Claim7.holds Tryd.pinned (.plain (OpenSpec.upto termMakesSpec)) termMakesUptoCard

/-- THE SECOND FORM's CARD OF 'undertonelaw01.TermCompares'. -/
def termComparesUptoCard : Claim7 := { stood := { row := termComparesUptoRow, standIns := [], harness := (true, "dfcf2ad8f84366647f23d81258249eac52976e41ccc87fa51846aab5cd96954b"), looks := true }, kinds := [], alts := [], laidByText := true, laidKinds := [.data], laidTests := true, laidLooks := .later }
def TermComparesUptoCardSaid : Prop := Claim7.holds Tryd.pinned (.plain (OpenSpec.upto termComparesSpec)) termComparesUptoCard

/-- THE SECOND FORM's CARD OF 'undertonelaw01.TermShares'. -/
def termSharesUptoCard : Claim7 := { stood := { row := termSharesUptoRow, standIns := [], harness := (true, "dfcf2ad8f84366647f23d81258249eac52976e41ccc87fa51846aab5cd96954b"), looks := true }, kinds := [], alts := [], laidByText := true, laidKinds := [.data], laidTests := true, laidLooks := .later }
def TermSharesUptoCardSaid : Prop := Claim7.holds Tryd.pinned (.plain (OpenSpec.upto termSharesSpec)) termSharesUptoCard

/-- THE SECOND FORM's CARD OF 'undertonelaw01.TermCopies'. -/
def termCopiesUptoCard : Claim7 := { stood := { row := termCopiesUptoRow, standIns := [], harness := (true, "dfcf2ad8f84366647f23d81258249eac52976e41ccc87fa51846aab5cd96954b"), looks := true }, kinds := [], alts := [], laidByText := true, laidKinds := [.data], laidTests := true, laidLooks := .later }
def TermCopiesUptoCardSaid : Prop := Claim7.holds Tryd.pinned (.plain (OpenSpec.upto termCopiesSpec)) termCopiesUptoCard

/-- THE SECOND FORM's CARD OF 'undertonelaw01.TermFinds'. -/
def termFindsUptoCard : Claim7 := { stood := { row := termFindsUptoRow, standIns := [], harness := (true, "dfcf2ad8f84366647f23d81258249eac52976e41ccc87fa51846aab5cd96954b"), looks := true }, kinds := [], alts := [], laidByText := true, laidKinds := [.data], laidTests := true, laidLooks := .later }
def TermFindsUptoCardSaid : Prop := Claim7.holds Tryd.pinned (.plain (OpenSpec.upto termFindsSpec)) termFindsUptoCard

/-- THE SECOND FORM's CARD OF 'undertonelaw01.TermGrows'. -/
def termGrowsUptoCard : Claim7 := { stood := { row := termGrowsUptoRow, standIns := [], harness := (true, "dfcf2ad8f84366647f23d81258249eac52976e41ccc87fa51846aab5cd96954b"), looks := true }, kinds := [], alts := [], laidByText := true, laidKinds := [.data], laidTests := true, laidLooks := .later }
def TermGrowsUptoCardSaid : Prop := Claim7.holds Tryd.pinned (.plain (OpenSpec.upto termGrowsSpec)) termGrowsUptoCard

/-- THE SECOND FORM's CARD OF 'undertonelaw01.TermOdds'. -/
def termOddsUptoCard : Claim7 := { stood := { row := termOddsUptoRow, standIns := [], harness := (true, "dfcf2ad8f84366647f23d81258249eac52976e41ccc87fa51846aab5cd96954b"), looks := true }, kinds := [], alts := [], laidByText := true, laidKinds := [.data], laidTests := true, laidLooks := .later }
def TermOddsUptoCardSaid : Prop := Claim7.holds Tryd.pinned (.plain (OpenSpec.upto termOddsSpec)) termOddsUptoCard

/-- THE SECOND FORM's CARD OF 'undertonelaw01.TermNumbers'. -/
def termNumbersUptoCard : Claim7 := { stood := { row := termNumbersUptoRow, standIns := [], harness := (true, "dfcf2ad8f84366647f23d81258249eac52976e41ccc87fa51846aab5cd96954b"), looks := true }, kinds := [], alts := [], laidByText := true, laidKinds := [.data], laidTests := true, laidLooks := .later }
def TermNumbersUptoCardSaid : Prop := Claim7.holds Tryd.pinned (.plain (OpenSpec.upto termNumbersSpec)) termNumbersUptoCard
end Rows
end Go.Proofs.YtemjhhjalnlmlaaDoor
