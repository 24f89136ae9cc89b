/-
  DERIVED. GIVEN WITH THE SEED: THE CARDS: each row of YtmnmjekpndeemaaDoorRows.lean that lists a variable, with what it lists TIED to the program's text (the seventh form; the later family's looks); each row that meets fmt, with fmt's text TOLD by the authors' own Lean function (tested against real Go, not proved from fmt's source: count such statements apart). THE CARD IS WHAT COUNTS. Prove the row's statement (the work); the ties are given (YtmnmjekpndeemaaDoorTie.lean); close each card by the builder's one call (the guide's Derived/Test/ToyasCard.lean, 'card_holds'). Laid BY PROGRAM, IN A SANDBOX (cutbox-door.mjs). By AI agents, Wed Nov 11 2026. No macro, syntax, notation, axiom, sorry.
-/
import Derived.Test.YtmnmjekpndeemaaDoorRows
import GoSem.ClaimSeven
namespace Go.Proofs.YtmnmjekpndeemaaDoor
namespace Rows

/-- THE TIED CARD OF 'undertonelaw03.KnowLearns'. -/
def knowLearnsCard : Claim7 := { stood := { row := knowLearnsRow, standIns := [], harness := (true, "d00dc6ed167190dbeb5c877efb6687de6e492c4ac6a7450e349c400fabe1b38b"), looks := true }, kinds := [], alts := [], laidByText := true, laidKinds := [.data], laidTests := true, laidLooks := .later }
def KnowLearnsCardSaid : Prop := Claim7.holds Tryd.pinned (.plain (OpenSpec.ofChange knowLearnsSpec)) knowLearnsCard

/-- THE TIED CARD OF 'undertonelaw03.KnowCans'. -/
def knowCansCard : Claim7 := { stood := { row := knowCansRow, standIns := [], harness := (true, "d00dc6ed167190dbeb5c877efb6687de6e492c4ac6a7450e349c400fabe1b38b"), looks := true }, kinds := [], alts := [], laidByText := true, laidKinds := [.data], laidTests := true, laidLooks := .later }
def KnowCansCardSaid : Prop := Claim7.holds Tryd.pinned (.plain (OpenSpec.ofChange knowCansSpec)) knowCansCard

/-- THE TIED CARD OF 'undertonelaw03.KnowGrows'. -/
def knowGrowsCard : Claim7 := { stood := { row := knowGrowsRow, standIns := [], harness := (true, "d00dc6ed167190dbeb5c877efb6687de6e492c4ac6a7450e349c400fabe1b38b"), looks := true }, kinds := [], alts := [], laidByText := true, laidKinds := [.data], laidTests := true, laidLooks := .later }
def KnowGrowsCardSaid : Prop := Claim7.holds Tryd.pinned (.plain (OpenSpec.ofChange knowGrowsSpec)) knowGrowsCard

/-- THE TIED CARD OF 'undertonelaw03.KnowOrders'. -/
def knowOrdersCard : Claim7 := { stood := { row := knowOrdersRow, standIns := [], harness := (true, "d00dc6ed167190dbeb5c877efb6687de6e492c4ac6a7450e349c400fabe1b38b"), looks := true }, kinds := [], alts := [], laidByText := true, laidKinds := [.data], laidTests := true, laidLooks := .later }
def KnowOrdersCardSaid : Prop := Claim7.holds Tryd.pinned (.plain (OpenSpec.ofChange knowOrdersSpec)) knowOrdersCard

/-- THE TIED CARD OF 'undertonelaw03.KnowSeals'. -/
def knowSealsCard : Claim7 := { stood := { row := knowSealsRow, standIns := [], harness := (true, "d00dc6ed167190dbeb5c877efb6687de6e492c4ac6a7450e349c400fabe1b38b"), looks := true }, kinds := [], alts := [], laidByText := true, laidKinds := [.data], laidTests := true, laidLooks := .later }
def KnowSealsCardSaid : Prop := Claim7.holds Tryd.pinned (.plain (OpenSpec.ofChange knowSealsSpec)) knowSealsCard

/-- THE SECOND FORM's CARD OF 'undertonelaw03.KnowLearns'. -/
def knowLearnsUptoCard : Claim7 := { stood := { row := knowLearnsUptoRow, standIns := [], harness := (true, "d00dc6ed167190dbeb5c877efb6687de6e492c4ac6a7450e349c400fabe1b38b"), looks := true }, kinds := [], alts := [], laidByText := true, laidKinds := [.data], laidTests := true, laidLooks := .later }
def KnowLearnsUptoCardSaid : Prop := Claim7.holds Tryd.pinned (.plain (OpenSpec.upto knowLearnsSpec)) knowLearnsUptoCard

/-- THE SECOND FORM's CARD OF 'undertonelaw03.KnowCans'. -/
def knowCansUptoCard : Claim7 := { stood := { row := knowCansUptoRow, standIns := [], harness := (true, "d00dc6ed167190dbeb5c877efb6687de6e492c4ac6a7450e349c400fabe1b38b"), looks := true }, kinds := [], alts := [], laidByText := true, laidKinds := [.data], laidTests := true, laidLooks := .later }
def KnowCansUptoCardSaid : Prop := Claim7.holds Tryd.pinned (.plain (OpenSpec.upto knowCansSpec)) knowCansUptoCard

/-- THE SECOND FORM's CARD OF 'undertonelaw03.KnowGrows'. -/
def knowGrowsUptoCard : Claim7 := { stood := { row := knowGrowsUptoRow, standIns := [], harness := (true, "d00dc6ed167190dbeb5c877efb6687de6e492c4ac6a7450e349c400fabe1b38b"), looks := true }, kinds := [], alts := [], laidByText := true, laidKinds := [.data], laidTests := true, laidLooks := .later }
def KnowGrowsUptoCardSaid : Prop := Claim7.holds Tryd.pinned (.plain (OpenSpec.upto knowGrowsSpec)) knowGrowsUptoCard

/-- THE SECOND FORM's CARD OF 'undertonelaw03.KnowOrders'. -/
def knowOrdersUptoCard : Claim7 := { stood := { row := knowOrdersUptoRow, standIns := [], harness := (true, "d00dc6ed167190dbeb5c877efb6687de6e492c4ac6a7450e349c400fabe1b38b"), looks := true }, kinds := [], alts := [], laidByText := true, laidKinds := [.data], laidTests := true, laidLooks := .later }
def KnowOrdersUptoCardSaid : Prop := Claim7.holds Tryd.pinned (.plain (OpenSpec.upto knowOrdersSpec)) knowOrdersUptoCard

/-- THE SECOND FORM's CARD OF 'undertonelaw03.KnowSeals'. -/
def knowSealsUptoCard : Claim7 := { stood := { row := knowSealsUptoRow, standIns := [], harness := (true, "d00dc6ed167190dbeb5c877efb6687de6e492c4ac6a7450e349c400fabe1b38b"), looks := true }, kinds := [], alts := [], laidByText := true, laidKinds := [.data], laidTests := true, laidLooks := .later }
def KnowSealsUptoCardSaid : Prop := Claim7.holds Tryd.pinned (.plain (OpenSpec.upto knowSealsSpec)) knowSealsUptoCard
end Rows
end Go.Proofs.YtmnmjekpndeemaaDoor
