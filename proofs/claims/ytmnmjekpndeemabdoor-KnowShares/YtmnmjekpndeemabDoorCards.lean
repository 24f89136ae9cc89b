/-
  DERIVED. GIVEN WITH THE SEED: THE CARDS: each row of YtmnmjekpndeemabDoorRows.lean that lists a variable, with what it lists TIED to the program's text (the seventh form; the later family's looks); each row that meets fmt, with fmt's text TOLD by the authors' own Lean function (tested against real Go, not proved from fmt's source: count such statements apart). THE CARD IS WHAT COUNTS. Prove the row's statement (the work); the ties are given (YtmnmjekpndeemabDoorTie.lean); close each card by the builder's one call (the guide's Derived/Test/ToyasCard.lean, 'card_holds'). Laid BY PROGRAM, IN A SANDBOX (cutbox-door.mjs). By AI agents, Wed Nov 11 2026. No macro, syntax, notation, axiom, sorry.
-/
import Derived.Test.YtmnmjekpndeemabDoorRows
import GoSem.ClaimSeven
namespace Go.Proofs.YtmnmjekpndeemabDoor
namespace Rows

/-- THE TIED CARD OF 'undertonelaw03.KnowNothing'. -/
def knowNothingCard : Claim7 := { stood := { row := knowNothingRow, standIns := [], harness := (true, "3445e142f82d053811fdaa1f9813cd19afbd85d7603fc66c9f0c385704baf690"), looks := false }, kinds := [], alts := [], laidByText := true, laidKinds := [.data], laidTests := true, laidLooks := .later }
def KnowNothingCardSaid : Prop := Claim7.holds Tryd.pinned (.plain (OpenSpec.ofChange knowNothingSpec)) knowNothingCard

/-- THE TIED CARD OF 'undertonelaw03.KnowAll'. -/
def knowAllCard : Claim7 := { stood := { row := knowAllRow, standIns := [], harness := (true, "3445e142f82d053811fdaa1f9813cd19afbd85d7603fc66c9f0c385704baf690"), looks := false }, kinds := [], alts := [], laidByText := true, laidKinds := [.data], laidTests := true, laidLooks := .later }
def KnowAllCardSaid : Prop := Claim7.holds Tryd.pinned (.plain (OpenSpec.ofChange knowAllSpec)) knowAllCard

/-- THE TIED CARD OF 'undertonelaw03.KnowShares'. -/
def knowSharesCard : Claim7 := { stood := { row := knowSharesRow, standIns := [], harness := (true, "3445e142f82d053811fdaa1f9813cd19afbd85d7603fc66c9f0c385704baf690"), looks := false }, kinds := [], alts := [], laidByText := true, laidKinds := [.data], laidTests := true, laidLooks := .later }
def KnowSharesCardSaid : Prop := Claim7.holds Tryd.pinned (.plain (OpenSpec.ofChange knowSharesSpec)) knowSharesCard

/-- THE SECOND FORM's CARD OF 'undertonelaw03.KnowNothing'. -/
def knowNothingUptoCard : Claim7 := { stood := { row := knowNothingUptoRow, standIns := [], harness := (true, "3445e142f82d053811fdaa1f9813cd19afbd85d7603fc66c9f0c385704baf690"), looks := false }, kinds := [], alts := [], laidByText := true, laidKinds := [.data], laidTests := true, laidLooks := .later }
def KnowNothingUptoCardSaid : Prop := Claim7.holds Tryd.pinned (.plain (OpenSpec.upto knowNothingSpec)) knowNothingUptoCard

/-- THE SECOND FORM's CARD OF 'undertonelaw03.KnowAll'. -/
def knowAllUptoCard : Claim7 := { stood := { row := knowAllUptoRow, standIns := [], harness := (true, "3445e142f82d053811fdaa1f9813cd19afbd85d7603fc66c9f0c385704baf690"), looks := false }, kinds := [], alts := [], laidByText := true, laidKinds := [.data], laidTests := true, laidLooks := .later }
def KnowAllUptoCardSaid : Prop := Claim7.holds Tryd.pinned (.plain (OpenSpec.upto knowAllSpec)) knowAllUptoCard

/-- THE SECOND FORM's CARD OF 'undertonelaw03.KnowShares'. -/
def knowSharesUptoCard : Claim7 := { stood := { row := knowSharesUptoRow, standIns := [], harness := (true, "3445e142f82d053811fdaa1f9813cd19afbd85d7603fc66c9f0c385704baf690"), looks := false }, kinds := [], alts := [], laidByText := true, laidKinds := [.data], laidTests := true, laidLooks := .later }
def KnowSharesUptoCardSaid : Prop := Claim7.holds Tryd.pinned (.plain (OpenSpec.upto knowSharesSpec)) knowSharesUptoCard
end Rows
end Go.Proofs.YtmnmjekpndeemabDoor
