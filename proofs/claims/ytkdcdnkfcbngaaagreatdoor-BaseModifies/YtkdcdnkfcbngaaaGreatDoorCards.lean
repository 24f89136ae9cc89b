/-
  DERIVED. GIVEN WITH THE SEED: THE CARDS: each row of YtkdcdnkfcbngaaaGreatDoorRows.lean that lists a variable, with what it lists TIED to the program's text (the seventh form; the later family's looks); each row that meets fmt, with fmt's text TOLD by the authors' own Lean function (tested against real Go, not proved from fmt's source: count such statements apart). THE CARD IS WHAT COUNTS. Prove the row's statement (the work); the ties are given (YtkdcdnkfcbngaaaGreatDoorTie.lean); close each card by the builder's one call (the guide's Derived/Test/ToyasCard.lean, 'card_holds'). Laid BY PROGRAM, IN A SANDBOX (cutbox-door.mjs). By AI agents, Wed Nov 11 2026. No macro, syntax, notation, axiom, sorry.
-/
import Derived.Test.YtkdcdnkfcbngaaaGreatDoorRows
import GoSem.ClaimSeven
namespace Go.Proofs.YtkdcdnkfcbngaaaGreatDoor
namespace Rows

/-- THE TIED CARD OF 'undertonelaw06.BaseModifies'. -/
def baseModifiesCard : Claim7 := { stood := { row := baseModifiesRow, standIns := [], harness := (true, "ffcb6d4532cf2e529d8c0ccf0d76adba31c9195069c40fd79104247ae9505696"), looks := false }, kinds := [], alts := [], laidByText := true, laidKinds := [.data, .data, .data, .data, .data, .data, .data, .pinned], laidTests := true, laidLooks := .later }
def BaseModifiesCardSaid : Prop := Claim7.holds Tryz.pinned (.plain (OpenSpec.ofChange baseModifiesSpec)) baseModifiesCard

/-- THE SECOND FORM's CARD OF 'undertonelaw06.BaseModifies'. -/
def baseModifiesUptoCard : Claim7 := { stood := { row := baseModifiesUptoRow, standIns := [], harness := (true, "ffcb6d4532cf2e529d8c0ccf0d76adba31c9195069c40fd79104247ae9505696"), looks := false }, kinds := [], alts := [], laidByText := true, laidKinds := [.data, .data, .data, .data, .data, .data, .data, .pinned], laidTests := true, laidLooks := .later }
def BaseModifiesUptoCardSaid : Prop := Claim7.holds Tryz.pinned (.plain (OpenSpec.upto baseModifiesSpec)) baseModifiesUptoCard
end Rows
end Go.Proofs.YtkdcdnkfcbngaaaGreatDoor
