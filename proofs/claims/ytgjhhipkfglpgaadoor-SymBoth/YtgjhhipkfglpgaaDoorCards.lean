/-
  DERIVED. GIVEN WITH THE SEED: THE CARDS: each row of YtgjhhipkfglpgaaDoorRows.lean that lists a variable, with what it lists TIED to the program's text (the seventh form; the later family's looks); each row that meets fmt, with fmt's text TOLD by the authors' own Lean function (tested against real Go, not proved from fmt's source: count such statements apart). THE CARD IS WHAT COUNTS. Prove the row's statement (the work); the ties are given (YtgjhhipkfglpgaaDoorTie.lean); close each card by the builder's one call (the guide's Derived/Test/ToyasCard.lean, 'card_holds'). Laid BY PROGRAM, IN A SANDBOX (cutbox-door.mjs). By AI agents, Wed Nov 11 2026. No macro, syntax, notation, axiom, sorry.
-/
import Derived.Test.YtgjhhipkfglpgaaDoorRows
import GoSem.ClaimSeven
namespace Go.Proofs.YtgjhhipkfglpgaaDoor
namespace Rows

/-- THE TIED CARD OF 'undertonelaw11.SymBoth'. -/
def symBothCard : Claim7 := { stood := { row := symBothRow, standIns := [], harness := (true, "1c22a97f87f783460ea18d0ca3b9d1139acb4602d362498a11a7e0c6a62a180c"), looks := false }, kinds := [], alts := [], laidByText := true, laidKinds := [.data], laidTests := true, laidLooks := .later }
def SymBothCardSaid : Prop := Claim7.holds Tryd.pinned (.plain (OpenSpec.ofChange symBothSpec)) symBothCard

/-- THE TIED CARD OF 'undertonelaw11.SymApart'. -/
def symApartCard : Claim7 := { stood := { row := symApartRow, standIns := [], harness := (true, "1c22a97f87f783460ea18d0ca3b9d1139acb4602d362498a11a7e0c6a62a180c"), looks := false }, kinds := [], alts := [], laidByText := true, laidKinds := [.data], laidTests := true, laidLooks := .later }
def SymApartCardSaid : Prop := Claim7.holds Tryd.pinned (.plain (OpenSpec.ofChange symApartSpec)) symApartCard

/-- THE TIED CARD OF 'undertonelaw11.SymNames'. -/
def symNamesCard : Claim7 := { stood := { row := symNamesRow, standIns := [], harness := (true, "1c22a97f87f783460ea18d0ca3b9d1139acb4602d362498a11a7e0c6a62a180c"), looks := false }, kinds := [], alts := [], laidByText := true, laidKinds := [.data], laidTests := true, laidLooks := .later }
def SymNamesCardSaid : Prop := Claim7.holds Tryd.pinned (.plain (OpenSpec.ofChange symNamesSpec)) symNamesCard

/-- THE TIED CARD OF 'undertonelaw11.SymSplits'. -/
def symSplitsCard : Claim7 := { stood := { row := symSplitsRow, standIns := [], harness := (true, "1c22a97f87f783460ea18d0ca3b9d1139acb4602d362498a11a7e0c6a62a180c"), looks := false }, kinds := [], alts := [], laidByText := true, laidKinds := [.data], laidTests := true, laidLooks := .later }
def SymSplitsCardSaid : Prop := Claim7.holds Tryd.pinned (.plain (OpenSpec.ofChange symSplitsSpec)) symSplitsCard

/-- THE SECOND FORM's CARD OF 'undertonelaw11.SymBoth'. -/
def symBothUptoCard : Claim7 := { stood := { row := symBothUptoRow, standIns := [], harness := (true, "1c22a97f87f783460ea18d0ca3b9d1139acb4602d362498a11a7e0c6a62a180c"), looks := false }, kinds := [], alts := [], laidByText := true, laidKinds := [.data], laidTests := true, laidLooks := .later }
def SymBothUptoCardSaid : Prop := Claim7.holds Tryd.pinned (.plain (OpenSpec.upto symBothSpec)) symBothUptoCard

/-- THE SECOND FORM's CARD OF 'undertonelaw11.SymApart'. -/
def symApartUptoCard : Claim7 := { stood := { row := symApartUptoRow, standIns := [], harness := (true, "1c22a97f87f783460ea18d0ca3b9d1139acb4602d362498a11a7e0c6a62a180c"), looks := false }, kinds := [], alts := [], laidByText := true, laidKinds := [.data], laidTests := true, laidLooks := .later }
def SymApartUptoCardSaid : Prop := Claim7.holds Tryd.pinned (.plain (OpenSpec.upto symApartSpec)) symApartUptoCard

/-- THE SECOND FORM's CARD OF 'undertonelaw11.SymNames'. -/
def symNamesUptoCard : Claim7 := { stood := { row := symNamesUptoRow, standIns := [], harness := (true, "1c22a97f87f783460ea18d0ca3b9d1139acb4602d362498a11a7e0c6a62a180c"), looks := false }, kinds := [], alts := [], laidByText := true, laidKinds := [.data], laidTests := true, laidLooks := .later }
def SymNamesUptoCardSaid : Prop := Claim7.holds Tryd.pinned (.plain (OpenSpec.upto symNamesSpec)) symNamesUptoCard

/-- THE SECOND FORM's CARD OF 'undertonelaw11.SymSplits'. -/
def symSplitsUptoCard : Claim7 := { stood := { row := symSplitsUptoRow, standIns := [], harness := (true, "1c22a97f87f783460ea18d0ca3b9d1139acb4602d362498a11a7e0c6a62a180c"), looks := false }, kinds := [], alts := [], laidByText := true, laidKinds := [.data], laidTests := true, laidLooks := .later }
def SymSplitsUptoCardSaid : Prop := Claim7.holds Tryd.pinned (.plain (OpenSpec.upto symSplitsSpec)) symSplitsUptoCard
end Rows
end Go.Proofs.YtgjhhipkfglpgaaDoor
