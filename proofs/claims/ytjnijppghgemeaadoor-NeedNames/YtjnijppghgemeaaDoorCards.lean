/-
  DERIVED. GIVEN WITH THE SEED: THE CARDS: each row of YtjnijppghgemeaaDoorRows.lean that lists a variable, with what it lists TIED to the program's text (the seventh form; the later family's looks); each row that meets fmt, with fmt's text TOLD by the authors' own Lean function (tested against real Go, not proved from fmt's source: count such statements apart). THE CARD IS WHAT COUNTS. Prove the row's statement (the work); the ties are given (YtjnijppghgemeaaDoorTie.lean); close each card by the builder's one call (the guide's Derived/Test/ToyasCard.lean, 'card_holds'). Laid BY PROGRAM, IN A SANDBOX (cutbox-door.mjs). By AI agents, Wed Nov 11 2026. No macro, syntax, notation, axiom, sorry.
-/
import Derived.Test.YtjnijppghgemeaaDoorRows
import GoSem.ClaimSeven
namespace Go.Proofs.YtjnijppghgemeaaDoor
namespace Rows

/-- THE TIED CARD OF 'undertonelaw08.NeedKeys'. -/
def needKeysCard : Claim7 := { stood := { row := needKeysRow, standIns := [], harness := (true, "e281f3c3a10fea7cd8debe772f635a7cbca893572d3cb7dd800431e33873283e"), looks := false }, kinds := [], alts := [], laidByText := true, laidKinds := [.data, .data, .data, .data, .data, .pinned], laidTests := true, laidLooks := .later }
def NeedKeysCardSaid : Prop := Claim7.holds Tryd.pinned (.plain (OpenSpec.ofChange needKeysSpec)) needKeysCard

/-- THE TIED CARD OF 'undertonelaw08.NeedEnough'. -/
def needEnoughCard : Claim7 := { stood := { row := needEnoughRow, standIns := [], harness := (true, "e281f3c3a10fea7cd8debe772f635a7cbca893572d3cb7dd800431e33873283e"), looks := false }, kinds := [], alts := [], laidByText := true, laidKinds := [.data, .data, .data, .data, .data, .pinned], laidTests := true, laidLooks := .later }
def NeedEnoughCardSaid : Prop := Claim7.holds Tryd.pinned (.plain (OpenSpec.ofChange needEnoughSpec)) needEnoughCard

/-- THE TIED CARD OF 'undertonelaw08.NeedBoth'. -/
def needBothCard : Claim7 := { stood := { row := needBothRow, standIns := [], harness := (true, "e281f3c3a10fea7cd8debe772f635a7cbca893572d3cb7dd800431e33873283e"), looks := false }, kinds := [], alts := [], laidByText := true, laidKinds := [.data, .data, .data, .data, .data, .pinned], laidTests := true, laidLooks := .later }
def NeedBothCardSaid : Prop := Claim7.holds Tryd.pinned (.plain (OpenSpec.ofChange needBothSpec)) needBothCard

/-- THE TIED CARD OF 'undertonelaw08.NeedMore'. -/
def needMoreCard : Claim7 := { stood := { row := needMoreRow, standIns := [], harness := (true, "e281f3c3a10fea7cd8debe772f635a7cbca893572d3cb7dd800431e33873283e"), looks := false }, kinds := [], alts := [], laidByText := true, laidKinds := [.data, .data, .data, .data, .data, .pinned], laidTests := true, laidLooks := .later }
def NeedMoreCardSaid : Prop := Claim7.holds Tryd.pinned (.plain (OpenSpec.ofChange needMoreSpec)) needMoreCard

/-- THE TIED CARD OF 'undertonelaw08.NeedLess'. -/
def needLessCard : Claim7 := { stood := { row := needLessRow, standIns := [], harness := (true, "e281f3c3a10fea7cd8debe772f635a7cbca893572d3cb7dd800431e33873283e"), looks := false }, kinds := [], alts := [], laidByText := true, laidKinds := [.data, .data, .data, .data, .data, .pinned], laidTests := true, laidLooks := .later }
def NeedLessCardSaid : Prop := Claim7.holds Tryd.pinned (.plain (OpenSpec.ofChange needLessSpec)) needLessCard

/-- THE TIED CARD OF 'undertonelaw08.NeedNames'. -/
def needNamesCard : Claim7 := { stood := { row := needNamesRow, standIns := [], harness := (true, "e281f3c3a10fea7cd8debe772f635a7cbca893572d3cb7dd800431e33873283e"), looks := false }, kinds := [], alts := [], laidByText := true, laidKinds := [.data, .data, .data, .data, .data, .pinned], laidTests := true, laidLooks := .later }
def NeedNamesCardSaid : Prop := Claim7.holds Tryd.pinned (.plain (OpenSpec.ofChange needNamesSpec)) needNamesCard

/-- THE SECOND FORM's CARD OF 'undertonelaw08.NeedKeys'. -/
def needKeysUptoCard : Claim7 := { stood := { row := needKeysUptoRow, standIns := [], harness := (true, "e281f3c3a10fea7cd8debe772f635a7cbca893572d3cb7dd800431e33873283e"), looks := false }, kinds := [], alts := [], laidByText := true, laidKinds := [.data, .data, .data, .data, .data, .pinned], laidTests := true, laidLooks := .later }
def NeedKeysUptoCardSaid : Prop := Claim7.holds Tryd.pinned (.plain (OpenSpec.upto needKeysSpec)) needKeysUptoCard

/-- THE SECOND FORM's CARD OF 'undertonelaw08.NeedEnough'. -/
def needEnoughUptoCard : Claim7 := { stood := { row := needEnoughUptoRow, standIns := [], harness := (true, "e281f3c3a10fea7cd8debe772f635a7cbca893572d3cb7dd800431e33873283e"), looks := false }, kinds := [], alts := [], laidByText := true, laidKinds := [.data, .data, .data, .data, .data, .pinned], laidTests := true, laidLooks := .later }
def NeedEnoughUptoCardSaid : Prop := Claim7.holds Tryd.pinned (.plain (OpenSpec.upto needEnoughSpec)) needEnoughUptoCard

/-- THE SECOND FORM's CARD OF 'undertonelaw08.NeedBoth'. -/
def needBothUptoCard : Claim7 := { stood := { row := needBothUptoRow, standIns := [], harness := (true, "e281f3c3a10fea7cd8debe772f635a7cbca893572d3cb7dd800431e33873283e"), looks := false }, kinds := [], alts := [], laidByText := true, laidKinds := [.data, .data, .data, .data, .data, .pinned], laidTests := true, laidLooks := .later }
def NeedBothUptoCardSaid : Prop := Claim7.holds Tryd.pinned (.plain (OpenSpec.upto needBothSpec)) needBothUptoCard

/-- THE SECOND FORM's CARD OF 'undertonelaw08.NeedMore'. -/
def needMoreUptoCard : Claim7 := { stood := { row := needMoreUptoRow, standIns := [], harness := (true, "e281f3c3a10fea7cd8debe772f635a7cbca893572d3cb7dd800431e33873283e"), looks := false }, kinds := [], alts := [], laidByText := true, laidKinds := [.data, .data, .data, .data, .data, .pinned], laidTests := true, laidLooks := .later }
def NeedMoreUptoCardSaid : Prop := Claim7.holds Tryd.pinned (.plain (OpenSpec.upto needMoreSpec)) needMoreUptoCard

/-- THE SECOND FORM's CARD OF 'undertonelaw08.NeedLess'. -/
def needLessUptoCard : Claim7 := { stood := { row := needLessUptoRow, standIns := [], harness := (true, "e281f3c3a10fea7cd8debe772f635a7cbca893572d3cb7dd800431e33873283e"), looks := false }, kinds := [], alts := [], laidByText := true, laidKinds := [.data, .data, .data, .data, .data, .pinned], laidTests := true, laidLooks := .later }
def NeedLessUptoCardSaid : Prop := Claim7.holds Tryd.pinned (.plain (OpenSpec.upto needLessSpec)) needLessUptoCard

/-- THE SECOND FORM's CARD OF 'undertonelaw08.NeedNames'. -/
def needNamesUptoCard : Claim7 := { stood := { row := needNamesUptoRow, standIns := [], harness := (true, "e281f3c3a10fea7cd8debe772f635a7cbca893572d3cb7dd800431e33873283e"), looks := false }, kinds := [], alts := [], laidByText := true, laidKinds := [.data, .data, .data, .data, .data, .pinned], laidTests := true, laidLooks := .later }
def NeedNamesUptoCardSaid : Prop := Claim7.holds Tryd.pinned (.plain (OpenSpec.upto needNamesSpec)) needNamesUptoCard
end Rows
end Go.Proofs.YtjnijppghgemeaaDoor
