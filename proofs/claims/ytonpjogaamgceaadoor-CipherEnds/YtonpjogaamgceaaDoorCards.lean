/-
  DERIVED. GIVEN WITH THE SEED: THE CARDS: each row of YtonpjogaamgceaaDoorRows.lean that lists a variable, with what it lists TIED to the program's text (the seventh form; the later family's looks); each row that meets fmt, with fmt's text TOLD by the authors' own Lean function (tested against real Go, not proved from fmt's source: count such statements apart). THE CARD IS WHAT COUNTS. Prove the row's statement (the work); the ties are given (YtonpjogaamgceaaDoorTie.lean); close each card by the builder's one call (the guide's Derived/Test/ToyasCard.lean, 'card_holds'). Laid BY PROGRAM, IN A SANDBOX (cutbox-door.mjs). By AI agents, Wed Nov 11 2026. No macro, syntax, notation, axiom, sorry.
-/
import Derived.Test.YtonpjogaamgceaaDoorRows
import GoSem.ClaimSeven
namespace Go.Proofs.YtonpjogaamgceaaDoor
namespace Rows

/-- THE TIED CARD OF 'undertonelaw10.CipherSeals'. -/
def cipherSealsCard : Claim7 := { stood := { row := cipherSealsRow, standIns := [], harness := (true, "db232d76dd823faa95ff42c6ce31bdb24f70049edbf7e7c99e5eab3b2f0b617b"), looks := false }, kinds := [], alts := [], laidByText := true, laidKinds := [.data], laidTests := true, laidLooks := .later }
def CipherSealsCardSaid : Prop := Claim7.holds Tryd.pinned (.plain (OpenSpec.ofChange cipherSealsSpec)) cipherSealsCard

/-- THE TIED CARD OF 'undertonelaw10.CipherOpens'. -/
def cipherOpensCard : Claim7 := { stood := { row := cipherOpensRow, standIns := [], harness := (true, "db232d76dd823faa95ff42c6ce31bdb24f70049edbf7e7c99e5eab3b2f0b617b"), looks := false }, kinds := [], alts := [], laidByText := true, laidKinds := [.data], laidTests := true, laidLooks := .later }
def CipherOpensCardSaid : Prop := Claim7.holds Tryd.pinned (.plain (OpenSpec.ofChange cipherOpensSpec)) cipherOpensCard

/-- THE TIED CARD OF 'undertonelaw10.CipherBack'. -/
def cipherBackCard : Claim7 := { stood := { row := cipherBackRow, standIns := [], harness := (true, "db232d76dd823faa95ff42c6ce31bdb24f70049edbf7e7c99e5eab3b2f0b617b"), looks := false }, kinds := [], alts := [], laidByText := true, laidKinds := [.data], laidTests := true, laidLooks := .later }
def CipherBackCardSaid : Prop := Claim7.holds Tryd.pinned (.plain (OpenSpec.ofChange cipherBackSpec)) cipherBackCard

/-- THE TIED CARD OF 'undertonelaw10.CipherRekeys'. -/
def cipherRekeysCard : Claim7 := { stood := { row := cipherRekeysRow, standIns := [], harness := (true, "db232d76dd823faa95ff42c6ce31bdb24f70049edbf7e7c99e5eab3b2f0b617b"), looks := false }, kinds := [], alts := [], laidByText := true, laidKinds := [.data], laidTests := true, laidLooks := .later }
def CipherRekeysCardSaid : Prop := Claim7.holds Tryd.pinned (.plain (OpenSpec.ofChange cipherRekeysSpec)) cipherRekeysCard

/-- THE TIED CARD OF 'undertonelaw10.CipherCounts'. -/
def cipherCountsCard : Claim7 := { stood := { row := cipherCountsRow, standIns := [], harness := (true, "db232d76dd823faa95ff42c6ce31bdb24f70049edbf7e7c99e5eab3b2f0b617b"), looks := false }, kinds := [], alts := [], laidByText := true, laidKinds := [.data], laidTests := true, laidLooks := .later }
def CipherCountsCardSaid : Prop := Claim7.holds Tryd.pinned (.plain (OpenSpec.ofChange cipherCountsSpec)) cipherCountsCard

/-- THE TIED CARD OF 'undertonelaw10.CipherNone'. -/
def cipherNoneCard : Claim7 := { stood := { row := cipherNoneRow, standIns := [], harness := (true, "db232d76dd823faa95ff42c6ce31bdb24f70049edbf7e7c99e5eab3b2f0b617b"), looks := false }, kinds := [], alts := [], laidByText := true, laidKinds := [.data], laidTests := true, laidLooks := .later }
def CipherNoneCardSaid : Prop := Claim7.holds Tryd.pinned (.plain (OpenSpec.ofChange cipherNoneSpec)) cipherNoneCard

/-- THE TIED CARD OF 'undertonelaw10.CipherEnds'. -/
def cipherEndsCard : Claim7 := { stood := { row := cipherEndsRow, standIns := [], harness := (true, "db232d76dd823faa95ff42c6ce31bdb24f70049edbf7e7c99e5eab3b2f0b617b"), looks := false }, kinds := [], alts := [], laidByText := true, laidKinds := [.data], laidTests := true, laidLooks := .later }
def CipherEndsCardSaid : Prop := Claim7.holds Tryd.pinned (.plain (OpenSpec.ofChange cipherEndsSpec)) cipherEndsCard

/-- THE SECOND FORM's CARD OF 'undertonelaw10.CipherSeals'. -/
def cipherSealsUptoCard : Claim7 := { stood := { row := cipherSealsUptoRow, standIns := [], harness := (true, "db232d76dd823faa95ff42c6ce31bdb24f70049edbf7e7c99e5eab3b2f0b617b"), looks := false }, kinds := [], alts := [], laidByText := true, laidKinds := [.data], laidTests := true, laidLooks := .later }
def CipherSealsUptoCardSaid : Prop := Claim7.holds Tryd.pinned (.plain (OpenSpec.upto cipherSealsSpec)) cipherSealsUptoCard

/-- THE SECOND FORM's CARD OF 'undertonelaw10.CipherOpens'. -/
def cipherOpensUptoCard : Claim7 := { stood := { row := cipherOpensUptoRow, standIns := [], harness := (true, "db232d76dd823faa95ff42c6ce31bdb24f70049edbf7e7c99e5eab3b2f0b617b"), looks := false }, kinds := [], alts := [], laidByText := true, laidKinds := [.data], laidTests := true, laidLooks := .later }
def CipherOpensUptoCardSaid : Prop := Claim7.holds Tryd.pinned (.plain (OpenSpec.upto cipherOpensSpec)) cipherOpensUptoCard

/-- THE SECOND FORM's CARD OF 'undertonelaw10.CipherBack'. -/
def cipherBackUptoCard : Claim7 := { stood := { row := cipherBackUptoRow, standIns := [], harness := (true, "db232d76dd823faa95ff42c6ce31bdb24f70049edbf7e7c99e5eab3b2f0b617b"), looks := false }, kinds := [], alts := [], laidByText := true, laidKinds := [.data], laidTests := true, laidLooks := .later }
def CipherBackUptoCardSaid : Prop := Claim7.holds Tryd.pinned (.plain (OpenSpec.upto cipherBackSpec)) cipherBackUptoCard

/-- THE SECOND FORM's CARD OF 'undertonelaw10.CipherRekeys'. -/
def cipherRekeysUptoCard : Claim7 := { stood := { row := cipherRekeysUptoRow, standIns := [], harness := (true, "db232d76dd823faa95ff42c6ce31bdb24f70049edbf7e7c99e5eab3b2f0b617b"), looks := false }, kinds := [], alts := [], laidByText := true, laidKinds := [.data], laidTests := true, laidLooks := .later }
def CipherRekeysUptoCardSaid : Prop := Claim7.holds Tryd.pinned (.plain (OpenSpec.upto cipherRekeysSpec)) cipherRekeysUptoCard

/-- THE SECOND FORM's CARD OF 'undertonelaw10.CipherCounts'. -/
def cipherCountsUptoCard : Claim7 := { stood := { row := cipherCountsUptoRow, standIns := [], harness := (true, "db232d76dd823faa95ff42c6ce31bdb24f70049edbf7e7c99e5eab3b2f0b617b"), looks := false }, kinds := [], alts := [], laidByText := true, laidKinds := [.data], laidTests := true, laidLooks := .later }
def CipherCountsUptoCardSaid : Prop := Claim7.holds Tryd.pinned (.plain (OpenSpec.upto cipherCountsSpec)) cipherCountsUptoCard

/-- THE SECOND FORM's CARD OF 'undertonelaw10.CipherNone'. -/
def cipherNoneUptoCard : Claim7 := { stood := { row := cipherNoneUptoRow, standIns := [], harness := (true, "db232d76dd823faa95ff42c6ce31bdb24f70049edbf7e7c99e5eab3b2f0b617b"), looks := false }, kinds := [], alts := [], laidByText := true, laidKinds := [.data], laidTests := true, laidLooks := .later }
def CipherNoneUptoCardSaid : Prop := Claim7.holds Tryd.pinned (.plain (OpenSpec.upto cipherNoneSpec)) cipherNoneUptoCard

/-- THE SECOND FORM's CARD OF 'undertonelaw10.CipherEnds'. -/
def cipherEndsUptoCard : Claim7 := { stood := { row := cipherEndsUptoRow, standIns := [], harness := (true, "db232d76dd823faa95ff42c6ce31bdb24f70049edbf7e7c99e5eab3b2f0b617b"), looks := false }, kinds := [], alts := [], laidByText := true, laidKinds := [.data], laidTests := true, laidLooks := .later }
def CipherEndsUptoCardSaid : Prop := Claim7.holds Tryd.pinned (.plain (OpenSpec.upto cipherEndsSpec)) cipherEndsUptoCard
end Rows
end Go.Proofs.YtonpjogaamgceaaDoor
