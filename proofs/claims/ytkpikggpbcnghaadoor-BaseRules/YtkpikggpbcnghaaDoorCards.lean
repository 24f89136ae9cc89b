/-
  DERIVED. GIVEN WITH THE SEED: THE CARDS: each row of YtkpikggpbcnghaaDoorRows.lean that lists a variable, with what it lists TIED to the program's text (the seventh form; the later family's looks); each row that meets fmt, with fmt's text TOLD by the authors' own Lean function (tested against real Go, not proved from fmt's source: count such statements apart). THE CARD IS WHAT COUNTS. Prove the row's statement (the work); the ties are given (YtkpikggpbcnghaaDoorTie.lean); close each card by the builder's one call (the guide's Derived/Test/ToyasCard.lean, 'card_holds'). Laid BY PROGRAM, IN A SANDBOX (cutbox-door.mjs). By AI agents, Wed Nov 11 2026. No macro, syntax, notation, axiom, sorry.
-/
import Derived.Test.YtkpikggpbcnghaaDoorRows
import GoSem.ClaimSeven
namespace Go.Proofs.YtkpikggpbcnghaaDoor
namespace Rows

/-- THE TIED CARD OF 'undertonelaw06.BaseTable'. -/
def baseTableCard : Claim7 := { stood := { row := baseTableRow, standIns := [], harness := (true, "cfd363e1ef59998e0cee32395fb5e4db5b5026a3ca4bcf44f10807f2b4a9cb18"), looks := false }, kinds := [], alts := [], laidByText := true, laidKinds := [.data, .data, .data, .data, .data, .data, .data, .pinned], laidTests := true, laidLooks := .later }
def BaseTableCardSaid : Prop := Claim7.holds Tryd.pinned (.plain (OpenSpec.ofChange baseTableSpec)) baseTableCard

/-- THE TIED CARD OF 'undertonelaw06.BaseLetters'. -/
def baseLettersCard : Claim7 := { stood := { row := baseLettersRow, standIns := [], harness := (true, "cfd363e1ef59998e0cee32395fb5e4db5b5026a3ca4bcf44f10807f2b4a9cb18"), looks := false }, kinds := [], alts := [], laidByText := true, laidKinds := [.data, .data, .data, .data, .data, .data, .data, .pinned], laidTests := true, laidLooks := .later }
def BaseLettersCardSaid : Prop := Claim7.holds Tryd.pinned (.plain (OpenSpec.ofChange baseLettersSpec)) baseLettersCard

/-- THE TIED CARD OF 'undertonelaw06.BasePsks'. -/
def basePsksCard : Claim7 := { stood := { row := basePsksRow, standIns := [], harness := (true, "cfd363e1ef59998e0cee32395fb5e4db5b5026a3ca4bcf44f10807f2b4a9cb18"), looks := false }, kinds := [], alts := [], laidByText := true, laidKinds := [.data, .data, .data, .data, .data, .data, .data, .pinned], laidTests := true, laidLooks := .later }
def BasePsksCardSaid : Prop := Claim7.holds Tryd.pinned (.plain (OpenSpec.ofChange basePsksSpec)) basePsksCard

/-- THE TIED CARD OF 'undertonelaw06.BaseFalls'. -/
def baseFallsCard : Claim7 := { stood := { row := baseFallsRow, standIns := [], harness := (true, "cfd363e1ef59998e0cee32395fb5e4db5b5026a3ca4bcf44f10807f2b4a9cb18"), looks := false }, kinds := [], alts := [], laidByText := true, laidKinds := [.data, .data, .data, .data, .data, .data, .data, .pinned], laidTests := true, laidLooks := .later }
def BaseFallsCardSaid : Prop := Claim7.holds Tryd.pinned (.plain (OpenSpec.ofChange baseFallsSpec)) baseFallsCard

/-- THE TIED CARD OF 'undertonelaw06.BaseRules'. -/
def baseRulesCard : Claim7 := { stood := { row := baseRulesRow, standIns := [], harness := (true, "cfd363e1ef59998e0cee32395fb5e4db5b5026a3ca4bcf44f10807f2b4a9cb18"), looks := false }, kinds := [], alts := [], laidByText := true, laidKinds := [.data, .data, .data, .data, .data, .data, .data, .pinned], laidTests := true, laidLooks := .later }
def BaseRulesCardSaid : Prop := Claim7.holds Tryd.pinned (.plain (OpenSpec.ofChange baseRulesSpec)) baseRulesCard

/-- THE SECOND FORM's CARD OF 'undertonelaw06.BaseTable'. -/
def baseTableUptoCard : Claim7 := { stood := { row := baseTableUptoRow, standIns := [], harness := (true, "cfd363e1ef59998e0cee32395fb5e4db5b5026a3ca4bcf44f10807f2b4a9cb18"), looks := false }, kinds := [], alts := [], laidByText := true, laidKinds := [.data, .data, .data, .data, .data, .data, .data, .pinned], laidTests := true, laidLooks := .later }
def BaseTableUptoCardSaid : Prop := Claim7.holds Tryd.pinned (.plain (OpenSpec.upto baseTableSpec)) baseTableUptoCard

/-- THE SECOND FORM's CARD OF 'undertonelaw06.BaseLetters'. -/
def baseLettersUptoCard : Claim7 := { stood := { row := baseLettersUptoRow, standIns := [], harness := (true, "cfd363e1ef59998e0cee32395fb5e4db5b5026a3ca4bcf44f10807f2b4a9cb18"), looks := false }, kinds := [], alts := [], laidByText := true, laidKinds := [.data, .data, .data, .data, .data, .data, .data, .pinned], laidTests := true, laidLooks := .later }
def BaseLettersUptoCardSaid : Prop := Claim7.holds Tryd.pinned (.plain (OpenSpec.upto baseLettersSpec)) baseLettersUptoCard

/-- THE SECOND FORM's CARD OF 'undertonelaw06.BasePsks'. -/
def basePsksUptoCard : Claim7 := { stood := { row := basePsksUptoRow, standIns := [], harness := (true, "cfd363e1ef59998e0cee32395fb5e4db5b5026a3ca4bcf44f10807f2b4a9cb18"), looks := false }, kinds := [], alts := [], laidByText := true, laidKinds := [.data, .data, .data, .data, .data, .data, .data, .pinned], laidTests := true, laidLooks := .later }
def BasePsksUptoCardSaid : Prop := Claim7.holds Tryd.pinned (.plain (OpenSpec.upto basePsksSpec)) basePsksUptoCard

/-- THE SECOND FORM's CARD OF 'undertonelaw06.BaseFalls'. -/
def baseFallsUptoCard : Claim7 := { stood := { row := baseFallsUptoRow, standIns := [], harness := (true, "cfd363e1ef59998e0cee32395fb5e4db5b5026a3ca4bcf44f10807f2b4a9cb18"), looks := false }, kinds := [], alts := [], laidByText := true, laidKinds := [.data, .data, .data, .data, .data, .data, .data, .pinned], laidTests := true, laidLooks := .later }
def BaseFallsUptoCardSaid : Prop := Claim7.holds Tryd.pinned (.plain (OpenSpec.upto baseFallsSpec)) baseFallsUptoCard

/-- THE SECOND FORM's CARD OF 'undertonelaw06.BaseRules'. -/
def baseRulesUptoCard : Claim7 := { stood := { row := baseRulesUptoRow, standIns := [], harness := (true, "cfd363e1ef59998e0cee32395fb5e4db5b5026a3ca4bcf44f10807f2b4a9cb18"), looks := false }, kinds := [], alts := [], laidByText := true, laidKinds := [.data, .data, .data, .data, .data, .data, .data, .pinned], laidTests := true, laidLooks := .later }
def BaseRulesUptoCardSaid : Prop := Claim7.holds Tryd.pinned (.plain (OpenSpec.upto baseRulesSpec)) baseRulesUptoCard
end Rows
end Go.Proofs.YtkpikggpbcnghaaDoor
