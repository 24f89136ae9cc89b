/-
  DERIVED. GIVEN WITH THE SEED: THE CARDS: each row of YtahbbojhdkillaaDoorRows.lean that lists a variable, with what it lists TIED to the program's text (the seventh form; the later family's looks); each row that meets fmt, with fmt's text TOLD by the authors' own Lean function (tested against real Go, not proved from fmt's source: count such statements apart). THE CARD IS WHAT COUNTS. Prove the row's statement (the work); the ties are given (YtahbbojhdkillaaDoorTie.lean); close each card by the builder's one call (the guide's Derived/Test/ToyasCard.lean, 'card_holds'). Laid BY PROGRAM, IN A SANDBOX (cutbox-door.mjs). By AI agents, Wed Nov 11 2026. No macro, syntax, notation, axiom, sorry.
-/
import Derived.Test.YtahbbojhdkillaaDoorRows
import GoSem.ClaimSeven
namespace Go.Proofs.YtahbbojhdkillaaDoor
namespace Rows

/-- THE TIED CARD OF 'undertonelaw09.LevelTable'. -/
def levelTableCard : Claim7 := { stood := { row := levelTableRow, standIns := [], harness := (true, "8ad7f3dc99e801a7e7ad511410ab93ee8f4818b70230f50512beb3a83d5b63d6"), looks := false }, kinds := [], alts := [], laidByText := true, laidKinds := [.data, .data, .data, .data, .data, .data, .pinned], laidTests := true, laidLooks := .later }
def LevelTableCardSaid : Prop := Claim7.holds Tryd.pinned (.plain (OpenSpec.ofChange levelTableSpec)) levelTableCard

/-- THE TIED CARD OF 'undertonelaw09.LevelMessages'. -/
def levelMessagesCard : Claim7 := { stood := { row := levelMessagesRow, standIns := [], harness := (true, "8ad7f3dc99e801a7e7ad511410ab93ee8f4818b70230f50512beb3a83d5b63d6"), looks := false }, kinds := [], alts := [], laidByText := true, laidKinds := [.data, .data, .data, .data, .data, .data, .pinned], laidTests := true, laidLooks := .later }
def LevelMessagesCardSaid : Prop := Claim7.holds Tryd.pinned (.plain (OpenSpec.ofChange levelMessagesSpec)) levelMessagesCard

/-- THE TIED CARD OF 'undertonelaw09.LevelGrows'. -/
def levelGrowsCard : Claim7 := { stood := { row := levelGrowsRow, standIns := [], harness := (true, "8ad7f3dc99e801a7e7ad511410ab93ee8f4818b70230f50512beb3a83d5b63d6"), looks := false }, kinds := [], alts := [], laidByText := true, laidKinds := [.data, .data, .data, .data, .data, .data, .pinned], laidTests := true, laidLooks := .later }
def LevelGrowsCardSaid : Prop := Claim7.holds Tryd.pinned (.plain (OpenSpec.ofChange levelGrowsSpec)) levelGrowsCard

/-- THE TIED CARD OF 'undertonelaw09.LevelMixes'. -/
def levelMixesCard : Claim7 := { stood := { row := levelMixesRow, standIns := [], harness := (true, "8ad7f3dc99e801a7e7ad511410ab93ee8f4818b70230f50512beb3a83d5b63d6"), looks := false }, kinds := [], alts := [], laidByText := true, laidKinds := [.data, .data, .data, .data, .data, .data, .pinned], laidTests := true, laidLooks := .later }
def LevelMixesCardSaid : Prop := Claim7.holds Tryd.pinned (.plain (OpenSpec.ofChange levelMixesSpec)) levelMixesCard

/-- THE TIED CARD OF 'undertonelaw09.LevelReach'. -/
def levelReachCard : Claim7 := { stood := { row := levelReachRow, standIns := [], harness := (true, "8ad7f3dc99e801a7e7ad511410ab93ee8f4818b70230f50512beb3a83d5b63d6"), looks := false }, kinds := [], alts := [], laidByText := true, laidKinds := [.data, .data, .data, .data, .data, .data, .pinned], laidTests := true, laidLooks := .later }
def LevelReachCardSaid : Prop := Claim7.holds Tryd.pinned (.plain (OpenSpec.ofChange levelReachSpec)) levelReachCard

/-- THE TIED CARD OF 'undertonelaw09.LevelSteps'. -/
def levelStepsCard : Claim7 := { stood := { row := levelStepsRow, standIns := [], harness := (true, "8ad7f3dc99e801a7e7ad511410ab93ee8f4818b70230f50512beb3a83d5b63d6"), looks := false }, kinds := [], alts := [], laidByText := true, laidKinds := [.data, .data, .data, .data, .data, .data, .pinned], laidTests := true, laidLooks := .later }
def LevelStepsCardSaid : Prop := Claim7.holds Tryd.pinned (.plain (OpenSpec.ofChange levelStepsSpec)) levelStepsCard

/-- THE TIED CARD OF 'undertonelaw09.LevelEnds'. -/
def levelEndsCard : Claim7 := { stood := { row := levelEndsRow, standIns := [], harness := (true, "8ad7f3dc99e801a7e7ad511410ab93ee8f4818b70230f50512beb3a83d5b63d6"), looks := false }, kinds := [], alts := [], laidByText := true, laidKinds := [.data, .data, .data, .data, .data, .data, .pinned], laidTests := true, laidLooks := .later }
def LevelEndsCardSaid : Prop := Claim7.holds Tryd.pinned (.plain (OpenSpec.ofChange levelEndsSpec)) levelEndsCard

/-- THE SECOND FORM's CARD OF 'undertonelaw09.LevelTable'. -/
def levelTableUptoCard : Claim7 := { stood := { row := levelTableUptoRow, standIns := [], harness := (true, "8ad7f3dc99e801a7e7ad511410ab93ee8f4818b70230f50512beb3a83d5b63d6"), looks := false }, kinds := [], alts := [], laidByText := true, laidKinds := [.data, .data, .data, .data, .data, .data, .pinned], laidTests := true, laidLooks := .later }
def LevelTableUptoCardSaid : Prop := Claim7.holds Tryd.pinned (.plain (OpenSpec.upto levelTableSpec)) levelTableUptoCard

/-- THE SECOND FORM's CARD OF 'undertonelaw09.LevelMessages'. -/
def levelMessagesUptoCard : Claim7 := { stood := { row := levelMessagesUptoRow, standIns := [], harness := (true, "8ad7f3dc99e801a7e7ad511410ab93ee8f4818b70230f50512beb3a83d5b63d6"), looks := false }, kinds := [], alts := [], laidByText := true, laidKinds := [.data, .data, .data, .data, .data, .data, .pinned], laidTests := true, laidLooks := .later }
def LevelMessagesUptoCardSaid : Prop := Claim7.holds Tryd.pinned (.plain (OpenSpec.upto levelMessagesSpec)) levelMessagesUptoCard

/-- THE SECOND FORM's CARD OF 'undertonelaw09.LevelGrows'. -/
def levelGrowsUptoCard : Claim7 := { stood := { row := levelGrowsUptoRow, standIns := [], harness := (true, "8ad7f3dc99e801a7e7ad511410ab93ee8f4818b70230f50512beb3a83d5b63d6"), looks := false }, kinds := [], alts := [], laidByText := true, laidKinds := [.data, .data, .data, .data, .data, .data, .pinned], laidTests := true, laidLooks := .later }
def LevelGrowsUptoCardSaid : Prop := Claim7.holds Tryd.pinned (.plain (OpenSpec.upto levelGrowsSpec)) levelGrowsUptoCard

/-- THE SECOND FORM's CARD OF 'undertonelaw09.LevelMixes'. -/
def levelMixesUptoCard : Claim7 := { stood := { row := levelMixesUptoRow, standIns := [], harness := (true, "8ad7f3dc99e801a7e7ad511410ab93ee8f4818b70230f50512beb3a83d5b63d6"), looks := false }, kinds := [], alts := [], laidByText := true, laidKinds := [.data, .data, .data, .data, .data, .data, .pinned], laidTests := true, laidLooks := .later }
def LevelMixesUptoCardSaid : Prop := Claim7.holds Tryd.pinned (.plain (OpenSpec.upto levelMixesSpec)) levelMixesUptoCard

/-- THE SECOND FORM's CARD OF 'undertonelaw09.LevelReach'. -/
def levelReachUptoCard : Claim7 := { stood := { row := levelReachUptoRow, standIns := [], harness := (true, "8ad7f3dc99e801a7e7ad511410ab93ee8f4818b70230f50512beb3a83d5b63d6"), looks := false }, kinds := [], alts := [], laidByText := true, laidKinds := [.data, .data, .data, .data, .data, .data, .pinned], laidTests := true, laidLooks := .later }
def LevelReachUptoCardSaid : Prop := Claim7.holds Tryd.pinned (.plain (OpenSpec.upto levelReachSpec)) levelReachUptoCard

/-- THE SECOND FORM's CARD OF 'undertonelaw09.LevelSteps'. -/
def levelStepsUptoCard : Claim7 := { stood := { row := levelStepsUptoRow, standIns := [], harness := (true, "8ad7f3dc99e801a7e7ad511410ab93ee8f4818b70230f50512beb3a83d5b63d6"), looks := false }, kinds := [], alts := [], laidByText := true, laidKinds := [.data, .data, .data, .data, .data, .data, .pinned], laidTests := true, laidLooks := .later }
def LevelStepsUptoCardSaid : Prop := Claim7.holds Tryd.pinned (.plain (OpenSpec.upto levelStepsSpec)) levelStepsUptoCard

/-- THE SECOND FORM's CARD OF 'undertonelaw09.LevelEnds'. -/
def levelEndsUptoCard : Claim7 := { stood := { row := levelEndsUptoRow, standIns := [], harness := (true, "8ad7f3dc99e801a7e7ad511410ab93ee8f4818b70230f50512beb3a83d5b63d6"), looks := false }, kinds := [], alts := [], laidByText := true, laidKinds := [.data, .data, .data, .data, .data, .data, .pinned], laidTests := true, laidLooks := .later }
def LevelEndsUptoCardSaid : Prop := Claim7.holds Tryd.pinned (.plain (OpenSpec.upto levelEndsSpec)) levelEndsUptoCard
end Rows
end Go.Proofs.YtahbbojhdkillaaDoor
