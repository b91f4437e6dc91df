/-
  DERIVED. GIVEN WITH THE SEED: THE CARDS: each row of YtobijdfnafnodaaGreatDoorRows.lean that lists a variable, with what it lists TIED to the program's text (the seventh form; the later family's looks); each row that meets fmt, with fmt's text TOLD by the authors' own Lean function (tested against real Go, not proved from fmt's source: count such statements apart). THE CARD IS WHAT COUNTS. Prove the row's statement (the work); the ties are given (YtobijdfnafnodaaGreatDoorTie.lean); close each card by the builder's one call (the guide's Derived/Test/ToyasCard.lean, 'card_holds'). Laid BY PROGRAM, IN A SANDBOX (cutbox-door.mjs). By AI agents, Wed Nov 11 2026. No macro, syntax, notation, axiom, sorry.
-/
import Derived.Test.YtobijdfnafnodaaGreatDoorRows
import GoSem.ClaimSeven
namespace Go.Proofs.YtobijdfnafnodaaGreatDoor
namespace Rows

/-- THE TIED CARD OF 'nostoslaw09.AluDoes'. -/
def aluDoesCard : Claim7 := { stood := { row := aluDoesRow, standIns := [], harness := (true, "51d1dfcc53ab65408596c144351444e992a538203f22ca8493db12b8c546ad23"), looks := true }, kinds := [], alts := [], laidByText := true, laidKinds := [.data], laidTests := true, laidLooks := .later }
def AluDoesCardSaid : Prop := Claim7.holds Tryz.pinned (.plain (OpenSpec.ofChange aluDoesSpec)) aluDoesCard

/-- THE TIED CARD OF 'nostoslaw09.AluBelow'. -/
def aluBelowCard : Claim7 := { stood := { row := aluBelowRow, standIns := [], harness := (true, "51d1dfcc53ab65408596c144351444e992a538203f22ca8493db12b8c546ad23"), looks := true }, kinds := [], alts := [], laidByText := true, laidKinds := [.data], laidTests := true, laidLooks := .later }
def AluBelowCardSaid : Prop := Claim7.holds Tryz.pinned (.plain (OpenSpec.ofChange aluBelowSpec)) aluBelowCard

/-- THE TIED CARD OF 'nostoslaw09.AluMoves'. -/
def aluMovesCard : Claim7 := { stood := { row := aluMovesRow, standIns := [], harness := (true, "51d1dfcc53ab65408596c144351444e992a538203f22ca8493db12b8c546ad23"), looks := true }, kinds := [], alts := [], laidByText := true, laidKinds := [.data], laidTests := true, laidLooks := .later }
def AluMovesCardSaid : Prop := Claim7.holds Tryz.pinned (.plain (OpenSpec.ofChange aluMovesSpec)) aluMovesCard

/-- THE TIED CARD OF 'nostoslaw09.AluReckons'. -/
def aluReckonsCard : Claim7 := { stood := { row := aluReckonsRow, standIns := [], harness := (true, "51d1dfcc53ab65408596c144351444e992a538203f22ca8493db12b8c546ad23"), looks := true }, kinds := [], alts := [], laidByText := true, laidKinds := [.data], laidTests := true, laidLooks := .later }
def AluReckonsCardSaid : Prop := Claim7.holds Tryz.pinned (.plain (OpenSpec.ofChange aluReckonsSpec)) aluReckonsCard

/-- THE TIED CARD OF 'nostoslaw09.AluThrows'. -/
def aluThrowsCard : Claim7 := { stood := { row := aluThrowsRow, standIns := [], harness := (true, "51d1dfcc53ab65408596c144351444e992a538203f22ca8493db12b8c546ad23"), looks := true }, kinds := [], alts := [], laidByText := true, laidKinds := [.data], laidTests := true, laidLooks := .later }
def AluThrowsCardSaid : Prop := Claim7.holds Tryz.pinned (.plain (OpenSpec.ofChange aluThrowsSpec)) aluThrowsCard

/-- THE SECOND FORM's CARD OF 'nostoslaw09.AluDoes'. -/
def aluDoesUptoCard : Claim7 := { stood := { row := aluDoesUptoRow, standIns := [], harness := (true, "51d1dfcc53ab65408596c144351444e992a538203f22ca8493db12b8c546ad23"), looks := true }, kinds := [], alts := [], laidByText := true, laidKinds := [.data], laidTests := true, laidLooks := .later }
def AluDoesUptoCardSaid : Prop := Claim7.holds Tryz.pinned (.plain (OpenSpec.upto aluDoesSpec)) aluDoesUptoCard

/-- THE SECOND FORM's CARD OF 'nostoslaw09.AluBelow'. -/
def aluBelowUptoCard : Claim7 := { stood := { row := aluBelowUptoRow, standIns := [], harness := (true, "51d1dfcc53ab65408596c144351444e992a538203f22ca8493db12b8c546ad23"), looks := true }, kinds := [], alts := [], laidByText := true, laidKinds := [.data], laidTests := true, laidLooks := .later }
def AluBelowUptoCardSaid : Prop := Claim7.holds Tryz.pinned (.plain (OpenSpec.upto aluBelowSpec)) aluBelowUptoCard

/-- THE SECOND FORM's CARD OF 'nostoslaw09.AluMoves'. -/
def aluMovesUptoCard : Claim7 := { stood := { row := aluMovesUptoRow, standIns := [], harness := (true, "51d1dfcc53ab65408596c144351444e992a538203f22ca8493db12b8c546ad23"), looks := true }, kinds := [], alts := [], laidByText := true, laidKinds := [.data], laidTests := true, laidLooks := .later }
def AluMovesUptoCardSaid : Prop := Claim7.holds Tryz.pinned (.plain (OpenSpec.upto aluMovesSpec)) aluMovesUptoCard

/-- THE SECOND FORM's CARD OF 'nostoslaw09.AluReckons'. -/
def aluReckonsUptoCard : Claim7 := { stood := { row := aluReckonsUptoRow, standIns := [], harness := (true, "51d1dfcc53ab65408596c144351444e992a538203f22ca8493db12b8c546ad23"), looks := true }, kinds := [], alts := [], laidByText := true, laidKinds := [.data], laidTests := true, laidLooks := .later }
def AluReckonsUptoCardSaid : Prop := Claim7.holds Tryz.pinned (.plain (OpenSpec.upto aluReckonsSpec)) aluReckonsUptoCard

/-- THE SECOND FORM's CARD OF 'nostoslaw09.AluThrows'. -/
def aluThrowsUptoCard : Claim7 := { stood := { row := aluThrowsUptoRow, standIns := [], harness := (true, "51d1dfcc53ab65408596c144351444e992a538203f22ca8493db12b8c546ad23"), looks := true }, kinds := [], alts := [], laidByText := true, laidKinds := [.data], laidTests := true, laidLooks := .later }
def AluThrowsUptoCardSaid : Prop := Claim7.holds Tryz.pinned (.plain (OpenSpec.upto aluThrowsSpec)) aluThrowsUptoCard
end Rows
end Go.Proofs.YtobijdfnafnodaaGreatDoor
