/-
  DERIVED. GIVEN WITH THE SEED: THE CARDS: each row of YtdbnegllncjhkaaGreatDoorRows.lean that lists a variable, with what it lists TIED to the program's text (the seventh form; the later family's looks); each row that meets fmt, with fmt's text TOLD by the authors' own Lean function (tested against real Go, not proved from fmt's source: count such statements apart). THE CARD IS WHAT COUNTS. Prove the row's statement (the work); the ties are given (YtdbnegllncjhkaaGreatDoorTie.lean); close each card by the builder's one call (the guide's Derived/Test/ToyasCard.lean, 'card_holds'). Laid BY PROGRAM, IN A SANDBOX (cutbox-door.mjs). By AI agents, Wed Nov 11 2026. No macro, syntax, notation, axiom, sorry.
-/
import Derived.Test.YtdbnegllncjhkaaGreatDoorRows
import GoSem.ClaimSeven
namespace Go.Proofs.YtdbnegllncjhkaaGreatDoor
namespace Rows

/-- THE TIED CARD OF 'paronymlaw05.PropParses'. -/
def propParsesCard : Claim7 := { stood := { row := propParsesRow, standIns := [], harness := (true, "87a0cbf58c38975ec7b81e639d710769d5692cc4fcf7bd1ae414f040525cba2c"), looks := false }, kinds := [], alts := [], laidByText := true, laidKinds := [.data, .pinned], laidTests := true, laidLooks := .later }
def PropParsesCardSaid : Prop := Claim7.holds Tryz.pinned (.plain (OpenSpec.ofChange propParsesSpec)) propParsesCard

/-- THE TIED CARD OF 'paronymlaw05.PropPoints'. -/
def propPointsCard : Claim7 := { stood := { row := propPointsRow, standIns := [], harness := (true, "87a0cbf58c38975ec7b81e639d710769d5692cc4fcf7bd1ae414f040525cba2c"), looks := false }, kinds := [], alts := [], laidByText := true, laidKinds := [.data, .pinned], laidTests := true, laidLooks := .later }
def PropPointsCardSaid : Prop := Claim7.holds Tryz.pinned (.plain (OpenSpec.ofChange propPointsSpec)) propPointsCard

/-- THE TIED CARD OF 'paronymlaw05.PropOthers'. -/
def propOthersCard : Claim7 := { stood := { row := propOthersRow, standIns := [], harness := (true, "87a0cbf58c38975ec7b81e639d710769d5692cc4fcf7bd1ae414f040525cba2c"), looks := false }, kinds := [], alts := [], laidByText := true, laidKinds := [.data, .pinned], laidTests := true, laidLooks := .later }
def PropOthersCardSaid : Prop := Claim7.holds Tryz.pinned (.plain (OpenSpec.ofChange propOthersSpec)) propOthersCard

/-- THE TIED CARD OF 'paronymlaw05.PropTurned'. -/
def propTurnedCard : Claim7 := { stood := { row := propTurnedRow, standIns := [], harness := (true, "87a0cbf58c38975ec7b81e639d710769d5692cc4fcf7bd1ae414f040525cba2c"), looks := false }, kinds := [], alts := [], laidByText := true, laidKinds := [.data, .pinned], laidTests := true, laidLooks := .later }
def PropTurnedCardSaid : Prop := Claim7.holds Tryz.pinned (.plain (OpenSpec.ofChange propTurnedSpec)) propTurnedCard

/-- THE SECOND FORM's CARD OF 'paronymlaw05.PropParses'. -/
def propParsesUptoCard : Claim7 := { stood := { row := propParsesUptoRow, standIns := [], harness := (true, "87a0cbf58c38975ec7b81e639d710769d5692cc4fcf7bd1ae414f040525cba2c"), looks := false }, kinds := [], alts := [], laidByText := true, laidKinds := [.data, .pinned], laidTests := true, laidLooks := .later }
def PropParsesUptoCardSaid : Prop := Claim7.holds Tryz.pinned (.plain (OpenSpec.upto propParsesSpec)) propParsesUptoCard

/-- THE SECOND FORM's CARD OF 'paronymlaw05.PropPoints'. -/
def propPointsUptoCard : Claim7 := { stood := { row := propPointsUptoRow, standIns := [], harness := (true, "87a0cbf58c38975ec7b81e639d710769d5692cc4fcf7bd1ae414f040525cba2c"), looks := false }, kinds := [], alts := [], laidByText := true, laidKinds := [.data, .pinned], laidTests := true, laidLooks := .later }
def PropPointsUptoCardSaid : Prop := Claim7.holds Tryz.pinned (.plain (OpenSpec.upto propPointsSpec)) propPointsUptoCard

/-- THE SECOND FORM's CARD OF 'paronymlaw05.PropOthers'. -/
def propOthersUptoCard : Claim7 := { stood := { row := propOthersUptoRow, standIns := [], harness := (true, "87a0cbf58c38975ec7b81e639d710769d5692cc4fcf7bd1ae414f040525cba2c"), looks := false }, kinds := [], alts := [], laidByText := true, laidKinds := [.data, .pinned], laidTests := true, laidLooks := .later }
def PropOthersUptoCardSaid : Prop := Claim7.holds Tryz.pinned (.plain (OpenSpec.upto propOthersSpec)) propOthersUptoCard

/-- THE SECOND FORM's CARD OF 'paronymlaw05.PropTurned'. -/
def propTurnedUptoCard : Claim7 := { stood := { row := propTurnedUptoRow, standIns := [], harness := (true, "87a0cbf58c38975ec7b81e639d710769d5692cc4fcf7bd1ae414f040525cba2c"), looks := false }, kinds := [], alts := [], laidByText := true, laidKinds := [.data, .pinned], laidTests := true, laidLooks := .later }
def PropTurnedUptoCardSaid : Prop := Claim7.holds Tryz.pinned (.plain (OpenSpec.upto propTurnedSpec)) propTurnedUptoCard
end Rows
end Go.Proofs.YtdbnegllncjhkaaGreatDoor
