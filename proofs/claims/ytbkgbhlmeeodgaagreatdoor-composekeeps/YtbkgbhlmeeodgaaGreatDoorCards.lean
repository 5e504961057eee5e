/-
  DERIVED. GIVEN WITH THE SEED: THE CARDS: each row of YtbkgbhlmeeodgaaGreatDoorRows.lean that lists a variable, with what it lists TIED to the program's text (the seventh form; the later family's looks); each row that meets fmt, with fmt's text TOLD by the authors' own Lean function (tested against real Go, not proved from fmt's source: count such statements apart). THE CARD IS WHAT COUNTS. Prove the row's statement (the work); the ties are given (YtbkgbhlmeeodgaaGreatDoorTie.lean); close each card by the builder's one call (the guide's Derived/Test/ToyasCard.lean, 'card_holds'). Laid BY PROGRAM, IN A SANDBOX (cutbox-door.mjs). By AI agents, Wed Nov 11 2026. No macro, syntax, notation, axiom, sorry.
-/
import Derived.Test.YtbkgbhlmeeodgaaGreatDoorRows
import GoSem.ClaimSeven
namespace Go.Proofs.YtbkgbhlmeeodgaaGreatDoor
namespace Rows

/-- THE TIED CARD OF 'paronymlaw09.DecompForms'. -/
def decompFormsCard : Claim7 := { stood := { row := decompFormsRow, standIns := [], harness := (true, "bc79e298cc5ed02a3c3995bc44ffe1f7f0cff19827a51b0542747020983cee4a"), looks := false }, kinds := [], alts := [], laidByText := true, laidKinds := [.data, .data, .pinned], laidTests := true, laidLooks := .later }
def DecompFormsCardSaid : Prop := Claim7.holds Tryz.pinned (.plain (OpenSpec.ofChange decompFormsSpec)) decompFormsCard

/-- THE TIED CARD OF 'paronymlaw09.DecompKeeps'. -/
def decompKeepsCard : Claim7 := { stood := { row := decompKeepsRow, standIns := [], harness := (true, "bc79e298cc5ed02a3c3995bc44ffe1f7f0cff19827a51b0542747020983cee4a"), looks := false }, kinds := [], alts := [], laidByText := true, laidKinds := [.data, .data, .pinned], laidTests := true, laidLooks := .later }
def DecompKeepsCardSaid : Prop := Claim7.holds Tryz.pinned (.plain (OpenSpec.ofChange decompKeepsSpec)) decompKeepsCard

/-- THE TIED CARD OF 'paronymlaw10.ComposeForms'. -/
def composeFormsCard : Claim7 := { stood := { row := composeFormsRow, standIns := [], harness := (true, "bc79e298cc5ed02a3c3995bc44ffe1f7f0cff19827a51b0542747020983cee4a"), looks := false }, kinds := [], alts := [], laidByText := true, laidKinds := [.data, .data, .pinned], laidTests := true, laidLooks := .later }
def ComposeFormsCardSaid : Prop := Claim7.holds Tryz.pinned (.plain (OpenSpec.ofChange composeFormsSpec)) composeFormsCard

/-- THE TIED CARD OF 'paronymlaw10.ComposeKeeps'. -/
def composeKeepsCard : Claim7 := { stood := { row := composeKeepsRow, standIns := [], harness := (true, "bc79e298cc5ed02a3c3995bc44ffe1f7f0cff19827a51b0542747020983cee4a"), looks := false }, kinds := [], alts := [], laidByText := true, laidKinds := [.data, .data, .pinned], laidTests := true, laidLooks := .later }
def ComposeKeepsCardSaid : Prop := Claim7.holds Tryz.pinned (.plain (OpenSpec.ofChange composeKeepsSpec)) composeKeepsCard

/-- THE TIED CARD OF 'paronymlaw10.ComposeSames'. -/
def composeSamesCard : Claim7 := { stood := { row := composeSamesRow, standIns := [], harness := (true, "bc79e298cc5ed02a3c3995bc44ffe1f7f0cff19827a51b0542747020983cee4a"), looks := false }, kinds := [], alts := [], laidByText := true, laidKinds := [.data, .data, .pinned], laidTests := true, laidLooks := .later }
def ComposeSamesCardSaid : Prop := Claim7.holds Tryz.pinned (.plain (OpenSpec.ofChange composeSamesSpec)) composeSamesCard

/-- THE TIED CARD OF 'paronymlaw10.ComposeJoins'. -/
def composeJoinsCard : Claim7 := { stood := { row := composeJoinsRow, standIns := [], harness := (true, "bc79e298cc5ed02a3c3995bc44ffe1f7f0cff19827a51b0542747020983cee4a"), looks := false }, kinds := [], alts := [], laidByText := true, laidKinds := [.data, .data, .pinned], laidTests := true, laidLooks := .later }
def ComposeJoinsCardSaid : Prop := Claim7.holds Tryz.pinned (.plain (OpenSpec.ofChange composeJoinsSpec)) composeJoinsCard

/-- THE SECOND FORM's CARD OF 'paronymlaw09.DecompForms'. -/
def decompFormsUptoCard : Claim7 := { stood := { row := decompFormsUptoRow, standIns := [], harness := (true, "bc79e298cc5ed02a3c3995bc44ffe1f7f0cff19827a51b0542747020983cee4a"), looks := false }, kinds := [], alts := [], laidByText := true, laidKinds := [.data, .data, .pinned], laidTests := true, laidLooks := .later }
def DecompFormsUptoCardSaid : Prop := Claim7.holds Tryz.pinned (.plain (OpenSpec.upto decompFormsSpec)) decompFormsUptoCard

/-- THE SECOND FORM's CARD OF 'paronymlaw09.DecompKeeps'. -/
def decompKeepsUptoCard : Claim7 := { stood := { row := decompKeepsUptoRow, standIns := [], harness := (true, "bc79e298cc5ed02a3c3995bc44ffe1f7f0cff19827a51b0542747020983cee4a"), looks := false }, kinds := [], alts := [], laidByText := true, laidKinds := [.data, .data, .pinned], laidTests := true, laidLooks := .later }
def DecompKeepsUptoCardSaid : Prop := Claim7.holds Tryz.pinned (.plain (OpenSpec.upto decompKeepsSpec)) decompKeepsUptoCard

/-- THE SECOND FORM's CARD OF 'paronymlaw10.ComposeForms'. -/
def composeFormsUptoCard : Claim7 := { stood := { row := composeFormsUptoRow, standIns := [], harness := (true, "bc79e298cc5ed02a3c3995bc44ffe1f7f0cff19827a51b0542747020983cee4a"), looks := false }, kinds := [], alts := [], laidByText := true, laidKinds := [.data, .data, .pinned], laidTests := true, laidLooks := .later }
def ComposeFormsUptoCardSaid : Prop := Claim7.holds Tryz.pinned (.plain (OpenSpec.upto composeFormsSpec)) composeFormsUptoCard

/-- THE SECOND FORM's CARD OF 'paronymlaw10.ComposeKeeps'. -/
def composeKeepsUptoCard : Claim7 := { stood := { row := composeKeepsUptoRow, standIns := [], harness := (true, "bc79e298cc5ed02a3c3995bc44ffe1f7f0cff19827a51b0542747020983cee4a"), looks := false }, kinds := [], alts := [], laidByText := true, laidKinds := [.data, .data, .pinned], laidTests := true, laidLooks := .later }
def ComposeKeepsUptoCardSaid : Prop := Claim7.holds Tryz.pinned (.plain (OpenSpec.upto composeKeepsSpec)) composeKeepsUptoCard

/-- THE SECOND FORM's CARD OF 'paronymlaw10.ComposeSames'. -/
def composeSamesUptoCard : Claim7 := { stood := { row := composeSamesUptoRow, standIns := [], harness := (true, "bc79e298cc5ed02a3c3995bc44ffe1f7f0cff19827a51b0542747020983cee4a"), looks := false }, kinds := [], alts := [], laidByText := true, laidKinds := [.data, .data, .pinned], laidTests := true, laidLooks := .later }
def ComposeSamesUptoCardSaid : Prop := Claim7.holds Tryz.pinned (.plain (OpenSpec.upto composeSamesSpec)) composeSamesUptoCard

/-- THE SECOND FORM's CARD OF 'paronymlaw10.ComposeJoins'. -/
def composeJoinsUptoCard : Claim7 := { stood := { row := composeJoinsUptoRow, standIns := [], harness := (true, "bc79e298cc5ed02a3c3995bc44ffe1f7f0cff19827a51b0542747020983cee4a"), looks := false }, kinds := [], alts := [], laidByText := true, laidKinds := [.data, .data, .pinned], laidTests := true, laidLooks := .later }
def ComposeJoinsUptoCardSaid : Prop := Claim7.holds Tryz.pinned (.plain (OpenSpec.upto composeJoinsSpec)) composeJoinsUptoCard
end Rows
end Go.Proofs.YtbkgbhlmeeodgaaGreatDoor
