/-
  DERIVED. GIVEN WITH THE SEED: THE CARDS: each row of YtfakohoamgogoaaGreatDoorRows.lean that lists a variable, with what it lists TIED to the program's text (the seventh form; the later family's looks); each row that meets fmt, with fmt's text TOLD by the authors' own Lean function (tested against real Go, not proved from fmt's source: count such statements apart). THE CARD IS WHAT COUNTS. Prove the row's statement (the work); the ties are given (YtfakohoamgogoaaGreatDoorTie.lean); close each card by the builder's one call (the guide's Derived/Test/ToyasCard.lean, 'card_holds'). Laid BY PROGRAM, IN A SANDBOX (cutbox-door.mjs). By AI agents, Wed Nov 11 2026. No macro, syntax, notation, axiom, sorry.
-/
import Derived.Test.YtfakohoamgogoaaGreatDoorRows
import GoSem.ClaimSeven
namespace Go.Proofs.YtfakohoamgogoaaGreatDoor
namespace Rows

/-- THE TIED CARD OF 'paronymlaw09.DecompForms'. -/
def decompFormsCard : Claim7 := { stood := { row := decompFormsRow, standIns := [], harness := (true, "e2c6d0bd0d1d067fae9b89d87a626742abef4334ad8ba9195e57bac3b13c6250"), looks := false }, kinds := [], alts := [], laidByText := true, laidKinds := [.data, .data, .pinned], laidTests := true, laidLooks := .later }
def DecompFormsCardSaid : Prop := Claim7.holds Tryz.pinned (.plain (OpenSpec.ofChange decompFormsSpec)) decompFormsCard

/-- THE TIED CARD OF 'paronymlaw09.DecompTwice'. -/
def decompTwiceCard : Claim7 := { stood := { row := decompTwiceRow, standIns := [], harness := (true, "e2c6d0bd0d1d067fae9b89d87a626742abef4334ad8ba9195e57bac3b13c6250"), looks := false }, kinds := [], alts := [], laidByText := true, laidKinds := [.data, .data, .pinned], laidTests := true, laidLooks := .later }
def DecompTwiceCardSaid : Prop := Claim7.holds Tryz.pinned (.plain (OpenSpec.ofChange decompTwiceSpec)) decompTwiceCard

/-- THE TIED CARD OF 'paronymlaw09.DecompKeeps'. -/
def decompKeepsCard : Claim7 := { stood := { row := decompKeepsRow, standIns := [], harness := (true, "e2c6d0bd0d1d067fae9b89d87a626742abef4334ad8ba9195e57bac3b13c6250"), looks := false }, kinds := [], alts := [], laidByText := true, laidKinds := [.data, .data, .pinned], laidTests := true, laidLooks := .later }
def DecompKeepsCardSaid : Prop := Claim7.holds Tryz.pinned (.plain (OpenSpec.ofChange decompKeepsSpec)) decompKeepsCard

/-- THE TIED CARD OF 'paronymlaw09.DecompCounts'. -/
def decompCountsCard : Claim7 := { stood := { row := decompCountsRow, standIns := [], harness := (true, "e2c6d0bd0d1d067fae9b89d87a626742abef4334ad8ba9195e57bac3b13c6250"), looks := false }, kinds := [], alts := [], laidByText := true, laidKinds := [.data, .data, .pinned], laidTests := true, laidLooks := .later }
def DecompCountsCardSaid : Prop := Claim7.holds Tryz.pinned (.plain (OpenSpec.ofChange decompCountsSpec)) decompCountsCard

/-- THE SECOND FORM's CARD OF 'paronymlaw09.DecompForms'. -/
def decompFormsUptoCard : Claim7 := { stood := { row := decompFormsUptoRow, standIns := [], harness := (true, "e2c6d0bd0d1d067fae9b89d87a626742abef4334ad8ba9195e57bac3b13c6250"), looks := false }, kinds := [], alts := [], laidByText := true, laidKinds := [.data, .data, .pinned], laidTests := true, laidLooks := .later }
def DecompFormsUptoCardSaid : Prop := Claim7.holds Tryz.pinned (.plain (OpenSpec.upto decompFormsSpec)) decompFormsUptoCard

/-- THE SECOND FORM's CARD OF 'paronymlaw09.DecompTwice'. -/
def decompTwiceUptoCard : Claim7 := { stood := { row := decompTwiceUptoRow, standIns := [], harness := (true, "e2c6d0bd0d1d067fae9b89d87a626742abef4334ad8ba9195e57bac3b13c6250"), looks := false }, kinds := [], alts := [], laidByText := true, laidKinds := [.data, .data, .pinned], laidTests := true, laidLooks := .later }
def DecompTwiceUptoCardSaid : Prop := Claim7.holds Tryz.pinned (.plain (OpenSpec.upto decompTwiceSpec)) decompTwiceUptoCard

/-- THE SECOND FORM's CARD OF 'paronymlaw09.DecompKeeps'. -/
def decompKeepsUptoCard : Claim7 := { stood := { row := decompKeepsUptoRow, standIns := [], harness := (true, "e2c6d0bd0d1d067fae9b89d87a626742abef4334ad8ba9195e57bac3b13c6250"), looks := false }, kinds := [], alts := [], laidByText := true, laidKinds := [.data, .data, .pinned], laidTests := true, laidLooks := .later }
def DecompKeepsUptoCardSaid : Prop := Claim7.holds Tryz.pinned (.plain (OpenSpec.upto decompKeepsSpec)) decompKeepsUptoCard

/-- THE SECOND FORM's CARD OF 'paronymlaw09.DecompCounts'. -/
def decompCountsUptoCard : Claim7 := { stood := { row := decompCountsUptoRow, standIns := [], harness := (true, "e2c6d0bd0d1d067fae9b89d87a626742abef4334ad8ba9195e57bac3b13c6250"), looks := false }, kinds := [], alts := [], laidByText := true, laidKinds := [.data, .data, .pinned], laidTests := true, laidLooks := .later }
def DecompCountsUptoCardSaid : Prop := Claim7.holds Tryz.pinned (.plain (OpenSpec.upto decompCountsSpec)) decompCountsUptoCard
end Rows
end Go.Proofs.YtfakohoamgogoaaGreatDoor
