/-
  DERIVED. GIVEN WITH THE SEED: THE CARDS: each row of YtlknffldlnhfdaaDoorRows.lean that lists a variable, with what it lists TIED to the program's text (the seventh form; the later family's looks); each row that meets fmt, with fmt's text TOLD by the authors' own Lean function (tested against real Go, not proved from fmt's source: count such statements apart). THE CARD IS WHAT COUNTS. Prove the row's statement (the work); the ties are given (YtlknffldlnhfdaaDoorTie.lean); close each card by the builder's one call (the guide's Derived/Test/ToyasCard.lean, 'card_holds'). Laid BY PROGRAM, IN A SANDBOX (cutbox-door.mjs). By AI agents, Wed Nov 11 2026. No macro, syntax, notation, axiom, sorry.
-/
import Derived.Test.YtlknffldlnhfdaaDoorRows
import GoSem.ClaimSeven
namespace Go.Proofs.YtlknffldlnhfdaaDoor
namespace Rows

/-- THE TIED CARD OF 'paronymlaw02.FieldLines'. -/
def fieldLinesCard : Claim7 := { stood := { row := fieldLinesRow, standIns := [], harness := (true, "ad6f3860596429755c2e10a145095f630ea2c3b4bc4f5e95fdbbeb17282b9fa3"), looks := false }, kinds := [], alts := [], laidByText := true, laidKinds := [.data, .pinned], laidTests := true, laidLooks := .later }
def FieldLinesCardSaid : Prop := Claim7.holds Tryd.pinned (.plain (OpenSpec.ofChange fieldLinesSpec)) fieldLinesCard

/-- THE TIED CARD OF 'paronymlaw02.FieldPoints'. -/
def fieldPointsCard : Claim7 := { stood := { row := fieldPointsRow, standIns := [], harness := (true, "ad6f3860596429755c2e10a145095f630ea2c3b4bc4f5e95fdbbeb17282b9fa3"), looks := false }, kinds := [], alts := [], laidByText := true, laidKinds := [.data, .pinned], laidTests := true, laidLooks := .later }
def FieldPointsCardSaid : Prop := Claim7.holds Tryd.pinned (.plain (OpenSpec.ofChange fieldPointsSpec)) fieldPointsCard

/-- THE TIED CARD OF 'paronymlaw02.FieldBack'. -/
def fieldBackCard : Claim7 := { stood := { row := fieldBackRow, standIns := [], harness := (true, "ad6f3860596429755c2e10a145095f630ea2c3b4bc4f5e95fdbbeb17282b9fa3"), looks := false }, kinds := [], alts := [], laidByText := true, laidKinds := [.data, .pinned], laidTests := true, laidLooks := .later }
def FieldBackCardSaid : Prop := Claim7.holds Tryd.pinned (.plain (OpenSpec.ofChange fieldBackSpec)) fieldBackCard

/-- THE TIED CARD OF 'paronymlaw02.FieldRemarks'. -/
def fieldRemarksCard : Claim7 := { stood := { row := fieldRemarksRow, standIns := [], harness := (true, "ad6f3860596429755c2e10a145095f630ea2c3b4bc4f5e95fdbbeb17282b9fa3"), looks := false }, kinds := [], alts := [], laidByText := true, laidKinds := [.data, .pinned], laidTests := true, laidLooks := .later }
def FieldRemarksCardSaid : Prop := Claim7.holds Tryd.pinned (.plain (OpenSpec.ofChange fieldRemarksSpec)) fieldRemarksCard

/-- THE SECOND FORM's CARD OF 'paronymlaw02.FieldLines'. -/
def fieldLinesUptoCard : Claim7 := { stood := { row := fieldLinesUptoRow, standIns := [], harness := (true, "ad6f3860596429755c2e10a145095f630ea2c3b4bc4f5e95fdbbeb17282b9fa3"), looks := false }, kinds := [], alts := [], laidByText := true, laidKinds := [.data, .pinned], laidTests := true, laidLooks := .later }
def FieldLinesUptoCardSaid : Prop := Claim7.holds Tryd.pinned (.plain (OpenSpec.upto fieldLinesSpec)) fieldLinesUptoCard

/-- THE SECOND FORM's CARD OF 'paronymlaw02.FieldPoints'. -/
def fieldPointsUptoCard : Claim7 := { stood := { row := fieldPointsUptoRow, standIns := [], harness := (true, "ad6f3860596429755c2e10a145095f630ea2c3b4bc4f5e95fdbbeb17282b9fa3"), looks := false }, kinds := [], alts := [], laidByText := true, laidKinds := [.data, .pinned], laidTests := true, laidLooks := .later }
def FieldPointsUptoCardSaid : Prop := Claim7.holds Tryd.pinned (.plain (OpenSpec.upto fieldPointsSpec)) fieldPointsUptoCard

/-- THE SECOND FORM's CARD OF 'paronymlaw02.FieldBack'. -/
def fieldBackUptoCard : Claim7 := { stood := { row := fieldBackUptoRow, standIns := [], harness := (true, "ad6f3860596429755c2e10a145095f630ea2c3b4bc4f5e95fdbbeb17282b9fa3"), looks := false }, kinds := [], alts := [], laidByText := true, laidKinds := [.data, .pinned], laidTests := true, laidLooks := .later }
def FieldBackUptoCardSaid : Prop := Claim7.holds Tryd.pinned (.plain (OpenSpec.upto fieldBackSpec)) fieldBackUptoCard

/-- THE SECOND FORM's CARD OF 'paronymlaw02.FieldRemarks'. -/
def fieldRemarksUptoCard : Claim7 := { stood := { row := fieldRemarksUptoRow, standIns := [], harness := (true, "ad6f3860596429755c2e10a145095f630ea2c3b4bc4f5e95fdbbeb17282b9fa3"), looks := false }, kinds := [], alts := [], laidByText := true, laidKinds := [.data, .pinned], laidTests := true, laidLooks := .later }
def FieldRemarksUptoCardSaid : Prop := Claim7.holds Tryd.pinned (.plain (OpenSpec.upto fieldRemarksSpec)) fieldRemarksUptoCard
end Rows
end Go.Proofs.YtlknffldlnhfdaaDoor
