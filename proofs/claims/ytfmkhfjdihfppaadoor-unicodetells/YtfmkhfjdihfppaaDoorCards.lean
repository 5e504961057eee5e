/-
  DERIVED. GIVEN WITH THE SEED: THE CARDS: each row of YtfmkhfjdihfppaaDoorRows.lean that lists a variable, with what it lists TIED to the program's text (the seventh form; the later family's looks); each row that meets fmt, with fmt's text TOLD by the authors' own Lean function (tested against real Go, not proved from fmt's source: count such statements apart). THE CARD IS WHAT COUNTS. Prove the row's statement (the work); the ties are given (YtfmkhfjdihfppaaDoorTie.lean); close each card by the builder's one call (the guide's Derived/Test/ToyasCard.lean, 'card_holds'). Laid BY PROGRAM, IN A SANDBOX (cutbox-door.mjs). By AI agents, Wed Nov 11 2026. No macro, syntax, notation, axiom, sorry.
-/
import Derived.Test.YtfmkhfjdihfppaaDoorRows
import GoSem.ClaimSeven
namespace Go.Proofs.YtfmkhfjdihfppaaDoor
namespace Rows

/-- THE TIED CARD OF 'paronymlaw04.UnicodeParses'. -/
def unicodeParsesCard : Claim7 := { stood := { row := unicodeParsesRow, standIns := [], harness := (true, "efb8ba82c4f149c5090a091241df4355e8d2f8f4ca2b27b69ee8db08e03fe9be"), looks := false }, kinds := [], alts := [], laidByText := true, laidKinds := [.data, .pinned], laidTests := true, laidLooks := .later }
def UnicodeParsesCardSaid : Prop := Claim7.holds Tryd.pinned (.plain (OpenSpec.ofChange unicodeParsesSpec)) unicodeParsesCard

/-- THE TIED CARD OF 'paronymlaw04.UnicodeTells'. -/
def unicodeTellsCard : Claim7 := { stood := { row := unicodeTellsRow, standIns := [], harness := (true, "efb8ba82c4f149c5090a091241df4355e8d2f8f4ca2b27b69ee8db08e03fe9be"), looks := false }, kinds := [], alts := [], laidByText := true, laidKinds := [.data, .pinned], laidTests := true, laidLooks := .later }
def UnicodeTellsCardSaid : Prop := Claim7.holds Tryd.pinned (.plain (OpenSpec.ofChange unicodeTellsSpec)) unicodeTellsCard

/-- THE TIED CARD OF 'paronymlaw04.UnicodeRises'. -/
def unicodeRisesCard : Claim7 := { stood := { row := unicodeRisesRow, standIns := [], harness := (true, "efb8ba82c4f149c5090a091241df4355e8d2f8f4ca2b27b69ee8db08e03fe9be"), looks := false }, kinds := [], alts := [], laidByText := true, laidKinds := [.data, .pinned], laidTests := true, laidLooks := .later }
def UnicodeRisesCardSaid : Prop := Claim7.holds Tryd.pinned (.plain (OpenSpec.ofChange unicodeRisesSpec)) unicodeRisesCard

/-- THE TIED CARD OF 'paronymlaw04.UnicodeRemarks'. -/
def unicodeRemarksCard : Claim7 := { stood := { row := unicodeRemarksRow, standIns := [], harness := (true, "efb8ba82c4f149c5090a091241df4355e8d2f8f4ca2b27b69ee8db08e03fe9be"), looks := false }, kinds := [], alts := [], laidByText := true, laidKinds := [.data, .pinned], laidTests := true, laidLooks := .later }
def UnicodeRemarksCardSaid : Prop := Claim7.holds Tryd.pinned (.plain (OpenSpec.ofChange unicodeRemarksSpec)) unicodeRemarksCard

/-- THE SECOND FORM's CARD OF 'paronymlaw04.UnicodeParses'. -/
def unicodeParsesUptoCard : Claim7 := { stood := { row := unicodeParsesUptoRow, standIns := [], harness := (true, "efb8ba82c4f149c5090a091241df4355e8d2f8f4ca2b27b69ee8db08e03fe9be"), looks := false }, kinds := [], alts := [], laidByText := true, laidKinds := [.data, .pinned], laidTests := true, laidLooks := .later }
def UnicodeParsesUptoCardSaid : Prop := Claim7.holds Tryd.pinned (.plain (OpenSpec.upto unicodeParsesSpec)) unicodeParsesUptoCard

/-- THE SECOND FORM's CARD OF 'paronymlaw04.UnicodeTells'. -/
def unicodeTellsUptoCard : Claim7 := { stood := { row := unicodeTellsUptoRow, standIns := [], harness := (true, "efb8ba82c4f149c5090a091241df4355e8d2f8f4ca2b27b69ee8db08e03fe9be"), looks := false }, kinds := [], alts := [], laidByText := true, laidKinds := [.data, .pinned], laidTests := true, laidLooks := .later }
def UnicodeTellsUptoCardSaid : Prop := Claim7.holds Tryd.pinned (.plain (OpenSpec.upto unicodeTellsSpec)) unicodeTellsUptoCard

/-- THE SECOND FORM's CARD OF 'paronymlaw04.UnicodeRises'. -/
def unicodeRisesUptoCard : Claim7 := { stood := { row := unicodeRisesUptoRow, standIns := [], harness := (true, "efb8ba82c4f149c5090a091241df4355e8d2f8f4ca2b27b69ee8db08e03fe9be"), looks := false }, kinds := [], alts := [], laidByText := true, laidKinds := [.data, .pinned], laidTests := true, laidLooks := .later }
def UnicodeRisesUptoCardSaid : Prop := Claim7.holds Tryd.pinned (.plain (OpenSpec.upto unicodeRisesSpec)) unicodeRisesUptoCard

/-- THE SECOND FORM's CARD OF 'paronymlaw04.UnicodeRemarks'. -/
def unicodeRemarksUptoCard : Claim7 := { stood := { row := unicodeRemarksUptoRow, standIns := [], harness := (true, "efb8ba82c4f149c5090a091241df4355e8d2f8f4ca2b27b69ee8db08e03fe9be"), looks := false }, kinds := [], alts := [], laidByText := true, laidKinds := [.data, .pinned], laidTests := true, laidLooks := .later }
def UnicodeRemarksUptoCardSaid : Prop := Claim7.holds Tryd.pinned (.plain (OpenSpec.upto unicodeRemarksSpec)) unicodeRemarksUptoCard
end Rows
end Go.Proofs.YtfmkhfjdihfppaaDoor
