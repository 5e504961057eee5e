/-
  DERIVED. GIVEN WITH THE SEED: THE CARDS: each row of YtkcpnnfbhcklpaaGreatDoorRows.lean that lists a variable, with what it lists TIED to the program's text (the seventh form; the later family's looks); each row that meets fmt, with fmt's text TOLD by the authors' own Lean function (tested against real Go, not proved from fmt's source: count such statements apart). THE CARD IS WHAT COUNTS. Prove the row's statement (the work); the ties are given (YtkcpnnfbhcklpaaGreatDoorTie.lean); close each card by the builder's one call (the guide's Derived/Test/ToyasCard.lean, 'card_holds'). Laid BY PROGRAM, IN A SANDBOX (cutbox-door.mjs). By AI agents, Wed Nov 11 2026. No macro, syntax, notation, axiom, sorry.
-/
import Derived.Test.YtkcpnnfbhcklpaaGreatDoorRows
import GoSem.ClaimSeven
namespace Go.Proofs.YtkcpnnfbhcklpaaGreatDoor
namespace Rows

/-- THE TIED CARD OF 'paronymlaw06.ConfusParses'. -/
def confusParsesCard : Claim7 := { stood := { row := confusParsesRow, standIns := [], harness := (true, "6725661cd2ff0fa05cf5c0fb3eb6702814da02b21c496ff268c1f2ed2189ac39"), looks := false }, kinds := [], alts := [], laidByText := true, laidKinds := [.data, .pinned], laidTests := true, laidLooks := .later }
def ConfusParsesCardSaid : Prop := Claim7.holds Tryz.pinned (.plain (OpenSpec.ofChange confusParsesSpec)) confusParsesCard

/-- THE TIED CARD OF 'paronymlaw06.ConfusTells'. -/
def confusTellsCard : Claim7 := { stood := { row := confusTellsRow, standIns := [], harness := (true, "6725661cd2ff0fa05cf5c0fb3eb6702814da02b21c496ff268c1f2ed2189ac39"), looks := false }, kinds := [], alts := [], laidByText := true, laidKinds := [.data, .pinned], laidTests := true, laidLooks := .later }
def ConfusTellsCardSaid : Prop := Claim7.holds Tryz.pinned (.plain (OpenSpec.ofChange confusTellsSpec)) confusTellsCard

/-- THE TIED CARD OF 'paronymlaw06.ConfusTurned'. -/
def confusTurnedCard : Claim7 := { stood := { row := confusTurnedRow, standIns := [], harness := (true, "6725661cd2ff0fa05cf5c0fb3eb6702814da02b21c496ff268c1f2ed2189ac39"), looks := false }, kinds := [], alts := [], laidByText := true, laidKinds := [.data, .pinned], laidTests := true, laidLooks := .later }
def ConfusTurnedCardSaid : Prop := Claim7.holds Tryz.pinned (.plain (OpenSpec.ofChange confusTurnedSpec)) confusTurnedCard

/-- THE SECOND FORM's CARD OF 'paronymlaw06.ConfusParses'. -/
def confusParsesUptoCard : Claim7 := { stood := { row := confusParsesUptoRow, standIns := [], harness := (true, "6725661cd2ff0fa05cf5c0fb3eb6702814da02b21c496ff268c1f2ed2189ac39"), looks := false }, kinds := [], alts := [], laidByText := true, laidKinds := [.data, .pinned], laidTests := true, laidLooks := .later }
def ConfusParsesUptoCardSaid : Prop := Claim7.holds Tryz.pinned (.plain (OpenSpec.upto confusParsesSpec)) confusParsesUptoCard

/-- THE SECOND FORM's CARD OF 'paronymlaw06.ConfusTells'. -/
def confusTellsUptoCard : Claim7 := { stood := { row := confusTellsUptoRow, standIns := [], harness := (true, "6725661cd2ff0fa05cf5c0fb3eb6702814da02b21c496ff268c1f2ed2189ac39"), looks := false }, kinds := [], alts := [], laidByText := true, laidKinds := [.data, .pinned], laidTests := true, laidLooks := .later }
def ConfusTellsUptoCardSaid : Prop := Claim7.holds Tryz.pinned (.plain (OpenSpec.upto confusTellsSpec)) confusTellsUptoCard

/-- THE SECOND FORM's CARD OF 'paronymlaw06.ConfusTurned'. -/
def confusTurnedUptoCard : Claim7 := { stood := { row := confusTurnedUptoRow, standIns := [], harness := (true, "6725661cd2ff0fa05cf5c0fb3eb6702814da02b21c496ff268c1f2ed2189ac39"), looks := false }, kinds := [], alts := [], laidByText := true, laidKinds := [.data, .pinned], laidTests := true, laidLooks := .later }
def ConfusTurnedUptoCardSaid : Prop := Claim7.holds Tryz.pinned (.plain (OpenSpec.upto confusTurnedSpec)) confusTurnedUptoCard
end Rows
end Go.Proofs.YtkcpnnfbhcklpaaGreatDoor
