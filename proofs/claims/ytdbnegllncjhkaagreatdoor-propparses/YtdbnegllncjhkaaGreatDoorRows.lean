/-
  NARROWER THAN 'FOR EVERY INPUT', by the rows' own cells (each row's printed sentence says how): PropParses: laid · PropPoints: laid · PropOthers: laid · PropTurned: laid.
  DERIVED. THE GIVEN ROWS OF THIS SEAT. 4 by the template 'for every input the law returns true; each argument reads behind the call as it read before'; 0 by the template 'total and deterministic' (their statements: YtdbnegllncjhkaaGreatDoorTotals.lean).
  GIVEN WITH THE SEED: the statements are not yours to turn. If you find one false, say at which input.
  Laid BY PROGRAM, IN A SANDBOX (cutbox-rows.mjs): the forced cells as the released guide's own fill.sh prints them over the translation f4fe5f9b2b0ac285… (all of the seat's roots in one cut). By AI agents, Wed Nov 11 2026. No macro, syntax, notation, axiom, sorry.
-/
import Derived.Test.YtdbnegllncjhkaaGreatDoorChecked
import GoSem.PinnedTables
import GoSem.Claim
import GoSem.ClaimJoined
import GoSem.ClaimMapViews
import Derived.JoinedTies
import Derived.KernelRfl
namespace Go.Proofs.YtdbnegllncjhkaaGreatDoor
/- THE CELL 'sum', in the pinned program and in every row, IS THE sha256 OF THE DUMP (.gsa) THAT YtdbnegllncjhkaaGreatDoorProg.lean LOADS. Nothing in Lean hashes anything: it is a label: what it is worth is what the hold of that sum in a sandbox is worth. -/
noncomputable def Tryz.pinned : Pinned := { name := "ytdbnegllncjhkaagreatdoor", sum := "f4fe5f9b2b0ac285ada41657c0a33062946ba467a023e21b2cf69c2da9e2d024", checked := Tryz.checked }
namespace Rows
def none {H : Type} : Left H := { results := [], args := [] }

/- WHAT THE LISTED PACKAGE-LEVEL VARIABLES READ AS WHEN THE CALL BEGINS. Each datum BY PROGRAM (the guide's laid-datum.mjs) off the statement by which the dump's own 'gosem.cut.vars' lays the variable. In a bare row this is a premise. The card (YtdbnegllncjhkaaGreatDoorCards.lean) ties it to the program's text. -/
def laid_unicode_utf8_acceptRanges {H : Type} : DataW H := .agg [.agg [.lit (.int .u8 128), .lit (.int .u8 191)], .agg [.lit (.int .u8 160), .lit (.int .u8 191)], .agg [.lit (.int .u8 128), .lit (.int .u8 159)], .agg [.lit (.int .u8 144), .lit (.int .u8 191)], .agg [.lit (.int .u8 128), .lit (.int .u8 143)], .agg [.lit (.int .u8 0), .lit (.int .u8 0)], .agg [.lit (.int .u8 0), .lit (.int .u8 0)], .agg [.lit (.int .u8 0), .lit (.int .u8 0)], .agg [.lit (.int .u8 0), .lit (.int .u8 0)], .agg [.lit (.int .u8 0), .lit (.int .u8 0)], .agg [.lit (.int .u8 0), .lit (.int .u8 0)], .agg [.lit (.int .u8 0), .lit (.int .u8 0)], .agg [.lit (.int .u8 0), .lit (.int .u8 0)], .agg [.lit (.int .u8 0), .lit (.int .u8 0)], .agg [.lit (.int .u8 0), .lit (.int .u8 0)], .agg [.lit (.int .u8 0), .lit (.int .u8 0)]]
/-- One of Go's own tables, pinned by name: the form's constant. -/
def laid_unicode_utf8_first : DataW Unit := Go.Pinned.utf8First

/-- 'paronymlaw05.PropParses': WHATEVER THE INPUT: true; the input reads as it did. -/
def propParsesSpec : ChangeSpec := { name := "propParses", fn := fun _ => fun
  | [d1, d2] => { results := [.lit (.bool true)], args := [d1, d2] }
  | _ => none }
def propParsesRow : OpenClaim := { program := "ytdbnegllncjhkaagreatdoor", sum := "f4fe5f9b2b0ac285ada41657c0a33062946ba467a023e21b2cf69c2da9e2d024", func := "paronym/paronymlaw05.PropParses", spec := "propParses", inPlace := ["internal/bytealg.IndexByte", "internal/bytealg.Index", "internal/bytealg.IndexByteString", "internal/bytealg.IndexString", "internal/bytealg.CountString"], unfollowed := true, recurses := true, named := ["internal/bytealg.MaxLen", "unicode/utf8.first", "unicode/utf8.acceptRanges"], apart := false, laid := [("unicode/utf8.acceptRanges", laid_unicode_utf8_acceptRanges), ("unicode/utf8.first", laid_unicode_utf8_first)] }
def PropParsesSaid : Prop := propParsesRow.holds Tryz.pinned (OpenSpec.ofChange propParsesSpec)

/-- ITS FALSE NEIGHBOUR: 'it returns false'. Refute it at one input. -/
def propParsesWrong : ChangeSpec := { name := "propParses", fn := fun _ => fun
  | [d1, d2] => { results := [.lit (.bool false)], args := [d1, d2] }
  | _ => none }
def PropParsesWrongFalsely : Prop := propParsesRow.holds Tryz.pinned (OpenSpec.ofChange propParsesWrong)

/-- 'paronymlaw05.PropPoints': WHATEVER THE INPUT: true; the input reads as it did. -/
def propPointsSpec : ChangeSpec := { name := "propPoints", fn := fun _ => fun
  | [d1, d2] => { results := [.lit (.bool true)], args := [d1, d2] }
  | _ => none }
def propPointsRow : OpenClaim := { program := "ytdbnegllncjhkaagreatdoor", sum := "f4fe5f9b2b0ac285ada41657c0a33062946ba467a023e21b2cf69c2da9e2d024", func := "paronym/paronymlaw05.PropPoints", spec := "propPoints", inPlace := ["internal/bytealg.IndexByte", "internal/bytealg.Index", "internal/bytealg.IndexByteString", "internal/bytealg.IndexString", "internal/bytealg.CountString"], unfollowed := true, recurses := true, named := ["internal/bytealg.MaxLen", "unicode/utf8.first", "unicode/utf8.acceptRanges"], apart := false, laid := [("unicode/utf8.acceptRanges", laid_unicode_utf8_acceptRanges), ("unicode/utf8.first", laid_unicode_utf8_first)] }
def PropPointsSaid : Prop := propPointsRow.holds Tryz.pinned (OpenSpec.ofChange propPointsSpec)

/-- ITS FALSE NEIGHBOUR: 'it returns false'. Refute it at one input. -/
def propPointsWrong : ChangeSpec := { name := "propPoints", fn := fun _ => fun
  | [d1, d2] => { results := [.lit (.bool false)], args := [d1, d2] }
  | _ => none }
def PropPointsWrongFalsely : Prop := propPointsRow.holds Tryz.pinned (OpenSpec.ofChange propPointsWrong)

/-- 'paronymlaw05.PropOthers': WHATEVER THE INPUT: true; the input reads as it did. -/
def propOthersSpec : ChangeSpec := { name := "propOthers", fn := fun _ => fun
  | [d1, d2, d3] => { results := [.lit (.bool true)], args := [d1, d2, d3] }
  | _ => none }
def propOthersRow : OpenClaim := { program := "ytdbnegllncjhkaagreatdoor", sum := "f4fe5f9b2b0ac285ada41657c0a33062946ba467a023e21b2cf69c2da9e2d024", func := "paronym/paronymlaw05.PropOthers", spec := "propOthers", inPlace := ["internal/bytealg.IndexByte", "internal/bytealg.Index", "internal/bytealg.IndexByteString", "internal/bytealg.IndexString", "internal/bytealg.CountString"], unfollowed := true, recurses := true, named := ["internal/bytealg.MaxLen", "unicode/utf8.first", "unicode/utf8.acceptRanges"], apart := false, laid := [("unicode/utf8.acceptRanges", laid_unicode_utf8_acceptRanges), ("unicode/utf8.first", laid_unicode_utf8_first)] }
def PropOthersSaid : Prop := propOthersRow.holds Tryz.pinned (OpenSpec.ofChange propOthersSpec)

/-- ITS FALSE NEIGHBOUR: 'it returns false'. Refute it at one input. -/
def propOthersWrong : ChangeSpec := { name := "propOthers", fn := fun _ => fun
  | [d1, d2, d3] => { results := [.lit (.bool false)], args := [d1, d2, d3] }
  | _ => none }
def PropOthersWrongFalsely : Prop := propOthersRow.holds Tryz.pinned (OpenSpec.ofChange propOthersWrong)

/-- 'paronymlaw05.PropTurned': WHATEVER THE INPUT: true; the input reads as it did. -/
def propTurnedSpec : ChangeSpec := { name := "propTurned", fn := fun _ => fun
  | [d1, d2] => { results := [.lit (.bool true)], args := [d1, d2] }
  | _ => none }
def propTurnedRow : OpenClaim := { program := "ytdbnegllncjhkaagreatdoor", sum := "f4fe5f9b2b0ac285ada41657c0a33062946ba467a023e21b2cf69c2da9e2d024", func := "paronym/paronymlaw05.PropTurned", spec := "propTurned", inPlace := ["internal/bytealg.IndexByte", "internal/bytealg.Index", "internal/bytealg.IndexByteString", "internal/bytealg.IndexString", "internal/bytealg.CountString"], unfollowed := true, recurses := true, named := ["internal/bytealg.MaxLen", "unicode/utf8.first", "unicode/utf8.acceptRanges"], apart := false, laid := [("unicode/utf8.acceptRanges", laid_unicode_utf8_acceptRanges), ("unicode/utf8.first", laid_unicode_utf8_first)] }
def PropTurnedSaid : Prop := propTurnedRow.holds Tryz.pinned (OpenSpec.ofChange propTurnedSpec)

/-- ITS FALSE NEIGHBOUR: 'it returns false'. Refute it at one input. -/
def propTurnedWrong : ChangeSpec := { name := "propTurned", fn := fun _ => fun
  | [d1, d2] => { results := [.lit (.bool false)], args := [d1, d2] }
  | _ => none }
def PropTurnedWrongFalsely : Prop := propTurnedRow.holds Tryz.pinned (OpenSpec.ofChange propTurnedWrong)

/- THE SECOND FORM. 'bulk': how many values and letters a reading holds, each counted each time it is reached (what is shared counts as often as it is met; a slice's spare places count too). A statement '..UptoSaid' is the law's where the arguments, and the package variables that the reading takes, are together of bulk at most 1048576: NARROWER than '..Said'. Prove '..Said' where nothing that the law and all that it calls make is longer than what came in: it says more and counts as full. Else prove '..UptoSaid'. A law counts once. -/
mutual
def uptoBulk {H : Type} : DataW H → Nat
  | .lit (.string bytes) => bytes.length + 1
  | .lit _ => 1
  | .nil => 1
  | .ptr d => uptoBulk d + 1
  | .slice elems spare => uptoBulkAll elems + uptoBulkAll spare + 1
  | .agg parts => uptoBulkAll parts + 1
  | .iface _ d => uptoBulk d + 1
  | .map entries => uptoBulkEntries entries + 1
  | .held _ => 1
def uptoBulkAll {H : Type} : List (DataW H) → Nat
  | [] => 0
  | d :: r => uptoBulk d + uptoBulkAll r
def uptoBulkEntries {H : Type} : List (Lit × DataW H) → Nat
  | [] => 0
  | x :: r => uptoBulkEntry x + uptoBulkEntries r
def uptoBulkEntry {H : Type} : Lit × DataW H → Nat
  | (.string bytes, d) => bytes.length + uptoBulk d + 1
  | (_, d) => uptoBulk d + 1
 end
def uptoSmall : (H : Type) → List (DataW H) → Bool := fun _ ds => decide (uptoBulkAll ds ≤ 1048576)
def OpenSpec.upto (s : _root_.Go.ChangeSpec) : _root_.Go.OpenSpec := { _root_.Go.OpenSpec.ofChange s with cond := some uptoSmall }

/-- 'paronymlaw05.PropParses', WHERE WHAT IT READS IS OF BULK AT MOST 1048576: true; the input reads as it did. -/
def propParsesUptoRow : OpenClaim := { program := "ytdbnegllncjhkaagreatdoor", sum := "f4fe5f9b2b0ac285ada41657c0a33062946ba467a023e21b2cf69c2da9e2d024", func := "paronym/paronymlaw05.PropParses", spec := "propParses", inPlace := ["internal/bytealg.IndexByte", "internal/bytealg.Index", "internal/bytealg.IndexByteString", "internal/bytealg.IndexString", "internal/bytealg.CountString"], unfollowed := true, recurses := true, named := ["internal/bytealg.MaxLen", "unicode/utf8.first", "unicode/utf8.acceptRanges"], apart := false, laid := [("unicode/utf8.acceptRanges", laid_unicode_utf8_acceptRanges), ("unicode/utf8.first", laid_unicode_utf8_first)], narrowed := true }
def PropParsesUptoSaid : Prop := propParsesUptoRow.holds Tryz.pinned (OpenSpec.upto propParsesSpec)

/-- 'paronymlaw05.PropPoints', WHERE WHAT IT READS IS OF BULK AT MOST 1048576: true; the input reads as it did. -/
def propPointsUptoRow : OpenClaim := { program := "ytdbnegllncjhkaagreatdoor", sum := "f4fe5f9b2b0ac285ada41657c0a33062946ba467a023e21b2cf69c2da9e2d024", func := "paronym/paronymlaw05.PropPoints", spec := "propPoints", inPlace := ["internal/bytealg.IndexByte", "internal/bytealg.Index", "internal/bytealg.IndexByteString", "internal/bytealg.IndexString", "internal/bytealg.CountString"], unfollowed := true, recurses := true, named := ["internal/bytealg.MaxLen", "unicode/utf8.first", "unicode/utf8.acceptRanges"], apart := false, laid := [("unicode/utf8.acceptRanges", laid_unicode_utf8_acceptRanges), ("unicode/utf8.first", laid_unicode_utf8_first)], narrowed := true }
def PropPointsUptoSaid : Prop := propPointsUptoRow.holds Tryz.pinned (OpenSpec.upto propPointsSpec)

/-- 'paronymlaw05.PropOthers', WHERE WHAT IT READS IS OF BULK AT MOST 1048576: true; the input reads as it did. -/
def propOthersUptoRow : OpenClaim := { program := "ytdbnegllncjhkaagreatdoor", sum := "f4fe5f9b2b0ac285ada41657c0a33062946ba467a023e21b2cf69c2da9e2d024", func := "paronym/paronymlaw05.PropOthers", spec := "propOthers", inPlace := ["internal/bytealg.IndexByte", "internal/bytealg.Index", "internal/bytealg.IndexByteString", "internal/bytealg.IndexString", "internal/bytealg.CountString"], unfollowed := true, recurses := true, named := ["internal/bytealg.MaxLen", "unicode/utf8.first", "unicode/utf8.acceptRanges"], apart := false, laid := [("unicode/utf8.acceptRanges", laid_unicode_utf8_acceptRanges), ("unicode/utf8.first", laid_unicode_utf8_first)], narrowed := true }
def PropOthersUptoSaid : Prop := propOthersUptoRow.holds Tryz.pinned (OpenSpec.upto propOthersSpec)

/-- 'paronymlaw05.PropTurned', WHERE WHAT IT READS IS OF BULK AT MOST 1048576: true; the input reads as it did. -/
def propTurnedUptoRow : OpenClaim := { program := "ytdbnegllncjhkaagreatdoor", sum := "f4fe5f9b2b0ac285ada41657c0a33062946ba467a023e21b2cf69c2da9e2d024", func := "paronym/paronymlaw05.PropTurned", spec := "propTurned", inPlace := ["internal/bytealg.IndexByte", "internal/bytealg.Index", "internal/bytealg.IndexByteString", "internal/bytealg.IndexString", "internal/bytealg.CountString"], unfollowed := true, recurses := true, named := ["internal/bytealg.MaxLen", "unicode/utf8.first", "unicode/utf8.acceptRanges"], apart := false, laid := [("unicode/utf8.acceptRanges", laid_unicode_utf8_acceptRanges), ("unicode/utf8.first", laid_unicode_utf8_first)], narrowed := true }
def PropTurnedUptoSaid : Prop := propTurnedUptoRow.holds Tryz.pinned (OpenSpec.upto propTurnedSpec)

end Rows
end Go.Proofs.YtdbnegllncjhkaaGreatDoor
