/-
  NARROWER THAN 'FOR EVERY INPUT', by the rows' own cells (each row's printed sentence says how): DataLoads: laid · DataPoints: laid · DataMakes: laid · DataRemarks: laid.
  DERIVED. THE GIVEN ROWS OF THIS SEAT. 4 by the template 'for every input the law returns true; each argument reads behind the call as it read before'; 0 by the template 'total and deterministic' (their statements: YtmellioacefjjaaGreatDoorTotals.lean).
  GIVEN WITH THE SEED: the statements are not yours to turn. If you find one false, say at which input.
  Laid BY PROGRAM, IN A SANDBOX (cutbox-rows.mjs): the forced cells as the released guide's own fill.sh prints them over the translation 5eb42306324ec38b… (all of the seat's roots in one cut). By AI agents, Wed Nov 11 2026. No macro, syntax, notation, axiom, sorry.
-/
import Derived.Test.YtmellioacefjjaaGreatDoorChecked
import GoSem.PinnedTables
import GoSem.Claim
import GoSem.ClaimJoined
import GoSem.ClaimMapViews
import Derived.JoinedTies
import Derived.KernelRfl
namespace Go.Proofs.YtmellioacefjjaaGreatDoor
/- THE CELL 'sum', in the pinned program and in every row, IS THE sha256 OF THE DUMP (.gsa) THAT YtmellioacefjjaaGreatDoorProg.lean LOADS. Nothing in Lean hashes anything: it is a label: what it is worth is what the hold of that sum in a sandbox is worth. -/
noncomputable def Tryz.pinned : Pinned := { name := "ytmellioacefjjaagreatdoor", sum := "5eb42306324ec38bdd46338721b08d02f72329f24e584c1e3b10226f902c67db", checked := Tryz.checked }
namespace Rows
def none {H : Type} : Left H := { results := [], args := [] }

/- WHAT THE LISTED PACKAGE-LEVEL VARIABLES READ AS WHEN THE CALL BEGINS. Each datum BY PROGRAM (the guide's laid-datum.mjs) off the statement by which the dump's own 'gosem.cut.vars' lays the variable. In a bare row this is a premise. The card (YtmellioacefjjaaGreatDoorCards.lean) ties it to the program's text. -/
def laid_unicode_utf8_acceptRanges {H : Type} : DataW H := .agg [.agg [.lit (.int .u8 128), .lit (.int .u8 191)], .agg [.lit (.int .u8 160), .lit (.int .u8 191)], .agg [.lit (.int .u8 128), .lit (.int .u8 159)], .agg [.lit (.int .u8 144), .lit (.int .u8 191)], .agg [.lit (.int .u8 128), .lit (.int .u8 143)], .agg [.lit (.int .u8 0), .lit (.int .u8 0)], .agg [.lit (.int .u8 0), .lit (.int .u8 0)], .agg [.lit (.int .u8 0), .lit (.int .u8 0)], .agg [.lit (.int .u8 0), .lit (.int .u8 0)], .agg [.lit (.int .u8 0), .lit (.int .u8 0)], .agg [.lit (.int .u8 0), .lit (.int .u8 0)], .agg [.lit (.int .u8 0), .lit (.int .u8 0)], .agg [.lit (.int .u8 0), .lit (.int .u8 0)], .agg [.lit (.int .u8 0), .lit (.int .u8 0)], .agg [.lit (.int .u8 0), .lit (.int .u8 0)], .agg [.lit (.int .u8 0), .lit (.int .u8 0)]]
def laid_paronym_data_hangul {H : Type} : DataW H := .agg [.agg [.lit (.int .i64 4352), .lit (.int .i64 4370)], .agg [.lit (.int .i64 4449), .lit (.int .i64 4469)], .agg [.lit (.int .i64 4520), .lit (.int .i64 4546)], .agg [.lit (.int .i64 44032), .lit (.int .i64 55203)]]
/-- One of Go's own tables, pinned by name: the form's constant. -/
def laid_unicode_utf8_first : DataW Unit := Go.Pinned.utf8First

/-- 'paronymlaw07.DataLoads': WHATEVER THE INPUT: true; the input reads as it did. -/
def dataLoadsSpec : ChangeSpec := { name := "dataLoads", fn := fun _ => fun
  | [d1, d2, d3] => { results := [.lit (.bool true)], args := [d1, d2, d3] }
  | _ => none }
def dataLoadsRow : OpenClaim := { program := "ytmellioacefjjaagreatdoor", sum := "5eb42306324ec38bdd46338721b08d02f72329f24e584c1e3b10226f902c67db", func := "paronym/paronymlaw07.DataLoads", spec := "dataLoads", inPlace := ["internal/bytealg.IndexByte", "internal/bytealg.Index", "internal/bytealg.IndexByteString", "internal/bytealg.IndexString", "internal/bytealg.CountString"], unfollowed := true, recurses := true, named := ["internal/bytealg.MaxLen", "unicode/utf8.first", "unicode/utf8.acceptRanges", "paronym/data.hangul"], plainKeys := false, apart := false, laid := [("unicode/utf8.acceptRanges", laid_unicode_utf8_acceptRanges), ("paronym/data.hangul", laid_paronym_data_hangul), ("unicode/utf8.first", laid_unicode_utf8_first)] }
def DataLoadsSaid : Prop := dataLoadsRow.holds Tryz.pinned (OpenSpec.ofChange dataLoadsSpec)

/-- ITS FALSE NEIGHBOUR: 'it returns false'. Refute it at one input. -/
def dataLoadsWrong : ChangeSpec := { name := "dataLoads", fn := fun _ => fun
  | [d1, d2, d3] => { results := [.lit (.bool false)], args := [d1, d2, d3] }
  | _ => none }
def DataLoadsWrongFalsely : Prop := dataLoadsRow.holds Tryz.pinned (OpenSpec.ofChange dataLoadsWrong)

/-- 'paronymlaw07.DataPoints': WHATEVER THE INPUT: true; the input reads as it did. -/
def dataPointsSpec : ChangeSpec := { name := "dataPoints", fn := fun _ => fun
  | [d] => { results := [.lit (.bool true)], args := [d] }
  | _ => none }
def dataPointsRow : OpenClaim := { program := "ytmellioacefjjaagreatdoor", sum := "5eb42306324ec38bdd46338721b08d02f72329f24e584c1e3b10226f902c67db", func := "paronym/paronymlaw07.DataPoints", spec := "dataPoints", inPlace := ["internal/bytealg.IndexByte", "internal/bytealg.Index", "internal/bytealg.IndexByteString", "internal/bytealg.IndexString", "internal/bytealg.CountString"], unfollowed := true, recurses := true, named := ["internal/bytealg.MaxLen", "unicode/utf8.first", "unicode/utf8.acceptRanges", "paronym/data.hangul"], plainKeys := false, apart := false, laid := [("unicode/utf8.acceptRanges", laid_unicode_utf8_acceptRanges), ("paronym/data.hangul", laid_paronym_data_hangul), ("unicode/utf8.first", laid_unicode_utf8_first)] }
def DataPointsSaid : Prop := dataPointsRow.holds Tryz.pinned (OpenSpec.ofChange dataPointsSpec)

/-- ITS FALSE NEIGHBOUR: 'it returns false'. Refute it at one input. -/
def dataPointsWrong : ChangeSpec := { name := "dataPoints", fn := fun _ => fun
  | [d] => { results := [.lit (.bool false)], args := [d] }
  | _ => none }
def DataPointsWrongFalsely : Prop := dataPointsRow.holds Tryz.pinned (OpenSpec.ofChange dataPointsWrong)

/-- 'paronymlaw07.DataMakes': WHATEVER THE INPUT: true; the input reads as it did. -/
def dataMakesSpec : ChangeSpec := { name := "dataMakes", fn := fun _ => fun
  | [d1, d2, d3] => { results := [.lit (.bool true)], args := [d1, d2, d3] }
  | _ => none }
def dataMakesRow : OpenClaim := { program := "ytmellioacefjjaagreatdoor", sum := "5eb42306324ec38bdd46338721b08d02f72329f24e584c1e3b10226f902c67db", func := "paronym/paronymlaw07.DataMakes", spec := "dataMakes", inPlace := ["internal/bytealg.IndexByte", "internal/bytealg.Index", "internal/bytealg.IndexByteString", "internal/bytealg.IndexString", "internal/bytealg.CountString"], unfollowed := true, recurses := true, named := ["internal/bytealg.MaxLen", "unicode/utf8.first", "unicode/utf8.acceptRanges", "paronym/data.hangul"], plainKeys := false, apart := false, laid := [("unicode/utf8.acceptRanges", laid_unicode_utf8_acceptRanges), ("paronym/data.hangul", laid_paronym_data_hangul), ("unicode/utf8.first", laid_unicode_utf8_first)] }
def DataMakesSaid : Prop := dataMakesRow.holds Tryz.pinned (OpenSpec.ofChange dataMakesSpec)

/-- ITS FALSE NEIGHBOUR: 'it returns false'. Refute it at one input. -/
def dataMakesWrong : ChangeSpec := { name := "dataMakes", fn := fun _ => fun
  | [d1, d2, d3] => { results := [.lit (.bool false)], args := [d1, d2, d3] }
  | _ => none }
def DataMakesWrongFalsely : Prop := dataMakesRow.holds Tryz.pinned (OpenSpec.ofChange dataMakesWrong)

/-- 'paronymlaw07.DataRemarks': WHATEVER THE INPUT: true; the input reads as it did. -/
def dataRemarksSpec : ChangeSpec := { name := "dataRemarks", fn := fun _ => fun
  | [d1, d2] => { results := [.lit (.bool true)], args := [d1, d2] }
  | _ => none }
def dataRemarksRow : OpenClaim := { program := "ytmellioacefjjaagreatdoor", sum := "5eb42306324ec38bdd46338721b08d02f72329f24e584c1e3b10226f902c67db", func := "paronym/paronymlaw07.DataRemarks", spec := "dataRemarks", inPlace := ["internal/bytealg.IndexByte", "internal/bytealg.Index", "internal/bytealg.IndexByteString", "internal/bytealg.IndexString", "internal/bytealg.CountString"], unfollowed := true, recurses := true, named := ["internal/bytealg.MaxLen", "unicode/utf8.first", "unicode/utf8.acceptRanges", "paronym/data.hangul"], plainKeys := false, apart := false, laid := [("unicode/utf8.acceptRanges", laid_unicode_utf8_acceptRanges), ("paronym/data.hangul", laid_paronym_data_hangul), ("unicode/utf8.first", laid_unicode_utf8_first)] }
def DataRemarksSaid : Prop := dataRemarksRow.holds Tryz.pinned (OpenSpec.ofChange dataRemarksSpec)

/-- ITS FALSE NEIGHBOUR: 'it returns false'. Refute it at one input. -/
def dataRemarksWrong : ChangeSpec := { name := "dataRemarks", fn := fun _ => fun
  | [d1, d2] => { results := [.lit (.bool false)], args := [d1, d2] }
  | _ => none }
def DataRemarksWrongFalsely : Prop := dataRemarksRow.holds Tryz.pinned (OpenSpec.ofChange dataRemarksWrong)

/- THE SECOND FORM. 'bulk': how many values and letters a reading holds, each counted each time it is reached (what is shared counts as often as it is met; a slice's spare places count too). A statement '..UptoSaid' is the law's where the arguments, and the package variables that the reading takes, are together of bulk at most 1048576: NARROWER than '..Said'. Prove '..Said' where nothing that the law and all that it calls make is longer than what came in: it says more and counts as full. Else prove '..UptoSaid'. A law counts once. -/
mutual
def uptoBulk {H : Type} : DataW H → Nat
  | .lit (.string bytes) => bytes.length + 1
  | .lit _ => 1
  | .nil => 1
  | .ptr d => uptoBulk d + 1
  | .slice elems spare => uptoBulkAll elems + uptoBulkAll spare + 1
  | .agg parts => uptoBulkAll parts + 1
  | .iface _ d => uptoBulk d + 1
  | .map entries => uptoBulkEntries entries + 1
  | .held _ => 1
def uptoBulkAll {H : Type} : List (DataW H) → Nat
  | [] => 0
  | d :: r => uptoBulk d + uptoBulkAll r
def uptoBulkEntries {H : Type} : List (Lit × DataW H) → Nat
  | [] => 0
  | x :: r => uptoBulkEntry x + uptoBulkEntries r
def uptoBulkEntry {H : Type} : Lit × DataW H → Nat
  | (.string bytes, d) => bytes.length + uptoBulk d + 1
  | (_, d) => uptoBulk d + 1
 end
def uptoSmall : (H : Type) → List (DataW H) → Bool := fun _ ds => decide (uptoBulkAll ds ≤ 1048576)
def OpenSpec.upto (s : _root_.Go.ChangeSpec) : _root_.Go.OpenSpec := { _root_.Go.OpenSpec.ofChange s with cond := some uptoSmall }

/-- 'paronymlaw07.DataLoads', WHERE WHAT IT READS IS OF BULK AT MOST 1048576: true; the input reads as it did. -/
def dataLoadsUptoRow : OpenClaim := { program := "ytmellioacefjjaagreatdoor", sum := "5eb42306324ec38bdd46338721b08d02f72329f24e584c1e3b10226f902c67db", func := "paronym/paronymlaw07.DataLoads", spec := "dataLoads", inPlace := ["internal/bytealg.IndexByte", "internal/bytealg.Index", "internal/bytealg.IndexByteString", "internal/bytealg.IndexString", "internal/bytealg.CountString"], unfollowed := true, recurses := true, named := ["internal/bytealg.MaxLen", "unicode/utf8.first", "unicode/utf8.acceptRanges", "paronym/data.hangul"], plainKeys := false, apart := false, laid := [("unicode/utf8.acceptRanges", laid_unicode_utf8_acceptRanges), ("paronym/data.hangul", laid_paronym_data_hangul), ("unicode/utf8.first", laid_unicode_utf8_first)], narrowed := true }
def DataLoadsUptoSaid : Prop := dataLoadsUptoRow.holds Tryz.pinned (OpenSpec.upto dataLoadsSpec)

/-- 'paronymlaw07.DataPoints', WHERE WHAT IT READS IS OF BULK AT MOST 1048576: true; the input reads as it did. -/
def dataPointsUptoRow : OpenClaim := { program := "ytmellioacefjjaagreatdoor", sum := "5eb42306324ec38bdd46338721b08d02f72329f24e584c1e3b10226f902c67db", func := "paronym/paronymlaw07.DataPoints", spec := "dataPoints", inPlace := ["internal/bytealg.IndexByte", "internal/bytealg.Index", "internal/bytealg.IndexByteString", "internal/bytealg.IndexString", "internal/bytealg.CountString"], unfollowed := true, recurses := true, named := ["internal/bytealg.MaxLen", "unicode/utf8.first", "unicode/utf8.acceptRanges", "paronym/data.hangul"], plainKeys := false, apart := false, laid := [("unicode/utf8.acceptRanges", laid_unicode_utf8_acceptRanges), ("paronym/data.hangul", laid_paronym_data_hangul), ("unicode/utf8.first", laid_unicode_utf8_first)], narrowed := true }
def DataPointsUptoSaid : Prop := dataPointsUptoRow.holds Tryz.pinned (OpenSpec.upto dataPointsSpec)

/-- 'paronymlaw07.DataMakes', WHERE WHAT IT READS IS OF BULK AT MOST 1048576: true; the input reads as it did. -/
def dataMakesUptoRow : OpenClaim := { program := "ytmellioacefjjaagreatdoor", sum := "5eb42306324ec38bdd46338721b08d02f72329f24e584c1e3b10226f902c67db", func := "paronym/paronymlaw07.DataMakes", spec := "dataMakes", inPlace := ["internal/bytealg.IndexByte", "internal/bytealg.Index", "internal/bytealg.IndexByteString", "internal/bytealg.IndexString", "internal/bytealg.CountString"], unfollowed := true, recurses := true, named := ["internal/bytealg.MaxLen", "unicode/utf8.first", "unicode/utf8.acceptRanges", "paronym/data.hangul"], plainKeys := false, apart := false, laid := [("unicode/utf8.acceptRanges", laid_unicode_utf8_acceptRanges), ("paronym/data.hangul", laid_paronym_data_hangul), ("unicode/utf8.first", laid_unicode_utf8_first)], narrowed := true }
def DataMakesUptoSaid : Prop := dataMakesUptoRow.holds Tryz.pinned (OpenSpec.upto dataMakesSpec)

/-- 'paronymlaw07.DataRemarks', WHERE WHAT IT READS IS OF BULK AT MOST 1048576: true; the input reads as it did. -/
def dataRemarksUptoRow : OpenClaim := { program := "ytmellioacefjjaagreatdoor", sum := "5eb42306324ec38bdd46338721b08d02f72329f24e584c1e3b10226f902c67db", func := "paronym/paronymlaw07.DataRemarks", spec := "dataRemarks", inPlace := ["internal/bytealg.IndexByte", "internal/bytealg.Index", "internal/bytealg.IndexByteString", "internal/bytealg.IndexString", "internal/bytealg.CountString"], unfollowed := true, recurses := true, named := ["internal/bytealg.MaxLen", "unicode/utf8.first", "unicode/utf8.acceptRanges", "paronym/data.hangul"], plainKeys := false, apart := false, laid := [("unicode/utf8.acceptRanges", laid_unicode_utf8_acceptRanges), ("paronym/data.hangul", laid_paronym_data_hangul), ("unicode/utf8.first", laid_unicode_utf8_first)], narrowed := true }
def DataRemarksUptoSaid : Prop := dataRemarksUptoRow.holds Tryz.pinned (OpenSpec.upto dataRemarksSpec)

end Rows
end Go.Proofs.YtmellioacefjjaaGreatDoor
