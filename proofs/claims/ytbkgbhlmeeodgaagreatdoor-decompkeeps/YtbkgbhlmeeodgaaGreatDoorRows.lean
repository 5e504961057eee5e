/-
  NARROWER THAN 'FOR EVERY INPUT', by the rows' own cells (each row's printed sentence says how): DecompForms: laid · DecompKeeps: laid · ComposeForms: laid · ComposeKeeps: laid · ComposeSames: laid · ComposeJoins: laid.
  DERIVED. THE GIVEN ROWS OF THIS SEAT. 6 by the template 'for every input the law returns true; each argument reads behind the call as it read before'; 0 by the template 'total and deterministic' (their statements: YtbkgbhlmeeodgaaGreatDoorTotals.lean).
  GIVEN WITH THE SEED: the statements are not yours to turn. If you find one false, say at which input.
  Laid BY PROGRAM, IN A SANDBOX (cutbox-rows.mjs): the forced cells as the released guide's own fill.sh prints them over the translation e04fe055a85ad963… (all of the seat's roots in one cut). By AI agents, Wed Nov 11 2026. No macro, syntax, notation, axiom, sorry.
-/
import Derived.Test.YtbkgbhlmeeodgaaGreatDoorChecked
import GoSem.PinnedTables
import GoSem.Claim
import GoSem.ClaimJoined
import GoSem.ClaimMapViews
import Derived.JoinedTies
import Derived.KernelRfl
namespace Go.Proofs.YtbkgbhlmeeodgaaGreatDoor
/- THE CELL 'sum', in the pinned program and in every row, IS THE sha256 OF THE DUMP (.gsa) THAT YtbkgbhlmeeodgaaGreatDoorProg.lean LOADS. Nothing in Lean hashes anything: it is a label: what it is worth is what the hold of that sum in a sandbox is worth. -/
noncomputable def Tryz.pinned : Pinned := { name := "ytbkgbhlmeeodgaagreatdoor", sum := "e04fe055a85ad963b360c2a6e43dd3867510624b12dc10102595d8bb8307b504", checked := Tryz.checked }
namespace Rows
def none {H : Type} : Left H := { results := [], args := [] }

/- WHAT THE LISTED PACKAGE-LEVEL VARIABLES READ AS WHEN THE CALL BEGINS. Each datum BY PROGRAM (the guide's laid-datum.mjs) off the statement by which the dump's own 'gosem.cut.vars' lays the variable. In a bare row this is a premise. The card (YtbkgbhlmeeodgaaGreatDoorCards.lean) ties it to the program's text. -/
def laid_unicode_utf8_acceptRanges {H : Type} : DataW H := .agg [.agg [.lit (.int .u8 128), .lit (.int .u8 191)], .agg [.lit (.int .u8 160), .lit (.int .u8 191)], .agg [.lit (.int .u8 128), .lit (.int .u8 159)], .agg [.lit (.int .u8 144), .lit (.int .u8 191)], .agg [.lit (.int .u8 128), .lit (.int .u8 143)], .agg [.lit (.int .u8 0), .lit (.int .u8 0)], .agg [.lit (.int .u8 0), .lit (.int .u8 0)], .agg [.lit (.int .u8 0), .lit (.int .u8 0)], .agg [.lit (.int .u8 0), .lit (.int .u8 0)], .agg [.lit (.int .u8 0), .lit (.int .u8 0)], .agg [.lit (.int .u8 0), .lit (.int .u8 0)], .agg [.lit (.int .u8 0), .lit (.int .u8 0)], .agg [.lit (.int .u8 0), .lit (.int .u8 0)], .agg [.lit (.int .u8 0), .lit (.int .u8 0)], .agg [.lit (.int .u8 0), .lit (.int .u8 0)], .agg [.lit (.int .u8 0), .lit (.int .u8 0)]]
def laid_paronym_data_hangul {H : Type} : DataW H := .agg [.agg [.lit (.int .i64 4352), .lit (.int .i64 4370)], .agg [.lit (.int .i64 4449), .lit (.int .i64 4469)], .agg [.lit (.int .i64 4520), .lit (.int .i64 4546)], .agg [.lit (.int .i64 44032), .lit (.int .i64 55203)]]
/-- One of Go's own tables, pinned by name: the form's constant. -/
def laid_unicode_utf8_first : DataW Unit := Go.Pinned.utf8First

/-- 'paronymlaw09.DecompForms': WHATEVER THE INPUT: true; the input reads as it did. -/
def decompFormsSpec : ChangeSpec := { name := "decompForms", fn := fun _ => fun
  | [d1, d2, d3] => { results := [.lit (.bool true)], args := [d1, d2, d3] }
  | _ => none }
def decompFormsRow : OpenClaim := { program := "ytbkgbhlmeeodgaagreatdoor", sum := "e04fe055a85ad963b360c2a6e43dd3867510624b12dc10102595d8bb8307b504", func := "paronym/paronymlaw09.DecompForms", spec := "decompForms", inPlace := ["internal/bytealg.IndexByte", "internal/bytealg.Index", "internal/bytealg.IndexByteString", "internal/bytealg.IndexString", "internal/bytealg.CountString", "slices.overlaps[int]"], unfollowed := true, recurses := true, named := ["internal/bytealg.MaxLen", "unicode/utf8.first", "unicode/utf8.acceptRanges", "paronym/data.hangul"], plainKeys := false, apart := false, laid := [("unicode/utf8.acceptRanges", laid_unicode_utf8_acceptRanges), ("paronym/data.hangul", laid_paronym_data_hangul), ("unicode/utf8.first", laid_unicode_utf8_first)] }
def DecompFormsSaid : Prop := decompFormsRow.holds Tryz.pinned (OpenSpec.ofChange decompFormsSpec)

/-- ITS FALSE NEIGHBOUR: 'it returns false'. Refute it at one input. -/
def decompFormsWrong : ChangeSpec := { name := "decompForms", fn := fun _ => fun
  | [d1, d2, d3] => { results := [.lit (.bool false)], args := [d1, d2, d3] }
  | _ => none }
def DecompFormsWrongFalsely : Prop := decompFormsRow.holds Tryz.pinned (OpenSpec.ofChange decompFormsWrong)

/-- 'paronymlaw09.DecompKeeps': WHATEVER THE INPUT: true; the input reads as it did. -/
def decompKeepsSpec : ChangeSpec := { name := "decompKeeps", fn := fun _ => fun
  | [d1, d2] => { results := [.lit (.bool true)], args := [d1, d2] }
  | _ => none }
def decompKeepsRow : OpenClaim := { program := "ytbkgbhlmeeodgaagreatdoor", sum := "e04fe055a85ad963b360c2a6e43dd3867510624b12dc10102595d8bb8307b504", func := "paronym/paronymlaw09.DecompKeeps", spec := "decompKeeps", inPlace := ["internal/bytealg.IndexByte", "internal/bytealg.Index", "internal/bytealg.IndexByteString", "internal/bytealg.IndexString", "internal/bytealg.CountString", "slices.overlaps[int]"], unfollowed := true, recurses := true, named := ["internal/bytealg.MaxLen", "unicode/utf8.first", "unicode/utf8.acceptRanges", "paronym/data.hangul"], plainKeys := false, apart := false, laid := [("unicode/utf8.acceptRanges", laid_unicode_utf8_acceptRanges), ("paronym/data.hangul", laid_paronym_data_hangul), ("unicode/utf8.first", laid_unicode_utf8_first)] }
def DecompKeepsSaid : Prop := decompKeepsRow.holds Tryz.pinned (OpenSpec.ofChange decompKeepsSpec)

/-- ITS FALSE NEIGHBOUR: 'it returns false'. Refute it at one input. -/
def decompKeepsWrong : ChangeSpec := { name := "decompKeeps", fn := fun _ => fun
  | [d1, d2] => { results := [.lit (.bool false)], args := [d1, d2] }
  | _ => none }
def DecompKeepsWrongFalsely : Prop := decompKeepsRow.holds Tryz.pinned (OpenSpec.ofChange decompKeepsWrong)

/-- 'paronymlaw10.ComposeForms': WHATEVER THE INPUT: true; the input reads as it did. -/
def composeFormsSpec : ChangeSpec := { name := "composeForms", fn := fun _ => fun
  | [d1, d2, d3] => { results := [.lit (.bool true)], args := [d1, d2, d3] }
  | _ => none }
def composeFormsRow : OpenClaim := { program := "ytbkgbhlmeeodgaagreatdoor", sum := "e04fe055a85ad963b360c2a6e43dd3867510624b12dc10102595d8bb8307b504", func := "paronym/paronymlaw10.ComposeForms", spec := "composeForms", inPlace := ["internal/bytealg.IndexByte", "internal/bytealg.Index", "internal/bytealg.IndexByteString", "internal/bytealg.IndexString", "internal/bytealg.CountString", "slices.overlaps[int]"], unfollowed := true, recurses := true, named := ["internal/bytealg.MaxLen", "unicode/utf8.first", "unicode/utf8.acceptRanges", "paronym/data.hangul"], plainKeys := false, apart := false, laid := [("unicode/utf8.acceptRanges", laid_unicode_utf8_acceptRanges), ("paronym/data.hangul", laid_paronym_data_hangul), ("unicode/utf8.first", laid_unicode_utf8_first)] }
def ComposeFormsSaid : Prop := composeFormsRow.holds Tryz.pinned (OpenSpec.ofChange composeFormsSpec)

/-- ITS FALSE NEIGHBOUR: 'it returns false'. Refute it at one input. -/
def composeFormsWrong : ChangeSpec := { name := "composeForms", fn := fun _ => fun
  | [d1, d2, d3] => { results := [.lit (.bool false)], args := [d1, d2, d3] }
  | _ => none }
def ComposeFormsWrongFalsely : Prop := composeFormsRow.holds Tryz.pinned (OpenSpec.ofChange composeFormsWrong)

/-- 'paronymlaw10.ComposeKeeps': WHATEVER THE INPUT: true; the input reads as it did. -/
def composeKeepsSpec : ChangeSpec := { name := "composeKeeps", fn := fun _ => fun
  | [d1, d2] => { results := [.lit (.bool true)], args := [d1, d2] }
  | _ => none }
def composeKeepsRow : OpenClaim := { program := "ytbkgbhlmeeodgaagreatdoor", sum := "e04fe055a85ad963b360c2a6e43dd3867510624b12dc10102595d8bb8307b504", func := "paronym/paronymlaw10.ComposeKeeps", spec := "composeKeeps", inPlace := ["internal/bytealg.IndexByte", "internal/bytealg.Index", "internal/bytealg.IndexByteString", "internal/bytealg.IndexString", "internal/bytealg.CountString", "slices.overlaps[int]"], unfollowed := true, recurses := true, named := ["internal/bytealg.MaxLen", "unicode/utf8.first", "unicode/utf8.acceptRanges", "paronym/data.hangul"], plainKeys := false, apart := false, laid := [("unicode/utf8.acceptRanges", laid_unicode_utf8_acceptRanges), ("paronym/data.hangul", laid_paronym_data_hangul), ("unicode/utf8.first", laid_unicode_utf8_first)] }
def ComposeKeepsSaid : Prop := composeKeepsRow.holds Tryz.pinned (OpenSpec.ofChange composeKeepsSpec)

/-- ITS FALSE NEIGHBOUR: 'it returns false'. Refute it at one input. -/
def composeKeepsWrong : ChangeSpec := { name := "composeKeeps", fn := fun _ => fun
  | [d1, d2] => { results := [.lit (.bool false)], args := [d1, d2] }
  | _ => none }
def ComposeKeepsWrongFalsely : Prop := composeKeepsRow.holds Tryz.pinned (OpenSpec.ofChange composeKeepsWrong)

/-- 'paronymlaw10.ComposeSames': WHATEVER THE INPUT: true; the input reads as it did. -/
def composeSamesSpec : ChangeSpec := { name := "composeSames", fn := fun _ => fun
  | [d1, d2, d3] => { results := [.lit (.bool true)], args := [d1, d2, d3] }
  | _ => none }
def composeSamesRow : OpenClaim := { program := "ytbkgbhlmeeodgaagreatdoor", sum := "e04fe055a85ad963b360c2a6e43dd3867510624b12dc10102595d8bb8307b504", func := "paronym/paronymlaw10.ComposeSames", spec := "composeSames", inPlace := ["internal/bytealg.IndexByte", "internal/bytealg.Index", "internal/bytealg.IndexByteString", "internal/bytealg.IndexString", "internal/bytealg.CountString", "slices.overlaps[int]"], unfollowed := true, recurses := true, named := ["internal/bytealg.MaxLen", "unicode/utf8.first", "unicode/utf8.acceptRanges", "paronym/data.hangul"], plainKeys := false, apart := false, laid := [("unicode/utf8.acceptRanges", laid_unicode_utf8_acceptRanges), ("paronym/data.hangul", laid_paronym_data_hangul), ("unicode/utf8.first", laid_unicode_utf8_first)] }
def ComposeSamesSaid : Prop := composeSamesRow.holds Tryz.pinned (OpenSpec.ofChange composeSamesSpec)

/-- ITS FALSE NEIGHBOUR: 'it returns false'. Refute it at one input. -/
def composeSamesWrong : ChangeSpec := { name := "composeSames", fn := fun _ => fun
  | [d1, d2, d3] => { results := [.lit (.bool false)], args := [d1, d2, d3] }
  | _ => none }
def ComposeSamesWrongFalsely : Prop := composeSamesRow.holds Tryz.pinned (OpenSpec.ofChange composeSamesWrong)

/-- 'paronymlaw10.ComposeJoins': WHATEVER THE INPUT: true; the input reads as it did. -/
def composeJoinsSpec : ChangeSpec := { name := "composeJoins", fn := fun _ => fun
  | [d1, d2, d3] => { results := [.lit (.bool true)], args := [d1, d2, d3] }
  | _ => none }
def composeJoinsRow : OpenClaim := { program := "ytbkgbhlmeeodgaagreatdoor", sum := "e04fe055a85ad963b360c2a6e43dd3867510624b12dc10102595d8bb8307b504", func := "paronym/paronymlaw10.ComposeJoins", spec := "composeJoins", inPlace := ["internal/bytealg.IndexByte", "internal/bytealg.Index", "internal/bytealg.IndexByteString", "internal/bytealg.IndexString", "internal/bytealg.CountString", "slices.overlaps[int]"], unfollowed := true, recurses := true, named := ["internal/bytealg.MaxLen", "unicode/utf8.first", "unicode/utf8.acceptRanges", "paronym/data.hangul"], plainKeys := false, apart := false, laid := [("unicode/utf8.acceptRanges", laid_unicode_utf8_acceptRanges), ("paronym/data.hangul", laid_paronym_data_hangul), ("unicode/utf8.first", laid_unicode_utf8_first)] }
def ComposeJoinsSaid : Prop := composeJoinsRow.holds Tryz.pinned (OpenSpec.ofChange composeJoinsSpec)

/-- ITS FALSE NEIGHBOUR: 'it returns false'. Refute it at one input. -/
def composeJoinsWrong : ChangeSpec := { name := "composeJoins", fn := fun _ => fun
  | [d1, d2, d3] => { results := [.lit (.bool false)], args := [d1, d2, d3] }
  | _ => none }
def ComposeJoinsWrongFalsely : Prop := composeJoinsRow.holds Tryz.pinned (OpenSpec.ofChange composeJoinsWrong)

/- THE SECOND FORM. 'bulk': how many values and letters a reading holds, each counted each time it is reached (what is shared counts as often as it is met; a slice's spare places count too). A statement '..UptoSaid' is the law's where the arguments, and the package variables that the reading takes, are together of bulk at most 1048576: NARROWER than '..Said'. Prove '..Said' where nothing that the law and all that it calls make is longer than what came in: it says more and counts as full. Else prove '..UptoSaid'. A law counts once. -/
mutual
def uptoBulk {H : Type} : DataW H → Nat
  | .lit (.string bytes) => bytes.length + 1
  | .lit _ => 1
  | .nil => 1
  | .ptr d => uptoBulk d + 1
  | .slice elems spare => uptoBulkAll elems + uptoBulkAll spare + 1
  | .agg parts => uptoBulkAll parts + 1
  | .iface _ d => uptoBulk d + 1
  | .map entries => uptoBulkEntries entries + 1
  | .held _ => 1
def uptoBulkAll {H : Type} : List (DataW H) → Nat
  | [] => 0
  | d :: r => uptoBulk d + uptoBulkAll r
def uptoBulkEntries {H : Type} : List (Lit × DataW H) → Nat
  | [] => 0
  | x :: r => uptoBulkEntry x + uptoBulkEntries r
def uptoBulkEntry {H : Type} : Lit × DataW H → Nat
  | (.string bytes, d) => bytes.length + uptoBulk d + 1
  | (_, d) => uptoBulk d + 1
 end
def uptoSmall : (H : Type) → List (DataW H) → Bool := fun _ ds => decide (uptoBulkAll ds ≤ 1048576)
def OpenSpec.upto (s : _root_.Go.ChangeSpec) : _root_.Go.OpenSpec := { _root_.Go.OpenSpec.ofChange s with cond := some uptoSmall }

/-- 'paronymlaw09.DecompForms', WHERE WHAT IT READS IS OF BULK AT MOST 1048576: true; the input reads as it did. -/
def decompFormsUptoRow : OpenClaim := { program := "ytbkgbhlmeeodgaagreatdoor", sum := "e04fe055a85ad963b360c2a6e43dd3867510624b12dc10102595d8bb8307b504", func := "paronym/paronymlaw09.DecompForms", spec := "decompForms", inPlace := ["internal/bytealg.IndexByte", "internal/bytealg.Index", "internal/bytealg.IndexByteString", "internal/bytealg.IndexString", "internal/bytealg.CountString", "slices.overlaps[int]"], unfollowed := true, recurses := true, named := ["internal/bytealg.MaxLen", "unicode/utf8.first", "unicode/utf8.acceptRanges", "paronym/data.hangul"], plainKeys := false, apart := false, laid := [("unicode/utf8.acceptRanges", laid_unicode_utf8_acceptRanges), ("paronym/data.hangul", laid_paronym_data_hangul), ("unicode/utf8.first", laid_unicode_utf8_first)], narrowed := true }
def DecompFormsUptoSaid : Prop := decompFormsUptoRow.holds Tryz.pinned (OpenSpec.upto decompFormsSpec)

/-- 'paronymlaw09.DecompKeeps', WHERE WHAT IT READS IS OF BULK AT MOST 1048576: true; the input reads as it did. -/
def decompKeepsUptoRow : OpenClaim := { program := "ytbkgbhlmeeodgaagreatdoor", sum := "e04fe055a85ad963b360c2a6e43dd3867510624b12dc10102595d8bb8307b504", func := "paronym/paronymlaw09.DecompKeeps", spec := "decompKeeps", inPlace := ["internal/bytealg.IndexByte", "internal/bytealg.Index", "internal/bytealg.IndexByteString", "internal/bytealg.IndexString", "internal/bytealg.CountString", "slices.overlaps[int]"], unfollowed := true, recurses := true, named := ["internal/bytealg.MaxLen", "unicode/utf8.first", "unicode/utf8.acceptRanges", "paronym/data.hangul"], plainKeys := false, apart := false, laid := [("unicode/utf8.acceptRanges", laid_unicode_utf8_acceptRanges), ("paronym/data.hangul", laid_paronym_data_hangul), ("unicode/utf8.first", laid_unicode_utf8_first)], narrowed := true }
def DecompKeepsUptoSaid : Prop := decompKeepsUptoRow.holds Tryz.pinned (OpenSpec.upto decompKeepsSpec)

/-- 'paronymlaw10.ComposeForms', WHERE WHAT IT READS IS OF BULK AT MOST 1048576: true; the input reads as it did. -/
def composeFormsUptoRow : OpenClaim := { program := "ytbkgbhlmeeodgaagreatdoor", sum := "e04fe055a85ad963b360c2a6e43dd3867510624b12dc10102595d8bb8307b504", func := "paronym/paronymlaw10.ComposeForms", spec := "composeForms", inPlace := ["internal/bytealg.IndexByte", "internal/bytealg.Index", "internal/bytealg.IndexByteString", "internal/bytealg.IndexString", "internal/bytealg.CountString", "slices.overlaps[int]"], unfollowed := true, recurses := true, named := ["internal/bytealg.MaxLen", "unicode/utf8.first", "unicode/utf8.acceptRanges", "paronym/data.hangul"], plainKeys := false, apart := false, laid := [("unicode/utf8.acceptRanges", laid_unicode_utf8_acceptRanges), ("paronym/data.hangul", laid_paronym_data_hangul), ("unicode/utf8.first", laid_unicode_utf8_first)], narrowed := true }
def ComposeFormsUptoSaid : Prop := composeFormsUptoRow.holds Tryz.pinned (OpenSpec.upto composeFormsSpec)

/-- 'paronymlaw10.ComposeKeeps', WHERE WHAT IT READS IS OF BULK AT MOST 1048576: true; the input reads as it did. -/
def composeKeepsUptoRow : OpenClaim := { program := "ytbkgbhlmeeodgaagreatdoor", sum := "e04fe055a85ad963b360c2a6e43dd3867510624b12dc10102595d8bb8307b504", func := "paronym/paronymlaw10.ComposeKeeps", spec := "composeKeeps", inPlace := ["internal/bytealg.IndexByte", "internal/bytealg.Index", "internal/bytealg.IndexByteString", "internal/bytealg.IndexString", "internal/bytealg.CountString", "slices.overlaps[int]"], unfollowed := true, recurses := true, named := ["internal/bytealg.MaxLen", "unicode/utf8.first", "unicode/utf8.acceptRanges", "paronym/data.hangul"], plainKeys := false, apart := false, laid := [("unicode/utf8.acceptRanges", laid_unicode_utf8_acceptRanges), ("paronym/data.hangul", laid_paronym_data_hangul), ("unicode/utf8.first", laid_unicode_utf8_first)], narrowed := true }
def ComposeKeepsUptoSaid : Prop := composeKeepsUptoRow.holds Tryz.pinned (OpenSpec.upto composeKeepsSpec)

/-- 'paronymlaw10.ComposeSames', WHERE WHAT IT READS IS OF BULK AT MOST 1048576: true; the input reads as it did. -/
def composeSamesUptoRow : OpenClaim := { program := "ytbkgbhlmeeodgaagreatdoor", sum := "e04fe055a85ad963b360c2a6e43dd3867510624b12dc10102595d8bb8307b504", func := "paronym/paronymlaw10.ComposeSames", spec := "composeSames", inPlace := ["internal/bytealg.IndexByte", "internal/bytealg.Index", "internal/bytealg.IndexByteString", "internal/bytealg.IndexString", "internal/bytealg.CountString", "slices.overlaps[int]"], unfollowed := true, recurses := true, named := ["internal/bytealg.MaxLen", "unicode/utf8.first", "unicode/utf8.acceptRanges", "paronym/data.hangul"], plainKeys := false, apart := false, laid := [("unicode/utf8.acceptRanges", laid_unicode_utf8_acceptRanges), ("paronym/data.hangul", laid_paronym_data_hangul), ("unicode/utf8.first", laid_unicode_utf8_first)], narrowed := true }
def ComposeSamesUptoSaid : Prop := composeSamesUptoRow.holds Tryz.pinned (OpenSpec.upto composeSamesSpec)

/-- 'paronymlaw10.ComposeJoins', WHERE WHAT IT READS IS OF BULK AT MOST 1048576: true; the input reads as it did. -/
def composeJoinsUptoRow : OpenClaim := { program := "ytbkgbhlmeeodgaagreatdoor", sum := "e04fe055a85ad963b360c2a6e43dd3867510624b12dc10102595d8bb8307b504", func := "paronym/paronymlaw10.ComposeJoins", spec := "composeJoins", inPlace := ["internal/bytealg.IndexByte", "internal/bytealg.Index", "internal/bytealg.IndexByteString", "internal/bytealg.IndexString", "internal/bytealg.CountString", "slices.overlaps[int]"], unfollowed := true, recurses := true, named := ["internal/bytealg.MaxLen", "unicode/utf8.first", "unicode/utf8.acceptRanges", "paronym/data.hangul"], plainKeys := false, apart := false, laid := [("unicode/utf8.acceptRanges", laid_unicode_utf8_acceptRanges), ("paronym/data.hangul", laid_paronym_data_hangul), ("unicode/utf8.first", laid_unicode_utf8_first)], narrowed := true }
def ComposeJoinsUptoSaid : Prop := composeJoinsUptoRow.holds Tryz.pinned (OpenSpec.upto composeJoinsSpec)

end Rows
end Go.Proofs.YtbkgbhlmeeodgaaGreatDoor
