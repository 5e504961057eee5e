/-
  NARROWER THAN 'FOR EVERY INPUT', by the rows' own cells (each row's printed sentence says how): UnicodeParses: laid · UnicodeTells: laid · UnicodeRises: laid · UnicodeRemarks: laid.
  DERIVED. THE GIVEN ROWS OF THIS SEAT. 4 by the template 'for every input the law returns true; each argument reads behind the call as it read before'; 0 by the template 'total and deterministic' (their statements: YtfmkhfjdihfppaaDoorTotals.lean).
  GIVEN WITH THE SEED: the statements are not yours to turn. If you find one false, say at which input.
  Laid BY PROGRAM, IN A SANDBOX (cutbox-rows.mjs): the forced cells as the released guide's own fill.sh prints them over the translation aa11a78a92d861cb… (all of the seat's roots in one cut). By AI agents, Wed Nov 11 2026. No macro, syntax, notation, axiom, sorry.
-/
import Derived.Test.YtfmkhfjdihfppaaDoorChecked
import GoSem.PinnedTables
import GoSem.Claim
import GoSem.ClaimJoined
import GoSem.ClaimMapViews
import Derived.JoinedTies
import Derived.KernelRfl
namespace Go.Proofs.YtfmkhfjdihfppaaDoor
/- THE CELL 'sum', in the pinned program and in every row, IS THE sha256 OF THE DUMP (.gsa) THAT YtfmkhfjdihfppaaDoorProg.lean LOADS. Nothing in Lean hashes anything: it is a label: what it is worth is what the hold of that sum in a sandbox is worth. -/
noncomputable def Tryd.pinned : Pinned := { name := "ytfmkhfjdihfppaadoor", sum := "aa11a78a92d861cb8b49a67918d5619fe859235e43e50004436f474380272c80", checked := Tryd.checked }
namespace Rows
def none {H : Type} : Left H := { results := [], args := [] }

/- WHAT THE LISTED PACKAGE-LEVEL VARIABLES READ AS WHEN THE CALL BEGINS. Each datum BY PROGRAM (the guide's laid-datum.mjs) off the statement by which the dump's own 'gosem.cut.vars' lays the variable. In a bare row this is a premise. The card (YtfmkhfjdihfppaaDoorCards.lean) ties it to the program's text. -/
def laid_unicode_utf8_acceptRanges {H : Type} : DataW H := .agg [.agg [.lit (.int .u8 128), .lit (.int .u8 191)], .agg [.lit (.int .u8 160), .lit (.int .u8 191)], .agg [.lit (.int .u8 128), .lit (.int .u8 159)], .agg [.lit (.int .u8 144), .lit (.int .u8 191)], .agg [.lit (.int .u8 128), .lit (.int .u8 143)], .agg [.lit (.int .u8 0), .lit (.int .u8 0)], .agg [.lit (.int .u8 0), .lit (.int .u8 0)], .agg [.lit (.int .u8 0), .lit (.int .u8 0)], .agg [.lit (.int .u8 0), .lit (.int .u8 0)], .agg [.lit (.int .u8 0), .lit (.int .u8 0)], .agg [.lit (.int .u8 0), .lit (.int .u8 0)], .agg [.lit (.int .u8 0), .lit (.int .u8 0)], .agg [.lit (.int .u8 0), .lit (.int .u8 0)], .agg [.lit (.int .u8 0), .lit (.int .u8 0)], .agg [.lit (.int .u8 0), .lit (.int .u8 0)], .agg [.lit (.int .u8 0), .lit (.int .u8 0)]]
/-- One of Go's own tables, pinned by name: the form's constant. -/
def laid_unicode_utf8_first : DataW Unit := Go.Pinned.utf8First

/-- 'paronymlaw04.UnicodeParses': WHATEVER THE INPUT: true; the input reads as it did. -/
def unicodeParsesSpec : ChangeSpec := { name := "unicodeParses", fn := fun _ => fun
  | [d1, d2] => { results := [.lit (.bool true)], args := [d1, d2] }
  | _ => none }
def unicodeParsesRow : OpenClaim := { program := "ytfmkhfjdihfppaadoor", sum := "aa11a78a92d861cb8b49a67918d5619fe859235e43e50004436f474380272c80", func := "paronym/paronymlaw04.UnicodeParses", spec := "unicodeParses", inPlace := ["internal/bytealg.IndexByte", "internal/bytealg.Index", "internal/bytealg.IndexByteString", "internal/bytealg.IndexString", "internal/bytealg.CountString"], unfollowed := true, recurses := true, named := ["internal/bytealg.MaxLen", "unicode/utf8.first", "unicode/utf8.acceptRanges"], apart := false, laid := [("unicode/utf8.acceptRanges", laid_unicode_utf8_acceptRanges), ("unicode/utf8.first", laid_unicode_utf8_first)] }
def UnicodeParsesSaid : Prop := unicodeParsesRow.holds Tryd.pinned (OpenSpec.ofChange unicodeParsesSpec)

/-- ITS FALSE NEIGHBOUR: 'it returns false'. Refute it at one input. -/
def unicodeParsesWrong : ChangeSpec := { name := "unicodeParses", fn := fun _ => fun
  | [d1, d2] => { results := [.lit (.bool false)], args := [d1, d2] }
  | _ => none }
def UnicodeParsesWrongFalsely : Prop := unicodeParsesRow.holds Tryd.pinned (OpenSpec.ofChange unicodeParsesWrong)

/-- 'paronymlaw04.UnicodeTells': WHATEVER THE INPUT: true; the input reads as it did. -/
def unicodeTellsSpec : ChangeSpec := { name := "unicodeTells", fn := fun _ => fun
  | [d1, d2] => { results := [.lit (.bool true)], args := [d1, d2] }
  | _ => none }
def unicodeTellsRow : OpenClaim := { program := "ytfmkhfjdihfppaadoor", sum := "aa11a78a92d861cb8b49a67918d5619fe859235e43e50004436f474380272c80", func := "paronym/paronymlaw04.UnicodeTells", spec := "unicodeTells", inPlace := ["internal/bytealg.IndexByte", "internal/bytealg.Index", "internal/bytealg.IndexByteString", "internal/bytealg.IndexString", "internal/bytealg.CountString"], unfollowed := true, recurses := true, named := ["internal/bytealg.MaxLen", "unicode/utf8.first", "unicode/utf8.acceptRanges"], apart := false, laid := [("unicode/utf8.acceptRanges", laid_unicode_utf8_acceptRanges), ("unicode/utf8.first", laid_unicode_utf8_first)] }
def UnicodeTellsSaid : Prop := unicodeTellsRow.holds Tryd.pinned (OpenSpec.ofChange unicodeTellsSpec)

/-- ITS FALSE NEIGHBOUR: 'it returns false'. Refute it at one input. -/
def unicodeTellsWrong : ChangeSpec := { name := "unicodeTells", fn := fun _ => fun
  | [d1, d2] => { results := [.lit (.bool false)], args := [d1, d2] }
  | _ => none }
def UnicodeTellsWrongFalsely : Prop := unicodeTellsRow.holds Tryd.pinned (OpenSpec.ofChange unicodeTellsWrong)

/-- 'paronymlaw04.UnicodeRises': WHATEVER THE INPUT: true; the input reads as it did. -/
def unicodeRisesSpec : ChangeSpec := { name := "unicodeRises", fn := fun _ => fun
  | [d] => { results := [.lit (.bool true)], args := [d] }
  | _ => none }
def unicodeRisesRow : OpenClaim := { program := "ytfmkhfjdihfppaadoor", sum := "aa11a78a92d861cb8b49a67918d5619fe859235e43e50004436f474380272c80", func := "paronym/paronymlaw04.UnicodeRises", spec := "unicodeRises", inPlace := ["internal/bytealg.IndexByte", "internal/bytealg.Index", "internal/bytealg.IndexByteString", "internal/bytealg.IndexString", "internal/bytealg.CountString"], unfollowed := true, recurses := true, named := ["internal/bytealg.MaxLen", "unicode/utf8.first", "unicode/utf8.acceptRanges"], apart := false, laid := [("unicode/utf8.acceptRanges", laid_unicode_utf8_acceptRanges), ("unicode/utf8.first", laid_unicode_utf8_first)] }
def UnicodeRisesSaid : Prop := unicodeRisesRow.holds Tryd.pinned (OpenSpec.ofChange unicodeRisesSpec)

/-- ITS FALSE NEIGHBOUR: 'it returns false'. Refute it at one input. -/
def unicodeRisesWrong : ChangeSpec := { name := "unicodeRises", fn := fun _ => fun
  | [d] => { results := [.lit (.bool false)], args := [d] }
  | _ => none }
def UnicodeRisesWrongFalsely : Prop := unicodeRisesRow.holds Tryd.pinned (OpenSpec.ofChange unicodeRisesWrong)

/-- 'paronymlaw04.UnicodeRemarks': WHATEVER THE INPUT: true; the input reads as it did. -/
def unicodeRemarksSpec : ChangeSpec := { name := "unicodeRemarks", fn := fun _ => fun
  | [d] => { results := [.lit (.bool true)], args := [d] }
  | _ => none }
def unicodeRemarksRow : OpenClaim := { program := "ytfmkhfjdihfppaadoor", sum := "aa11a78a92d861cb8b49a67918d5619fe859235e43e50004436f474380272c80", func := "paronym/paronymlaw04.UnicodeRemarks", spec := "unicodeRemarks", inPlace := ["internal/bytealg.IndexByte", "internal/bytealg.Index", "internal/bytealg.IndexByteString", "internal/bytealg.IndexString", "internal/bytealg.CountString"], unfollowed := true, recurses := true, named := ["internal/bytealg.MaxLen", "unicode/utf8.first", "unicode/utf8.acceptRanges"], apart := false, laid := [("unicode/utf8.acceptRanges", laid_unicode_utf8_acceptRanges), ("unicode/utf8.first", laid_unicode_utf8_first)] }
def UnicodeRemarksSaid : Prop := unicodeRemarksRow.holds Tryd.pinned (OpenSpec.ofChange unicodeRemarksSpec)

/-- ITS FALSE NEIGHBOUR: 'it returns false'. Refute it at one input. -/
def unicodeRemarksWrong : ChangeSpec := { name := "unicodeRemarks", fn := fun _ => fun
  | [d] => { results := [.lit (.bool false)], args := [d] }
  | _ => none }
def UnicodeRemarksWrongFalsely : Prop := unicodeRemarksRow.holds Tryd.pinned (OpenSpec.ofChange unicodeRemarksWrong)

/- THE SECOND FORM. 'bulk': how many values and letters a reading holds, each counted each time it is reached (what is shared counts as often as it is met; a slice's spare places count too). A statement '..UptoSaid' is the law's where the arguments, and the package variables that the reading takes, are together of bulk at most 1048576: NARROWER than '..Said'. Prove '..Said' where nothing that the law and all that it calls make is longer than what came in: it says more and counts as full. Else prove '..UptoSaid'. A law counts once. -/
mutual
def uptoBulk {H : Type} : DataW H → Nat
  | .lit (.string bytes) => bytes.length + 1
  | .lit _ => 1
  | .nil => 1
  | .ptr d => uptoBulk d + 1
  | .slice elems spare => uptoBulkAll elems + uptoBulkAll spare + 1
  | .agg parts => uptoBulkAll parts + 1
  | .iface _ d => uptoBulk d + 1
  | .map entries => uptoBulkEntries entries + 1
  | .held _ => 1
def uptoBulkAll {H : Type} : List (DataW H) → Nat
  | [] => 0
  | d :: r => uptoBulk d + uptoBulkAll r
def uptoBulkEntries {H : Type} : List (Lit × DataW H) → Nat
  | [] => 0
  | x :: r => uptoBulkEntry x + uptoBulkEntries r
def uptoBulkEntry {H : Type} : Lit × DataW H → Nat
  | (.string bytes, d) => bytes.length + uptoBulk d + 1
  | (_, d) => uptoBulk d + 1
 end
def uptoSmall : (H : Type) → List (DataW H) → Bool := fun _ ds => decide (uptoBulkAll ds ≤ 1048576)
def OpenSpec.upto (s : _root_.Go.ChangeSpec) : _root_.Go.OpenSpec := { _root_.Go.OpenSpec.ofChange s with cond := some uptoSmall }

/-- 'paronymlaw04.UnicodeParses', WHERE WHAT IT READS IS OF BULK AT MOST 1048576: true; the input reads as it did. -/
def unicodeParsesUptoRow : OpenClaim := { program := "ytfmkhfjdihfppaadoor", sum := "aa11a78a92d861cb8b49a67918d5619fe859235e43e50004436f474380272c80", func := "paronym/paronymlaw04.UnicodeParses", spec := "unicodeParses", inPlace := ["internal/bytealg.IndexByte", "internal/bytealg.Index", "internal/bytealg.IndexByteString", "internal/bytealg.IndexString", "internal/bytealg.CountString"], unfollowed := true, recurses := true, named := ["internal/bytealg.MaxLen", "unicode/utf8.first", "unicode/utf8.acceptRanges"], apart := false, laid := [("unicode/utf8.acceptRanges", laid_unicode_utf8_acceptRanges), ("unicode/utf8.first", laid_unicode_utf8_first)], narrowed := true }
def UnicodeParsesUptoSaid : Prop := unicodeParsesUptoRow.holds Tryd.pinned (OpenSpec.upto unicodeParsesSpec)

/-- 'paronymlaw04.UnicodeTells', WHERE WHAT IT READS IS OF BULK AT MOST 1048576: true; the input reads as it did. -/
def unicodeTellsUptoRow : OpenClaim := { program := "ytfmkhfjdihfppaadoor", sum := "aa11a78a92d861cb8b49a67918d5619fe859235e43e50004436f474380272c80", func := "paronym/paronymlaw04.UnicodeTells", spec := "unicodeTells", inPlace := ["internal/bytealg.IndexByte", "internal/bytealg.Index", "internal/bytealg.IndexByteString", "internal/bytealg.IndexString", "internal/bytealg.CountString"], unfollowed := true, recurses := true, named := ["internal/bytealg.MaxLen", "unicode/utf8.first", "unicode/utf8.acceptRanges"], apart := false, laid := [("unicode/utf8.acceptRanges", laid_unicode_utf8_acceptRanges), ("unicode/utf8.first", laid_unicode_utf8_first)], narrowed := true }
def UnicodeTellsUptoSaid : Prop := unicodeTellsUptoRow.holds Tryd.pinned (OpenSpec.upto unicodeTellsSpec)

/-- 'paronymlaw04.UnicodeRises', WHERE WHAT IT READS IS OF BULK AT MOST 1048576: true; the input reads as it did. -/
def unicodeRisesUptoRow : OpenClaim := { program := "ytfmkhfjdihfppaadoor", sum := "aa11a78a92d861cb8b49a67918d5619fe859235e43e50004436f474380272c80", func := "paronym/paronymlaw04.UnicodeRises", spec := "unicodeRises", inPlace := ["internal/bytealg.IndexByte", "internal/bytealg.Index", "internal/bytealg.IndexByteString", "internal/bytealg.IndexString", "internal/bytealg.CountString"], unfollowed := true, recurses := true, named := ["internal/bytealg.MaxLen", "unicode/utf8.first", "unicode/utf8.acceptRanges"], apart := false, laid := [("unicode/utf8.acceptRanges", laid_unicode_utf8_acceptRanges), ("unicode/utf8.first", laid_unicode_utf8_first)], narrowed := true }
def UnicodeRisesUptoSaid : Prop := unicodeRisesUptoRow.holds Tryd.pinned (OpenSpec.upto unicodeRisesSpec)

/-- 'paronymlaw04.UnicodeRemarks', WHERE WHAT IT READS IS OF BULK AT MOST 1048576: true; the input reads as it did. -/
def unicodeRemarksUptoRow : OpenClaim := { program := "ytfmkhfjdihfppaadoor", sum := "aa11a78a92d861cb8b49a67918d5619fe859235e43e50004436f474380272c80", func := "paronym/paronymlaw04.UnicodeRemarks", spec := "unicodeRemarks", inPlace := ["internal/bytealg.IndexByte", "internal/bytealg.Index", "internal/bytealg.IndexByteString", "internal/bytealg.IndexString", "internal/bytealg.CountString"], unfollowed := true, recurses := true, named := ["internal/bytealg.MaxLen", "unicode/utf8.first", "unicode/utf8.acceptRanges"], apart := false, laid := [("unicode/utf8.acceptRanges", laid_unicode_utf8_acceptRanges), ("unicode/utf8.first", laid_unicode_utf8_first)], narrowed := true }
def UnicodeRemarksUptoSaid : Prop := unicodeRemarksUptoRow.holds Tryd.pinned (OpenSpec.upto unicodeRemarksSpec)

end Rows
end Go.Proofs.YtfmkhfjdihfppaaDoor
