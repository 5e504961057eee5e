/-
  No cell of these rows narrows 'for every input' (looked for: loops, veiled, ifaces, maps, wideKeys, modest, calm, conditions, laid).
  DERIVED. THE GIVEN ROWS OF THIS SEAT. 3 by the template 'for every input the law returns true; each argument reads behind the call as it read before'; 0 by the template 'total and deterministic' (their statements: YtohhkogjphgimaaTotals.lean).
  GIVEN WITH THE SEED: the statements are not yours to turn. If you find one false, say at which input.
  Laid BY PROGRAM, IN A SANDBOX (cutbox-rows.mjs): the forced cells as the released guide's own fill.sh prints them over the translation 408ea50dfff127ae… (all of the seat's roots in one cut). By AI agents, Wed Nov 11 2026. No macro, syntax, notation, axiom, sorry.
-/
import Derived.Test.YtohhkogjphgimaaChecked
import GoSem.Claim
import GoSem.ClaimJoined
import GoSem.ClaimMapViews
import Derived.JoinedTies
import Derived.KernelRfl
namespace Go.Proofs.Ytohhkogjphgimaa
/- THE CELL 'sum', in the pinned program and in every row, IS THE sha256 OF THE DUMP (.gsa) THAT YtohhkogjphgimaaProg.lean LOADS. Nothing in Lean hashes anything: it is a label: what it is worth is what the hold of that sum in a sandbox is worth. -/
noncomputable def Try.pinned : Pinned := { name := "ytohhkogjphgimaa", sum := "408ea50dfff127aecfd602f1712a8e51d219ed9ac40554c2b121a0e1d9f005c9", checked := Try.checked }
namespace Rows
def none {H : Type} : Left H := { results := [], args := [] }

/-- 'paronymlaw11.LdhKinds': WHATEVER THE INPUT: true; the input reads as it did. -/
def ldhKindsSpec : ChangeSpec := { name := "ldhKinds", fn := fun _ => fun
  | [d] => { results := [.lit (.bool true)], args := [d] }
  | _ => none }
def ldhKindsRow : OpenClaim := { program := "ytohhkogjphgimaa", sum := "408ea50dfff127aecfd602f1712a8e51d219ed9ac40554c2b121a0e1d9f005c9", func := "paronym/paronymlaw11.LdhKinds", spec := "ldhKinds", unfollowed := true, recurses := true, apart := false }
def LdhKindsSaid : Prop := ldhKindsRow.holds Try.pinned (OpenSpec.ofChange ldhKindsSpec)

/-- ITS FALSE NEIGHBOUR: 'it returns false'. Refute it at one input. -/
def ldhKindsWrong : ChangeSpec := { name := "ldhKinds", fn := fun _ => fun
  | [d] => { results := [.lit (.bool false)], args := [d] }
  | _ => none }
def LdhKindsWrongFalsely : Prop := ldhKindsRow.holds Try.pinned (OpenSpec.ofChange ldhKindsWrong)

/-- 'paronymlaw11.LdhHyphens': WHATEVER THE INPUT: true; the input reads as it did. -/
def ldhHyphensSpec : ChangeSpec := { name := "ldhHyphens", fn := fun _ => fun
  | [d1, d2] => { results := [.lit (.bool true)], args := [d1, d2] }
  | _ => none }
def ldhHyphensRow : OpenClaim := { program := "ytohhkogjphgimaa", sum := "408ea50dfff127aecfd602f1712a8e51d219ed9ac40554c2b121a0e1d9f005c9", func := "paronym/paronymlaw11.LdhHyphens", spec := "ldhHyphens", unfollowed := true, recurses := true, apart := false }
def LdhHyphensSaid : Prop := ldhHyphensRow.holds Try.pinned (OpenSpec.ofChange ldhHyphensSpec)

/-- ITS FALSE NEIGHBOUR: 'it returns false'. Refute it at one input. -/
def ldhHyphensWrong : ChangeSpec := { name := "ldhHyphens", fn := fun _ => fun
  | [d1, d2] => { results := [.lit (.bool false)], args := [d1, d2] }
  | _ => none }
def LdhHyphensWrongFalsely : Prop := ldhHyphensRow.holds Try.pinned (OpenSpec.ofChange ldhHyphensWrong)

/-- 'paronymlaw11.LdhCuts': WHATEVER THE INPUT: true; the input reads as it did. -/
def ldhCutsSpec : ChangeSpec := { name := "ldhCuts", fn := fun _ => fun
  | [d1, d2] => { results := [.lit (.bool true)], args := [d1, d2] }
  | _ => none }
def ldhCutsRow : OpenClaim := { program := "ytohhkogjphgimaa", sum := "408ea50dfff127aecfd602f1712a8e51d219ed9ac40554c2b121a0e1d9f005c9", func := "paronym/paronymlaw11.LdhCuts", spec := "ldhCuts", unfollowed := true, recurses := true, apart := false }
def LdhCutsSaid : Prop := ldhCutsRow.holds Try.pinned (OpenSpec.ofChange ldhCutsSpec)

/-- ITS FALSE NEIGHBOUR: 'it returns false'. Refute it at one input. -/
def ldhCutsWrong : ChangeSpec := { name := "ldhCuts", fn := fun _ => fun
  | [d1, d2] => { results := [.lit (.bool false)], args := [d1, d2] }
  | _ => none }
def LdhCutsWrongFalsely : Prop := ldhCutsRow.holds Try.pinned (OpenSpec.ofChange ldhCutsWrong)

/- THE SECOND FORM. 'bulk': how many values and letters a reading holds, each counted each time it is reached (what is shared counts as often as it is met; a slice's spare places count too). A statement '..UptoSaid' is the law's where the arguments, and the package variables that the reading takes, are together of bulk at most 1048576: NARROWER than '..Said'. Prove '..Said' where nothing that the law and all that it calls make is longer than what came in: it says more and counts as full. Else prove '..UptoSaid'. A law counts once. -/
mutual
def uptoBulk {H : Type} : DataW H → Nat
  | .lit (.string bytes) => bytes.length + 1
  | .lit _ => 1
  | .nil => 1
  | .ptr d => uptoBulk d + 1
  | .slice elems spare => uptoBulkAll elems + uptoBulkAll spare + 1
  | .agg parts => uptoBulkAll parts + 1
  | .iface _ d => uptoBulk d + 1
  | .map entries => uptoBulkEntries entries + 1
  | .held _ => 1
def uptoBulkAll {H : Type} : List (DataW H) → Nat
  | [] => 0
  | d :: r => uptoBulk d + uptoBulkAll r
def uptoBulkEntries {H : Type} : List (Lit × DataW H) → Nat
  | [] => 0
  | x :: r => uptoBulkEntry x + uptoBulkEntries r
def uptoBulkEntry {H : Type} : Lit × DataW H → Nat
  | (.string bytes, d) => bytes.length + uptoBulk d + 1
  | (_, d) => uptoBulk d + 1
 end
def uptoSmall : (H : Type) → List (DataW H) → Bool := fun _ ds => decide (uptoBulkAll ds ≤ 1048576)
def OpenSpec.upto (s : _root_.Go.ChangeSpec) : _root_.Go.OpenSpec := { _root_.Go.OpenSpec.ofChange s with cond := some uptoSmall }

/-- 'paronymlaw11.LdhKinds', WHERE WHAT IT READS IS OF BULK AT MOST 1048576: true; the input reads as it did. -/
def ldhKindsUptoRow : OpenClaim := { program := "ytohhkogjphgimaa", sum := "408ea50dfff127aecfd602f1712a8e51d219ed9ac40554c2b121a0e1d9f005c9", func := "paronym/paronymlaw11.LdhKinds", spec := "ldhKinds", unfollowed := true, recurses := true, apart := false, narrowed := true }
def LdhKindsUptoSaid : Prop := ldhKindsUptoRow.holds Try.pinned (OpenSpec.upto ldhKindsSpec)

/-- 'paronymlaw11.LdhHyphens', WHERE WHAT IT READS IS OF BULK AT MOST 1048576: true; the input reads as it did. -/
def ldhHyphensUptoRow : OpenClaim := { program := "ytohhkogjphgimaa", sum := "408ea50dfff127aecfd602f1712a8e51d219ed9ac40554c2b121a0e1d9f005c9", func := "paronym/paronymlaw11.LdhHyphens", spec := "ldhHyphens", unfollowed := true, recurses := true, apart := false, narrowed := true }
def LdhHyphensUptoSaid : Prop := ldhHyphensUptoRow.holds Try.pinned (OpenSpec.upto ldhHyphensSpec)

/-- 'paronymlaw11.LdhCuts', WHERE WHAT IT READS IS OF BULK AT MOST 1048576: true; the input reads as it did. -/
def ldhCutsUptoRow : OpenClaim := { program := "ytohhkogjphgimaa", sum := "408ea50dfff127aecfd602f1712a8e51d219ed9ac40554c2b121a0e1d9f005c9", func := "paronym/paronymlaw11.LdhCuts", spec := "ldhCuts", unfollowed := true, recurses := true, apart := false, narrowed := true }
def LdhCutsUptoSaid : Prop := ldhCutsUptoRow.holds Try.pinned (OpenSpec.upto ldhCutsSpec)

end Rows
end Go.Proofs.Ytohhkogjphgimaa
