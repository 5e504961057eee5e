/- What a slice of integers that came in is to a walk; one of octets is octets. -/
import Derived.Test.YtohhkogjphgimaaRows
import Derived.Test.YtohhkogjphgimaaOct
import Derived.Lib.Bytes
import Derived.Deep.Slices
import Derived.WalkKit
import Derived.ProofKit
import Derived.OpenShut
import Derived.ShutString
import Derived.ChangeOld
import Derived.ChangeMaps5
import Derived.Below
namespace Go.Proofs.Ytohhkogjphgimaa
open Go.ChangeShapes Go.WideShapes Go.ChangeAt Go.RowKit

theorem own : ownKnob Try.prog.godebug = none := by kernel_rfl
theorem laidOut : laidOutB Try.prog = true := by kernel_rfl

/-- What a slice of integers that came in is to a walk: nil, or a row of cells; each number fits its kind. -/
def IsRow (k : IntKind) (w : World) (a : Option Addr) (len cap : Nat) (zs : List Int) : Prop :=
  (a = none ∧ len = 0 ∧ cap = 0 ∧ zs = []) ∨
  ∃ x, a = some x ∧ len ≤ cap ∧ cap ≤ maxLen ∧ zs.length = cap ∧ (∀ i, i < zs.length → w.cell? (x.add i) = some (.int k (zs.getD i 0))) ∧ ∀ n ∈ zs, (Lit.int k n).wf = true

theorem IsRow.vals {k : IntKind} {w : World} {a : Option Addr} {len cap : Nat} {zs : List Int} (h : IsRow k w a len cap zs) : Vals w a len (nums k (zs.take len)) ∧ len ≤ cap ∧ (a = none → cap = 0) ∧ ∀ n ∈ zs.take len, (Lit.int k n).wf = true := by
  rcases h with ⟨rfl, rfl, rfl, rfl⟩ | ⟨x, rfl, hl, hm, hz, hcell, hwz⟩
  · exact ⟨Vals.nil _ _, Nat.le_refl _, fun _ => rfl, by simp⟩
  · refine ⟨⟨by simp [nums]; omega, fun h0 => ?_⟩, hl, fun h => (by cases h), fun n hn => hwz n (List.mem_of_mem_take hn)⟩
    obtain ⟨b, off, spot⟩ := x
    have hc := hcell 0 (by omega)
    have hspot : spot = none := by simpa [Addr.add] using World.cell?_spot hc
    subst hspot
    refine ⟨b, off, rfl, ?_, fun j v hj => ?_⟩
    · have := World.block_lt_of_cell? w _ hc
      simpa [Addr.add] using this
    · have hlt : j < len := by
        have := (List.getElem?_eq_some_iff.1 hj).1
        simp [nums] at this
        omega
      have := hcell j (by omega)
      have e : (⟨b, off, none⟩ : Addr).add j = ⟨b, off + j, none⟩ := by unfold Addr.add; split <;> simp_all
      rw [e] at this
      rw [nums_get (by simp; omega)] at hj
      cases hj
      rw [this]
      simp [List.getD_eq_getElem?_getD, hlt]
theorem wf_u8 {x : Int} (h : (Lit.int .u8 x).wf = true) : 0 ≤ x ∧ x < 256 := by
  have := bounds_u8 h
  omega
/-- A slice of octets. -/
theorem IsRow.octs {w : World} {a : Option Addr} {len cap : Nat} {zs : List Int} (h : IsRow .u8 w a len cap zs) : ∃ l : List UInt8, Octs w a len l ∧ len ≤ cap ∧ (a = none → cap = 0) := by
  obtain ⟨h1, h2, h3, h4⟩ := h.vals
  refine ⟨Lib.bytesOf (zs.take len), ?_, h2, h3⟩
  have e : ints (Lib.bytesOf (zs.take len)) = zs.take len := by
    unfold ints Lib.bytesOf
    rw [List.map_map]
    conv => rhs; rw [← List.map_id (zs.take len)]
    apply List.map_congr_left
    intro x hx
    have := wf_u8 (h4 x hx)
    simp
    omega
  unfold Octs
  rw [e]
  exact h1
end Go.Proofs.Ytohhkogjphgimaa
