/- The laws of property files, for whatever comes in. -/
import Derived.Test.YtdbnegllncjhkaaGreatDoorLpar
import Derived.Test.YtdbnegllncjhkaaGreatDoorLtur
import Derived.Test.YtdbnegllncjhkaaGreatDoorLaid
import Derived.SliceStrings
namespace Go.Proofs.YtdbnegllncjhkaaGreatDoor
open Go.RowKit

/-- What a slice of strings that came in is to a walk. -/
def IsStrs (w : World) (a : Option Addr) (len cap : Nat) (ss : List ByteArray) : Prop :=
  (a = none ∧ len = 0 ∧ cap = 0 ∧ ss = []) ∨
  ∃ x, a = some x ∧ len ≤ cap ∧ cap ≤ maxLen ∧ ss.length = cap ∧ (∀ i, i < ss.length → w.cell? (x.add i) = some (.string (ss.getD i ByteArray.empty))) ∧ ∀ s ∈ ss, s.size ≤ maxLen
theorem IsStrs.vals {w : World} {a : Option Addr} {len cap : Nat} {ss : List ByteArray} (h : IsStrs w a len cap ss) : ∃ vs : List (List UInt8), Vals w a len (strs vs) := by
  rcases h with ⟨rfl, rfl, rfl, rfl⟩ | ⟨x, rfl, hl, hm, hz, hcell, -⟩
  · exact ⟨[], Vals.nil _ _⟩
  · refine ⟨(ss.take len).map fun s => s.data.toList, ⟨by rw [strs_length, List.length_map, List.length_take]; omega, fun h0 => ?_⟩⟩
    obtain ⟨b, off, spot⟩ := x
    have hc := hcell 0 (by omega)
    have hspot : spot = none := by simpa [Addr.add] using World.cell?_spot hc
    subst hspot
    refine ⟨b, off, rfl, ?_, fun j v hj => ?_⟩
    · have := World.block_lt_of_cell? w _ hc
      simpa [Addr.add] using this
    · have hlt : j < len := by
        have := (List.getElem?_eq_some_iff.1 hj).1
        rw [strs_length, List.length_map, List.length_take] at this
        omega
      have h1 := hcell j (by omega)
      have e : (⟨b, off, none⟩ : Addr).add j = ⟨b, off + j, none⟩ := by unfold Addr.add; split <;> simp_all
      rw [e] at h1
      rw [h1]
      rw [strs_get (by rw [List.length_map, List.length_take]; omega)] at hj
      injection hj with hj
      rw [← hj]
      have hjs : j < ss.length := by omega
      congr 2
      rw [List.getD_eq_getElem?_getD, List.getD_eq_getElem?_getD, List.getElem?_map, List.getElem?_take_of_lt hlt, List.getElem?_eq_getElem hjs]
      exact (bs_of _).symm
namespace propParses
theorem walk (a0 : Option Addr) (len0 cap0 : Nat) (z0 : List Int) (a1 : Option Addr) (len1 cap1 : Nat) (z1 : List ByteArray) (w : World) (hM : ML w) (w0 : IsRow .u8 w a0 len0 cap0 z0) (w1 : IsStrs w a1 len1 cap1 z1) :
    Calls Tryz.prog 3 #[.slice a0 len0 cap0, .slice a1 len1 cap1] w fun e w' => e = .returned (.bool true) ∧ Below w.heap.size w w' := by
  obtain ⟨l, hO, -, -⟩ := w0.octs
  obtain ⟨vs, hV⟩ := w1.vals
  by_cases h : 800 < len0
  · exact walk_long a0 len0 cap0 a1 len1 cap1 w hM h
  · cases hf : fewB vs with
    | false => exact walk_many a0 len0 cap0 a1 len1 cap1 vs w hM hV (by omega) hf
    | true =>
      by_cases he : (propOf vs (linesIn l)).err = 0
      · exact walk_ok a0 len0 cap0 l a1 len1 cap1 vs w hM hO hV (by omega) hf he
      · exact walk_no a0 len0 cap0 l a1 len1 cap1 vs w hM hO hV (by omega) hf he
end propParses
namespace propPoints
theorem walk (a0 : Option Addr) (len0 cap0 : Nat) (z0 : List Int) (a1 : ByteArray) (w : World) (hM : ML w) (w0 : IsRow .u8 w a0 len0 cap0 z0) (_ : a1.size ≤ maxLen) :
    Calls Tryz.prog 4 #[.slice a0 len0 cap0, .string a1] w fun e w' => e = .returned (.bool true) ∧ Below w.heap.size w w' := by
  obtain ⟨l, hO, -, -⟩ := w0.octs
  by_cases h : 800 < len0 ∨ 30 < a1.size
  · exact walk_long a0 len0 cap0 a1 w hM h
  · obtain ⟨v, rfl⟩ : ∃ R, a1 = bs R := ⟨_, (bs_of a1).symm⟩
    rw [bs_size] at h
    exact walk_ok a0 len0 cap0 l v w hM hO (by omega) (by omega)
end propPoints
namespace propOthers
theorem walk (a0 : Option Addr) (len0 cap0 : Nat) (z0 : List Int) (a1 a2 : ByteArray) (w : World) (hM : ML w) (w0 : IsRow .u8 w a0 len0 cap0 z0) (_ : a1.size ≤ maxLen) (_ : a2.size ≤ maxLen) :
    Calls Tryz.prog 5 #[.slice a0 len0 cap0, .string a1, .string a2] w fun e w' => e = .returned (.bool true) ∧ Below w.heap.size w w' := by
  obtain ⟨l, hO, -, -⟩ := w0.octs
  by_cases h : letB len0 a1 a2
  · exact walk_long a0 len0 cap0 a1 a2 w hM h
  · obtain ⟨v, rfl⟩ : ∃ R, a1 = bs R := ⟨_, (bs_of a1).symm⟩
    obtain ⟨o, rfl⟩ : ∃ R, a2 = bs R := ⟨_, (bs_of a2).symm⟩
    unfold letB at h
    rw [bs_size, bs_size] at h
    have hne : ¬ v = [] := fun e => h (.inr (.inr (.inr (by rw [e, bs_toList]; rfl))))
    have h1 : ¬ 800 < len0 := fun e => h (.inl e)
    have h2 : ¬ 30 < v.length := fun e => h (.inr (.inl e))
    have h3 : ¬ 30 < o.length := fun e => h (.inr (.inr (.inl e)))
    by_cases hf : (propOf [v, o] (linesIn l)).err = 0
    · exact walk_ok a0 len0 cap0 l v o w hM hO (by omega) (by omega) (by omega) hne hf
    · exact walk_no a0 len0 cap0 l v o w hM hO (by omega) (by omega) (by omega) hne hf
end propOthers
namespace propTurned
theorem walk (a0 : Option Addr) (len0 cap0 : Nat) (z0 : List Int) (a1 : Int) (w : World) (hM : ML w) (w0 : IsRow .u8 w a0 len0 cap0 z0) (_ : (Lit.int .i64 a1).wf = true) :
    Calls Tryz.prog 6 #[.slice a0 len0 cap0, .int .i64 a1] w fun e w' => e = .returned (.bool true) ∧ Below w.heap.size w w' := by
  obtain ⟨l, hO, -, -⟩ := w0.octs
  by_cases h : 800 < len0
  · exact walk_long a0 len0 cap0 a1 w hM h
  · by_cases he : (propOf [] (linesIn l)).err = 0
    · exact walk_ok a0 len0 cap0 l a1 w hM hO (by omega) he
    · exact walk_no a0 len0 cap0 l a1 w hM hO (by omega) he
end propTurned
end Go.Proofs.YtdbnegllncjhkaaGreatDoor
