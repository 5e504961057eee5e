/- Whether two lists of texts are the same, as the document's own Same tells. -/
import Derived.Test.YtlknffldlnhfdaaDoorVals
import Derived.Test.YtlknffldlnhfdaaDoorProg
import Derived.Lib.Strings
import Derived.BigQuiet
namespace Go.Proofs.YtlknffldlnhfdaaDoor
open Go.RowKit

theorem bs_toList' (l : List UInt8) : (bs l).toList = l := by rw [Lib.toList_data, bs_data]

def SameRel (fs gs : List (List UInt8)) (n : Nat) (w : World) (i : Value) (wr : World) : Prop := ∃ k q : Nat, i = .int .i64 k ∧ k ≤ n ∧ wr = w.drewN q ∧ fs.take k = gs.take k
theorem take_same {α : Type} {fs gs : List α} {k : Nat} {d : α} (h1 : k < fs.length) (h2 : k < gs.length) (h : fs.take k = gs.take k) (he : fs.getD k d = gs.getD k d) : fs.take (k + 1) = gs.take (k + 1) := by
  rw [List.take_succ_eq_append_getElem h1, List.take_succ_eq_append_getElem h2, h]
  simp [List.getD_eq_getElem?_getD, List.getElem?_eq_getElem h1, List.getElem?_eq_getElem h2] at he
  rw [he]
theorem drewN_drewN (w : World) (a b : Nat) : (w.drewN a).drewN b = w.drewN (a + b) := by
  unfold World.drewN
  simp [Nat.add_assoc]

set_option maxRecDepth 100000 in
set_option maxHeartbeats 1000000 in
theorem same10 (A B : Option Addr) (n m ca cb : Nat) (fs gs : List (List UInt8)) (w : World) (hA : Vals w A n (strs fs)) (hB : Vals w B m (strs gs)) (hn : n ≤ 1000000) (hm : m ≤ 1000000) :
    Calls Tryd.prog 10 #[.slice A n ca, .slice B m cb] w fun e w' => e = .returned (.bool (decide (fs = gs))) ∧ ∃ q, w' = w.drewN q := by
  have hlf : fs.length = n := by have := hA.1; rwa [strs_length] at this
  have hlg : gs.length = m := by have := hB.1; rwa [strs_length] at this
  by_cases hnm : n = m
  · subst hnm
    have HA := Lib.hid hA
    have HB := Lib.hid hB
    have HF := Lib.hid hlf
    have HG := Lib.hid hlg
    clear hA hB hlf hlg
    go_enter Tryd.func10, Tryd.ntmps10
    go_wp2
    go_loopw [5] (fun i wr => SameRel fs gs n w i wr) (fun i _ => n - (intOf i).toNat)
    case atStart => exact ⟨0, 0, rfl, Nat.zero_le _, rfl, by simp⟩
    case round =>
      obtain ⟨k, q, rfl, hkn, rfl, htk⟩ := hrel
      by_cases hlt : k < n
      · obtain ⟨b, off, rfl, -, hc⟩ := HA.out.2 (by omega)
        obtain ⟨b2, off2, rfl, -, hc2⟩ := HB.out.2 (by omega)
        have h1 : w.cell? ⟨b, off + k, none⟩ = some (.string (bs (fs.getD k []))) := hc k _ (strs_get (by rw [HF.out]; exact hlt))
        have h2 : w.cell? ⟨b2, off2 + k, none⟩ = some (.string (bs (gs.getD k []))) := hc2 k _ (strs_get (by rw [HG.out]; exact hlt))
        clear hc hc2
        by_cases he : fs.getD k [] = gs.getD k []
        · have hts := take_same (by rw [HF.out]; exact hlt) (by rw [HG.out]; exact hlt) htk he
          rw [he] at h1
          have HTS := Lib.hid hts
          clear hts htk he
          obtain ⟨S, hS⟩ : ∃ S, bs (gs.getD k []) = S := ⟨_, rfl⟩
          rw [hS] at h1 h2
          clear hS
          go_wp2
          go_quiet (fail)
          go_wp2
          go_roundw
          case rel => exact ⟨k + 1, _, by go_num, by omega, rfl, HTS.out⟩
          case measure => simp [intOf]; omega
        · have hne : ¬ (bs (fs.getD k [])).toList = (bs (gs.getD k [])).toList := by rw [bs_toList', bs_toList']; exact he
          have hneb : ((bs (fs.getD k [])).toList == (bs (gs.getD k [])).toList) = false := beq_false_of_ne hne
          have hfin : Hid (decide (fs = gs) = false) := by
            have : ¬ fs = gs := fun e => he (by rw [e])
            rw [decide_eq_false this]
            exact Lib.hid rfl
          obtain ⟨S, hS⟩ : ∃ S, bs (fs.getD k []) = S := ⟨_, rfl⟩
          obtain ⟨T, hT⟩ : ∃ T, bs (gs.getD k []) = T := ⟨_, rfl⟩
          rw [hS] at h1 hne hneb
          rw [hT] at h2 hne hneb
          clear hS hT he htk
          go_wp2
          go_quiet (fail)
          go_wp2
          go_ret
          exact ⟨by rw [hfin.out]; rfl, _, drewN_drewN _ _ _⟩
      · have hke : k = n := by omega
        subst hke
        have hfin : Hid (decide (fs = gs) = true) := by
          rw [List.take_of_length_le (by rw [HF.out]; exact Nat.le_refl _), List.take_of_length_le (by rw [HG.out]; exact Nat.le_refl _)] at htk
          rw [decide_eq_true htk]
          exact Lib.hid rfl
        clear htk
        go_wp2
        go_ret
        exact ⟨by rw [hfin.out]; rfl, q, rfl⟩
  · have hfin : Hid (decide (fs = gs) = false) := by
      have : ¬ fs = gs := fun e => hnm (by rw [← hlf, ← hlg, e])
      rw [decide_eq_false this]
      exact Lib.hid rfl
    have h1 : ((n : Int) == (m : Int)) = false := beq_false_of_ne (by omega)
    have h2 : ((n : Int) != (m : Int)) = true := by simp [bne, h1]
    clear hA hB hlf hlg
    go_enter Tryd.func10, Tryd.ntmps10
    go_wp2
    go_ret
    exact ⟨by rw [hfin.out]; rfl, 0, rfl⟩
end Go.Proofs.YtlknffldlnhfdaaDoor
