/- What the document's own At hands back. -/
import Derived.Test.YtfmkhfjdihfppaaDoorRat
import Derived.Test.YtfmkhfjdihfppaaDoorProg
import Derived.BigQuiet
import Derived.Handy
namespace Go.Proofs.YtfmkhfjdihfppaaDoor
open Go.RowKit

theorem below_six {w v : World} (a b d : Int) {c e f : Value} (h : Below w.heap.size w v) :
    Below w.heap.size w ((((((v.setCell ⟨w.heap.size, 0, none⟩ (.int .i64 a)).setCell ⟨w.heap.size, 1, none⟩ (.int .i64 b)).setCell ⟨w.heap.size, 2, none⟩ c).setCell ⟨w.heap.size, 3, none⟩ (.int .i64 d)).setCell ⟨w.heap.size, 4, none⟩ e).setCell ⟨w.heap.size, 5, none⟩ f) := by
  exact Below.setCell (Below.setCell (Below.setCell (Below.setCell (Below.setCell (Below.setCell h (Nat.le_refl _) _) (Nat.le_refl _) _) (Nat.le_refl _) _) (Nat.le_refl _) _) (Nat.le_refl _) _) (Nat.le_refl _) _

set_option maxRecDepth 100000 in
set_option maxHeartbeats 1000000 in
theorem at13 (A : Option Addr) (n ca : Nat) (ls : List Rw) (c : Int) (w : World) (hV : RAt w A n ls) (hn : n ≤ 1000000) :
    Calls Tryd.prog 13 #[.slice A n ca, .int .i64 c] w fun e w' => e = .returned (rwV (atOf ls c)) ∧ Below w.heap.size w w' := by
  have HV := Lib.hid hV
  have HL := Lib.hid hV.1
  clear hV
  go_enter Tryd.func13, Tryd.ntmps13
  go_wp2
  go_loopw [5] (fun i wr => ∃ k q : Nat, i = .int .i64 k ∧ k ≤ n ∧ wr = (w.alloc (.cells #[.int .i64 0, .int .i64 0, .string ⟨#[]⟩, .int .i64 0, .string ⟨#[]⟩, .slice none 0 0] 36)).drewN q ∧ ∀ t ∈ ls.take k, ¬ (t.a ≤ c ∧ c ≤ t.b)) (fun i _ => n - (intOf i).toNat)
  case atStart => exact ⟨0, 0, rfl, Nat.zero_le _, rfl, by simp⟩
  case round =>
    obtain ⟨k, q, rfl, hkn, rfl, hno⟩ := hrel
    by_cases hlt : k < n
    · obtain ⟨b, off, rfl, hbl, hc⟩ := HV.out.2 (by omega)
      obtain ⟨s, hs⟩ := getRw (ls := ls) (k := k) (by rw [HL.out]; exact hlt)
      obtain ⟨h1, h2, h3, h4, h5, h6⟩ := hc k s hs
      by_cases g1 : s.a ≤ c
      · by_cases g2 : c ≤ s.b
        · have HR := Lib.hid (at_take hs hno ⟨g1, g2⟩)
          clear hc hs hno
          obtain ⟨T, hT⟩ : ∃ T, bs s.gc = T := ⟨_, rfl⟩
          rw [hT] at h3
          have HT := Lib.hid hT
          obtain ⟨U, hU⟩ : ∃ U, bs s.bd = U := ⟨_, rfl⟩
          rw [hU] at h5
          have HU := Lib.hid hU
          clear hT hU
          go_wp2
          go_returns
          exact ⟨by rw [HR.out]; unfold rwV; rw [HT.out, HU.out], below_six _ _ _ (below_drewN (Below.alloc (Below.refl _ _) (Nat.le_refl _) _) q)⟩
        · have HN := Lib.hid (take_rw hs hno (fun h => g2 h.2))
          clear hc hs hno h3 h4 h5 h6
          go_wp2
          go_roundw
          case rel => exact ⟨k + 1, q, by go_num, by omega, rfl, HN.out⟩
          case measure => simp [intOf]; omega
      · have HN := Lib.hid (take_rw hs hno (fun h => g1 h.1))
        clear hc hs hno h2 h3 h4 h5 h6
        go_wp2
        go_roundw
        case rel => exact ⟨k + 1, q, by go_num, by omega, rfl, HN.out⟩
        case measure => simp [intOf]; omega
    · have hke : k = n := by omega
      subst hke
      rw [List.take_of_length_le (by rw [HL.out]; exact Nat.le_refl _)] at hno
      have HR := Lib.hid (at_gap hno)
      clear hno
      go_wp2
      go_returns
      exact ⟨by rw [HR.out]; rfl, below_six _ _ _ (below_drewN (Below.alloc (Below.refl _ _) (Nat.le_refl _) _) q)⟩
end Go.Proofs.YtfmkhfjdihfppaaDoor
