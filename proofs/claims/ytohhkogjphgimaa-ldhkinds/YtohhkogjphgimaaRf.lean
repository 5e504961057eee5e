/- The document's own Lower and Kind of a text. -/
import Derived.Test.YtohhkogjphgimaaKd
import Derived.Deep.LoopGhost
namespace Go.Proofs.Ytohhkogjphgimaa
open Go.RowKit

theorem uapp (a b : List UInt8) : nums .u8 (ints (a ++ b)) = nums .u8 (ints a) ++ nums .u8 (ints b) := by unfold ints nums; rw [List.map_append, List.map_append]
def RlI (l : List UInt8) (w : World) (kx : Nat) (s3 s4 : Value) (wr : World) : Prop :=
  ∃ (A : Option Addr) (c k : Nat), s3 = .slice A k c ∧ s4 = .int .i64 k ∧ k ≤ l.length ∧ l.length - k ≤ kx ∧ Hid (Below w.heap.size w wr ∧ wr.ownsRow w.heap.size 5 1 (.slice A k c) k (nums .u8 (ints ((l.take k).map lowO))))
set_option maxRecDepth 100000 in
set_option maxHeartbeats 4000000 in
theorem rlower11 (l : List UInt8) (w : World) (hn : l.length ≤ 1000) : Calls Try.prog 11 #[.string (bs l)] w fun e w' => e = .returned (.string (bs (l.map lowO))) ∧ Hid (Below w.heap.size w w') := by
  obtain ⟨n, hl⟩ : ∃ n, l.length = n := ⟨_, rfl⟩
  have HL := Lib.hid hl
  have hs : (bs l).size = n := by rw [bs_size, hl]
  have HQ : Hid (∀ k h, (((bs l)[k]'h).toNat : Int) = oct l k) := fun k h => bs_oct l k h
  rw [hl] at hn
  obtain ⟨t, ht⟩ : ∃ t, bs l = t := ⟨_, rfl⟩
  rw [ht] at hs HQ ⊢
  obtain ⟨i0, hi, hz0, hz1, hz2⟩ := infoU
  have HV : Hid (∀ wr A c, wr.ownsRow w.heap.size 5 1 (.slice A n c) n (nums .u8 (ints ((l.take n).map lowO))) → (convert 22 9 (.slice A n c)).run Try.prog wr = .ok (.string (bs (l.map lowO))) wr) := fun wr A c ho => by
    obtain ⟨A', c', e, -, hv, -⟩ := own_vals ho
    cases e
    rw [List.take_of_length_le (by have := HL.out; omega)] at hv
    exact conv22 _ hv
  obtain ⟨T, hT⟩ : ∃ T, bs (l.map lowO) = T := ⟨_, rfl⟩
  rw [hT] at HV ⊢
  clear hl ht hT
  go_enter Try.func11, Try.ntmps11
  go_wp2
  go_loopg [3, 4] n (fun kx s3 s4 wr => RlI l w kx s3 s4 wr)
  case atStart => exact ⟨none, 0, 0, rfl, rfl, Nat.zero_le _, by have := HL.out; omega, Below.refl _ _, rfl, .inl ⟨rfl, rfl⟩⟩
  case round =>
    obtain ⟨A2, c2, k, rfl, rfl, hk, hkx, HI⟩ := hrel
    rw [HL.out] at hk hkx
    by_cases hlt : k < n
    · obtain ⟨hI1, hI2⟩ := HI.out
      have hbs : Hid (w.heap.size ≤ wr.heap.size) := hI1.size
      have HN : Hid (wr.ownsRow w.heap.size 5 1 (.slice A2 k c2) k (nums .u8 (ints ((l.take k).map lowO)))) := hI2
      have HE : Hid (∀ w2 w3 v', Below wr.heap.size wr w2 → Grew w.heap.size w2 w3 → w3.ownsRow w.heap.size 5 1 v' (k + 1) (nums .u8 (ints ((l.take k).map lowO)) ++ [.int .u8 ((lowO (l.getD k 0)).toNat : Int)]) → ∃ A' c', v' = .slice A' (k + 1) c' ∧ Hid (RlI l w (n - (k + 1)) (.slice A' (k + 1) c') (.int .i64 (k + 1 : Nat)) w3)) := fun w2 w3 v' hb hg ho => by
        obtain ⟨A', c', rfl, -⟩ := own_vals ho
        refine ⟨A', c', rfl, A', c', k + 1, rfl, rfl, by have := HL.out; omega, by have := HL.out; omega, hg _ _ (hI1.trans (hb.mono hI1.size)) (Nat.le_refl _), ?_⟩
        have hx : l[k]? = some (l.getD k 0) := by rw [List.getD_eq_getElem?_getD, List.getElem?_eq_getElem (by have := HL.out; omega)]; rfl
        rw [List.take_add_one, hx, List.map_append, uapp]
        exact ho
      have hb9 : decide (k < n) = true := decide_eq_true hlt
      have HB : Hid (Below wr.heap.size wr wr) := Below.refl _ _
      have hw := low_ways (l.getD k 0)
      have hq := HQ.out k
      unfold oct at hq
      have hlt2 := (l.getD k 0).toNat_lt
      obtain ⟨y, hy⟩ : ∃ y, (l.getD k 0).toNat = y := ⟨_, rfl⟩
      obtain ⟨z, hz⟩ : ∃ z, (lowO (l.getD k 0)).toNat = z := ⟨_, rfl⟩
      rw [hy] at hq hw hlt2
      rw [hz] at hw HE
      clear hy hz HI hI1 hI2
      rcases hw with ⟨⟨h1, h2⟩, rfl⟩ | ⟨h, rfl⟩
      · go_wp2_with (at_builtin; refine append_lit rfl _ _ 22 rfl w.heap.size 5 i0 _ 1 1 Try.underlying22 hi hz0 hz1 hz2 rfl (by decide) _ k _ rfl HN.out _ rfl (fun u hu => by simp at hu; subst hu; rfl) rfl (by unfold maxLen; omega) (by omega) hbs.out ?_; intro v' w3 h6 h7; obtain ⟨A', c', rfl, h8⟩ := HE.out wr w3 v' HB.out h7 h6; clear h6 h7)
        go_roundg (n - (k + 1))
        case measure => omega
        case rel =>
          have := h8.out
          rwa [show ((k + 1 : Nat) : Int) = (k : Int) + 1 by omega] at this
      · by_cases h1 : 65 ≤ z
        all_goals
          have h2 : z < 65 ∨ 90 < z := by omega
          clear h
          go_wp2_with (at_builtin; refine append_lit rfl _ _ 22 rfl w.heap.size 5 i0 _ 1 1 Try.underlying22 hi hz0 hz1 hz2 rfl (by decide) _ k _ rfl HN.out _ rfl (fun u hu => by simp at hu; subst hu; rfl) rfl (by unfold maxLen; omega) (by omega) hbs.out ?_; intro v' w3 h6 h7; obtain ⟨A', c', rfl, h8⟩ := HE.out wr w3 v' HB.out h7 h6; clear h6 h7)
          go_roundg (n - (k + 1))
          case measure => omega
          case rel =>
            have := h8.out
            rwa [show ((k + 1 : Nat) : Int) = (k : Int) + 1 by omega] at this
    · obtain rfl : k = n := by omega
      have hq := HV.out wr A2 c2 HI.out.2
      have hB : Hid (Below w.heap.size w wr) := HI.out.1
      have hb9 : decide (k < k) = false := decide_eq_false hlt
      clear HI
      go_wp2
      go_ret
      exact ⟨rfl, hB.out⟩
end Go.Proofs.Ytohhkogjphgimaa
