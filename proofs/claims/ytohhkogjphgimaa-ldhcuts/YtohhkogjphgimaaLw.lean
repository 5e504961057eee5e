/- The program's Lower of octets: a new row of the same length, with small letters. -/
import Derived.Test.YtohhkogjphgimaaLo
import Derived.OwnWalk
import Derived.Laws.CopyOwn
namespace Go.Proofs.Ytohhkogjphgimaa
open Go.RowKit

theorem infoN : (Try.prog.info? 5).map (fun i => (i.zero, i.size, i.bytes)) = some (some (.int .u8 0), 1, 1) := by kernel_rfl
theorem infoU : ∃ i, Try.prog.info? 5 = some i ∧ i.zero = some (.int .u8 0) ∧ i.size = 1 ∧ i.bytes = 1 := by
  cases h : Try.prog.info? 5 with
  | none => have := infoN; rw [h] at this; cases this
  | some i =>
    have := infoN
    rw [h] at this
    injection this with this
    injection this with h1 h2
    injection h2 with h2 h3
    exact ⟨i, rfl, h1, h2, h3⟩
theorem infoU1 : (Try.prog.info? 5).map (·.size) = some 1 := by kernel_rfl
theorem own_list {w : World} {base g n c : Nat} {xs : List Value} (h : w.ownsRow base 5 1 (.slice (some ⟨g, 0, none⟩) n c) n xs) : ∃ L : List Value, w.heap[g]? = some (.cells L.toArray 5 (0, 0)) ∧ n ≤ L.length := by
  rcases h.2 with ⟨h1, _⟩ | ⟨g', cap, cur, h1, _, hg, hc, _, hs, _⟩
  · cases h1
  · cases h1
    exact ⟨cur.toList, hg, by simp; omega⟩
theorem oct_one (l : List UInt8) : ∀ u ∈ nums .u8 (ints l), u.oneCell' = true := fun u hu => by
  obtain ⟨z, -, rfl⟩ := List.mem_map.1 hu
  rfl
/-- the first k have small letters -/
def half (l : List UInt8) (k j : Nat) : Int := if j < k then ((lowO (l.getD j 0)).toNat : Int) else ((l.getD j 0).toNat : Int)
def LwI (w : World) (l : List UInt8) (n : Nat) (i : Value) (wr : World) : Prop :=
  ∃ k : Nat, k ≤ n ∧ i = .int .i64 k ∧ Hid (Below w.heap.size w wr ∧ w.heap.size < wr.heap.size ∧ ∀ j, j < n → wr.cell? ⟨w.heap.size, j, none⟩ = some (.int .u8 (half l k j)) ∧ wr.frozen? ⟨w.heap.size, j, none⟩ = false)
theorem lw_start {w w2 : World} {l : List UInt8} {n : Nat} {L : List Value} (hl : l.length = n) (hg : w2.heap[w.heap.size]? = some (.cells (splice L 0 (nums .u8 (ints l))).toArray 5 (0, 0))) (hb : Below w.heap.size w w2) : LwI w l n (.int .i64 0) w2 := by
  refine ⟨0, Nat.zero_le _, rfl, hb, (Array.getElem?_eq_some_iff.1 hg).1, fun j hj => ⟨?_, ?_⟩⟩
  · have e : (splice L 0 (nums .u8 (ints l)))[j]? = some (.int .u8 (half l 0 j)) := by
      unfold splice
      rw [List.take_zero, List.nil_append, List.getElem?_append_left (by unfold nums; rw [List.length_map, ints_length]; omega), nums_get (by rw [ints_length]; omega), ints_get]
      rfl
    unfold World.cell?
    rw [hg]
    simpa using e
  · unfold World.frozen?
    rw [hg]
    simp
theorem lw_step {w wr : World} {l : List UInt8} {n k : Nat} (hk : k < n) (h : Below w.heap.size w wr ∧ w.heap.size < wr.heap.size ∧ ∀ j, j < n → wr.cell? ⟨w.heap.size, j, none⟩ = some (.int .u8 (half l k j)) ∧ wr.frozen? ⟨w.heap.size, j, none⟩ = false) :
    LwI w l n (.int .i64 (k + 1 : Nat)) (wr.setCell ⟨w.heap.size, k, none⟩ (.int .u8 ((lowO (l.getD k 0)).toNat : Int))) := by
  obtain ⟨h1, h2, h3⟩ := h
  refine ⟨k + 1, by omega, rfl, h1.setCell (p := ⟨w.heap.size, k, none⟩) (Nat.le_refl _) _, by rw [World.size_setCell]; exact h2, fun j hj => ⟨?_, by rw [World.frozen?_setCell]; exact (h3 j hj).2⟩⟩
  by_cases e : j = k
  · subst e
    rw [World.cell?_setCell_same _ _ _ (h3 j hj).1]
    unfold half
    rw [if_pos (by omega)]
  · rw [World.cell?_setCell_other _ _ _ _ (by intro q; injection q with q1 q2; omega), (h3 j hj).1]
    unfold half
    by_cases e2 : j < k
    · rw [if_pos e2, if_pos (by omega)]
    · rw [if_neg e2, if_neg (by omega)]
def LwP (w : World) (l : List UInt8) (n : Nat) (e : Ending) (w' : World) : Prop := ∃ A c, e = .returned (.slice A n c) ∧ n ≤ c ∧ Hid (Below w.heap.size w w' ∧ Octs w' A n (l.map lowO))
theorem lw_end {w wr : World} {l : List UInt8} {n : Nat} (hl : l.length = n) (h : Below w.heap.size w wr ∧ w.heap.size < wr.heap.size ∧ ∀ j, j < n → wr.cell? ⟨w.heap.size, j, none⟩ = some (.int .u8 (half l n j)) ∧ wr.frozen? ⟨w.heap.size, j, none⟩ = false) :
    LwP w l n (.returned (.slice (some ⟨w.heap.size, 0, none⟩) n n)) wr := by
  obtain ⟨h1, h2, h3⟩ := h
  refine ⟨_, _, rfl, Nat.le_refl _, h1, octs_of (by rw [List.length_map, hl]) (fun _ => h2) (fun j hj => ?_)⟩
  rw [Nat.zero_add, (h3 j hj).1, ints_get]
  unfold half oct
  rw [if_pos hj, low_at]
set_option maxRecDepth 100000 in
set_option maxHeartbeats 4000000 in
theorem lower10 (A : Option Addr) (n c : Nat) (l : List UInt8) (w : World) (h : Octs w A n l) (hn : n ≤ 1000000) : Calls Try.prog 10 #[.slice A n c] w (LwP w l n) := by
  have HO := Lib.hid h
  have HL := Lib.hid h.len
  clear h
  obtain ⟨i0, hi, hz0, hz1, hz2⟩ := infoU
  obtain ⟨cs, hcs⟩ : ∃ cs, nums .u8 (ints l) = cs := ⟨_, rfl⟩
  have hcl : cs.length = n := by rw [← hcs]; unfold nums; rw [List.length_map, ints_length]; exact HL.out
  have HC := Lib.hid hcs
  clear hcs
  go_enter Try.func10, Try.ntmps10
  go_wp2_with (first
    | (refine wpList_make_full _ rfl _ _ 22 rfl w.heap.size 5 i0 _ 1 Try.underlying22 hi hz0 hz1 _ _ _ _ n rfl rfl rfl rfl (by rw [hz2]; omega) (by unfold maxLen; omega) (Nat.le_refl _) ?_; intro w1 h1 h2; obtain ⟨L, hL1, hL2⟩ := own_list h1; have HB1 : Hid (Below w.heap.size w w1) := (Below.refl _ _).grown h2 (Nat.le_refl _) (fun k hk => by cases hk); clear h1 h2)
    | (refine wpList_copy_splice rfl _ _ 22 22 rfl 5 Try.underlying22 infoU1 _ _ _ _ _ _ rfl rfl w.heap.size 0 L 5 hL1 cs (by rw [hcl]; exact (Nat.min_self n).symm) (fun hp => ⟨rfl, by
        obtain ⟨b, off, rfl, hb, hc⟩ := HO.out.2 (by omega)
        exact ⟨_, rfl, fun j v hj => by
          have := hc j v (by rw [HC.out]; exact hj)
          have e : (⟨b, off, none⟩ : Addr).add j = ⟨b, off + j, none⟩ := by unfold Addr.add; split <;> simp_all
          rw [e]
          exact (HB1.out.cell (p := ⟨b, off + j, none⟩) hb).trans this⟩⟩) (by omega) (fun u hu => oct_one l u (by rw [HC.out]; exact hu)) w.heap.size w HB1.out (Nat.le_refl _) ?_; intro w2 HG2 hB2))
  go_loopw [14] (fun i wr => LwI w l n i wr) (fun i _ => n - (intOf i).toNat)
  case atStart => exact lw_start HL.out (by rw [HC.out]; exact HG2.out) hB2
  case round =>
    clear HG2 hB2 hL1 hL2 HB1
    obtain ⟨k, hk, rfl, HI⟩ := hrel
    by_cases hlt : k < n
    · have hq := HI.out.2.2 k hlt
      obtain ⟨q1, q2⟩ := hq
      have HS := Lib.hid (lw_step hlt HI.out)
      have d := lower20 (l.getD k 0) wr
      rw [show half l k k = ((l.getD k 0).toNat : Int) from if_neg (Nat.lt_irrefl _)] at q1
      have hy1 := (l.getD k 0).toNat_lt
      have hy2 := (lowO (l.getD k 0)).toNat_lt
      obtain ⟨y, hy⟩ : ∃ y, (l.getD k 0).toNat = y := ⟨_, rfl⟩
      obtain ⟨z, hz⟩ : ∃ z, (lowO (l.getD k 0)).toNat = z := ⟨_, rfl⟩
      rw [hy] at q1 d hy1
      rw [hz] at d HS hy2
      clear hy hz HI
      go_wp2_with (go_at_call 20; (with_reducible refine d.mono ?_); rintro e w3 ⟨rfl, rfl⟩)
      go_roundw
      case rel =>
        have := HS.out
        rwa [show ((k + 1 : Nat) : Int) = (k : Int) + 1 by omega] at this
      case measure => simp [intOf]; omega
    · obtain rfl : k = n := by omega
      have HE := Lib.hid (lw_end HL.out HI.out)
      clear HI
      go_wp2
      go_ret
      exact HE.out
end Go.Proofs.Ytohhkogjphgimaa
