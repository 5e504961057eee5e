/- What the program's Text, and the document's own, hand back. -/
import Derived.Test.YtlknffldlnhfdaaDoorHexr
namespace Go.Proofs.YtlknffldlnhfdaaDoor
open Go.RowKit

theorem info5 : (Tryd.prog.info? 5).map (fun i => (i.zero, i.size, i.bytes)) = some (some (.int .u8 0), 1, 1) := by kernel_rfl
def u8s (l : List UInt8) : List Value := nums .u8 (ints l)
theorem u8s_append (a b : List UInt8) : u8s (a ++ b) = u8s a ++ u8s b := by simp [u8s, nums, ints]
theorem u8s_one (d : UInt8) : u8s [d] = [.int .u8 d.toNat] := rfl

/-- What has been appended when digit i comes. -/
def ApRel (c d base n : Nat) (xs : List Value) (w : World) (v i : Value) (wr : World) : Prop :=
  Grew base w wr ∧ w.heap.size ≤ wr.heap.size ∧ ∃ k : Nat, i = .int .i64 k ∧ k ≤ d ∧ wr.ownsRow base 5 1 v (n + k) (xs ++ u8s (dn k (c / 16 ^ (d - k))))
theorem Grew.refl (base : Nat) (w : World) : Grew base w w := fun _ _ h _ => h
theorem Grew.trans {base : Nat} {a b c : World} (h : Grew base a b) (k : Grew base b c) : Grew base a c := fun B w0 hb hB => k B w0 (h B w0 hb hB) hB
theorem Grew.below {base : Nat} {a b : World} (h : Grew base a b) : Below base a b := h base a (Below.refl _ _) (Nat.le_refl _)
theorem dig_byte (D : Nat) (hD : D < 16) : ∀ h, (((⟨#[48, 49, 50, 51, 52, 53, 54, 55, 56, 57, 65, 66, 67, 68, 69, 70]⟩ : ByteArray)[D]'h).toNat : Int) = (dch D).toNat := by
  intro h
  have e := bs_get digs D h
  show ((((bs digs)[D]'h).toNat : Nat) : Int) = _
  rw [e]
  unfold dch
  rw [Nat.mod_eq_of_lt hD]
theorem ap_step {c d k D : Nat} (hk : k < d) (hD : c / 16 ^ (d - (k + 1)) % 16 = D) : dn (k + 1) (c / 16 ^ (d - (k + 1))) = dn k (c / 16 ^ (d - k)) ++ [dch D] := by
  rw [dn, hD, Nat.div_div_eq_div_mul, ← Nat.pow_succ, show (d - (k + 1)).succ = d - k by omega]

set_option maxRecDepth 100000 in
set_option maxHeartbeats 4000000 in
theorem appendPoint33 (c base n : Nat) (v : Value) (xs : List Value) (w : World) (hc : c ≤ 1114111) (hown : w.ownsRow base 5 1 v n xs) (hn : n ≤ 1000000) (hbase : base ≤ w.heap.size) :
    Calls Tryd.prog 33 #[v, .int .i64 c] w fun e w' => ∃ v', e = .returned v' ∧ w'.ownsRow base 5 1 v' (n + wid c) (xs ++ u8s (hexT c)) ∧ Grew base w w' := by
  obtain ⟨i0, hi, hz0, hz1, hz2⟩ := info_parts info5
  have c27 := width27 c w
  have hfin : Hid (dn (wid c) c = hexT c) := Lib.hid rfl
  have hdr := wid_range c
  obtain ⟨d, hd⟩ : ∃ d, wid c = d := ⟨_, rfl⟩
  rw [hd] at c27 hfin hdr ⊢
  clear hd
  have HO := Lib.hid hown
  obtain ⟨A, ca, rfl, -, -, -⟩ := own_vals hown
  clear hown
  go_enter Tryd.func33, Tryd.ntmps33
  go_wp2_with (go_at_call 27; (with_reducible refine c27.mono ?_); rintro e w' ⟨rfl, rfl⟩)
  clear c27
  go_loopw [0, 10] (fun v i wr => ApRel c d base n xs w v i wr) (fun _ i _ => d - (intOf i).toNat)
  case atStart => exact ⟨Grew.refl _ _, Nat.le_refl _, 0, rfl, Nat.zero_le _, by simpa [dn, u8s, nums, ints] using HO.out⟩
  case round =>
    obtain ⟨hg, hsz, k, rfl, hkd, hown⟩ := hrel
    have hbw : base ≤ wr.heap.size := Nat.le_trans hbase hsz
    have h63 : n + k + 1 ≤ maxLen := by unfold maxLen; omega
    have h47 : (n + k + 1) * 1 ≤ 140737488355328 := by omega
    by_cases hlt : k < d
    · obtain ⟨D, hD⟩ : ∃ D, c / 16 ^ (d - (k + 1)) % 16 = D := ⟨_, rfl⟩
      have hst := ap_step hlt hD
      have hD16 : D < 16 := by omega
      have hby := dig_byte D hD16
      have HST := Lib.hid hst
      clear hst
      obtain ⟨X, hX⟩ : ∃ X, ((dch D).toNat : Int) = X := ⟨_, rfl⟩
      rw [hX] at hby
      have HX := Lib.hid hX
      clear hX
      have hand : bits .and .i64 ((c / 16 ^ (d - (k + 1)) : Nat) : Int) 15 = (D : Int) := by
        rw [and15 _ (Nat.lt_of_le_of_lt (Nat.div_le_self _ _) (by omega)), hD]
      have HRV := Lib.hid hown
      obtain ⟨A, ca, rfl, -, -, -⟩ := own_vals hown
      clear hown hD
      have hend : ∀ (v' : Value) (w2 : World), w2.ownsRow base 5 1 v' (n + k + 1) (xs ++ u8s (dn k (c / 16 ^ (d - k))) ++ [.int .u8 X]) → Grew base wr w2 → ApRel c d base n xs w v' (.int .i64 ((k : Int) + 1)) w2 := by
        intro v' w2 ho hg'
        refine ⟨hg.trans hg', Nat.le_trans hsz (hg' 0 wr ⟨rfl, rfl, rfl, Nat.le_refl _, fun _ h => absurd h (by omega)⟩ (Nat.zero_le _)).size, k + 1, by go_num, hlt, ?_⟩
        rw [HST.out, u8s_append, u8s_one, HX.out, ← List.append_assoc, ← Nat.add_assoc]
        exact ho
      have HEND := Lib.hid hend
      clear hend
      rcases (show d = 4 ∨ d = 5 ∨ d = 6 by omega) with rfl | rfl | rfl
      · rcases (show k = 0 ∨ k = 1 ∨ k = 2 ∨ k = 3 by omega) with rfl | rfl | rfl | rfl
        all_goals
          simp only [Nat.reduceSub, Nat.reduceAdd, Nat.reducePow, Int.natCast_ediv, Int.cast_ofNat_Int, Int.ediv_one] at hand
          go_wp2_with (at_builtin; refine append_lit rfl _ _ 22 rfl base 5 i0 (.int .u8 0) 1 1 Tryd.underlying22 hi hz0 hz1 hz2 rfl (by decide) _ _ _ rfl HRV.out [.int .u8 X] rfl (by simp [Value.oneCell']) rfl h63 h47 hbw ?_; intro v' w2 hown' hg')
          have R := HEND.out v' w2 hown' hg'
          clear hown' hg'
          go_wp2
          go_roundw
          case rel => exact ⟨_, _, _, _, _, _, _, _, _, _, _, _, _, _, _, _, _, _, R, rfl⟩
          case measure => simp [intOf]
      · rcases (show k = 0 ∨ k = 1 ∨ k = 2 ∨ k = 3 ∨ k = 4 by omega) with rfl | rfl | rfl | rfl | rfl
        all_goals
          simp only [Nat.reduceSub, Nat.reduceAdd, Nat.reducePow, Int.natCast_ediv, Int.cast_ofNat_Int, Int.ediv_one] at hand
          go_wp2_with (at_builtin; refine append_lit rfl _ _ 22 rfl base 5 i0 (.int .u8 0) 1 1 Tryd.underlying22 hi hz0 hz1 hz2 rfl (by decide) _ _ _ rfl HRV.out [.int .u8 X] rfl (by simp [Value.oneCell']) rfl h63 h47 hbw ?_; intro v' w2 hown' hg')
          have R := HEND.out v' w2 hown' hg'
          clear hown' hg'
          go_wp2
          go_roundw
          case rel => exact ⟨_, _, _, _, _, _, _, _, _, _, _, _, _, _, _, _, _, _, R, rfl⟩
          case measure => simp [intOf]
      · rcases (show k = 0 ∨ k = 1 ∨ k = 2 ∨ k = 3 ∨ k = 4 ∨ k = 5 by omega) with rfl | rfl | rfl | rfl | rfl | rfl
        all_goals
          simp only [Nat.reduceSub, Nat.reduceAdd, Nat.reducePow, Int.natCast_ediv, Int.cast_ofNat_Int, Int.ediv_one] at hand
          go_wp2_with (at_builtin; refine append_lit rfl _ _ 22 rfl base 5 i0 (.int .u8 0) 1 1 Tryd.underlying22 hi hz0 hz1 hz2 rfl (by decide) _ _ _ rfl HRV.out [.int .u8 X] rfl (by simp [Value.oneCell']) rfl h63 h47 hbw ?_; intro v' w2 hown' hg')
          have R := HEND.out v' w2 hown' hg'
          clear hown' hg'
          go_wp2
          go_roundw
          case rel => exact ⟨_, _, _, _, _, _, _, _, _, _, _, _, _, _, _, _, _, _, R, rfl⟩
          case measure => simp [intOf]
    · have hke : k = d := by omega
      subst hke
      rw [Nat.sub_self, Nat.pow_zero, Nat.div_one, hfin.out] at hown
      go_wp2
      go_ret
      exact ⟨_, rfl, hown, hg⟩
end Go.Proofs.YtlknffldlnhfdaaDoor
