/- What the document's own Hex and Point hand back. -/
import Derived.Test.YtkcpnnfbhcklpaaGreatDoorPoint
import Derived.Test.YtkcpnnfbhcklpaaGreatDoorBody
namespace Go.Proofs.YtkcpnnfbhcklpaaGreatDoor
open Go.RowKit

def HexRel (c : Nat) (w : World) (s n : Value) (wr : World) : Prop :=
  Below w.heap.size w wr ∧ ∃ j v : Nat, j ≤ 6 ∧ v = c / 16 ^ j ∧ n = .int .i64 v ∧ s = .string (bs (dn j c)) ∧ (4 < j → 0 < c / 16 ^ (j - 1))
theorem dch_small : ∀ d : Fin 16, ((dch d.val).toNat : Int) = if d.val < 10 then 48 + (d.val : Int) else 55 + (d.val : Int) := by decide
theorem hex_stop {c j : Nat} (hc : c ≤ 1114111) (hj : j ≤ 6) (h4 : 4 ≤ j) (h0 : c / 16 ^ j = 0) (hp : 4 < j → 0 < c / 16 ^ (j - 1)) : dn j c = hexT c := by
  have e : j = wid c := by
    unfold wid
    rcases (show j = 4 ∨ j = 5 ∨ j = 6 by omega) with rfl | rfl | rfl
    · simp at h0
      have : c < 65536 := by omega
      rw [if_neg (by omega), if_neg (by omega)]
    · have h1 := hp (by omega)
      simp at h0 h1
      rw [if_neg (by omega), if_pos (by omega)]
    · have h1 := hp (by omega)
      simp at h1
      rw [if_pos (by omega)]
  unfold hexT
  rw [← e]
theorem hex_step {c j v : Nat} {w w' : World} (hb : Below w.heap.size w w') (hj : j ≤ 6) (hc : c ≤ 1114111) (hv : v = c / 16 ^ j) (hgo : 0 < v ∨ j < 4) :
    HexRel c w (.string (bs [dch (v % 16)] ++ bs (dn j c))) (.int .i64 ((v : Int) / 16)) w' := by
  have hj5 : j ≤ 5 := by
    rcases hgo with h | h
    · rcases Nat.lt_or_ge j 6 with h' | h'
      · omega
      · exfalso
        have e : j = 6 := by omega
        subst e
        simp at hv
        omega
    · omega
  refine ⟨hb, j + 1, v / 16, by omega, ?_, val_int (by omega), ?_, ?_⟩
  · rw [hv, Nat.div_div_eq_div_mul, ← Nat.pow_succ]
  · rw [bs_app, dn_cons, hv]
    rfl
  · intro h4
    rw [Nat.add_sub_cancel]
    rcases hgo with h | h
    · omega
    · omega

theorem one_conv (wr : World) (d : UInt8) (x : Int) (hx : (d.toNat : Int) = x) : (convert 22 9 (.slice (some ⟨wr.heap.size, 0, none⟩) 1 1)).run Tryz.prog (wr.alloc (.cells #[.int .u8 x] 5)) = .ok (.string (bs [d])) (wr.alloc (.cells #[.int .u8 x] 5)) := by
  refine conv22 1 (l := [d]) (octs_of rfl (fun _ => by simp) (fun j hj => ?_))
  obtain rfl : j = 0 := by omega
  subst hx
  simp [ints]

set_option maxRecDepth 100000 in
set_option maxHeartbeats 1000000 in
theorem hex29 (c : Nat) (w : World) (hc : c ≤ 1114111) : Calls Tryz.prog 38 #[.int .i64 c] w fun e w' => e = .returned (.string (bs (hexT c))) ∧ Below w.heap.size w w' := by
  go_enter Tryz.func38, Tryz.ntmps38
  go_wp2
  go_loopw [3, 4] (fun s n wr => HexRel c w s n wr) (fun s _ _ => 7 - Lib.strSize s)
  case atStart => exact ⟨Below.refl _ _, 0, c, by omega, by simp, rfl, rfl, fun h => absurd h (by omega)⟩
  case round =>
    obtain ⟨hb, j, v, hj, hv, rfl, rfl, hp⟩ := hrel
    have hsz : (bs (dn j c)).size = j := by rw [bs_size, dn_length]
    have hst : Lib.strSize (.string (bs (dn j c))) = j := by rw [Lib.strSize_string, hsz]
    have hvc : v ≤ 1114111 := by rw [hv]; exact Nat.le_trans (Nat.div_le_self _ _) hc
    by_cases hgo : 0 < v ∨ j < 4
    · have hd : v % 16 < 16 := by omega
      have hch := dch_small ⟨v % 16, hd⟩
      simp only at hch
      have hstep := fun (o : Obj) => @hex_step c j v w (wr.alloc o) (hb.alloc hb.size o) hj hc hv hgo
      have hs1 : (bs [dch (v % 16)]).size = 1 := by rw [bs_size]; rfl
      have hszc : Lib.strSize (.string (bs [dch (v % 16)] ++ bs (dn j c))) = j + 1 := by rw [Lib.strSize_string, bs_app, bs_size]; simp [dn_length]
      have hk := fun x (h : ((dch (v % 16)).toNat : Int) = x) => one_conv wr (dch (v % 16)) x h
      have hj6 : j < 7 := by omega
      obtain ⟨S, hS⟩ : ∃ S, bs (dn j c) = S := ⟨_, rfl⟩
      obtain ⟨T, hT⟩ : ∃ T, bs [dch (v % 16)] = T := ⟨_, rfl⟩
      rw [hS] at hsz hst hszc ⊢
      rw [hT] at hs1 hszc
      simp only [hS, hT] at hstep
      simp only [hT] at hk
      have HST := Lib.hid hstep
      clear hstep hS hT hv hp
      by_cases h10 : v % 16 < 10
      · rw [if_pos h10] at hch
        have hk1 := hk (48 + (v : Int) % 16) (by rw [hch]; omega)
        clear hk hch
        rcases hgo with hgo | hgo
        · go_wp2
          go_roundw
          case rel => exact HST.out _
          case measure => rw [hszc, hst]; omega
        · by_cases h0 : 0 < v
          · go_wp2
            go_roundw
            case rel => exact HST.out _
            case measure => rw [hszc, hst]; omega
          · go_wp2
            go_roundw
            case rel => exact HST.out _
            case measure => rw [hszc, hst]; omega
      · rw [if_neg h10] at hch
        have hk1 := hk (55 + (v : Int) % 16) (by rw [hch]; omega)
        clear hk hch
        have h0 : 0 < v := by omega
        go_wp2
        go_roundw
        case rel => exact HST.out _
        case measure => rw [hszc, hst]; omega
    · have hv0 : v = 0 := by omega
      have hj4 : 4 ≤ j := by omega
      have hres : Hid (bs (dn j c) = bs (hexT c)) := by
        rw [hex_stop hc hj hj4 (by rw [← hv]; exact hv0) hp]
        exact Lib.hid rfl
      subst hv0
      obtain ⟨S, hS⟩ : ∃ S, bs (dn j c) = S := ⟨_, rfl⟩
      rw [hS] at hsz hres ⊢
      clear hp hv hst hS
      go_wp2
      go_ret
      exact ⟨ret_str hres.out, hb⟩
end Go.Proofs.YtkcpnnfbhcklpaaGreatDoor
