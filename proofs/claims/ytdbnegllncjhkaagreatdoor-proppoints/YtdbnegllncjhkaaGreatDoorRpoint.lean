/- What the document's own Hex and Point hand back. -/
/- What the document's own Point hands back. -/
import Derived.Test.YtdbnegllncjhkaaGreatDoorPoint
import Derived.Test.YtdbnegllncjhkaaGreatDoorBodies
import Derived.Test.YtdbnegllncjhkaaGreatDoorSame
namespace Go.Proofs.YtdbnegllncjhkaaGreatDoor
open Go.RowKit

def HexRel (c : Nat) (w : World) (s n : Value) (wr : World) : Prop :=
  Below w.heap.size w wr ∧ ∃ j v : Nat, j ≤ 6 ∧ v = c / 16 ^ j ∧ n = .int .i64 v ∧ s = .string (bs (dn j c)) ∧ (4 < j → 0 < c / 16 ^ (j - 1))
theorem dch_small : ∀ d : Fin 16, ((dch d.val).toNat : Int) = if d.val < 10 then 48 + (d.val : Int) else 55 + (d.val : Int) := by decide
theorem hex_stop {c j : Nat} (hc : c ≤ 1114111) (hj : j ≤ 6) (h4 : 4 ≤ j) (h0 : c / 16 ^ j = 0) (hp : 4 < j → 0 < c / 16 ^ (j - 1)) : dn j c = hexT c := by
  have e : j = wid c := by
    unfold wid
    rcases (show j = 4 ∨ j = 5 ∨ j = 6 by omega) with rfl | rfl | rfl
    · simp at h0
      have : c < 65536 := by omega
      rw [if_neg (by omega), if_neg (by omega)]
    · have h1 := hp (by omega)
      simp at h0 h1
      rw [if_neg (by omega), if_pos (by omega)]
    · have h1 := hp (by omega)
      simp at h1
      rw [if_pos (by omega)]
  unfold hexT
  rw [← e]
theorem hex_step {c j v : Nat} {w w' : World} (hb : Below w.heap.size w w') (hj : j ≤ 6) (hc : c ≤ 1114111) (hv : v = c / 16 ^ j) (hgo : 0 < v ∨ j < 4) :
    HexRel c w (.string (bs [dch (v % 16)] ++ bs (dn j c))) (.int .i64 ((v : Int) / 16)) w' := by
  have hj5 : j ≤ 5 := by
    rcases hgo with h | h
    · rcases Nat.lt_or_ge j 6 with h' | h'
      · omega
      · exfalso
        have e : j = 6 := by omega
        subst e
        simp at hv
        omega
    · omega
  refine ⟨hb, j + 1, v / 16, by omega, ?_, val_int (by omega), ?_, ?_⟩
  · rw [hv, Nat.div_div_eq_div_mul, ← Nat.pow_succ]
  · rw [bs_app, dn_cons, hv]
    rfl
  · intro h4
    rw [Nat.add_sub_cancel]
    rcases hgo with h | h
    · omega
    · omega

theorem one_conv (wr : World) (d : UInt8) (x : Int) (hx : (d.toNat : Int) = x) : (convert 22 9 (.slice (some ⟨wr.heap.size, 0, none⟩) 1 1)).run Tryz.prog (wr.alloc (.cells #[.int .u8 x] 5)) = .ok (.string (bs [d])) (wr.alloc (.cells #[.int .u8 x] 5)) := by
  refine conv22 1 (l := [d]) (octs_of rfl (fun _ => by simp) (fun j hj => ?_))
  obtain rfl : j = 0 := by omega
  subst hx
  simp [ints]

set_option maxRecDepth 100000 in
set_option maxHeartbeats 1000000 in
theorem hex29 (c : Nat) (w : World) (hc : c ≤ 1114111) : Calls Tryz.prog 81 #[.int .i64 c] w fun e w' => e = .returned (.string (bs (hexT c))) ∧ Below w.heap.size w w' := by
  go_enter Tryz.func81, Tryz.ntmps81
  go_wp2
  go_loopw [3, 4] (fun s n wr => HexRel c w s n wr) (fun s _ _ => 7 - Lib.strSize s)
  case atStart => exact ⟨Below.refl _ _, 0, c, by omega, by simp, rfl, rfl, fun h => absurd h (by omega)⟩
  case round =>
    obtain ⟨hb, j, v, hj, hv, rfl, rfl, hp⟩ := hrel
    have hsz : (bs (dn j c)).size = j := by rw [bs_size, dn_length]
    have hst : Lib.strSize (.string (bs (dn j c))) = j := by rw [Lib.strSize_string, hsz]
    have hvc : v ≤ 1114111 := by rw [hv]; exact Nat.le_trans (Nat.div_le_self _ _) hc
    by_cases hgo : 0 < v ∨ j < 4
    · have hd : v % 16 < 16 := by omega
      have hch := dch_small ⟨v % 16, hd⟩
      simp only at hch
      have hstep := fun (o : Obj) => @hex_step c j v w (wr.alloc o) (hb.alloc hb.size o) hj hc hv hgo
      have hs1 : (bs [dch (v % 16)]).size = 1 := by rw [bs_size]; rfl
      have hszc : Lib.strSize (.string (bs [dch (v % 16)] ++ bs (dn j c))) = j + 1 := by rw [Lib.strSize_string, bs_app, bs_size]; simp [dn_length]
      have hk := fun x (h : ((dch (v % 16)).toNat : Int) = x) => one_conv wr (dch (v % 16)) x h
      have hj6 : j < 7 := by omega
      obtain ⟨S, hS⟩ : ∃ S, bs (dn j c) = S := ⟨_, rfl⟩
      obtain ⟨T, hT⟩ : ∃ T, bs [dch (v % 16)] = T := ⟨_, rfl⟩
      rw [hS] at hsz hst hszc ⊢
      rw [hT] at hs1 hszc
      simp only [hS, hT] at hstep
      simp only [hT] at hk
      have HST := Lib.hid hstep
      clear hstep hS hT hv hp
      by_cases h10 : v % 16 < 10
      · rw [if_pos h10] at hch
        have hk1 := hk (48 + (v : Int) % 16) (by rw [hch]; omega)
        clear hk hch
        rcases hgo with hgo | hgo
        · go_wp2
          go_roundw
          case rel => exact HST.out _
          case measure => rw [hszc, hst]; omega
        · by_cases h0 : 0 < v
          · go_wp2
            go_roundw
            case rel => exact HST.out _
            case measure => rw [hszc, hst]; omega
          · go_wp2
            go_roundw
            case rel => exact HST.out _
            case measure => rw [hszc, hst]; omega
      · rw [if_neg h10] at hch
        have hk1 := hk (55 + (v : Int) % 16) (by rw [hch]; omega)
        clear hk hch
        have h0 : 0 < v := by omega
        go_wp2
        go_roundw
        case rel => exact HST.out _
        case measure => rw [hszc, hst]; omega
    · have hv0 : v = 0 := by omega
      have hj4 : 4 ≤ j := by omega
      have hres : Hid (bs (dn j c) = bs (hexT c)) := by
        rw [hex_stop hc hj hj4 (by rw [← hv]; exact hv0) hp]
        exact Lib.hid rfl
      subst hv0
      obtain ⟨S, hS⟩ : ∃ S, bs (dn j c) = S := ⟨_, rfl⟩
      rw [hS] at hsz hres ⊢
      clear hp hv hst hS
      go_wp2
      go_ret
      exact ⟨ret_str hres.out, hb⟩
end Go.Proofs.YtdbnegllncjhkaaGreatDoor

namespace Go.Proofs.YtdbnegllncjhkaaGreatDoor
open Go.RowKit

/-- A code point, or -1. -/
def ptI : Option Nat → Int
  | some c => c
  | none => -1
theorem point_out {l : List UInt8} (h : l.length < 4 ∨ 6 < l.length) : point l = none := by
  unfold point
  cases hexv 0 l with
  | none => rfl
  | some c =>
    have := wid_range c
    rw [Option.bind_some, if_neg (by omega)]
theorem point_big {l : List UInt8} {a : Nat} (h : hexv 0 l = some a) (hb : 1114111 < a) : point l = none := by
  unfold point
  rw [h, Option.bind_some, if_neg (by omega)]
theorem point_yes {l : List UInt8} {a : Nat} (hb : ¬ 1114111 < a) (he : hexT a = l) : point l = some a := by
  have := point_hexT a (by omega)
  rwa [he] at this
theorem point_no {l : List UInt8} {a : Nat} (h : hexv 0 l = some a) (he : ¬ hexT a = l) : point l = none := by
  unfold point
  rw [h, Option.bind_some, if_neg ?_]
  rintro ⟨_, _, h2⟩
  exact he ((hexT_iff h).2 h2)

set_option maxRecDepth 100000 in
set_option maxHeartbeats 1000000 in
theorem point12 (l : List UInt8) (w : World) (hl : l.length ≤ 1000000) : Calls Tryz.prog 54 #[.string (bs l)] w fun e w' => e = .returned (.int .i64 (ptI (point l))) ∧ Below w.heap.size w w' := by
  have hsz := bs_size l
  obtain ⟨n, hn⟩ : ∃ n, l.length = n := ⟨_, rfl⟩
  rw [hn] at hl hsz
  have HN := Lib.hid hn
  clear hn
  by_cases hout : n < 4 ∨ 6 < n
  · rw [point_out (by rw [HN.out]; exact hout)]
    rcases hout with h | h
    · go_enter Tryz.func54, Tryz.ntmps54
      go_wp2
      go_ret
      exact ⟨rfl, Below.refl _ _⟩
    · have h4 : ¬ n < 4 := by omega
      go_enter Tryz.func54, Tryz.ntmps54
      go_wp2
      go_ret
      exact ⟨rfl, Below.refl _ _⟩
  · have h4 : 4 ≤ n := by omega
    have h6 : n ≤ 6 := by omega
    clear hout hl
    go_enter Tryz.func54, Tryz.ntmps54
    go_wp2
    go_loop [3, 4] (fun c i => ∃ (k a : Nat), c = .int .i64 a ∧ i = .int .i64 k ∧ k ≤ n ∧ a < 16 ^ k ∧ hexv 0 l = hexv a (l.drop k)) (fun _ i => n - (intOf i).toNat)
    case atStart => exact ⟨0, 0, rfl, rfl, Nat.zero_le _, by decide, rfl⟩
    case round =>
      obtain ⟨k, a, rfl, rfl, hkn, ha, hv⟩ := hrel
      have ha6 : a < 16777216 := Nat.lt_of_lt_of_le ha (by have : (16 : Nat) ^ k ≤ 16 ^ 6 := Nat.pow_le_pow_right (by decide) (by omega); exact this)
      by_cases hlt : k < n
      · have hlt' : k < l.length := by rw [HN.out]; exact hlt
        have hx := bs_oct l k
        have hxr := oct_range l k
        rw [hexv_drop hlt'] at hv
        have hval : val (l.getD k 0) = (if 48 ≤ oct l k ∧ oct l k ≤ 57 then oct l k - 48 else if 65 ≤ oct l k ∧ oct l k ≤ 70 then oct l k - 55 else -1) := by
          rw [val_eq]
          unfold oct
          split <;> split <;> (try split) <;> (try split) <;> omega
        rw [hval] at hv
        obtain ⟨X, hX⟩ : ∃ X, oct l k = X := ⟨_, rfl⟩
        rw [hX] at hx hv hxr
        clear hX hval hlt'
        obtain ⟨hx0, hx1⟩ := hxr
        by_cases g1 : 48 ≤ X ∧ X ≤ 57
        · rw [if_pos g1, if_neg (by omega)] at hv
          obtain ⟨g1, g2⟩ := g1
          have HV := Lib.hid hv
          have HA := Lib.hid ha
          clear hv ha
          go_wp2
          go_round
          case rel =>
            refine ⟨k + 1, a * 16 + (X - 48).toNat, val_int (by omega), by go_num, by omega, ?_, HV.out⟩
            have := HA.out
            rw [Nat.pow_succ]
            omega
          case measure => simp [intOf]; omega
        · rw [if_neg g1] at hv
          by_cases g3 : 65 ≤ X ∧ X ≤ 70
          · rw [if_pos g3, if_neg (by omega)] at hv
            obtain ⟨g3, g4⟩ := g3
            have g5 : ¬ X ≤ 57 := by omega
            have HV := Lib.hid hv
            have HA := Lib.hid ha
            clear hv ha g1
            go_wp2
            go_round
            case rel =>
              refine ⟨k + 1, a * 16 + (X - 55).toNat, val_int (by omega), by go_num, by omega, ?_, HV.out⟩
              have := HA.out
              rw [Nat.pow_succ]
              omega
            case measure => simp [intOf]; omega
          · rw [if_neg g3, if_pos (by omega)] at hv
            have hp0 : point l = none := by
              unfold point
              rw [hv]
              rfl
            have HP := Lib.hid hp0
            clear hv ha hp0
            rcases (show X < 48 ∨ (57 < X ∧ X < 65) ∨ 70 < X by omega) with g | ⟨g, g'⟩ | g
            all_goals
              clear g1 g3
              go_wp2
              go_ret
              exact ⟨by rw [HP.out]; rfl, Below.refl _ _⟩
      · have hke : k = n := by omega
        subst hke
        rw [List.drop_of_length_le (by rw [HN.out]; exact Nat.le_refl _)] at hv
        clear ha
        by_cases hbig : 1114111 < a
        · have HP := Lib.hid (point_big hv hbig)
          clear hv
          go_wp2
          go_ret
          exact ⟨by rw [HP.out]; rfl, Below.refl _ _⟩
        · have c29 := hex29 a w (by omega)
          by_cases heq : hexT a = l
          · have HP := Lib.hid (point_yes hbig heq)
            rw [heq] at c29
            obtain ⟨S, hS⟩ : ∃ S, bs l = S := ⟨_, rfl⟩
            rw [hS] at c29 hsz ⊢
            clear hv heq hS
            go_wp2_with (go_at_call 81; (with_reducible refine c29.mono ?_); rintro e w' ⟨rfl, hb⟩)
            go_ret
            exact ⟨by rw [HP.out]; rfl, hb⟩
          · have HP := Lib.hid (point_no hv heq)
            have hne : ¬ (bs (hexT a)).toList = (bs l).toList := by rw [bs_toList', bs_toList']; exact heq
            have hneb : ((bs (hexT a)).toList == (bs l).toList) = false := beq_false_of_ne hne
            obtain ⟨S, hS⟩ : ∃ S, bs l = S := ⟨_, rfl⟩
            obtain ⟨T, hT⟩ : ∃ T, bs (hexT a) = T := ⟨_, rfl⟩
            rw [hT] at c29 hne hneb
            rw [hS] at hne hneb hsz ⊢
            clear hv heq hS hT
            go_wp2_with (go_at_call 81; (with_reducible refine c29.mono ?_); rintro e w' ⟨rfl, hb⟩)
            go_ret
            exact ⟨by rw [HP.out]; rfl, hb⟩
end Go.Proofs.YtdbnegllncjhkaaGreatDoor
