/- The function value that Points hands back: it calls whoever goes through with each scalar and its place, up to where none stands, or till they leave off. -/
import Derived.RangeFuncNested
import Derived.RangeFuncBound
import Derived.RangeFuncCalls
import Derived.RangeFuncLeaves
import Derived.Shelf.Abstract
import Derived.Shelf.RegionOpen
import Derived.WalkKit
import Derived.OwnWalkIn
import Derived.TacticsInMore
import Derived.LoopNIn
import Derived.LoopIn
import Derived.Test.YtijokbgpbpfclaaDoorPts
namespace Go.Proofs.YtijokbgpbpfclaaDoor
open Go.RowKit Go.Shelf
attribute [local go_sem] Oper.semAt_some

/-- Scalars with their places, the first at k. -/
def pts : Nat → List Int → List (Int × Int)
  | _, [] => []
  | k, c :: s => ((k : Int), c) :: pts (k + (oct c).length) s
theorem pts_snoc : ∀ (k : Nat) (s : List Int) (c : Int), pts k (s ++ [c]) = pts k s ++ [(((k + (encs s).length : Nat) : Int), c)]
  | k, [], c => by simp [pts, encs]
  | k, d :: s, c => by
    rw [List.cons_append, pts, pts_snoc, pts, List.cons_append, encs_cons, List.length_append, Nat.add_assoc]
theorem pts_length : ∀ (k : Nat) (s : List Int), (pts k s).length = s.length
  | _, [] => rfl
  | k, c :: s => by simp [pts, pts_length]

theorem pts_append : ∀ (k : Nat) (s r : List Int), pts k (s ++ r) = pts k s ++ pts (k + (encs s).length) r
  | k, [], r => by simp [pts, encs]
  | k, d :: s, r => by
    rw [List.cons_append, pts, pts_append, pts, List.cons_append, encs_cons, List.length_append, Nat.add_assoc]
theorem part_pre {bs t s : List Int} {k k0 : Nat} (ho : Octs bs) (hp : Part bs t k) (hs : Stop bs s k0) : t <+: s := by
  obtain ⟨r, j, hr⟩ := stop_exists _ (bs.drop k) (Nat.le_refl _) (octs_drop ho k)
  have h : Stop bs (t ++ r) (k + j) := by
    refine ⟨?_, by rw [encs_append, List.length_append, ← hp.2.1, ← hr.2.1], ?_, by rw [← List.drop_drop]; exact hr.2.2.2⟩
    · intro c hc
      rcases List.mem_append.1 hc with h | h
      · exact hp.1 c h
      · exact hr.1 c h
    · rw [encs_append, List.append_assoc, ← List.drop_drop, ← hr.2.2.1]
      exact hp.2.2
  obtain ⟨e, _⟩ := h.unique hs
  exact ⟨r, e⟩
theorem pts_pre {t s : List Int} (h : t <+: s) : pts 0 t <+: pts 0 s := by
  obtain ⟨r, rfl⟩ := h
  rw [pts_append]
  exact List.prefix_append _ _

theorem grown_of_below {w w' : World} (h : Below w.heap.size w w') : w.grownBy w' none := ⟨h.os, h.tape, h.output, h.size, fun k hk _ => h.block k hk⟩

set_option maxRecDepth 100000 in
set_option maxHeartbeats 4000000 in
theorem iter28 (m l B n₀ n ca : Nat) (A : Option Addr) (bs s : List Int) (k0 : Nat) (hm : 1 ≤ m) (hn : n ≤ 1000000) (hca : n ≤ ca) (ho : Octs bs) (hst : Stop bs s k0) (J Jx : List (Int × Int) → World → Prop)
    (hY : ∀ pre x W, J pre W → pre.length < 1000001 → YieldAt Fence.wide (m - 1) Tryd.prog l #[.int .i64 x.1, .int .i64 x.2] W fun e W' =>
      (e = .returned (.bool true) ∧ J (pre ++ [x]) W' ∧ Below n₀ W W') ∨ (e = .returned (.bool false) ∧ Jx (pre ++ [x]) W'))
    (W : World) (hJ : AbidesFrom W.heap.size J) (hB : B < n₀) (hn₀ : n₀ ≤ W.heap.size) (hBs : W.cell? ⟨B, 0, none⟩ = some (.slice A n ca)) (hN : ∀ W', Below n₀ W W' → Nums .u8 W' A n bs) (hT : ∀ W', Below n₀ W W' → Lib.Utf8Tabs 0 1 W') (h0 : J [] W) :
    CallsIn Fence.wide m Tryd.prog 28 #[.func (.yield l) #[] #[], .pointer (some ⟨B, 0, none⟩)] W fun e W' => (∃ v, e = .returned v) ∧
      ((∃ ys, ys = pts 0 s ∧ J ys W') ∨ (∃ pre, pre <+: pts 0 s ∧ Jx pre W')) := by
  refine callsIn_of_wp Tryd.func28 rfl trivial ?_ rfl
  simp only [Tryd.ntmps28, List.size_toArray, List.length_cons, List.length_nil, Nat.reduceAdd, Nat.reduceSub, Array.replicate_succ, Array.replicate_zero, List.push_toArray, List.append_toArray, List.nil_append, List.cons_append]
  gi_wp2
  gi_loopw [3] (fun i wr => ∃ (t : List Int) (k : Nat), i = .int .i64 k ∧ Part bs t k ∧ J (pts 0 t) wr ∧ Below n₀ W wr) (fun i _ => n - (intOf i).toNat)
  case atStart => exact ⟨[], 0, rfl, Part.zero bs, h0, Below.refl _ _⟩
  case round =>
    obtain ⟨t, k, rfl, hp, hJs, hnx⟩ := hrel
    have hNr := hN wr hnx
    have hTr := hT wr hnx
    have hcell : wr.cell? ⟨B, 0, none⟩ = some (.slice A n ca) := (hnx.cell (p := ⟨B, 0, none⟩) hB).trans hBs
    have hlen := hNr.1
    have hkn : k ≤ n := by have := hp.le; omega
    have hfew := hp.few
    by_cases hlt : k < n
    · obtain ⟨b, off, rfl, hbl, hc⟩ := hNr.2 (by omega)
      have hk2 : ¬ ca = k := by omega
      cases hf : fst (bs.drop k) with
      | some c =>
        have hcall := callsIn_wide (n := m - 1) |>.2 (call_some (cap := ca - k) hTr ho hlen hc hf)
        have hpos := (oct_length c).1
        have hst2 := hp.step ho hf
        have hle := hst2.le
        have hlen4 := (oct_length c).2
        rw [hlen] at hle
        have hpt : pts 0 (t ++ [c]) = pts 0 t ++ [((k : Int), c)] := by rw [pts_snoc, Nat.zero_add, ← hp.2.1]
        have hY2 := fun w1 (hb1 : Below wr.heap.size wr w1) => hY (pts 0 t) ((k : Int), c) w1 (hJ _ _ _ none hJs (grown_of_below hb1) (fun r e => by cases e)) (by rw [pts_length]; omega)
        obtain ⟨L, hL⟩ : ∃ L, (oct c).length = L := ⟨_, rfl⟩
        rw [hL] at hcall hpos hle hlen4 hst2
        have hz : ((L : Int) == 0) = false := beq_false_of_ne (by omega)
        have HY2 := Lib.hid hY2
        have HPT := Lib.hid hpt
        have HP2 := Lib.hid hst2
        have HO := Lib.hid ho
        have HST := Lib.hid hst
        have HJ := Lib.hid hJ
        have HN' := Lib.hid hN
        have HT' := Lib.hid hT
        have HYY := Lib.hid hY
        clear hY2 hpt hst2 hf hc hNr hTr hL hp hJs ho hst hJ hN hT hY hlen
        gi_wp2_with (refine ⟨trivial, ?_⟩; gi_at_call 25; (with_reducible refine hcall.mono ?_); rintro e w1 ⟨rfl, hb1⟩; obtain ⟨fn, tmps, assign, body, hy, hR⟩ := HY2.out w1 hb1; dsimp only at hy)
        refine hR.mono ?_
        rintro e W3 (⟨rfl, hJ3, hk3⟩ | ⟨rfl, hJx3⟩)
        · gi_wp2
          go_roundw
          case rel => exact ⟨t ++ [c], k + L, by go_num, HP2.out, by rw [HPT.out]; exact hJ3, hnx.trans ((hb1.mono (Nat.le_trans hn₀ hnx.size)).trans hk3)⟩
          case measure => simp [intOf]; omega
        · gi_wp2
          refine bodyPost_ret (results_none rfl _ _ _) rfl ?_
          exact ⟨⟨_, rfl⟩, .inr ⟨_, by rw [← HPT.out]; exact pts_pre (part_pre HO.out HP2.out HST.out), hJx3⟩⟩
      | none =>
        have hcall := callsIn_wide (n := m - 1) |>.2 (call_none (cap := ca - k) hTr ho hlen hc hf)
        obtain ⟨e1, -⟩ := (hp.stop hf).unique hst
        have hJ2 := fun w1 (hb1 : Below wr.heap.size wr w1) => hJ _ _ _ none hJs (grown_of_below hb1) (fun r e => by cases e)
        have E1 := Lib.hid e1
        have HJ2 := Lib.hid hJ2
        have HJ := Lib.hid hJ
        have HN' := Lib.hid hN
        have HT' := Lib.hid hT
        have HYY := Lib.hid hY
        clear e1 hJ2 hf hc hNr hTr hp hJs ho hst hJ hN hT hY hlen
        gi_wp2_with (refine ⟨trivial, ?_⟩; gi_at_call 25; (with_reducible refine hcall.mono ?_); rintro e w1 ⟨rfl, hb1⟩)
        refine ⟨fun _ h => (by cases h), ?_⟩
        gi_wp2
        refine bodyPost_ret (results_none rfl _ _ _) rfl ?_
        exact ⟨⟨_, rfl⟩, .inl ⟨_, by rw [← E1.out], HJ2.out w1 hb1⟩⟩
    · have hk : k = n := by omega
      obtain ⟨e1, -⟩ := (hp.whole (by omega)).unique hst
      have E1 := Lib.hid e1
      have HJS := Lib.hid hJs
      clear e1 hNr hTr hp hJs ho hst hJ hN hT hY hlen
      gi_wp2
      go_end0
      exact ⟨⟨_, rfl⟩, .inl ⟨_, by rw [← E1.out], HJS.out⟩⟩
end Go.Proofs.YtijokbgpbpfclaaDoor
