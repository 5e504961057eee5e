/- Going through a table's spans, knowing which comes next. -/
import Derived.Test.YtdbnegllncjhkaaGreatDoorIter
import Derived.Test.YtdbnegllncjhkaaGreatDoorNxt
namespace Go.Proofs.YtdbnegllncjhkaaGreatDoor
open Go.RowKit Go.Shelf
attribute [local go_sem] Oper.semAt_some

set_option maxRecDepth 100000 in
set_option maxHeartbeats 4000000 in
theorem iter55n (m l b n c N0 : Nat) (P0 : Option Addr) (ls : List Sp) (A : Nat → Prop) (hm : 1 ≤ m) (hn : n ≤ 100000) (J Jx : List Sp → World → Prop) (hJb : ∀ s W W', J s W → Below W.heap.size W W' → J s W')
    (hY : ∀ pre x W, J pre W → x ∈ ls ∧ N0 ≤ W.heap.size → (pre ++ [x] <+: ls ∧ pre.length < 100001) → YieldAt Fence.wide (m - 1) Tryz.prog l (spArr x) W fun e W' =>
      ((e = .returned (.bool true) ∧ J (pre ++ [x]) W') ∨ (e = .returned (.bool false) ∧ Jx (pre ++ [x]) W')) ∧ Kept A W W')
    (W : World) (hBs : W.cell? ⟨b, 0, none⟩ = some (.slice P0 n c)) (hS : SAt W P0 n ls) (hP : 0 < n → ∀ a, P0 = some a → A a.block) (hN0 : N0 ≤ W.heap.size) (h0 : J [] W) :
    CallsIn Fence.wide m Tryz.prog 82 #[.func (.yield l) #[] #[], .pointer (some ⟨b, 0, none⟩)] W fun e W' => (∃ v, e = .returned v) ∧
      ((∃ ys, ys = ls ∧ J ys W') ∨ (∃ pre, pre <+: ls ∧ Jx pre W')) := by
  refine callsIn_of_wp Tryz.func82 rfl trivial ?_ rfl
  simp only [Tryz.ntmps82, List.size_toArray, List.length_cons, List.length_nil, Nat.reduceAdd, Nat.reduceSub, Array.replicate_succ, Array.replicate_zero, List.push_toArray, List.append_toArray, List.nil_append, List.cons_append]
  have HYY := Lib.hid hY
  have HJB := Lib.hid hJb
  have HL := Lib.hid hS.1
  have HP := Lib.hid hP
  have H0 : Hid (VRel ls P0 n N0 J (.int .i64 (0 : Nat)) W) := Lib.hid ⟨0, rfl, Nat.zero_le _, by rw [List.take_zero]; exact h0, hS, hN0⟩
  clear hY hJb hS h0 hP hN0
  gi_wp2
  gi_loopw [7] (fun i wr => VRel ls P0 n N0 J i wr) (fun i _ => n - (intOf i).toNat)
  case atStart => exact H0.out
  case round =>
    clear hBs H0
    obtain ⟨k, rfl, hkn, hJr, hSr, hNr⟩ := hrel
    by_cases hlt : k < n
    · obtain ⟨b2, off, rfl, hb2, hc⟩ := hSr.2 (by omega)
      obtain ⟨s, hs⟩ := getSp (ls := ls) (k := k) (by rw [HL.out]; exact hlt)
      obtain ⟨h1, h2, h3⟩ := hc k s hs
      have hlen : (ls.take k).length < 100001 := by rw [List.length_take, HL.out]; omega
      have hY2 := fun o => HYY.out (ls.take k) s (wr.alloc o) (HJB.out _ _ _ hJr ((Below.refl _ _).alloc (Nat.le_refl _) _)) ⟨List.mem_of_getElem? hs, by rw [World.size_alloc]; omega⟩ ⟨by rw [← take_snoc' hs]; exact pre_take, hlen⟩
      unfold spArr spV at hY2
      have hend : ∀ o W3, Kept A (wr.alloc o) W3 → J (ls.take k ++ [s]) W3 → VRel ls (some ⟨b2, off, none⟩) n N0 J (.int .i64 ((k : Int) + 1)) W3 := by
        intro o W3 hk hj
        refine ⟨k + 1, by go_num, by omega, by rw [take_snoc' hs]; exact hj, (hSr.below ((Below.refl _ _).alloc (Nat.le_refl _) o)).kept hk HP.out, by have := hk.1; rw [World.size_alloc] at this; omega⟩
      have HST : Hid (ls.take k ++ [s] <+: ls) := Lib.hid (by rw [← take_snoc' hs]; exact pre_take)
      have HE := Lib.hid hend
      have HY2 := Lib.hid hY2
      obtain ⟨T, hT⟩ : ∃ T, bs s.v = T := ⟨_, rfl⟩
      rw [hT] at h3 HY2
      clear hend hY2 hc hs hJr hSr hNr hT hlen
      obtain ⟨fn, tmps, assign, body, hy, hR⟩ := HY2.out (.cells #[.int .i64 s.a, .int .i64 s.b, .string T] 59)
      gi_wp2
      refine hR.mono ?_
      rintro e W3 ⟨⟨rfl, hJ3⟩ | ⟨rfl, hJx3⟩, hk3⟩
      · have R := Lib.hid (HE.out _ W3 hk3 hJ3)
        clear HE
        gi_wp2
        go_roundw
        case rel => exact R.out
        case measure => simp [intOf]; omega
      · gi_wp2
        refine bodyPost_ret (results_none rfl _ _ _) rfl ?_
        exact ⟨⟨_, rfl⟩, .inr ⟨_, HST.out, hJx3⟩⟩
    · have hke : k = n := by omega
      subst hke
      rw [List.take_of_length_le (by rw [HL.out]; exact Nat.le_refl _)] at hJr
      have HJ3 := Lib.hid hJr
      clear hJr hSr
      gi_wp2
      go_end0
      exact ⟨⟨_, rfl⟩, .inl ⟨_, rfl, HJ3.out⟩⟩
theorem seq55n (m b n c : Nat) (P0 : Option Addr) (ls : List Sp) (A : Nat → Prop) (w : World) (hm : 1 ≤ m) (hn : n ≤ 100000) (hb : b < w.heap.size) (hBs : w.cell? ⟨b, 0, none⟩ = some (.slice P0 n c)) (hS : SAt w P0 n ls)
    (hP : 0 < n → ∀ a, P0 = some a → A a.block ∧ a.block < w.heap.size) :
    SeqNx Fence.wide m Tryz.prog 82 #[.pointer (some ⟨b, 0, none⟩)] spArr (fun x W => x ∈ ls ∧ w.heap.size + 2 ≤ W.heap.size) A 0 0 (fun ys => ys = ls) (fun pre => pre <+: ls) (fun pre x => pre ++ [x] <+: ls ∧ pre.length < 100001) w :=
  fun l J Jx W hW hsz hJ _ hY h0 =>
    iter55n m l b n c (w.heap.size + 2) P0 ls _ hm hn J Jx (fun _ _ _ h hb => hJ.below h hb) (fun pre x W1 hj hx hl => hY pre x W1 hj hx hl) W ((hW.cell (p := ⟨b, 0, none⟩) hb).trans hBs) (hS.below hW)
      (fun h a e => ⟨(hP h a e).1, by have := (hP h a e).2; omega, by have := (hP h a e).2; omega⟩) (by omega) h0

end Go.Proofs.YtdbnegllncjhkaaGreatDoor
