/- Going through the spans of a table, where who goes through owns what may move. -/
import Derived.Test.YtfggoegofbghhaaFree
import Derived.Test.YtfggoegofbghhaaIter
import Derived.Test.YtfggoegofbghhaaBox
namespace Go.Proofs.Ytfggoegofbghhaa
open Go.RowKit Go.Shelf
attribute [local go_sem] Oper.semAt_some

theorem SAt.hold {A' : World → Nat → Prop} {w w' : World} {A : Option Addr} {n : Nat} {ls : List Sp} (h : SAt w A n ls) (hk : Hold A' w w') (hA : 0 < n → ∀ a, A = some a → A' w a.block) : SAt w' A n ls := by
  refine ⟨h.1, fun hn => ?_⟩
  obtain ⟨b, off, rfl, hlt, hc⟩ := h.2 hn
  have hb := hA hn _ rfl
  refine ⟨b, off, rfl, Nat.lt_of_lt_of_le hlt hk.1, fun j s hj => ?_⟩
  obtain ⟨h1, h2, h3⟩ := hc j s hj
  exact ⟨hk.cell (a := ⟨b, _, none⟩) hb h1, hk.cell (a := ⟨b, _, none⟩) hb h2, hk.cell (a := ⟨b, _, none⟩) hb h3⟩
def FRel (ls : List Sp) (B : Option Addr) (n N0 : Nat) (A : World → Nat → Prop) (J : List Sp → World → Prop) (i : Value) (wr : World) : Prop :=
  ∃ k : Nat, i = .int .i64 k ∧ k ≤ n ∧ J (ls.take k) wr ∧ SAt wr B n ls ∧ N0 ≤ wr.heap.size ∧ (0 < n → ∀ a, B = some a → a.block < wr.heap.size ∧ A wr a.block)
set_option maxRecDepth 100000 in
set_option maxHeartbeats 4000000 in
theorem fiter55 (m l b n c N0 : Nat) (P0 : Option Addr) (ls : List Sp) (A : World → Nat → Prop) (hL : Lets A) (hm : 1 ≤ m) (hn : n ≤ 100000) (J Jx : List Sp → World → Prop) (hJb : ∀ s W W', J s W → Below W.heap.size W W' → J s W')
    (hY : ∀ pre x W, J pre W → x ∈ ls ∧ N0 ≤ W.heap.size → pre.length < 100001 → YieldAt Fence.wide (m - 1) Try.prog l (spArr x) W fun e W' =>
      ((e = .returned (.bool true) ∧ J (pre ++ [x]) W') ∨ (e = .returned (.bool false) ∧ Jx (pre ++ [x]) W')) ∧ Hold A W W')
    (W : World) (hBs : W.cell? ⟨b, 0, none⟩ = some (.slice P0 n c)) (hS : SAt W P0 n ls) (hP : 0 < n → ∀ a, P0 = some a → a.block < W.heap.size ∧ A W a.block) (hN0 : N0 ≤ W.heap.size) (h0 : J [] W) :
    CallsIn Fence.wide m Try.prog 55 #[.func (.yield l) #[] #[], .pointer (some ⟨b, 0, none⟩)] W fun e W' => (∃ v, e = .returned v) ∧
      ((∃ ys, ys = ls ∧ J ys W') ∨ (∃ pre, pre <+: ls ∧ Jx pre W')) := by
  refine callsIn_of_wp Try.func55 rfl trivial ?_ rfl
  simp only [Try.ntmps55, List.size_toArray, List.length_cons, List.length_nil, Nat.reduceAdd, Nat.reduceSub, Array.replicate_succ, Array.replicate_zero, List.push_toArray, List.append_toArray, List.nil_append, List.cons_append]
  have HYY := Lib.hid hY
  have HJB := Lib.hid hJb
  have HL := Lib.hid hS.1
  have HLE := Lib.hid hL
  have H0 : Hid (FRel ls P0 n N0 A J (.int .i64 (0 : Nat)) W) := Lib.hid ⟨0, rfl, Nat.zero_le _, by rw [List.take_zero]; exact h0, hS, hN0, hP⟩
  clear hY hJb hS h0 hP hN0 hL
  gi_wp2
  gi_loopw [7] (fun i wr => FRel ls P0 n N0 A J i wr) (fun i _ => n - (intOf i).toNat)
  case atStart => exact H0.out
  case round =>
    clear hBs H0
    obtain ⟨k, rfl, hkn, hJr, hSr, hNr, hAr⟩ := hrel
    by_cases hlt : k < n
    · obtain ⟨b2, off, rfl, hb2, hc⟩ := hSr.2 (by omega)
      obtain ⟨s, hs⟩ := getSp (ls := ls) (k := k) (by rw [HL.out]; exact hlt)
      obtain ⟨h1, h2, h3⟩ := hc k s hs
      have hlen : (ls.take k).length < 100001 := by rw [List.length_take, HL.out]; omega
      have hY2 := fun o => HYY.out (ls.take k) s (wr.alloc o) (HJB.out _ _ _ hJr ((Below.refl _ _).alloc (Nat.le_refl _) _)) ⟨List.mem_of_getElem? hs, by rw [World.size_alloc]; omega⟩ hlen
      unfold spArr spV at hY2
      have hend : ∀ o W3, Hold A (wr.alloc o) W3 → J (ls.take k ++ [s]) W3 → FRel ls (some ⟨b2, off, none⟩) n N0 A J (.int .i64 ((k : Int) + 1)) W3 := by
        intro o W3 hk hj
        have hbo : Below wr.heap.size wr (wr.alloc o) := (Below.refl _ _).alloc (Nat.le_refl _) o
        have hA2 : ∀ a, (some ⟨b2, off, none⟩ : Option Addr) = some a → A (wr.alloc o) a.block := fun a e => HLE.out.below (hAr (by omega) a e).2 hbo
        refine ⟨k + 1, by go_num, by omega, by rw [take_snoc' hs]; exact hj, (hSr.below hbo).hold hk (fun _ => hA2), by have := hk.1; rw [World.size_alloc] at this; omega, fun _ a e => ?_⟩
        have q := hk.2 a.block (hA2 a e) (by rw [World.size_alloc]; have := (hAr (by omega) a e).1; omega)
        exact ⟨Nat.lt_of_lt_of_le (by rw [World.size_alloc]; have := (hAr (by omega) a e).1; omega) hk.1, q.2⟩
      have HST : Hid (ls.take k ++ [s] <+: ls) := Lib.hid (by rw [← take_snoc' hs]; exact pre_take)
      have HE := Lib.hid hend
      have HY2 := Lib.hid hY2
      obtain ⟨T, hT⟩ : ∃ T, bs s.v = T := ⟨_, rfl⟩
      rw [hT] at h3 HY2
      clear hend hY2 hc hs hJr hSr hNr hT hlen hAr
      obtain ⟨fn, tmps, assign, body, hy, hR⟩ := HY2.out (.cells #[.int .i64 s.a, .int .i64 s.b, .string T] 41)
      gi_wp2
      refine hR.mono ?_
      rintro e W3 ⟨⟨rfl, hJ3⟩ | ⟨rfl, hJx3⟩, hk3⟩
      · have R := Lib.hid (HE.out _ W3 hk3 hJ3)
        clear HE
        gi_wp2
        go_roundw
        case rel => exact R.out
        case measure => simp [intOf]; omega
      · gi_wp2
        refine bodyPost_ret (results_none rfl _ _ _) rfl ?_
        exact ⟨⟨_, rfl⟩, .inr ⟨_, HST.out, hJx3⟩⟩
    · have hke : k = n := by omega
      subst hke
      rw [List.take_of_length_le (by rw [HL.out]; exact Nat.le_refl _)] at hJr
      have HJ3 := Lib.hid hJr
      clear hJr hSr hAr
      gi_wp2
      go_end0
      exact ⟨⟨_, rfl⟩, .inl ⟨_, rfl, HJ3.out⟩⟩
theorem fseq55 (m b n c : Nat) (P0 : Option Addr) (ls : List Sp) (A : World → Nat → Prop) (w : World) (hL : Lets A) (hm : 1 ≤ m) (hn : n ≤ 100000) (hb : b < w.heap.size) (hBs : w.cell? ⟨b, 0, none⟩ = some (.slice P0 n c)) (hS : SAt w P0 n ls)
    (hP : 0 < n → ∀ a, P0 = some a → A w a.block) :
    SeqFree Fence.wide m Try.prog 55 #[.pointer (some ⟨b, 0, none⟩)] spArr (fun x W => x ∈ ls ∧ w.heap.size + 2 ≤ W.heap.size) A (fun ys => ys = ls) (fun pre => pre <+: ls) 100001 w :=
  fun l J Jx W hW hsz hJ _ _ hY h0 =>
    fiter55 m l b n c (w.heap.size + 2) P0 ls _ (hL.and _) hm hn J Jx (fun _ _ _ h hb => hJ.below h hb) (fun pre x W1 hj hx hl => hY pre x W1 hj hx hl) W ((hW.cell (p := ⟨b, 0, none⟩) hb).trans hBs) (hS.below hW)
      (fun h a e => have hlt := hS.lt h a e; ⟨by omega, hL.below (hP h a e) hW, by omega, by omega⟩) (by omega) h0
end Go.Proofs.Ytfggoegofbghhaa
