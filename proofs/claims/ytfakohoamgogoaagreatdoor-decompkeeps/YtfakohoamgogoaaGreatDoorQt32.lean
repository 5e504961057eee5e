/- The values that are asked for, gathered and put in order: slices.Sorted of slices.Values. -/
/- What the program's Parse and Points of property files hand back, in plain words; no walk. -/
import Derived.Test.YtfakohoamgogoaaGreatDoorQt31
import Derived.Test.YtfakohoamgogoaaGreatDoorQt23
import Derived.Sort.OwnSorted
import Derived.Shelf.Abstract
import Derived.Shelf.RegionOpen
import Derived.OwnWalkIn
import Derived.TacticsInMore
import Derived.LoopNIn
import Derived.LoopIn
import Derived.BigQuiet
import Derived.Test.YtfakohoamgogoaaGreatDoorQt09
import Derived.Test.YtfakohoamgogoaaGreatDoorQt24
import Derived.Test.YtfakohoamgogoaaGreatDoorQt03
namespace Go.Proofs.YtfakohoamgogoaaGreatDoor.Pq
open Go.RowKit Go.Shelf Go.Sort
attribute [local go_sem] Oper.semAt_some

def strArr (x : List UInt8) : Array Value := #[.string (bs x)]
theorem strs_snocS (ls : List (List UInt8)) (x : List UInt8) : strs (ls ++ [x]) = strs ls ++ [.string (bs x)] := by unfold strs; rw [List.map_append]; rfl
theorem take_snocS {ls : List (List UInt8)} {k : Nat} {s : List UInt8} (hs : ls[k]? = some s) : ls.take (k + 1) = ls.take k ++ [s] := by
  have hlt := (List.getElem?_eq_some_iff.1 hs).1
  have e : ls[k] = s := (List.getElem?_eq_some_iff.1 hs).2
  rw [List.take_succ_eq_append_getElem hlt, e]
theorem _root_.Go.Proofs.YtfakohoamgogoaaGreatDoor.Vals.keptS {A' : Nat → Prop} {w w' : World} {A : Option Addr} {n : Nat} {vs : List Value} (h : Vals w A n vs) (hk : Kept A' w w') (hA : 0 < n → ∀ a, A = some a → A' a.block) : Vals w' A n vs := by
  refine ⟨h.1, fun hn => ?_⟩
  obtain ⟨b, off, rfl, hlt, hc⟩ := h.2 hn
  exact ⟨b, off, rfl, Nat.lt_of_lt_of_le hlt hk.1, fun j v hj => hk.cell (a := ⟨b, off + j, none⟩) (hA hn ⟨b, off, none⟩ rfl) (hc j v hj)⟩
theorem _root_.Go.Proofs.YtfakohoamgogoaaGreatDoor.Vals.ltS {w : World} {A : Option Addr} {n : Nat} {vs : List Value} (h : Vals w A n vs) (hn : 0 < n) (a : Addr) (e : A = some a) : a.block < w.heap.size := by
  obtain ⟨b, off, e', hlt, -⟩ := h.2 hn
  rw [e] at e'
  cases e'
  exact hlt
/-- Where the going through the values stands. -/
def SRel (ls : List (List UInt8)) (B : Option Addr) (n N0 : Nat) (J : List (List UInt8) → World → Prop) (i : Value) (wr : World) : Prop :=
  ∃ k : Nat, i = .int .i64 k ∧ k ≤ n ∧ J (ls.take k) wr ∧ Vals wr B n (strs ls) ∧ N0 ≤ wr.heap.size
set_option maxRecDepth 100000 in
set_option maxHeartbeats 4000000 in
theorem siter37 (m l b n c N0 : Nat) (P0 : Option Addr) (ls : List (List UInt8)) (A : Nat → Prop) (hm : 1 ≤ m) (hn : n ≤ 100000) (J Jx : List (List UInt8) → World → Prop)
    (hY : ∀ pre x W, J pre W → N0 ≤ W.heap.size → pre.length < 100001 → YieldAt Fence.wide (m - 1) Tryz.prog l (strArr x) W fun e W' =>
      ((e = .returned (.bool true) ∧ J (pre ++ [x]) W') ∨ (e = .returned (.bool false) ∧ Jx (pre ++ [x]) W')) ∧ Kept A W W')
    (W : World) (hBs : W.cell? ⟨b, 0, none⟩ = some (.slice P0 n c)) (hS : Vals W P0 n (strs ls)) (hP : 0 < n → ∀ a, P0 = some a → A a.block) (hN0 : N0 ≤ W.heap.size) (h0 : J [] W) :
    CallsIn Fence.wide m Tryz.prog 125 #[.func (.yield l) #[] #[], .pointer (some ⟨b, 0, none⟩)] W fun e W' => (∃ v, e = .returned v) ∧
      ((∃ ys, ys = ls ∧ J ys W') ∨ (∃ pre, pre <+: ls ∧ Jx pre W')) := by
  refine callsIn_of_wp Tryz.func125 rfl trivial ?_ rfl
  simp only [Tryz.ntmps125, List.size_toArray, List.length_cons, List.length_nil, Nat.reduceAdd, Nat.reduceSub, Array.replicate_succ, Array.replicate_zero, List.push_toArray, List.append_toArray, List.nil_append, List.cons_append]
  have HYY := Lib.hid hY
  have HL : Hid (ls.length = n) := Lib.hid (by have := hS.1; rwa [strs_length] at this)
  have HP := Lib.hid hP
  have H0 : Hid (SRel ls P0 n N0 J (.int .i64 (0 : Nat)) W) := Lib.hid ⟨0, rfl, Nat.zero_le _, by rw [List.take_zero]; exact h0, hS, hN0⟩
  clear hY hS h0 hP hN0
  gi_wp2
  gi_loopw [7] (fun i wr => SRel ls P0 n N0 J i wr) (fun i _ => n - (intOf i).toNat)
  case atStart => exact H0.out
  case round =>
    clear hBs H0
    obtain ⟨k, rfl, hkn, hJr, hSr, hNr⟩ := hrel
    by_cases hlt : k < n
    · obtain ⟨b2, off, rfl, hb2, hc⟩ := hSr.2 (by omega)
      have hkl : k < ls.length := by rw [HL.out]; exact hlt
      obtain ⟨s, hs⟩ : ∃ s, ls[k]? = some s := ⟨_, List.getElem?_eq_getElem hkl⟩
      have h1 := hc k _ (strs_get hkl)
      have hgd : ls.getD k [] = s := by rw [List.getD_eq_getElem?_getD, hs]; rfl
      rw [hgd] at h1
      have hlen : (ls.take k).length < 100001 := by rw [List.length_take, HL.out]; omega
      have hY2 := HYY.out (ls.take k) s wr hJr hNr hlen
      unfold strArr at hY2
      have hend : ∀ W3, Kept A wr W3 → J (ls.take k ++ [s]) W3 → SRel ls (some ⟨b2, off, none⟩) n N0 J (.int .i64 ((k : Int) + 1)) W3 := by
        intro W3 hk hj
        exact ⟨k + 1, by go_num, by omega, by rw [take_snocS hs]; exact hj, hSr.keptS hk HP.out, Nat.le_trans hNr hk.1⟩
      have HST : Hid (ls.take k ++ [s] <+: ls) := Lib.hid (by rw [← take_snocS hs]; exact List.take_prefix _ _)
      have HE := Lib.hid hend
      obtain ⟨T, hT⟩ : ∃ T, bs s = T := ⟨_, rfl⟩
      rw [hT] at h1 hY2
      clear hend hc hs hJr hSr hNr hT hlen hgd hkl
      obtain ⟨fn, tmps, assign, body, hy, hR⟩ := hY2
      gi_wp2
      refine hR.mono ?_
      rintro e W3 ⟨⟨rfl, hJ3⟩ | ⟨rfl, hJx3⟩, hk3⟩
      · have R := Lib.hid (HE.out W3 hk3 hJ3)
        clear HE
        gi_wp2
        go_roundw
        case rel => exact R.out
        case measure => simp [intOf]; omega
      · gi_wp2
        refine bodyPost_ret (results_none rfl _ _ _) rfl ?_
        exact ⟨⟨_, rfl⟩, .inr ⟨_, HST.out, hJx3⟩⟩
    · have hke : k = n := by omega
      subst hke
      rw [List.take_of_length_le (by rw [HL.out]; exact Nat.le_refl _)] at hJr
      have HJ3 := Lib.hid hJr
      clear hJr hSr
      gi_wp2
      go_end0
      exact ⟨⟨_, rfl⟩, .inl ⟨_, rfl, HJ3.out⟩⟩
theorem sseq37 (m b n c : Nat) (P0 : Option Addr) (ls : List (List UInt8)) (A : Nat → Prop) (w : World) (hm : 1 ≤ m) (hn : n ≤ 100000) (hb : b < w.heap.size) (hBs : w.cell? ⟨b, 0, none⟩ = some (.slice P0 n c)) (hS : Vals w P0 n (strs ls))
    (hP : 0 < n → ∀ a, P0 = some a → A a.block ∧ a.block < w.heap.size) :
    SeqOwn Fence.wide m Tryz.prog 125 #[.pointer (some ⟨b, 0, none⟩)] strArr (fun _ W => w.heap.size + 2 ≤ W.heap.size) A 0 0 (fun ys => ys = ls) (fun pre => pre <+: ls) 100001 w :=
  fun l J Jx W hW hsz hJ _ hY h0 =>
    siter37 m l b n c (w.heap.size + 2) P0 ls _ hm hn J Jx (fun pre x W1 hj hx hl => hY pre x W1 hj hx hl) W ((hW.cell (p := ⟨b, 0, none⟩) hb).trans hBs) (hS.below hW)
      (fun h a e => ⟨(hP h a e).1, by have := (hP h a e).2; omega, by have := (hP h a e).2; omega⟩) (by omega) h0
theorem values20 (A : Option Addr) (n c : Nat) (w : World) : Calls Tryz.prog 95 #[.slice A n c] w fun e w' =>
    e = .returned (.func (.func 125) #[] #[.pointer (some ⟨w.heap.size, 0, none⟩)]) ∧ w' = w.alloc (.cells #[.slice A n c] 88) := by
  go_enter Tryz.func95, Tryz.ntmps95
  go_wp2
  go_ret
  exact ⟨rfl, rfl⟩
/-- What is gathered. -/
def SqPost (ls : List (List UInt8)) (w : World) (e : Ending) (w' : World) : Prop :=
  Below w.heap.size w w' ∧ ∃ v, e = .returned v ∧ w'.ownsRow w.heap.size 9 1 v ls.length (strs ls)
theorem info9s : (Tryz.prog.info? 9).map (fun i => (i.zero, i.size, i.bytes)) = some (some (.string ⟨#[]⟩), 1, 16) := by kernel_rfl
theorem leave59 {R : Ending → World → Prop} {Wf : World} {D m : Nat} {tmps : Array Value} {v : Value} (ht : tmps[4]?.getD undef = v) (hk : Wf.heap[D]? = some (.deferred (some []))) (h : R (.returned v) (Wf.putObj D (.deferred none))) :
    LeavesInM Fence.wide m Tryz.prog Tryz.f163 tmps R [{ target := .collected D, args := #[] }] .returning Wf := by
  refine ⟨by simp, .inl ⟨_, _, rfl, run_takeDeferred hk, ?_⟩⟩
  refine ⟨v, ?_, h⟩
  simp [results, Tryz.results163, go_sem, ht]
theorem mz {n : Nat} (h : n ≤ 200000) : n ≤ maxLen := by simp only [maxLen]; omega
theorem own_baseS {W : World} {base base' : Nat} {e : TypeId} {size n : Nat} {v : Value} {xs : List Value} (h : W.ownsRow base e size v n xs) (hb : base' ≤ base) : W.ownsRow base' e size v n xs := by
  refine ⟨h.1, ?_⟩
  rcases h.2 with h0 | ⟨g, cap, cur, h1, h2, h3⟩
  · exact .inl h0
  · exact .inr ⟨g, cap, cur, h1, Nat.le_trans hb h2, h3⟩
set_option maxRecDepth 100000 in
set_option maxHeartbeats 4000000 in
theorem appendseq59 (b n c : Nat) (P0 : Option Addr) (ls : List (List UInt8)) (w : World) (hn : n ≤ 100000) (hb : b < w.heap.size) (hBs : w.cell? ⟨b, 0, none⟩ = some (.slice P0 n c)) (hS : Vals w P0 n (strs ls)) :
    Calls Tryz.prog 163 #[.slice none 0 0, .func (.func 125) #[] #[.pointer (some ⟨b, 0, none⟩)]] w (SqPost ls w) := by
  obtain ⟨i0, hi, hz0, hz1, hz2⟩ := info_parts info9s
  have hb0 : Below w.heap.size w (w.alloc (.cells #[.slice none 0 0] 88)) := (Below.refl _ _).alloc (Nat.le_refl _) _
  have n0 := box_new w (.slice none 0 0) 88
  have s0 : (w.alloc (.cells #[.slice none 0 0] 88)).heap.size = w.heap.size + 1 := by simp
  have hq := sseq37 7 b n c P0 ls (fun k => k ≠ w.heap.size ∧ k < w.heap.size + 3) (w.alloc (.cells #[.slice none 0 0] 88)) (by omega) hn (by omega) ((hb0.cell (p := ⟨b, 0, none⟩) hb).trans hBs) (hS.below hb0) (fun h a e => by have := hS.ltS h a e; omega)
  have h0 : GotI w w.heap.size (w.heap.size + 3) 9 1 0 [] (w.alloc (.cells #[.slice none 0 0] 88)) := ⟨⟨_, n0, World.ownsRow_nil _ _ _ _⟩, hb0⟩
  refine (callsIn_wide (n := 8)).1 ?_
  refine callsIn_of_wp_marks Tryz.func163 rfl trivial ?_ rfl
  simp only [Tryz.ntmps163, List.size_toArray, List.length_cons, List.length_nil, Nat.reduceAdd, Nat.reduceSub, Array.replicate_succ, Array.replicate_zero, List.push_toArray, List.append_toArray, List.nil_append, List.cons_append]
  have HQ := Lib.hid hq
  have H0 := Lib.hid h0
  have HS0 := Lib.hid s0
  clear hq h0 n0 hb0 s0 hS hBs
  gi_wp2
  refine range_own1 rfl (by omega) rfl trivial (enters_of Tryz.func125 (by kernel_rfl) rfl) HQ.out (Nat.zero_le _) ⟨by rw [HS0.out]; omega, by rw [HS0.out]; omega⟩ ⟨by rw [HS0.out]; omega, by rw [HS0.out]; omega⟩ (fun _ => rfl) (fun x _ W1 W2 row hs hg hr => Nat.le_trans hs hg.size)
    (fun pre W => GotI w w.heap.size (w.heap.size + 3) 9 1 pre.length (strs pre) W) (fun _ _ _ => False) (got_abide _ _ _ _ _ _ _ _ (by rw [HS0.out]; omega)) (fun _ => Abide.pure _ _ _ _) H0.out ?a1 ?assign ?body ?done ?stop
  case assign =>
    rintro l x W K hK
    simp only [strArr]
    gi_wp2
    exact hK
  case body =>
    rintro l pre x W ⟨⟨v, ⟨hv, hf⟩, hown⟩, hbW⟩ hr hlen
    obtain ⟨T, hT⟩ : ∃ T, bs x = T := ⟨_, rfl⟩
    have hsn := strs_snocS pre x
    rw [hT] at hsn
    have n2 : pre.length + 1 ≤ 200000 := by omega
    have m3 := mz n2
    have m4 : (pre.length + 1) * 16 ≤ 140737488355328 := by omega
    have hend := fun (w2 : World) (v' : Value) (o : Obj) ho' hg => @got_next w W w2 w.heap.size (w.heap.size + 3) 9 1 pre.length (strs pre) [.string T] v v' o hv hf hown hbW ho' hg (Nat.le_refl _) (by omega)
    have hbase : w.heap.size + 3 ≤ W.heap.size := by have := HS0.out; omega
    have HE := Lib.hid hend
    have HSN := Lib.hid hsn
    have HOW := Lib.hid hown
    obtain ⟨Av, cv, rfl, -⟩ := own_shape hown
    clear hend hsn hr hbW hown
    simp only [hT]
    clear hT
    gi_wp2_with (gi_at_builtin; refine append_lit_in rfl _ _ 88 rfl (w.heap.size + 3) 9 i0 (.string ⟨#[]⟩) 1 16 Tryz.underlying88 hi hz0 hz1 hz2 rfl (by decide) _ _ _ rfl HOW.out [.string T] rfl (by simp [Value.oneCell']) rfl m3 m4 hbase ?_; intro v' w2 hown' hg' hgr'; obtain ⟨R1, R2, kc1, kc2⟩ := HE.out w2 v' _ hown' hg'; have HR := Lib.hid (And.intro R1 R2); obtain ⟨Av2, cv2, rfl, -⟩ := own_shape hown'; clear hown' hg' hgr' R1 R2)
    rw [← HSN.out] at HR
    exact ⟨HR.out.1, by show GotI w w.heap.size (w.heap.size + 3) 9 1 (pre ++ [x]).length (strs (pre ++ [x])) _; rw [List.length_append]; exact HR.out.2⟩
  case done =>
    rintro D xs W hD rfl ⟨⟨v, ⟨hv, hf⟩, hown⟩, hbW⟩ hKD
    have hfin : SqPost xs w (.returned v) (W.putObj D (.deferred none)) :=
      ⟨hbW.trans (belowK_b (w := w) (Nat.le_refl _) W D _ _ (by have := HS0.out; omega) hKD rfl rfl), v, rfl, own_abide (β := Unit) (B := D) () _ _ _ (own_baseS hown (by omega)) (grownBy_putObj' W D (.deferred none)) (fun r e => by cases e; exact .inr ⟨Nat.le_refl _, _, hKD, rfl⟩)⟩
    have HFN := Lib.hid hfin
    obtain ⟨Av, cv, rfl, -⟩ := own_shape hown
    clear hfin hown hbW
    gi_wp2
    exact leave59 rfl hKD HFN.out
  case stop =>
    rintro D c pre W _ _ h _
    exact h.elim
theorem collect35 (b n c : Nat) (P0 : Option Addr) (ls : List (List UInt8)) (w : World) (hn : n ≤ 100000) (hb : b < w.heap.size) (hBs : w.cell? ⟨b, 0, none⟩ = some (.slice P0 n c)) (hS : Vals w P0 n (strs ls)) :
    Calls Tryz.prog 123 #[.func (.func 125) #[] #[.pointer (some ⟨b, 0, none⟩)]] w (SqPost ls w) := by
  have c59 := appendseq59 b n c P0 ls w hn hb hBs hS
  clear hBs hS
  go_enter Tryz.func123, Tryz.ntmps123
  go_wp2_with (go_at_call 163; (with_reducible refine c59.mono ?_); rintro e w1 ⟨hb1, v, rfl, ho⟩)
  go_ret
  exact ⟨hb1, v, rfl, ho⟩
def ascOf (ls : List (List UInt8)) : List (List UInt8) := ls.mergeSort fun x y => decide (x ≤ y)
theorem asc_perm (ls : List (List UInt8)) : (ascOf ls).Perm ls := List.mergeSort_perm _ _
theorem asc_asc (ls : List (List UInt8)) : Asc (ascOf ls) := by
  have h := List.pairwise_mergeSort (le := fun x y : List UInt8 => decide (x ≤ y)) (fun a b c h1 h2 => by
    simp only [decide_eq_true_eq] at h1 h2 ⊢
    exact List.le_trans h1 h2) (fun a b => by
    simp only [Bool.or_eq_true, decide_eq_true_eq]
    exact List.le_total a b) ls
  exact h.imp (fun h => by simpa using h)
/-- The values that are asked for, in order. -/
def StPost (ls : List (List UInt8)) (w : World) (e : Ending) (w' : World) : Prop :=
  Below w.heap.size w w' ∧ ∃ A c, e = .returned (.slice A ls.length c) ∧ Hid (Vals w' A ls.length (strs (ascOf ls)) ∧ ∀ a, A = some a → w.heap.size ≤ a.block ∧ a.block < w'.heap.size)
theorem sorted19 (b n c : Nat) (P0 : Option Addr) (ls : List (List UInt8)) (w : World) (hn : n ≤ 100000) (hb : b < w.heap.size) (hBs : w.cell? ⟨b, 0, none⟩ = some (.slice P0 n c)) (hS : Vals w P0 n (strs ls)) :
    Calls Tryz.prog 94 #[.func (.func 125) #[] #[.pointer (some ⟨b, 0, none⟩)]] w (StPost ls w) := by
  have hlen : ls.length = n := by have := hS.1; rwa [strs_length] at this
  have c35 := collect35 b n c P0 ls w hn hb hBs hS
  have hsz : ls.length < 4611686018427387904 := by omega
  clear hBs hS hlen
  go_enter Tryz.func94, Tryz.ntmps94
  go_wp2_with (go_at_call 123; (with_reducible refine c35.mono ?_); rintro e W ⟨hb1, v, rfl, ho⟩)
  rcases ho.2 with ⟨rfl, hz⟩ | ⟨gb, cap, cur, rfl, hbase, hgb, r1, r2, r3, r4⟩
  · have hss : ls = [] := List.eq_nil_of_length_eq_zero hz
    subst hss
    have c36 := Tryz.slices_Sort_none none 0 W
    go_wp2_with (go_at_call 124; (with_reducible refine c36.mono ?_); rintro e w' ⟨rfl, rfl⟩)
    go_ret
    refine ⟨hb1, none, 0, rfl, Lib.hid ⟨?_, fun a e => by cases e⟩⟩
    rw [show ascOf [] = [] by unfold ascOf; simp]
    exact Vals.nil _ _
  · have hH : Holds encStr W gb 0 ls.toArray := holds_of_block hgb (by rw [Nat.mul_one] at r4; exact r4)
    have hgl : gb < W.heap.size := (Array.getElem?_eq_some_iff.1 hgb).1
    have c36 := Tryz.slices_Sort gb 0 cap ls W hH hgl hsz
    have hrow := fun nn os => ownsRow_sorted (w := W) (base := w.heap.size) (n := nn) (os := os) (ss := ls) (ts := ascOf ls) (by unfold ascOf; simp) hbase hgb r1 r2 r3
    have hgr := fun nn os => hb1.grown (grownBy_sorted (w := W) (g := gb) (n := nn) (os := os) (ascOf ls).toArray) hb1.size (fun j hj => by cases hj; exact hbase)
    have HR := Lib.hid hrow
    have HG := Lib.hid hgr
    clear hrow hgr hH ho r3 r4 hgb c35
    go_wp2_with (go_at_call 124; (with_reducible refine c36.mono ?_); rintro e w' ⟨rfl, nn, os, rfl⟩)
    go_ret
    obtain ⟨A, c', e, h1, h2, h3⟩ := own_vals (HR.out nn os)
    injection e with e1 e2 e3
    subst e1
    refine ⟨HG.out nn os, _, cap, rfl, Lib.hid ⟨h2, fun a e => ?_⟩⟩
    cases e
    exact ⟨hbase, by have := (HR.out nn os).lt gb rfl; exact this.2⟩
end Go.Proofs.YtfakohoamgogoaaGreatDoor.Pq

namespace Go.Proofs.YtfakohoamgogoaaGreatDoor.Pq
open Go.RowKit Go.Shelf

/-- What Parse hands back. -/
def PrPost (vs : List (List UInt8)) (l : List UInt8) (w : World) (e : Ending) (w' : World) : Prop :=
  Below w.heap.size w w' ∧ (((propOf vs (linesIn l)).err = 0 ∧ ∃ b A c, e = .returned (.tuple #[.pointer (some ⟨b, 0, none⟩), .int .i64 0, .int .i64 0]) ∧ TIn w' (some ⟨b, 0, none⟩) A c (sorted (propOf vs (linesIn l)).rows)) ∨
    (¬ (propOf vs (linesIn l)).err = 0 ∧ e = .returned (.tuple #[.pointer none, .int .i64 (propOf vs (linesIn l)).err, .int .i64 (propOf vs (linesIn l)).num])))
theorem prp_rows : ∀ (vs : List (List UInt8)) (L : List Ln) (out : List Sp), ¬ (propP vs out L).err = 0 → (propP vs out L).rows = []
  | vs, [], out, h => by rw [propP] at h; exact absurd rfl h
  | vs, x :: L, out, h => by
    by_cases hx : lineErr x.2 = 0
    · cases ha : amongB vs (pfld x.2 1) with
      | false => rw [prp_skip hx ha] at h ⊢; exact prp_rows vs L out h
      | true =>
        by_cases hc : check out (spOf x.2) = 0
        · rw [prp_add hx ha hc] at h ⊢; exact prp_rows vs L _ h
        · rw [prp_bad hx ha hc]
    · rw [prp_err hx]
theorem prp_good (vs : List (List UInt8)) (L : List Ln) : Good (sorted (propOf vs L).rows) := by
  by_cases h : (propOf vs L).err = 0
  · obtain ⟨-, h2, -⟩ := prp_inv vs L [] h
    have ha : addAll [] (selS vs L) = .ok (sorted (propP vs [] L).rows) := by
      have := addAll_came (selS vs L) []
      rw [h2] at this
      exact this
    exact (addAll_good _ [] _ ⟨List.Pairwise.nil, fun s h => by cases h⟩ ha).1
  · rw [show (propOf vs L).rows = [] from prp_rows vs L [] h]
    exact ⟨List.Pairwise.nil, fun s h => by cases h⟩
theorem lines_few {l : List UInt8} : (linesIn l).length ≤ l.length + 1 := by
  rw [← lines_pieces]
  have h1 := List.length_filterMap_le lineOf (numbered 1 (pieces l))
  rw [numbered_length] at h1
  have h2 := pieces_length l
  omega
theorem prp_many (vs : List (List UInt8)) (l : List UInt8) : (propOf vs (linesIn l)).rows.length ≤ l.length + 1 := by
  have h1 := prp_len vs (linesIn l) []
  have h2 := lines_few (l := l)
  have h3 : (propOf vs (linesIn l)).rows.length ≤ ([] : List Sp).length + (linesIn l).length := h1
  simp at h3
  omega
end Go.Proofs.YtfakohoamgogoaaGreatDoor.Pq
