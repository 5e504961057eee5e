/- Going through strings.SplitSeq at one blank: the texts between blanks, one by one. -/
import Derived.Shelf.Abstract
import Derived.Shelf.RegionOpen
import Derived.OwnWalkIn
import Derived.TacticsInMore
import Derived.LoopNIn
import Derived.LoopIn
import Derived.Test.YtkcpnnfbhcklpaaGreatDoorBody
namespace Go.Proofs.YtkcpnnfbhcklpaaGreatDoor
open Go.RowKit Go.Shelf
attribute [local go_sem] Oper.semAt_some

set_option maxHeartbeats 1000000 in
theorem splitSeq47 (l : List UInt8) (w : World) : Calls Tryz.prog 65 #[.string (bs l), .string ⟨#[32]⟩, .int .i64 0] w fun e w' =>
    e = .returned (.func (.func 90) #[] #[.pointer (some ⟨w.heap.size + 1, 0, none⟩), .pointer (some ⟨w.heap.size, 0, none⟩), .pointer (some ⟨w.heap.size + 2, 0, none⟩)]) ∧ w' = ((w.alloc (.cells #[.string (bs l)] 9)).alloc (.cells #[.string ⟨#[32]⟩] 9)).alloc (.cells #[.int .i64 0] 3) := by
  go_enter Tryz.func65, Tryz.ntmps65
  go_wp2
  go_ret
  exact ⟨rfl, rfl⟩
set_option maxHeartbeats 1000000 in
theorem splitSeq31 (l : List UInt8) (w : World) : Calls Tryz.prog 53 #[.string (bs l), .string ⟨#[32]⟩] w fun e w' =>
    e = .returned (.func (.func 90) #[] #[.pointer (some ⟨w.heap.size + 1, 0, none⟩), .pointer (some ⟨w.heap.size, 0, none⟩), .pointer (some ⟨w.heap.size + 2, 0, none⟩)]) ∧ w' = ((w.alloc (.cells #[.string (bs l)] 9)).alloc (.cells #[.string ⟨#[32]⟩] 9)).alloc (.cells #[.int .i64 0] 3) := by
  have c := splitSeq47 l w
  go_enter Tryz.func53, Tryz.ntmps53
  go_wp2_with (go_at_call 65; (with_reducible refine c.mono ?_); rintro e w' ⟨rfl, rfl⟩)
  go_ret
  exact ⟨rfl, rfl⟩

def strAt (wr : World) (b : Nat) : Nat := match wr.cell? ⟨b, 0, none⟩ with | some (.string s) => s.size | _ => 0
theorem strAt_eq {wr : World} {b : Nat} {l : List UInt8} (h : wr.cell? ⟨b, 0, none⟩ = some (.string (bs l))) : strAt wr b = l.length := by
  unfold strAt
  rw [h]
  exact bs_size l

/-- Where the going through stands. -/
def SsRel (L : List UInt8) (b N0 : Nat) (J : List (List UInt8) → World → Prop) (wr : World) : Prop :=
  ∃ (pre : List (List UInt8)) (rest : List UInt8), wr.cell? ⟨b, 0, none⟩ = some (.string (bs rest)) ∧ wr.frozen? ⟨b, 0, none⟩ = false ∧ wr.cell? ⟨b + 1, 0, none⟩ = some (.string ⟨#[32]⟩) ∧ wr.cell? ⟨b + 2, 0, none⟩ = some (.int .i64 0) ∧ ML wr ∧
    cutAll 32 L = pre ++ cutAll 32 rest ∧ pre.length + rest.length ≤ L.length ∧ J pre wr ∧ N0 ≤ wr.heap.size
theorem ss_kept {A : Nat → Prop} {b : Nat} {W W' : World} {v : Value} (hk : Kept A W W') (hA : A b) (h : W.cell? ⟨b, 0, none⟩ = some v) (hf : W.frozen? ⟨b, 0, none⟩ = false) : W'.cell? ⟨b, 0, none⟩ = some v ∧ W'.frozen? ⟨b, 0, none⟩ = false := by
  obtain ⟨o, ho, _⟩ := cells_of_cell h
  have e := hk.2 b hA (Array.getElem?_eq_some_iff.1 ho).1
  refine ⟨hk.cell (a := ⟨b, 0, none⟩) hA h, ?_⟩
  unfold World.frozen? at hf ⊢
  rw [e]
  exact hf

set_option maxRecDepth 100000 in
set_option maxHeartbeats 4000000 in
theorem iter57 (m l b N0 : Nat) (L : List UInt8) (A : Nat → Prop) (hm : 1 ≤ m) (hL : L.length ≤ 2000) (hb : 0 < b) (J Jx : List (List UInt8) → World → Prop) (hJs : ∀ s W v, J s W → J s (W.setCell ⟨b, 0, none⟩ v))
    (hY : ∀ pre x W, J pre W → x.length ≤ 2000 ∧ N0 ≤ W.heap.size → pre.length < 4000 → YieldAt Fence.wide (m - 1) Tryz.prog l #[.string (bs x)] W fun e W' =>
      ((e = .returned (.bool true) ∧ J (pre ++ [x]) W') ∨ (e = .returned (.bool false) ∧ Jx (pre ++ [x]) W')) ∧ Kept A W W')
    (W : World) (hA0 : A 0) (hAb : A b) (hAb1 : A (b + 1)) (hAb2 : A (b + 2)) (h0 : SsRel L b N0 J W) :
    CallsIn Fence.wide m Tryz.prog 90 #[.func (.yield l) #[] #[], .pointer (some ⟨b + 1, 0, none⟩), .pointer (some ⟨b, 0, none⟩), .pointer (some ⟨b + 2, 0, none⟩)] W fun e W' => (∃ v, e = .returned v) ∧
      ((∃ ys, ys = cutAll 32 L ∧ J ys W') ∨ (∃ pre, pre <+: cutAll 32 L ∧ Jx pre W')) := by
  refine callsIn_of_wp Tryz.func90 rfl trivial ?_ rfl
  simp only [Tryz.ntmps90, List.size_toArray, List.length_cons, List.length_nil, Nat.reduceAdd, Nat.reduceSub, Array.replicate_succ, Array.replicate_zero, List.push_toArray, List.append_toArray, List.nil_append, List.cons_append]
  have hsep : W.cell? ⟨b + 1, 0, none⟩ = some (.string ⟨#[32]⟩) := by obtain ⟨_, _, _, _, h, _⟩ := h0; exact h
  have H0 := Lib.hid h0
  have HYY := Lib.hid hY
  have HJS := Lib.hid hJs
  clear h0 hY hJs
  gi_wp2
  gi_loopw [7] (fun (_ : Value) wr => SsRel L b N0 J wr) (fun _ wr => strAt wr b)
  case atStart => exact H0.out
  case round =>
    clear hsep
    obtain ⟨pre, rest, h1, h2, h3, h4, ⟨mm, hmm⟩, hcut, hlen, hJr, hN0⟩ := hrel
    have c58 := callsIn_wide (n := m - 1) |>.2 (Tryz.strings_Index (bs rest) ⟨#[32]⟩ mm wr (by rw [bs_size]; omega) hmm)
    rw [bs_data] at c58
    have hst := strAt_eq h1
    by_cases h : (32 : UInt8) ∈ rest
    · obtain ⟨a, t, rfl, ha⟩ := split_at 32 rest h
      have hidx : Lib.index (a ++ 32 :: t) ([32] : List UInt8) = a.length := index_one 32 a t ha
      have c58 : CallsIn Fence.wide (m - 1) Tryz.prog 88 #[.string (bs (a ++ 32 :: t)), .string ⟨#[32]⟩] wr fun e w' => e = .returned (.int .i64 (a.length : Int)) ∧ w' = wr := by rw [← hidx]; exact c58
      have hx1 : (bs (a ++ 32 :: t)).extract 0 a.length = bs a := by rw [bs_ext]; simp
      have hsz : (bs (a ++ 32 :: t)).size = a.length + t.length + 1 := by rw [bs_size]; simp; omega
      have hx2 : (bs (a ++ 32 :: t)).extract (a.length + 1) (a.length + t.length + 1) = bs t := by
        rw [bs_ext, List.drop_append, List.drop_of_length_le (by omega)]
        congr 1
        rw [List.nil_append, show a.length + 1 - a.length = 1 by omega]
        simp
      have hal : a.length ≤ 2000 := by simp at hlen; omega
      have hY2 := HYY.out pre a wr hJr ⟨hal, hN0⟩ (by omega)
      rw [cutAll_some 32 a t ha] at hcut
      have hlt : (a ++ 32 :: t).length = a.length + t.length + 1 := by simp; omega
      rw [hlt] at hlen hst
      have hend : ∀ W3, Kept A wr W3 → J (pre ++ [a]) W3 → SsRel L b N0 J (W3.setCell ⟨b, 0, none⟩ (.string (bs t))) ∧ strAt (W3.setCell ⟨b, 0, none⟩ (.string (bs t))) b = t.length := by
        intro W3 hk hj
        obtain ⟨k1, k2⟩ := ss_kept hk hAb h1 h2
        have e0 : (W3.setCell ⟨b, 0, none⟩ (.string (bs t))).cell? ⟨b, 0, none⟩ = some (.string (bs t)) := World.cell?_setCell_same' _ _ _ (by rw [k1]; rfl)
        refine ⟨⟨pre ++ [a], t, e0, by rw [World.frozen?_setCell]; exact k2, ?_, ?_, ⟨mm, ?_⟩, by rw [hcut]; simp, by simp; omega, HJS.out _ _ _ hj, by rw [World.size_setCell]; exact Nat.le_trans hN0 hk.1⟩, strAt_eq e0⟩
        · rw [World.cell?_setCell_other _ _ _ _ (by simp)]
          exact hk.cell (a := ⟨b + 1, 0, none⟩) hAb1 h3
        · rw [World.cell?_setCell_other _ _ _ _ (by simp)]
          exact hk.cell (a := ⟨b + 2, 0, none⟩) hAb2 h4
        · rw [World.cell?_setCell_other _ _ _ _ (by simp)]
          exact hk.cell (a := ⟨0, 0, none⟩) hA0 hmm
      have hstop : Hid (pre ++ [a] <+: cutAll 32 L) := Lib.hid ⟨cutAll 32 t, by rw [hcut]; simp⟩
      have hafter : ∀ W3, Kept A wr W3 → W3.cell? ⟨b, 0, none⟩ = some (.string (bs (a ++ 32 :: t))) ∧ W3.frozen? ⟨b, 0, none⟩ = false ∧ W3.cell? ⟨b + 1, 0, none⟩ = some (.string ⟨#[32]⟩) := fun W3 hk =>
        ⟨(ss_kept hk hAb h1 h2).1, (ss_kept hk hAb h1 h2).2, hk.cell (a := ⟨b + 1, 0, none⟩) hAb1 h3⟩
      obtain ⟨N, hN⟩ : ∃ N, a.length = N := ⟨_, rfl⟩
      rw [hN] at c58 hx1 hsz hx2 hal hlen hst
      have HE := Lib.hid hend
      have HAF := Lib.hid hafter
      clear hend hafter hidx hcut hJr hlt hN h ha H0 hmm
      obtain ⟨S, hS⟩ : ∃ S, bs (a ++ 32 :: t) = S := ⟨_, rfl⟩
      rw [hS] at c58 hx1 hsz hx2 h1 HAF
      clear hS
      obtain ⟨fn, tmps, assign, body, hy, hR⟩ := hY2
      gi_wp2_with (refine ⟨trivial, ?_⟩; gi_at_call 88; (with_reducible refine c58.mono ?_); rintro e w' ⟨rfl, rfl⟩)
      refine hR.mono ?_
      rintro e W3 ⟨⟨rfl, hJ3⟩ | ⟨rfl, hJx3⟩, hk3⟩
      · obtain ⟨g1, g2, g3⟩ := HAF.out W3 hk3
        have R := Lib.hid (HE.out W3 hk3 hJ3)
        clear HE HAF
        gi_wp2
        go_roundw
        case rel => exact R.out.1
        case measure =>
          rw [R.out.2, hst]
          omega
      · gi_wp2
        refine bodyPost_ret (results_none rfl _ _ _) rfl ?_
        exact ⟨⟨_, rfl⟩, .inr ⟨_, hstop.out, hJx3⟩⟩
    · have hidx : Lib.index rest ([32] : List UInt8) = -1 := index_no 32 rest h
      have c58 : CallsIn Fence.wide (m - 1) Tryz.prog 88 #[.string (bs rest), .string ⟨#[32]⟩] wr fun e w' => e = .returned (.int .i64 (-1)) ∧ w' = wr := by rw [← hidx]; exact c58
      rw [cutAll_none 32 rest h] at hcut
      have hY2 := HYY.out pre rest wr hJr ⟨by omega, hN0⟩ (by omega)
      have HC := Lib.hid hcut
      clear hidx hcut hJr h H0 hmm
      obtain ⟨S, hS⟩ : ∃ S, bs rest = S := ⟨_, rfl⟩
      rw [hS] at c58 h1 hY2
      clear hS
      obtain ⟨fn, tmps, assign, body, hy, hR⟩ := hY2
      gi_wp2_with (refine ⟨trivial, ?_⟩; gi_at_call 88; (with_reducible refine c58.mono ?_); rintro e w' ⟨rfl, rfl⟩)
      refine hR.mono ?_
      rintro e W3 ⟨⟨rfl, hJ3⟩ | ⟨rfl, hJx3⟩, hk3⟩
      · gi_wp2
        go_end0
        exact ⟨⟨_, rfl⟩, .inl ⟨_, HC.out.symm, hJ3⟩⟩
      · gi_wp2
        go_end0
        exact ⟨⟨_, rfl⟩, .inr ⟨_, by rw [HC.out]; exact List.prefix_refl _, hJx3⟩⟩

theorem seq57 (m b : Nat) (L : List UInt8) (w : World) (hm : 1 ≤ m) (hL : L.length ≤ 2000) (hb : 0 < b) (hlt : b + 2 < w.heap.size) (h1 : w.cell? ⟨b, 0, none⟩ = some (.string (bs L))) (h2 : w.frozen? ⟨b, 0, none⟩ = false) (h3 : w.cell? ⟨b + 1, 0, none⟩ = some (.string ⟨#[32]⟩)) (h4 : w.cell? ⟨b + 2, 0, none⟩ = some (.int .i64 0)) (hM : ML w) :
    SeqOwn Fence.wide m Tryz.prog 90 #[.pointer (some ⟨b + 1, 0, none⟩), .pointer (some ⟨b, 0, none⟩), .pointer (some ⟨b + 2, 0, none⟩)] (fun x : List UInt8 => #[.string (bs x)]) (fun x W => x.length ≤ 2000 ∧ w.heap.size + 2 ≤ W.heap.size)
      (fun k => k = 0 ∨ (b ≤ k ∧ k < w.heap.size + 2)) b (b + 1) (fun ys => ys = cutAll 32 L) (fun pre => pre <+: cutAll 32 L) 4000 w := by
  intro l J Jx W hW hsz hJ _ hY h0
  refine iter57 m l b (w.heap.size + 2) L _ hm hL hb J Jx (fun s W v h => hJ s W _ (some b) h (grownBy_setCell' W b v) (fun r e => by cases e; exact .inl ⟨Nat.le_refl _, Nat.lt_succ_self _⟩)) (fun pre x W1 hj hx hl => hY pre x W1 hj hx hl) W
    ⟨.inl rfl, by omega, by omega⟩ ⟨.inr ⟨by omega, by omega⟩, by omega, by omega⟩ ⟨.inr ⟨by omega, by omega⟩, by omega, by omega⟩ ⟨.inr ⟨by omega, by omega⟩, by omega, by omega⟩ ?_
  exact ⟨[], L, (hW.cell (p := ⟨b, 0, none⟩) (by show b < _; omega)).trans h1, (hW.frozen (p := ⟨b, 0, none⟩) (by show b < _; omega)).trans h2, (hW.cell (p := ⟨b + 1, 0, none⟩) (by show b + 1 < _; omega)).trans h3, (hW.cell (p := ⟨b + 2, 0, none⟩) (by show b + 2 < _; omega)).trans h4, hM.below hW, by simp, by simp, h0, by omega⟩
end Go.Proofs.YtkcpnnfbhcklpaaGreatDoor
