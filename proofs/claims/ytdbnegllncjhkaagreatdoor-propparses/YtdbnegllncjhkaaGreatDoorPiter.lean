/- Going through the spans of a table, where who goes through owns what may move. -/
/- What the program's Points hands back, and going through it. -/
/- Going through the code points of a value. -/
import Derived.Test.YtdbnegllncjhkaaGreatDoorNxt
import Derived.Test.YtdbnegllncjhkaaGreatDoorIter
import Derived.Test.YtdbnegllncjhkaaGreatDoorBox
import Derived.Test.YtdbnegllncjhkaaGreatDoorHas
import Derived.Laws.EntriesVeiled
import Derived.Scope
import Derived.ControlIn
namespace Go.Proofs.YtdbnegllncjhkaaGreatDoor
open Go.RowKit Go.Shelf
attribute [local go_sem] Oper.semAt_some

theorem SAt.hold {A' : World → Nat → Prop} {w w' : World} {A : Option Addr} {n : Nat} {ls : List Sp} (h : SAt w A n ls) (hk : Hold A' w w') (hA : 0 < n → ∀ a, A = some a → A' w a.block) : SAt w' A n ls := by
  refine ⟨h.1, fun hn => ?_⟩
  obtain ⟨b, off, rfl, hlt, hc⟩ := h.2 hn
  have hb := hA hn _ rfl
  refine ⟨b, off, rfl, Nat.lt_of_lt_of_le hlt hk.1, fun j s hj => ?_⟩
  obtain ⟨h1, h2, h3⟩ := hc j s hj
  exact ⟨hk.cell (a := ⟨b, _, none⟩) hb h1, hk.cell (a := ⟨b, _, none⟩) hb h2, hk.cell (a := ⟨b, _, none⟩) hb h3⟩
def FRel (ls : List Sp) (B : Option Addr) (n N0 : Nat) (A : World → Nat → Prop) (J : List Sp → World → Prop) (i : Value) (wr : World) : Prop :=
  ∃ k : Nat, i = .int .i64 k ∧ k ≤ n ∧ J (ls.take k) wr ∧ SAt wr B n ls ∧ N0 ≤ wr.heap.size ∧ (0 < n → ∀ a, B = some a → a.block < wr.heap.size ∧ A wr a.block)
set_option maxRecDepth 100000 in
set_option maxHeartbeats 4000000 in
theorem fiter55 (m l b n c N0 : Nat) (P0 : Option Addr) (ls : List Sp) (A : World → Nat → Prop) (hL : Lets A) (hm : 1 ≤ m) (hn : n ≤ 100000) (J Jx : List Sp → World → Prop) (hJb : ∀ s W W', J s W → Below W.heap.size W W' → J s W')
    (hY : ∀ pre x W, J pre W → x ∈ ls ∧ N0 ≤ W.heap.size → pre.length < 100001 → YieldAt Fence.wide (m - 1) Tryz.prog l (spArr x) W fun e W' =>
      ((e = .returned (.bool true) ∧ J (pre ++ [x]) W') ∨ (e = .returned (.bool false) ∧ Jx (pre ++ [x]) W')) ∧ Hold A W W')
    (W : World) (hBs : W.cell? ⟨b, 0, none⟩ = some (.slice P0 n c)) (hS : SAt W P0 n ls) (hP : 0 < n → ∀ a, P0 = some a → a.block < W.heap.size ∧ A W a.block) (hN0 : N0 ≤ W.heap.size) (h0 : J [] W) :
    CallsIn Fence.wide m Tryz.prog 82 #[.func (.yield l) #[] #[], .pointer (some ⟨b, 0, none⟩)] W fun e W' => (∃ v, e = .returned v) ∧
      ((∃ ys, ys = ls ∧ J ys W') ∨ (∃ pre, pre <+: ls ∧ Jx pre W')) := by
  refine callsIn_of_wp Tryz.func82 rfl trivial ?_ rfl
  simp only [Tryz.ntmps82, List.size_toArray, List.length_cons, List.length_nil, Nat.reduceAdd, Nat.reduceSub, Array.replicate_succ, Array.replicate_zero, List.push_toArray, List.append_toArray, List.nil_append, List.cons_append]
  have HYY := Lib.hid hY
  have HJB := Lib.hid hJb
  have HL := Lib.hid hS.1
  have HLE := Lib.hid hL
  have H0 : Hid (FRel ls P0 n N0 A J (.int .i64 (0 : Nat)) W) := Lib.hid ⟨0, rfl, Nat.zero_le _, by rw [List.take_zero]; exact h0, hS, hN0, hP⟩
  clear hY hJb hS h0 hP hN0 hL
  gi_wp2
  gi_loopw [7] (fun i wr => FRel ls P0 n N0 A J i wr) (fun i _ => n - (intOf i).toNat)
  case atStart => exact H0.out
  case round =>
    clear hBs H0
    obtain ⟨k, rfl, hkn, hJr, hSr, hNr, hAr⟩ := hrel
    by_cases hlt : k < n
    · obtain ⟨b2, off, rfl, hb2, hc⟩ := hSr.2 (by omega)
      obtain ⟨s, hs⟩ := getSp (ls := ls) (k := k) (by rw [HL.out]; exact hlt)
      obtain ⟨h1, h2, h3⟩ := hc k s hs
      have hlen : (ls.take k).length < 100001 := by rw [List.length_take, HL.out]; omega
      have hY2 := fun o => HYY.out (ls.take k) s (wr.alloc o) (HJB.out _ _ _ hJr ((Below.refl _ _).alloc (Nat.le_refl _) _)) ⟨List.mem_of_getElem? hs, by rw [World.size_alloc]; omega⟩ hlen
      unfold spArr spV at hY2
      have hend : ∀ o W3, Hold A (wr.alloc o) W3 → J (ls.take k ++ [s]) W3 → FRel ls (some ⟨b2, off, none⟩) n N0 A J (.int .i64 ((k : Int) + 1)) W3 := by
        intro o W3 hk hj
        have hbo : Below wr.heap.size wr (wr.alloc o) := (Below.refl _ _).alloc (Nat.le_refl _) o
        have hA2 : ∀ a, (some ⟨b2, off, none⟩ : Option Addr) = some a → A (wr.alloc o) a.block := fun a e => HLE.out.below (hAr (by omega) a e).2 hbo
        refine ⟨k + 1, by go_num, by omega, by rw [take_snoc' hs]; exact hj, (hSr.below hbo).hold hk (fun _ => hA2), by have := hk.1; rw [World.size_alloc] at this; omega, fun _ a e => ?_⟩
        have q := hk.2 a.block (hA2 a e) (by rw [World.size_alloc]; have := (hAr (by omega) a e).1; omega)
        exact ⟨Nat.lt_of_lt_of_le (by rw [World.size_alloc]; have := (hAr (by omega) a e).1; omega) hk.1, q.2⟩
      have HST : Hid (ls.take k ++ [s] <+: ls) := Lib.hid (by rw [← take_snoc' hs]; exact pre_take)
      have HE := Lib.hid hend
      have HY2 := Lib.hid hY2
      obtain ⟨T, hT⟩ : ∃ T, bs s.v = T := ⟨_, rfl⟩
      rw [hT] at h3 HY2
      clear hend hY2 hc hs hJr hSr hNr hT hlen hAr
      obtain ⟨fn, tmps, assign, body, hy, hR⟩ := HY2.out (.cells #[.int .i64 s.a, .int .i64 s.b, .string T] 59)
      gi_wp2
      refine hR.mono ?_
      rintro e W3 ⟨⟨rfl, hJ3⟩ | ⟨rfl, hJx3⟩, hk3⟩
      · have R := Lib.hid (HE.out _ W3 hk3 hJ3)
        clear HE
        gi_wp2
        go_roundw
        case rel => exact R.out
        case measure => simp [intOf]; omega
      · gi_wp2
        refine bodyPost_ret (results_none rfl _ _ _) rfl ?_
        exact ⟨⟨_, rfl⟩, .inr ⟨_, HST.out, hJx3⟩⟩
    · have hke : k = n := by omega
      subst hke
      rw [List.take_of_length_le (by rw [HL.out]; exact Nat.le_refl _)] at hJr
      have HJ3 := Lib.hid hJr
      clear hJr hSr hAr
      gi_wp2
      go_end0
      exact ⟨⟨_, rfl⟩, .inl ⟨_, rfl, HJ3.out⟩⟩
theorem fseq55 (m b n c : Nat) (P0 : Option Addr) (ls : List Sp) (A : World → Nat → Prop) (w : World) (hL : Lets A) (hm : 1 ≤ m) (hn : n ≤ 100000) (hb : b < w.heap.size) (hBs : w.cell? ⟨b, 0, none⟩ = some (.slice P0 n c)) (hS : SAt w P0 n ls)
    (hP : 0 < n → ∀ a, P0 = some a → A w a.block) :
    SeqFree Fence.wide m Tryz.prog 82 #[.pointer (some ⟨b, 0, none⟩)] spArr (fun x W => x ∈ ls ∧ w.heap.size + 2 ≤ W.heap.size) A (fun ys => ys = ls) (fun pre => pre <+: ls) 100001 w :=
  fun l J Jx W hW hsz hJ _ _ hY h0 =>
    fiter55 m l b n c (w.heap.size + 2) P0 ls _ (hL.and _) hm hn J Jx (fun _ _ _ h hb => hJ.below h hb) (fun pre x W1 hj hx hl => hY pre x W1 hj hx hl) W ((hW.cell (p := ⟨b, 0, none⟩) hb).trans hBs) (hS.below hW)
      (fun h a e => have hlt := hS.lt h a e; ⟨by omega, hL.below (hP h a e) hW, by omega, by omega⟩) (by omega) h0
end Go.Proofs.YtdbnegllncjhkaaGreatDoor

namespace Go.Proofs.YtdbnegllncjhkaaGreatDoor
open Go.RowKit Go.Shelf
attribute [local go_sem] Oper.semAt_some

theorem pts_snoc (pre : List Sp) (x : Sp) (v : List UInt8) : pointsOf (pre ++ [x]) v = pointsOf pre v ++ (if v ≠ [] ∧ x.v = v then upTo x.a x.b else []) := by
  unfold pointsOf
  by_cases h : v = []
  · rw [if_pos h, if_pos h, if_neg (by simp [h])]; rfl
  · rw [if_neg h, if_neg h, List.flatMap_append]
    by_cases h2 : x.v = v
    · rw [if_pos ⟨h, h2⟩]; simp [h2]
    · rw [if_neg (fun e => h2 e.2)]; simp [h2]
theorem pts_no {pre : List Sp} {x : Sp} {v : List UInt8} (h : ¬ x.v = v) : pointsOf (pre ++ [x]) v = pointsOf pre v := by rw [pts_snoc, if_neg (fun e => h e.2), List.append_nil]
theorem pts_yes {pre : List Sp} {x : Sp} {v : List UInt8} (h : x.v = v) (hv : x.v ≠ []) : pointsOf (pre ++ [x]) v = pointsOf pre v ++ upTo x.a x.b := by rw [pts_snoc, if_pos ⟨fun e => hv (by rw [h]; exact e), h⟩]
theorem pts_pre {pre r : List Sp} (v : List UInt8) (h : pre <+: r) : pointsOf pre v <+: pointsOf r v := by
  obtain ⟨t, rfl⟩ := h
  unfold pointsOf
  by_cases h : v = []
  · rw [if_pos h, if_pos h]; exact List.prefix_refl _
  · rw [if_neg h, if_neg h, List.flatMap_append]; exact List.prefix_append _ _
theorem upTo_length (a b : Int) : (upTo a b).length = (b + 1 - a).toNat := by unfold upTo; simp
theorem pts_length {v : List UInt8} : ∀ (l : List Sp), (∀ s ∈ l, Fit s) → (pointsOf l v).length ≤ l.length * 1114112
  | [], _ => by rw [points_nil]; exact Nat.zero_le _
  | s :: l, h => by
    by_cases hv : v = []
    · rw [hv, points_empty]; exact Nat.zero_le _
    · rw [points_cons s l v hv, List.length_append, List.length_cons]
      have ih := pts_length (v := v) l (fun t ht => h t (List.mem_cons_of_mem _ ht))
      obtain ⟨f1, f2, f3, -⟩ := h s (List.mem_cons_self ..)
      have : (if s.v = v then upTo s.a s.b else []).length ≤ 1114112 := by
        split
        · rw [upTo_length]; omega
        · simp
      omega
theorem upTo_get {a b : Int} {j : Nat} (h : a + j ≤ b) : (upTo a b)[j]? = some (a + j) := by
  unfold upTo
  rw [List.getElem?_map, List.getElem?_range (by omega)]
  rfl
theorem upTo_take {a b : Int} {j : Nat} (h : a + j ≤ b) : (upTo a b).take (j + 1) = (upTo a b).take j ++ [a + (j : Int)] := by
  have hg := List.getElem?_eq_some_iff.1 (upTo_get h)
  rw [List.take_succ_eq_append_getElem hg.1, hg.2]
theorem upTo_all {a b : Int} {j : Nat} (h : b < a + j) : (upTo a b).take j = upTo a b := List.take_of_length_le (by rw [upTo_length]; omega)
theorem round_any {m m' lq : Nat} {P : Program} {l : Nat} {f : FuncId} {tmps : Array Value} {assign body : Code} {w : World} {R : Ending → World → Prop} (h : RoundIn Fence.wide m P l f tmps assign body w R) : RoundIn (Fence.wide.inRound lq) m' P l f tmps assign body w R := ⟨h.1, fun c cs _ => h.2 c cs (room_wide _)⟩

def PtsPost (r : List Sp) (A : Option Addr) (c : Nat) (V : ByteArray) (w : World) (e : Ending) (w' : World) : Prop :=
  Below w.heap.size w w' ∧ ∃ B0 B1 b, e = .returned (.func (.func 56) #[] #[.pointer (some ⟨B0, 0, none⟩), .pointer (some ⟨B1, 0, none⟩)]) ∧ (w.heap.size ≤ B0 ∧ B0 < w'.heap.size) ∧ (w.heap.size ≤ B1 ∧ B1 < w'.heap.size) ∧ (w.heap.size ≤ b ∧ b < w'.heap.size) ∧
    w'.cell? ⟨B0, 0, none⟩ = some (.func (.func 82) #[] #[.pointer (some ⟨b, 0, none⟩)]) ∧ w'.cell? ⟨B1, 0, none⟩ = some (.string V) ∧ w'.cell? ⟨b, 0, none⟩ = some (.slice A r.length c) ∧ SAt w' A r.length r
set_option maxRecDepth 100000 in
set_option maxHeartbeats 2000000 in
theorem points22 (p A : Option Addr) (c : Nat) (r : List Sp) (V : ByteArray) (w : World) (hT : TIn w p A c r) : Calls Tryz.prog 32 #[.pointer p, .string V] w (PtsPost r A c V w) := by
  have hb0 : Below w.heap.size w (w.alloc (.cells #[.string V] 9)) := (Below.refl _ _).alloc (Nat.le_refl _) _
  have n0 := box_new w (.string V) 9
  have s0 : (w.alloc (.cells #[.string V] 9)).heap.size = w.heap.size + 1 := by simp
  have c32 := all32 p A c r _ (hT.below hb0)
  clear hT
  have N0 := Lib.hid n0.1
  have HB0 := Lib.hid hb0
  have HS0 := Lib.hid s0
  clear n0 hb0 s0
  go_enter Tryz.func32, Tryz.ntmps32
  go_wp2_with (go_at_call 30; (with_reducible refine c32.mono ?_); rintro e w1 ⟨hb1, b, rfl, hB1, hB2, hBc, hS1⟩; have h1 := Lib.hid hS1; have h2 := Lib.hid hBc; clear hS1 hBc)
  go_ret
  have s0 := HS0.out
  have s1 := hb1.size
  have b2 : Below w1.heap.size w1 (w1.alloc (.cells #[.func (.func 82) #[] #[.pointer (some ⟨b, 0, none⟩)]] 75)) := (Below.refl _ _).alloc (Nat.le_refl _) _
  have k1 := (hb1.cell (p := ⟨w.heap.size, 0, none⟩) (by show w.heap.size < _; omega)).trans N0.out
  exact ⟨HB0.out.trans ((hb1.trans (b2.mono hb1.size)).mono HB0.out.size), w1.heap.size, w.heap.size, b, rfl, ⟨by omega, by simp⟩, ⟨Nat.le_refl _, by simp; omega⟩, ⟨by omega, by simp; omega⟩, by simp, (b2.cell (p := ⟨w.heap.size, 0, none⟩) (by show w.heap.size < _; omega)).trans k1, (b2.cell (p := ⟨b, 0, none⟩) hB2).trans h2.out, h1.out.below b2⟩
end Go.Proofs.YtdbnegllncjhkaaGreatDoor

namespace Go.Proofs.YtdbnegllncjhkaaGreatDoor
open Go.RowKit Go.Shelf
attribute [local go_sem] Oper.semAt_some

def ptArr (x : Int) : Array Value := #[.int .i64 x]
/-- What a round over the spans must find as it was: who is called, and the value. -/
def PKeep (A : World → Nat → Prop) (N0 l yb B1 : Nat) (V : ByteArray) (W : World) : Prop :=
  (W.cell? ⟨yb, 0, none⟩ = some (.func (.yield l) #[] #[]) ∧ A W yb) ∧ ((W.cell? ⟨B1, 0, none⟩ = some (.string V) ∧ A W B1) ∧ N0 ≤ W.heap.size)
theorem pkeep_abide {β : Type} {A : World → Nat → Prop} (hL : Lets A) (N0 l yb B1 B : Nat) (V : ByteArray) : Abide 0 0 B (fun (_ : β) W => PKeep A N0 l yb B1 V W) :=
  Abide.and (Abide.and (cell_abide _ _) (hL.abide yb _)) (Abide.and (Abide.and (cell_abide _ _) (hL.abide B1 _)) (fun _ _ _ _ h hg _ => Nat.le_trans h hg.size))
theorem PKeep.hold {A : World → Nat → Prop} {N0 l yb B1 : Nat} {V : ByteArray} {W W' : World} (h : PKeep A N0 l yb B1 V W) (hk : Hold A W W') : PKeep A N0 l yb B1 V W' :=
  ⟨⟨hk.cell (a := ⟨yb, 0, none⟩) h.1.2 h.1.1, (hk.2 yb h.1.2 (World.block_lt_of_cell? W _ h.1.1)).2⟩, ⟨hk.cell (a := ⟨B1, 0, none⟩) h.2.1.2 h.2.1.1, (hk.2 B1 h.2.1.2 (World.block_lt_of_cell? W _ h.2.1.1)).2⟩, Nat.le_trans h.2.2 hk.1⟩
def PI (r : List Sp) (v : List UInt8) (A : World → Nat → Prop) (N0 l yb B1 : Nat) (V : ByteArray) (J : List Int → World → Prop) (pre : List Sp) (W : World) : Prop :=
  ((∀ s ∈ pre, s ∈ r) ∧ J (pointsOf pre v) W) ∧ PKeep A N0 l yb B1 V W
def PX (v : List UInt8) (Jx : List Int → World → Prop) (c : Code) (pre : List Sp) (W : World) : Prop := c = .exit 0 ∧ ∃ xs, xs <+: pointsOf pre v ∧ Jx xs W
theorem pi_abide {r : List Sp} {v : List UInt8} {A : World → Nat → Prop} (hL : Lets A) {N0 l yb B1 B C : Nat} {V : ByteArray} {J : List Int → World → Prop} (hB : B ≤ C) (h : Abide 0 0 B J) : Abide 0 0 C (PI r v A N0 l yb B1 V J) :=
  Abide.and (fun s W W' row hs hg hr => ⟨hs.1, h.mono (fun _ _ h => absurd h (by omega)) hB _ W W' row hs.2 hg hr⟩) (pkeep_abide hL N0 l yb B1 C V)
theorem px_abide {v : List UInt8} {Jx : List Int → World → Prop} {B C : Nat} (hB : B ≤ C) (h : Abide 0 0 B Jx) (c : Code) : Abide 0 0 C (PX v Jx c) := by
  intro s W W' row hs hg hr
  obtain ⟨e, xs, h1, h3⟩ := hs
  exact ⟨e, xs, h1, h.mono (fun _ _ h => absurd h (by omega)) hB xs W W' row h3 hg hr⟩
/-- The loop's variable, a span, in a block that is kept. -/
def PBox (A : World → Nat → Prop) (x : Sp) (b : Nat) (W : World) : Prop := SpBox x b W ∧ A W b
theorem pbox_abide {A : World → Nat → Prop} (hL : Lets A) (x : Sp) (b B : Nat) : Abide 0 0 B (fun (_ : Unit) W => PBox A x b W) := Abide.and (spBox_abide x b B) (hL.abide b _)
theorem PBox.hold {A : World → Nat → Prop} {x : Sp} {b : Nat} {W W' : World} (h : PBox A x b W) (hk : Hold A W W') : PBox A x b W' :=
  ⟨⟨hk.cell (a := ⟨b, 0, none⟩) h.2 h.1.1, hk.cell (a := ⟨b, 1, none⟩) h.2 h.1.2.1, hk.cell (a := ⟨b, 2, none⟩) h.2 h.1.2.2⟩, (hk.2 b h.2 (World.block_lt_of_cell? W _ h.1.1)).2⟩
theorem leave36 {R : Ending → World → Prop} {Wf : World} {D m : Nat} {tmps : Array Value} (hk : Wf.heap[D]? = some (.deferred (some []))) (h : R (.returned (.tuple #[])) (Wf.putObj D (.deferred none))) :
    LeavesInM Fence.wide m Tryz.prog Tryz.f56 tmps R [{ target := .collected D, args := #[] }] .returning Wf := by
  refine ⟨by simp, .inl ⟨_, _, rfl, run_takeDeferred hk, ?_⟩⟩
  refine ⟨.tuple #[], ?_, h⟩
  simp [results, go_sem]
/-- In the midst of one span. -/
def PRel (A : World → Nat → Prop) (x : Sp) (b N0 l yb B1 : Nat) (V : ByteArray) (ps : List Int) (Wb : World) (J : List Int → World → Prop) (i : Value) (wr : World) : Prop :=
  ∃ j : Nat, i = .int .i64 (x.a + j) ∧ x.a + j ≤ x.b + 1 ∧ J (ps ++ (upTo x.a x.b).take j) wr ∧ PKeep A N0 l yb B1 V wr ∧ PBox A x b wr ∧ Hold A Wb wr

set_option maxRecDepth 100000 in
set_option maxHeartbeats 4000000 in
theorem piter36 (m B0 B1 b c : Nat) (P0 : Option Addr) (r : List Sp) (v : List UInt8) (A : World → Nat → Prop) (w : World) (hL : Lets A) (hm : 5 ≤ m) (hn : r.length ≤ 100000) (hg : Good r) (hB0 : B0 < w.heap.size) (hB1 : B1 < w.heap.size) (hb : b < w.heap.size)
    (h0 : w.cell? ⟨B0, 0, none⟩ = some (.func (.func 82) #[] #[.pointer (some ⟨b, 0, none⟩)])) (h1 : w.cell? ⟨B1, 0, none⟩ = some (.string (bs v))) (h2 : w.cell? ⟨b, 0, none⟩ = some (.slice P0 r.length c)) (hS : SAt w P0 r.length r)
    (hA1 : A w B1) (hP : 0 < r.length → ∀ a, P0 = some a → A w a.block) :
    SeqFree Fence.wide m Tryz.prog 56 #[.pointer (some ⟨B0, 0, none⟩), .pointer (some ⟨B1, 0, none⟩)] ptArr (fun _ W => w.heap.size + 2 ≤ W.heap.size) A (fun xs => xs = pointsOf r v) (fun pre => pre <+: pointsOf r v) 200000000000 w := by
  intro l J Jx W hW hsz hJ hJx hfree hY hJ0
  obtain ⟨V, hV⟩ : ∃ V, bs v = V := ⟨_, rfl⟩
  have hbw : Below W.heap.size W (W.alloc (.cells #[.func (.yield l) #[] #[]] 110)) := (Below.refl _ _).alloc (Nat.le_refl _) _
  have bw2 : Below w.heap.size w (W.alloc (.cells #[.func (.yield l) #[] #[]] 110)) := hW.trans (hbw.mono hW.size)
  have hL' : Lets (fun W k => A W k ∧ k ≠ w.heap.size ∧ k ≠ w.heap.size + 1) := hL.and _
  have hq := fseq55 (m - 1) b r.length c P0 r (fun W k => A W k ∧ k ≠ w.heap.size ∧ k ≠ w.heap.size + 1) (W.alloc (.cells #[.func (.yield l) #[] #[]] 110)) hL' (by omega) (by omega) (by have := bw2.size; omega) ((bw2.cell (p := ⟨b, 0, none⟩) hb).trans h2) (hS.below bw2)
    (fun h a e => have hlt := hS.lt h a e; ⟨hL.below (hP h a e) bw2, by omega, by omega⟩)
  have hyb : (W.alloc (.cells #[.func (.yield l) #[] #[]] 110)).cell? ⟨W.heap.size, 0, none⟩ = some (.func (.yield l) #[] #[]) := by simp
  have hsz2 : (W.alloc (.cells #[.func (.yield l) #[] #[]] 110)).heap.size = w.heap.size + 3 := by simp; omega
  have hJ2 : J [] (W.alloc (.cells #[.func (.yield l) #[] #[]] 110)) := hJ.below hJ0 hbw
  have hkeep : PKeep (fun W k => A W k ∧ k ≠ w.heap.size ∧ k ≠ w.heap.size + 1) (w.heap.size + 2) l W.heap.size B1 (bs v) (W.alloc (.cells #[.func (.yield l) #[] #[]] 110)) :=
    ⟨⟨hyb, hL.below (hfree _ _ hJ0 _ (Nat.le_refl _)) hbw, by omega, by omega⟩, ⟨(bw2.cell (p := ⟨B1, 0, none⟩) hB1).trans h1, hL.below hA1 bw2, by omega, by omega⟩, by omega⟩
  have hc0 : (W.alloc (.cells #[.func (.yield l) #[] #[]] 110)).cell? ⟨B0, 0, none⟩ = some (.func (.func 82) #[] #[.pointer (some ⟨b, 0, none⟩)]) := (bw2.cell (p := ⟨B0, 0, none⟩) hB0).trans h0
  rw [hV] at hkeep
  refine callsIn_of_wp_marks Tryz.func56 rfl trivial ?_ rfl
  simp only [Tryz.ntmps56, List.size_toArray, List.length_cons, List.length_nil, Nat.reduceAdd, Nat.reduceSub, Array.replicate_succ, Array.replicate_zero, List.push_toArray, List.append_toArray, List.nil_append, List.cons_append]
  have HQ := Lib.hid hq
  have HJ := Lib.hid hJ
  have HJx := Lib.hid hJx
  have HYY := Lib.hid hY
  have HFR := Lib.hid hfree
  have HG := Lib.hid hg
  have HL := Lib.hid hL
  have HL' := Lib.hid hL'
  have HSZ := Lib.hid hsz
  have HKP := Lib.hid hkeep
  have HJ2 := Lib.hid hJ2
  have HV := Lib.hid hV
  have HN := Lib.hid hn
  clear hq hJ hJx hY hfree hg hL hL' hsz hkeep hJ2 hV h0 h1 h2 hS hP hA1 hJ0 hyb hn
  gi_wp2
  obtain ⟨W2, hW2⟩ : ∃ W2, W.alloc (.cells #[.func (.yield l) #[] #[]] 110) = W2 := ⟨_, rfl⟩
  rw [hW2] at HQ hsz2 HJ2 HKP hbw bw2 hc0 ⊢
  clear hW2
  have HSZ2 := Lib.hid hsz2
  clear hsz2
  refine wpIn_wide.2 (wp_scope_straight ((wpIn_wide (n := m)).1 ?_))
  refine wpIn_seq ?_
  refine wpIn_label ?_
  gi_wp2
  refine range_free2 rfl (by omega) rfl trivial (enters_of Tryz.func82 (by kernel_rfl) rfl) HQ.out HL'.out (fun _ => rfl) (fun x _ W1 W2 row hs hg hr => ⟨hs.1, Nat.le_trans hs.2 hg.size⟩)
    (PI r v (fun W k => A W k ∧ k ≠ w.heap.size ∧ k ≠ w.heap.size + 1) (w.heap.size + 2) l W.heap.size B1 V J) (PX v Jx) (pi_abide HL'.out (by have := HSZ2.out; have := HSZ.out; omega) HJ.out) (px_abide (by have := HSZ2.out; have := HSZ.out; omega) HJx.out)
    (fun s X hs k hk => ⟨HFR.out _ _ hs.1.2 k hk, by have := hs.2.2.2; omega, by have := hs.2.2.2; omega⟩) ⟨⟨(fun s h => by cases h), (by rw [points_nil]; exact HJ2.out)⟩, HKP.out⟩ (PBox (fun W k => A W k ∧ k ≠ w.heap.size ∧ k ≠ w.heap.size + 1)) (fun x b => pbox_abide HL'.out x b _) ?a1 ?assign ?body ?done ?stop
  case assign =>
    rintro lq pre x W' K hi hr hK
    simp only [spArr, spV]
    gi_wp2
    obtain ⟨b', hb'⟩ : ∃ b', W'.heap.size = b' := ⟨_, rfl⟩
    rw [hb']
    have hbo : ∀ o, Below W'.heap.size W' (W'.alloc o) := fun o => (Below.refl _ _).alloc (Nat.le_refl _) o
    refine hK b' _ (Hold.of_below HL'.out (hbo _)) ((pi_abide HL'.out (Nat.le_refl _) HJ.out).below hi (hbo _)) ⟨hr.1, Nat.le_trans hr.2 (by simp)⟩ ?_
    rw [← hb']
    exact ⟨spBox_new x W' _, HL'.out.below ⟨HFR.out _ _ hi.1.2 _ (Nat.le_refl _), by have := hi.2.2.2; omega, by have := hi.2.2.2; omega⟩ (hbo _)⟩
  case body =>
    rintro lq pre x b' Wb ⟨⟨hin, hJb⟩, hkp⟩ hr hbx hlen
    obtain ⟨f1, f2, f3, f4⟩ := HG.out.2 x hr.1
    have hin2 : ∀ s ∈ pre ++ [x], s ∈ r := fun s hs => by
      rcases List.mem_append.1 hs with h | h
      · exact hin s h
      · rw [List.mem_singleton.1 h]; exact hr.1
    obtain ⟨⟨b0, b1, b2⟩, hab⟩ := id hbx
    obtain ⟨⟨y0, hya⟩, ⟨v0, hva⟩, hNW⟩ := id hkp
    have heq := bs_eq x.v v
    rw [HV.out] at heq
    by_cases hxv : x.v = v
    · have hps := pts_yes (pre := pre) hxv f4
      have hTV : bs x.v = V := by rw [hxv]; exact HV.out
      rw [hTV] at b2
      have hplen := pts_length (v := v) pre (fun s hs => HG.out.2 s (hin s hs))
      have hbound : ∀ j : Nat, x.a + j ≤ x.b → (pointsOf pre v ++ (upTo x.a x.b).take j).length < 200000000000 := fun j hj => by
        rw [List.length_append, List.length_take]
        omega
      have H0 : Hid (PRel (fun W k => A W k ∧ k ≠ w.heap.size ∧ k ≠ w.heap.size + 1) x b' (w.heap.size + 2) l W.heap.size B1 V (pointsOf pre v) Wb J (.int .i64 x.a) Wb) := Lib.hid ⟨0, by simp, by omega, by simpa using hJb, hkp, hbx, Hold.refl _ _⟩
      have HPS := Lib.hid hps
      have HBD := Lib.hid hbound
      have HIN2 := Lib.hid hin2
      clear hps hplen hbound hin2 heq hTV hJb hkp hbx hin hr hab hya hva hNW hlen hxv
      gi_wp2
      gi_loopw [5] (fun i wr => PRel (fun W k => A W k ∧ k ≠ w.heap.size ∧ k ≠ w.heap.size + 1) x b' (w.heap.size + 2) l W.heap.size B1 V (pointsOf pre v) Wb J i wr) (fun i _ => (x.b + 1 - intOf i).toNat)
      case atStart => exact H0.out
      case round =>
        clear b0 b1 b2 y0 v0 H0
        obtain ⟨j, rfl, hj, hJr, hkr, hbr, hHr⟩ := hrel
        have y0 := hkr.1.1
        have b1 := hbr.1.2.1
        by_cases hle : x.a + j ≤ x.b
        · have hY2 := HYY.out (pointsOf pre v ++ (upTo x.a x.b).take j) (x.a + j) wr hJr hkr.2.2 (HBD.out j hle)
          have hstep : ∀ W3, Hold (fun W k => A W k ∧ k ≠ w.heap.size ∧ k ≠ w.heap.size + 1) wr W3 → J ((pointsOf pre v ++ (upTo x.a x.b).take j) ++ [x.a + (j : Int)]) W3 → PRel (fun W k => A W k ∧ k ≠ w.heap.size ∧ k ≠ w.heap.size + 1) x b' (w.heap.size + 2) l W.heap.size B1 V (pointsOf pre v) Wb J (.int .i64 (x.a + (j : Int) + 1)) W3 := fun W3 hk hJ3 =>
            ⟨j + 1, by rw [Int.add_assoc]; rfl, by omega, by rw [upTo_take hle, ← List.append_assoc]; exact hJ3, hkr.hold hk, hbr.hold hk, hHr.trans hk⟩
          have hstop : ∀ W3, Hold (fun W k => A W k ∧ k ≠ w.heap.size ∧ k ≠ w.heap.size + 1) wr W3 → Jx ((pointsOf pre v ++ (upTo x.a x.b).take j) ++ [x.a + (j : Int)]) W3 → Hold (fun W k => A W k ∧ k ≠ w.heap.size ∧ k ≠ w.heap.size + 1) Wb W3 ∧ PX v Jx (.exit 0) (pre ++ [x]) W3 := fun W3 hk hJ3 =>
            ⟨hHr.trans hk, rfl, _, by rw [HPS.out, List.append_assoc, ← upTo_take hle]; exact (List.prefix_append_right_inj _).2 (List.take_prefix _ _), hJ3⟩
          have HST := Lib.hid hstep
          have HSP := Lib.hid hstop
          clear hstep hstop hJr hkr hbr hHr
          unfold ptArr at hY2
          obtain ⟨fn, tmps, assign, body, hy, hR⟩ := hY2
          obtain ⟨C, hC⟩ : ∃ C, x.a + (j : Int) = C := ⟨_, rfl⟩
          rw [hC] at hy HST HSP hle hR hj ⊢
          have hC0 : 0 ≤ C := by omega
          clear hC
          gi_wp2
          refine ⟨fun _ => (by omega), (round_any hR).mono ?_⟩
          rintro e W3 ⟨⟨rfl, hJ3⟩ | ⟨rfl, hJx3⟩, hk3⟩
          · have R := Lib.hid (HST.out W3 hk3 hJ3)
            clear HST HSP
            gi_wp2
            go_roundw
            case rel => exact R.out
            case measure => simp [intOf]; omega
          · have R := Lib.hid (HSP.out W3 hk3 hJx3)
            clear HST HSP
            gi_wp2
            exact R.out
        · have hend : Hold (fun W k => A W k ∧ k ≠ w.heap.size ∧ k ≠ w.heap.size + 1) Wb wr ∧ PI r v (fun W k => A W k ∧ k ≠ w.heap.size ∧ k ≠ w.heap.size + 1) (w.heap.size + 2) l W.heap.size B1 V J (pre ++ [x]) wr := by
            refine ⟨hHr, ⟨HIN2.out, ?_⟩, hkr⟩
            rw [upTo_all (by omega)] at hJr
            rw [HPS.out]
            exact hJr
          have HE := Lib.hid hend
          obtain ⟨C, hC⟩ : ∃ C, x.a + (j : Int) = C := ⟨_, rfl⟩
          rw [hC] at hle hj ⊢
          have hlt : x.b < C := by omega
          clear hC hend hJr hkr hbr hHr
          gi_wp2
          exact HE.out
    · have hps := pts_no (pre := pre) hxv
      rw [decide_eq_false hxv] at heq
      have hne : ¬ (bs x.v).toList = V.toList := by
        intro e
        rw [e] at heq
        simp at heq
      have HE : Hid (Hold (fun W k => A W k ∧ k ≠ w.heap.size ∧ k ≠ w.heap.size + 1) Wb Wb ∧ PI r v (fun W k => A W k ∧ k ≠ w.heap.size ∧ k ≠ w.heap.size + 1) (w.heap.size + 2) l W.heap.size B1 V J (pre ++ [x]) Wb) := Lib.hid ⟨Hold.refl _ _, ⟨hin2, by rw [hps]; exact hJb⟩, hkp⟩
      obtain ⟨T, hT⟩ : ∃ T, bs x.v = T := ⟨_, rfl⟩
      rw [hT] at b2 heq hne
      clear hps hin2 hJb hkp hbx hin hr hab hya hva hNW hlen hT
      gi_wp2
      exact HE.out
  case done =>
    rintro D ys W3 hD hys ⟨⟨-, hJ3⟩, -⟩ hKD
    subst hys
    have hJ4 : J (pointsOf ys v) (W3.putObj D (.deferred none)) := HJ.out.put hJ3 (by have := HSZ2.out; have := HSZ.out; omega) hKD rfl
    have HJ4 := Lib.hid hJ4
    clear hJ4 hJ3
    gi_wp2
    exact leave36 hKD ⟨⟨_, rfl⟩, .inl ⟨_, rfl, HJ4.out⟩⟩
  case stop =>
    rintro D c' pre W3 hD hpre ⟨rfl, xs, hxs, hJ3⟩ hKD
    have hres : xs <+: pointsOf r v := hxs.trans (pts_pre v hpre)
    have hJ4 : Jx xs (W3.putObj D (.deferred none)) := HJx.out.put hJ3 (by have := HSZ2.out; have := HSZ.out; omega) hKD rfl
    have HR := Lib.hid hres
    have HJ4 := Lib.hid hJ4
    clear hres hJ4 hxs hpre hJ3
    gi_wp2
    exact leave36 hKD ⟨⟨_, rfl⟩, .inr ⟨xs, HR.out, HJ4.out⟩⟩
end Go.Proofs.YtdbnegllncjhkaaGreatDoor
