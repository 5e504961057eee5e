/- All of the program's table of confusables: what it hands back, gone through. -/
import Derived.Test.YtkcpnnfbhcklpaaGreatDoorCpro
import Derived.Test.YtkcpnnfbhcklpaaGreatDoorNxt
import Derived.LoopNIn
import Derived.LoopIn
import Derived.OwnWalkIn
import Derived.TacticsInMore
namespace Go.Proofs.YtkcpnnfbhcklpaaGreatDoor
open Go.RowKit Go.Shelf
attribute [local go_sem] Oper.semAt_some

/-- A source and its prototype, as All hands them over: the number, the slice, what it reads. -/
abbrev PpV := Int × (Option Addr × Nat) × List Int
def pview (x : PpV) : Pp := ⟨x.1, x.2.2⟩
def ppArr (x : PpV) : Array Value := #[.int .i64 x.1, .slice x.2.1.1 x.2.2.length x.2.1.2]
def PpRd (N0 : Nat) (x : PpV) (W : World) : Prop := Vals W x.2.1.1 x.2.2.length (nums .i64 x.2.2) ∧ (N0 ≤ W.heap.size ∧ x.2.2.length ≤ 1000)
theorem take_before {ps : List Pp} {j : Nat} {r : Pp} (hr : Rise ps) (h : ps[j]? = some r) : ∀ t ∈ ps.take j, t.c ≠ r.c := by
  have hj := (List.getElem?_eq_some_iff.1 h).1
  have e : ps[j] = r := (List.getElem?_eq_some_iff.1 h).2
  intro t ht
  have hs : ps.take j ++ ps.drop j = ps := List.take_append_drop j ps
  have hp : (ps.take j ++ ps.drop j).Pairwise (fun a b : Pp => a.c < b.c) := by rw [hs]; exact hr
  have := (List.pairwise_append.1 hp).2.2 t ht r (by rw [List.drop_eq_getElem_cons hj, e]; exact List.mem_cons_self ..)
  omega
theorem find_rise {ps : List Pp} {j : Nat} {r : Pp} (hr : Rise ps) (h : ps[j]? = some r) : findC ps r.c = j := find_first h rfl (take_before hr h)
theorem proto_at {p A : Option Addr} {k : Nat} {ps : List Pp} {W : World} {j : Nat} {r : Pp} (h : CTx W p A k ps) (hr : ps[j]? = some r) :
    Calls Tryz.prog 10 #[.pointer p, .int .i64 r.c] W fun e w' => ∃ A2 c2, e = .returned (.tuple #[.slice A2 r.p.length c2, .bool true]) ∧ Hid (Below W.heap.size W w' ∧ Vals w' A2 r.p.length (nums .i64 r.p)) := by
  refine (cproto10 p ps r.c W ⟨A, k, h⟩ (h.rise.2 r (List.mem_of_getElem? hr)).2).mono ?_
  have hf := find_rise h.rise.1 hr
  rintro e w' ⟨hb, ⟨h1, -⟩ | ⟨r', A2, c2, h1, -, rfl, hv⟩⟩
  · omega
  · rw [hf] at h1
    have h1' : ps[j]? = some r' := by simpa using h1
    rw [hr] at h1'
    cases h1'
    exact ⟨A2, c2, rfl, Lib.hid ⟨hb, hv⟩⟩
theorem take_pv {ps : List Pp} {j : Nat} {r : Pp} {xs : List PpV} {x : PpV} (hr : ps[j]? = some r) (hx : pview x = r) (h : xs.map pview = ps.take j) : (xs ++ [x]).map pview = ps.take (j + 1) := by
  have hlt := (List.getElem?_eq_some_iff.1 hr).1
  have e : ps[j] = r := (List.getElem?_eq_some_iff.1 hr).2
  rw [List.take_succ_eq_append_getElem hlt, e, List.map_append, h, ← hx]
  rfl
theorem Stays.kept {A' : Nat → Prop} {w0 w w' : World} (h : Stays w0 w) (hk : Kept A' w w') (hA : ∀ k, k < w0.heap.size → A' k) : Stays w0 w' :=
  ⟨Nat.le_trans h.1 hk.1, fun k hl => (hk.2 k (hA k hl) (Nat.lt_of_lt_of_le hl h.1)).trans (h.2 k hl)⟩
/-- Where the going through stands. -/
def AlRel (p : Option Addr) (ps : List Pp) (w0 : World) (bx N0 : Nat) (J : List PpV → World → Prop) (i : Value) (wr : World) : Prop :=
  ∃ (j : Nat) (xs : List PpV), (i = .int .i64 j ∧ j ≤ ps.length) ∧ xs.map pview = ps.take j ∧ J xs wr ∧ Stays w0 wr ∧ wr.cell? ⟨bx, 0, none⟩ = some (.pointer p) ∧ N0 ≤ wr.heap.size
set_option maxRecDepth 100000 in
set_option maxHeartbeats 4000000 in
theorem iter39 (m l bx N0 k : Nat) (p A0 : Option Addr) (ps : List Pp) (w0 : World) (hT : CTx w0 p A0 k ps) (A : Nat → Prop) (hm : 1 ≤ m) (hn : ps.length ≤ 100000) (J Jx : List PpV → World → Prop) (hJb : ∀ s W W', J s W → Below W.heap.size W W' → J s W')
    (hY : ∀ pre x W, J pre W → PpRd N0 x W → (pre ++ [x]).map pview <+: ps → YieldAt Fence.wide (m - 1) Tryz.prog l (ppArr x) W fun e W' =>
      ((e = .returned (.bool true) ∧ J (pre ++ [x]) W') ∨ (e = .returned (.bool false) ∧ Jx (pre ++ [x]) W')) ∧ Kept A W W')
    (W : World) (hBs : W.cell? ⟨bx, 0, none⟩ = some (.pointer p)) (hS : Stays w0 W) (hAb : A bx) (hA : ∀ k, k < w0.heap.size → A k) (hN0 : N0 ≤ W.heap.size) (h0 : J [] W) :
    CallsIn Fence.wide m Tryz.prog 39 #[.func (.yield l) #[] #[], .pointer (some ⟨bx, 0, none⟩)] W fun e W' => (∃ v, e = .returned v) ∧
      ((∃ ys : List PpV, ys.map pview = ps ∧ J ys W') ∨ (∃ pre : List PpV, pre.map pview <+: ps ∧ Jx pre W')) := by
  have c26 := callsIn_wide (n := m - 1) |>.2 (list26 p A0 k ps W (hT.stays hS))
  have HYY := Lib.hid hY
  have HJB := Lib.hid hJb
  have HT := Lib.hid hT
  have HA := Lib.hid hA
  have HAB := Lib.hid hAb
  have H0 : Hid (AlRel p ps w0 bx N0 J (.int .i64 (0 : Nat)) W) := Lib.hid ⟨0, [], ⟨rfl, Nat.zero_le _⟩, rfl, h0, hS, hBs, hN0⟩
  obtain ⟨n, hnn⟩ : ∃ n, ps.length = n := ⟨_, rfl⟩
  rw [hnn] at c26 hn
  have HN := Lib.hid hnn
  clear hY hJb hS h0 hN0 hAb hT hA hnn
  refine callsIn_of_wp Tryz.func39 rfl trivial ?_ rfl
  simp only [Tryz.ntmps39, List.size_toArray, List.length_cons, List.length_nil, Nat.reduceAdd, Nat.reduceSub, Array.replicate_succ, Array.replicate_zero, List.push_toArray, List.append_toArray, List.nil_append, List.cons_append]
  gi_wp2_with (refine ⟨trivial, ?_⟩; gi_at_call 26; (with_reducible refine c26.mono ?_); rintro e w1 ⟨rfl, rfl⟩)
  clear c26
  gi_loopw [10] (fun i wr => AlRel p ps w0 bx N0 J i wr) (fun i _ => n - (intOf i).toNat)
  case atStart => exact H0.out
  case round =>
    clear hBs H0
    obtain ⟨j, xs, ⟨rfl, hjn⟩, hxs, hJr, hSr, hbc, hNr⟩ := hrel
    rw [HN.out] at hjn
    have hTr := HT.out.stays hSr
    by_cases hlt : j < n
    · obtain ⟨r, hr⟩ : ∃ r, ps[j]? = some r := ⟨_, List.getElem?_eq_getElem (by have := HN.out; omega)⟩
      have hv := hTr.vals
      rw [HN.out] at hv
      obtain ⟨b2, off, rfl, hb2, hc⟩ := hv.2 (by omega)
      have hcj : wr.cell? ⟨b2, off + j, none⟩ = some (.int .i64 r.c) := hc j _ (by unfold nums; rw [List.map_map, List.getElem?_map, hr]; rfl)
      have c10 := callsIn_wide (n := m - 1) |>.2 (proto_at hTr hr)
      have hsm := (hTr.rise.2 r (List.mem_of_getElem? hr)).1
      have hall : ∀ (W2 : World) (A2 : Option Addr) (c2 : Nat), Hid (Below wr.heap.size wr W2 ∧ Vals W2 A2 r.p.length (nums .i64 r.p)) → YieldAt Fence.wide (m - 1) Tryz.prog l #[.int .i64 r.c, .slice A2 r.p.length c2] W2 fun e W' =>
            ((e = .returned (.bool true) ∧ J (xs ++ [(r.c, (A2, c2), r.p)]) W') ∨ (e = .returned (.bool false) ∧ Jx (xs ++ [(r.c, (A2, c2), r.p)]) W')) ∧ Kept A W2 W' := by
        intro W2 A2 c2 hv
        exact HYY.out xs (r.c, (A2, c2), r.p) W2 (HJB.out _ _ _ hJr hv.out.1) ⟨hv.out.2, Nat.le_trans hNr hv.out.1.size, hsm⟩ (by rw [take_pv (x := (r.c, (A2, c2), r.p)) hr rfl hxs]; exact List.take_prefix _ _)
      have hend : ∀ (X W3 : World) (x : PpV), Below wr.heap.size wr X → pview x = r → Kept A X W3 → J (xs ++ [x]) W3 → AlRel p ps w0 bx N0 J (.int .i64 ((j : Int) + 1)) W3 := by
        intro X W3 x hbX hx hk hj
        have hk' : Kept A wr W3 := (Kept.of_below hbX).trans hk
        exact ⟨j + 1, _, ⟨by go_num, by rw [HN.out]; omega⟩, take_pv hr hx hxs, hj, hSr.kept hk' HA.out, hk'.cell (a := ⟨bx, 0, none⟩) HAB.out hbc, Nat.le_trans hNr hk'.1⟩
      have HST : Hid (∀ x : PpV, pview x = r → (xs ++ [x]).map pview <+: ps) := Lib.hid (fun x hx => by rw [take_pv hr hx hxs]; exact List.take_prefix _ _)
      have HE := Lib.hid hend
      have HL := Lib.hid hall
      obtain ⟨rc, hrc⟩ : ∃ c, r.c = c := ⟨_, rfl⟩
      obtain ⟨rm, hrm⟩ : ∃ c, r.p.length = c := ⟨_, rfl⟩
      have HRR : Hid (∀ A2 c2, pview (rc, (A2, c2), r.p) = r) := Lib.hid (fun A2 c2 => by rw [← hrc]; rfl)
      rw [hrc, hrm] at c10
      simp only [hrc, hrm] at HL
      rw [hrc] at hcj
      clear hend hall hc hr hJr hSr hNr hxs hTr hv hsm hrc hrm
      gi_wp2_with (refine ⟨trivial, ?_⟩; gi_at_call 10; (with_reducible refine c10.mono ?_); rintro e w2 ⟨A2, c2, rfl, hV2⟩; obtain ⟨fn, tmps, assign, body, hy, hR⟩ := HL.out w2 A2 c2 hV2)
      refine hR.mono ?_
      rintro e W3 ⟨⟨rfl, hJ3⟩ | ⟨rfl, hJx3⟩, hk3⟩
      · have R := Lib.hid (HE.out _ W3 _ hV2.out.1 (HRR.out A2 c2) hk3 hJ3)
        clear HE
        gi_wp2
        go_roundw
        case rel => exact R.out
        case measure => simp [intOf]; omega
      · gi_wp2
        refine bodyPost_ret (results_none rfl _ _ _) rfl ?_
        exact ⟨⟨_, rfl⟩, .inr ⟨_, HST.out _ (HRR.out A2 c2), hJx3⟩⟩
    · have hke : j = n := by omega
      subst hke
      rw [List.take_of_length_le (by rw [HN.out]; exact Nat.le_refl _)] at hxs
      have HJ3 := Lib.hid hJr
      have HXS := Lib.hid hxs
      clear hJr hSr hxs hbc hTr
      gi_wp2
      go_end0
      exact ⟨⟨_, rfl⟩, .inl ⟨_, HXS.out, HJ3.out⟩⟩
/-- All: what is gone through, where who goes through keeps the blocks that were there when the table was (w0), and those from All on. -/
def AllPost6 (ps : List Pp) (A : Nat → Prop) (w : World) (e : Ending) (w' : World) : Prop :=
  Below w.heap.size w w' ∧ ∃ g lb, e = .returned (.func (.func g) #[] lb) ∧ (∀ args W, (callFunc g args).run Tryz.prog W = .ok (.enter g args) W) ∧
    SeqNx Fence.wide 7 Tryz.prog g lb ppArr (PpRd (w'.heap.size + 2)) A 0 0 (fun xs => xs.map pview = ps) (fun pre => pre.map pview <+: ps) (fun pre x => (pre ++ [x]).map pview <+: ps) w'
theorem all_is (p : Option Addr) (w : World) : Calls Tryz.prog 23 #[.pointer p] w fun e w' => e = .returned (.func (.func 39) #[] #[.pointer (some ⟨w.heap.size, 0, none⟩)]) ∧ w' = w.alloc (.cells #[.pointer p] 24) := by
  go_enter Tryz.func23, Tryz.ntmps23
  go_wp2
  go_ret
  exact ⟨rfl, rfl⟩
theorem call23 (p : Option Addr) (ps : List Pp) (w0 w : World) (h : CT w0 p ps) (hb : Below w0.heap.size w0 w) (hl : ps.length ≤ 100000) (A : Nat → Prop) (hA1 : ∀ k, k < w0.heap.size → A k) (hA2 : ∀ k, w.heap.size ≤ k → A k) : Calls Tryz.prog 23 #[.pointer p] w (AllPost6 ps A w) := by
  obtain ⟨A0, k, h⟩ := h
  refine (all_is p w).mono ?_
  rintro e w' ⟨rfl, rfl⟩
  have hb1 : Below w.heap.size w (w.alloc (.cells #[.pointer p] 24)) := (Below.refl _ _).alloc (Nat.le_refl _) _
  have hsz : (w.alloc (.cells #[.pointer p] 24)).heap.size = w.heap.size + 1 := by simp
  have hcl : (w.alloc (.cells #[.pointer p] 24)).cell? ⟨w.heap.size, 0, none⟩ = some (.pointer p) := by simp
  have hle := hb.size
  refine ⟨hb1, 39, _, rfl, enters_of Tryz.func39 (by kernel_rfl) rfl, ?_⟩
  intro l J Jx W hW hs hJ _ hY h0
  refine iter39 7 l w.heap.size _ k p A0 ps w0 h _ (by omega) hl J Jx (fun _ _ _ h hb => hJ.below h hb) (fun pre x W1 hj hx hl => hY pre x W1 hj hx hl) W ((hW.cell (p := ⟨w.heap.size, 0, none⟩) (by show w.heap.size < _; omega)).trans hcl) ?_ ⟨hA2 _ (Nat.le_refl _), by omega, by omega⟩ (fun k hk => ⟨hA1 k hk, by omega, by omega⟩) (by omega) h0
  exact (Stays.of_below (hb.trans (hb1.mono hb.size))).trans (.of_below hW)
end Go.Proofs.YtkcpnnfbhcklpaaGreatDoor
