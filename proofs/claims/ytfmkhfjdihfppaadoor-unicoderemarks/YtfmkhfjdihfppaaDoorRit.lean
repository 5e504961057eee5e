/- slices.Clone of numbers; what Decomp and Rows hand back; going through the rows of a table. -/
import Derived.Test.YtfmkhfjdihfppaaDoorBx
import Derived.Test.YtfmkhfjdihfppaaDoorShelf
import Derived.Test.YtfmkhfjdihfppaaDoorLines
import Derived.Test.YtfmkhfjdihfppaaDoorNxt
namespace Go.Proofs.YtfmkhfjdihfppaaDoor
open Go.RowKit Go.Shelf
attribute [local go_sem] Oper.semAt_some

def ClonedPost (n : Nat) (zs : List Int) (w : World) (e : Ending) (w' : World) : Prop := ∃ A2 c2, e = .returned (.slice A2 n c2) ∧ Below w.heap.size w w' ∧ Hid (Vals w' A2 n (nums .i64 zs) ∧ ∀ a, A2 = some a → w.heap.size ≤ a.block)
theorem clone26 (A : Option Addr) (n c : Nat) (zs : List Int) (w : World) (hV : Vals w A n (nums .i64 zs)) (hn : n ≤ 1000000) : Calls Tryd.prog 26 #[.slice A n c] w (ClonedPost n zs w) := by
  have hl : zs.length = n := by have := hV.1; unfold nums at this; rwa [List.length_map] at this
  cases A with
  | none =>
    have h0 : n = 0 := by
      rcases Nat.eq_zero_or_pos n with h | h
      · exact h
      · obtain ⟨b, off, e, -⟩ := hV.2 h
        cases e
    subst h0
    obtain rfl : zs = [] := List.eq_nil_of_length_eq_zero hl
    refine (Tryd.slices_Clone_int_nil 0 c w).mono ?_
    rintro e w' ⟨rfl, rfl⟩
    exact ⟨none, 0, rfl, Below.refl _ _, Lib.hid ⟨Vals.nil _ _, fun a e => by cases e⟩⟩
  | some ad =>
    have fin : ∀ (v' : Value) (w' : World), w'.ownsRow w.heap.size 3 1 v' n (nums .i64 zs) → Below w.heap.size w w' → ClonedPost n zs w (.returned v') w' := by
      intro v' w' ho hb
      obtain ⟨A2, c2, rfl, -, hV2, -⟩ := own_vals ho
      exact ⟨A2, c2, rfl, hb, Lib.hid ⟨hV2, fun a e => (ho.lt a.block (by rw [e]; rfl)).1⟩⟩
    rcases Nat.eq_zero_or_pos n with h0 | hpos
    · subst h0
      obtain rfl : zs = [] := List.eq_nil_of_length_eq_zero hl
      refine (Tryd.slices_Clone_int_zero ad c w).mono ?_
      rintro e w' ⟨v', rfl, ho, -, hb⟩
      exact fin v' w' ho hb
    · obtain ⟨b, off, e, hlt, hc⟩ := hV.2 hpos
      cases e
      refine (Tryd.slices_Clone_int b off n c zs w (by omega) (by omega) (fun j hj => hc j _ (nums_get hj))).mono ?_
      rintro e w' ⟨v', rfl, ho, -, hb⟩
      rw [List.take_of_length_le (by omega)] at ho
      exact fin v' w' ho hb
set_option maxRecDepth 100000 in
set_option maxHeartbeats 1000000 in
theorem decomp18 (p A : Option Addr) (c : Nat) (ls : List Rw) (z : Int) (q : Pr) (w : World) (hT : TIn w p A c ls) (hn : ls.length ≤ 100000) (hr : Rises ls) (hi : Is w (atOf ls z) q) (hd : q.dec.length ≤ 1000000) :
    Calls Tryd.prog 18 #[.pointer p, .int .i64 z] w fun e w' => ∃ A2 c2, e = .returned (.slice A2 q.dec.length c2) ∧ Below w.heap.size w w' ∧ Hid (Vals w' A2 q.dec.length (nums .i64 (q.dec.map fun c : Nat => (c : Int)))) := by
  have c27 := row27 p A c ls z w hT hn hr
  have hfd : ∀ W : World, _ := fun W => field5 (atOf ls z) W
  have hdm := hi.2.2.2.2.2.1
  have c26 := fun W (hb : Below w.heap.size w W) => clone26 (atOf ls z).dp (atOf ls z).dm (atOf ls z).dc (q.dec.map fun c : Nat => (c : Int)) W (hi.2.2.2.2.2.2.below hb) (by omega)
  have C26 := Lib.hid c26
  have HDM := Lib.hid hdm
  unfold rwV at c27 hfd
  clear hT hr hi c26 hdm
  go_enter Tryd.func18, Tryd.ntmps18
  go_wp2_with (first
    | (go_at_call 27; (with_reducible refine c27.mono ?_); rintro e w1 ⟨rfl, hb1⟩)
    | (go_at_call 26; (with_reducible refine (C26.out _ hb1).mono ?_); rintro e w2 ⟨A2, c2, rfl, hb2, hV2⟩))
  go_ret
  refine ⟨A2, c2, by rw [← HDM.out]; rfl, hb1.trans (hb2.mono hb1.size), Lib.hid ?_⟩
  have := hV2.out.1
  rw [HDM.out] at this
  exact this
set_option maxHeartbeats 1000000 in
theorem rows10 (p A : Option Addr) (c : Nat) (ls : List Rw) (w : World) (hT : TIn w p A c ls) : Calls Tryd.prog 10 #[.pointer p] w fun e w' =>
    e = .returned (.func (.func 25) #[] #[.pointer (some ⟨w.heap.size, 0, none⟩)]) ∧ w' = w.alloc (.cells #[.slice A ls.length c] 28) := by
  have c24 := list24 p A c ls w hT
  clear hT
  go_enter Tryd.func10, Tryd.ntmps10
  go_wp2_with (go_at_call 24; (with_reducible refine c24.mono ?_); rintro e w1 ⟨rfl, rfl⟩)
  go_ret
  exact ⟨rfl, rfl⟩

/-- A row as it is handed over: where it lies, and what it says. -/
abbrev RwP := Rw × Pr
def rwArr (x : RwP) : Array Value := #[rwV x.1]
def RwRd (N0 : Nat) (x : RwP) (W : World) : Prop := Is W x.1 x.2 ∧ N0 ≤ W.heap.size
theorem RAt.kept {A' : Nat → Prop} {w w' : World} {A : Option Addr} {n : Nat} {ls : List Rw} (h : RAt w A n ls) (hk : Kept A' w w') (hA : 0 < n → ∀ a, A = some a → A' a.block) : RAt w' A n ls := by
  refine ⟨h.1, fun hn => ?_⟩
  obtain ⟨b, off, rfl, hlt, hc⟩ := h.2 hn
  have hb := hA hn _ rfl
  refine ⟨b, off, rfl, Nat.lt_of_lt_of_le hlt hk.1, fun j s hj => ?_⟩
  obtain ⟨h1, h2, h3, h4, h5, h6⟩ := hc j s hj
  exact ⟨hk.cell (a := ⟨b, _, none⟩) hb h1, hk.cell (a := ⟨b, _, none⟩) hb h2, hk.cell (a := ⟨b, _, none⟩) hb h3, hk.cell (a := ⟨b, _, none⟩) hb h4, hk.cell (a := ⟨b, _, none⟩) hb h5, hk.cell (a := ⟨b, _, none⟩) hb h6⟩
theorem Ist.kept {A' : Nat → Prop} {w w' : World} (hk : Kept A' w w') : ∀ {ls : List Rw} {ps : List Pr}, Ist w ls ps → (∀ t ∈ ls, 0 < t.dm → ∀ a, t.dp = some a → A' a.block) → Ist w' ls ps
  | [], [], _, _ => trivial
  | t :: _, _ :: _, hc, he => ⟨⟨hc.1.1, hc.1.2.1, hc.1.2.2.1, hc.1.2.2.2.1, hc.1.2.2.2.2.1, hc.1.2.2.2.2.2.1, ⟨hc.1.2.2.2.2.2.2.1, fun hn => by
      obtain ⟨b, off, e, hlt, hcc⟩ := hc.1.2.2.2.2.2.2.2 hn
      exact ⟨b, off, e, Nat.lt_of_lt_of_le hlt hk.1, fun j v hj => hk.cell (a := ⟨b, off + j, none⟩) (he t (List.mem_cons_self ..) hn ⟨b, off, none⟩ e) (hcc j v hj)⟩⟩⟩, Ist.kept hk hc.2 fun u hu => he u (List.mem_cons_of_mem _ hu)⟩
  | [], _ :: _, hc, _ => hc.elim
  | _ :: _, [], hc, _ => hc.elim
/-- Where the going through stands. -/
def RVRel (ls : List Rw) (ps : List Pr) (B : Option Addr) (b n c N0 : Nat) (J : List RwP → World → Prop) (i : Value) (wr : World) : Prop :=
  ∃ (k : Nat) (xs : List RwP), i = .int .i64 k ∧ k ≤ n ∧ (xs.map Prod.snd = ps.take k ∧ xs.length = k) ∧ J xs wr ∧ RAt wr B n ls ∧ Ist wr ls ps ∧ wr.cell? ⟨b, 0, none⟩ = some (.slice B n c) ∧ N0 ≤ wr.heap.size
theorem take_sn {ps : List Pr} {k : Nat} {p : Pr} {xs : List RwP} {s : Rw} (hs : ps[k]? = some p) (h : xs.map Prod.snd = ps.take k) : (xs ++ [(s, p)]).map Prod.snd = ps.take (k + 1) := by
  have hlt := (List.getElem?_eq_some_iff.1 hs).1
  have e : ps[k] = p := (List.getElem?_eq_some_iff.1 hs).2
  rw [List.take_succ_eq_append_getElem hlt, e, List.map_append, h]
  rfl
/-- What comes next is as the rows say. -/
def NxR (ps : List Pr) (pre : List RwP) (x : RwP) : Prop := (pre ++ [x]).map Prod.snd <+: ps ∧ pre.length < 100001
set_option maxRecDepth 100000 in
set_option maxHeartbeats 4000000 in
theorem iter25 (m l b n c N0 : Nat) (P0 : Option Addr) (ls : List Rw) (ps : List Pr) (A : Nat → Prop) (hm : 1 ≤ m) (hn : n ≤ 100000) (hdec : ∀ p ∈ ps, p.dec.length ≤ 1000) (J Jx : List RwP → World → Prop) (hJb : ∀ s W W', J s W → Below W.heap.size W W' → J s W')
    (hY : ∀ pre x W, J pre W → RwRd N0 x W → NxR ps pre x → YieldAt Fence.wide (m - 1) Tryd.prog l (rwArr x) W fun e W' =>
      ((e = .returned (.bool true) ∧ J (pre ++ [x]) W') ∨ (e = .returned (.bool false) ∧ Jx (pre ++ [x]) W')) ∧ Kept A W W')
    (W : World) (hBs : W.cell? ⟨b, 0, none⟩ = some (.slice P0 n c)) (hS : RAt W P0 n ls) (hI : Ist W ls ps) (hAb : A b) (hP : 0 < n → ∀ a, P0 = some a → A a.block) (hD : ∀ t ∈ ls, 0 < t.dm → ∀ a, t.dp = some a → A a.block) (hN0 : N0 ≤ W.heap.size) (h0 : J [] W) :
    CallsIn Fence.wide m Tryd.prog 25 #[.func (.yield l) #[] #[], .pointer (some ⟨b, 0, none⟩)] W fun e W' => (∃ v, e = .returned v) ∧
      ((∃ ys : List RwP, ys.map Prod.snd = ps ∧ J ys W') ∨ (∃ pre : List RwP, pre.map Prod.snd <+: ps ∧ Jx pre W')) := by
  have HLN := Lib.hid hI.len
  have HYY := Lib.hid hY
  have HJB := Lib.hid hJb
  have HL := Lib.hid hS.1
  have HP := Lib.hid hP
  have HD := Lib.hid hD
  have HAB := Lib.hid hAb
  have HDC := Lib.hid hdec
  have H0 : Hid (RVRel ls ps P0 b n c N0 J (.int .i64 (0 : Nat)) W) := Lib.hid ⟨0, [], rfl, Nat.zero_le _, ⟨rfl, rfl⟩, h0, hS, hI, hBs, hN0⟩
  clear hY hJb hS h0 hP hN0 hD hI hAb hdec
  refine callsIn_of_wp Tryd.func25 rfl trivial ?_ rfl
  simp only [Tryd.ntmps25, List.size_toArray, List.length_cons, List.length_nil, Nat.reduceAdd, Nat.reduceSub, Array.replicate_succ, Array.replicate_zero, List.push_toArray, List.append_toArray, List.nil_append, List.cons_append]
  gi_wp2
  gi_loopw [7] (fun i wr => RVRel ls ps P0 b n c N0 J i wr) (fun i _ => n - (intOf i).toNat)
  case atStart => exact H0.out
  case round =>
    clear hBs H0
    obtain ⟨k, xs, rfl, hkn, ⟨hxs, hxl⟩, hJr, hSr, hIr, hbc, hNr⟩ := hrel
    by_cases hlt : k < n
    · obtain ⟨b2, off, rfl, hb2, hc⟩ := hSr.2 (by omega)
      obtain ⟨s, hs⟩ := getRw (ls := ls) (k := k) (by rw [HL.out]; exact hlt)
      obtain ⟨h1, h2, h3, h4, h5, h6⟩ := hc k s hs
      obtain ⟨p, hp, hi⟩ := hIr.get hs
      have hdl := HDC.out p (List.mem_of_getElem? hp)
      have hbb : b < wr.heap.size := World.block_lt_of_cell? wr _ hbc
      have b1 : ∀ o, Below wr.heap.size wr (wr.alloc o) := fun o => (Below.refl _ _).alloc (Nat.le_refl _) o
      have c26 := fun o => callsIn_wide (n := m - 1) |>.2 (clone26 s.dp s.dm s.dc (p.dec.map fun c : Nat => (c : Int)) (wr.alloc o) (hi.2.2.2.2.2.2.below (b1 o)) (by have := hi.2.2.2.2.2.1; omega))
      have hall : ∀ (o : Obj) (W2 : World) (A2 : Option Addr) (c2 : Nat), Below (wr.alloc o).heap.size (wr.alloc o) W2 → Hid (Vals W2 A2 s.dm (nums .i64 (p.dec.map fun c : Nat => (c : Int))) ∧ ∀ a, A2 = some a → (wr.alloc o).heap.size ≤ a.block) →
          Below wr.heap.size wr (W2.setCell ⟨wr.heap.size, 5, none⟩ (.slice A2 s.dm c2)) ∧ YieldAt Fence.wide (m - 1) Tryd.prog l #[rwV ⟨s.a, s.b, s.gc, s.ccc, s.bd, A2, s.dm, c2⟩] (W2.setCell ⟨wr.heap.size, 5, none⟩ (.slice A2 s.dm c2)) fun e W' =>
            ((e = .returned (.bool true) ∧ J (xs ++ [(⟨s.a, s.b, s.gc, s.ccc, s.bd, A2, s.dm, c2⟩, p)]) W') ∨ (e = .returned (.bool false) ∧ Jx (xs ++ [(⟨s.a, s.b, s.gc, s.ccc, s.bd, A2, s.dm, c2⟩, p)]) W')) ∧ Kept A (W2.setCell ⟨wr.heap.size, 5, none⟩ (.slice A2 s.dm c2)) W' := by
        intro o W2 A2 c2 hb hv
        have hbw : Below wr.heap.size wr (W2.setCell ⟨wr.heap.size, 5, none⟩ (.slice A2 s.dm c2)) := ((b1 o).trans (hb.mono (b1 o).size)).setCell (p := ⟨wr.heap.size, 5, none⟩) (Nat.le_refl _) _
        refine ⟨hbw, HYY.out xs (⟨s.a, s.b, s.gc, s.ccc, s.bd, A2, s.dm, c2⟩, p) _ (HJB.out _ _ _ hJr hbw) ⟨⟨hi.1, hi.2.1, hi.2.2.1, hi.2.2.2.1, hi.2.2.2.2.1, hi.2.2.2.2.2.1, vals_set hv.out.1 (fun a e => by have := hv.out.2 a e; rw [World.size_alloc] at this; omega)⟩, Nat.le_trans hNr hbw.size⟩ ⟨by rw [take_sn hp hxs]; exact List.take_prefix _ _, by omega⟩⟩
      have hend : ∀ (X W3 : World) (x : RwP), Below wr.heap.size wr X → x.2 = p → Kept A X W3 → J (xs ++ [x]) W3 → RVRel ls ps (some ⟨b2, off, none⟩) b n c N0 J (.int .i64 ((k : Int) + 1)) W3 := by
        rintro X W3 ⟨s', p'⟩ hbX rfl hk hj
        have hk' : Kept A wr W3 := (Kept.of_below hbX).trans hk
        exact ⟨k + 1, _, by go_num, by omega, ⟨take_sn hp hxs, by rw [List.length_append, List.length_singleton, hxl]⟩, hj, hSr.kept hk' HP.out, hIr.kept hk' HD.out, hk'.cell (a := ⟨b, 0, none⟩) HAB.out hbc, Nat.le_trans hNr hk'.1⟩
      have HST : ∀ s', Hid ((xs ++ [((s', p) : RwP)]).map Prod.snd <+: ps) := fun s' => Lib.hid (by rw [take_sn hp hxs]; exact List.take_prefix _ _)
      have HSTH := Lib.hid HST
      have HE := Lib.hid hend
      have HA := Lib.hid hall
      have C26 := Lib.hid c26
      obtain ⟨T, hT⟩ : ∃ T, bs s.gc = T := ⟨_, rfl⟩
      obtain ⟨U, hU⟩ : ∃ U, bs s.bd = U := ⟨_, rfl⟩
      unfold rwV at HA
      simp only [hT, hU] at HA
      rw [hT] at h3
      rw [hU] at h5
      clear hend hall c26 hc hs hJr hSr hIr hi hp hNr hT hU hdl hxs HST b1
      gi_wp2_with (refine ⟨trivial, ?_⟩; gi_at_call 26; refine ((C26.out _)).mono ?_; rintro e w2 ⟨A2, c2, rfl, hbw2, hV2⟩; obtain ⟨⟨e0, e1, e2, e3, e4, e5⟩, ef⟩ := six_box hbw2; obtain ⟨hbx, fn, tmps, assign, body, hy, hR⟩ := HA.out _ w2 A2 c2 hbw2 hV2)
      refine hR.mono ?_
      rintro e W3 ⟨⟨rfl, hJ3⟩ | ⟨rfl, hJx3⟩, hk3⟩
      · have R := Lib.hid (HE.out _ W3 _ hbx rfl hk3 hJ3)
        clear HE
        gi_wp2
        go_roundw
        case rel => exact R.out
        case measure => simp [intOf]; omega
      · gi_wp2
        refine bodyPost_ret (results_none rfl _ _ _) rfl ?_
        exact ⟨⟨_, rfl⟩, .inr ⟨_, (HSTH.out _).out, hJx3⟩⟩
    · have hke : k = n := by omega
      subst hke
      rw [List.take_of_length_le (by rw [← HLN.out, HL.out]; exact Nat.le_refl _)] at hxs
      have HJ3 := Lib.hid hJr
      have HXS := Lib.hid hxs
      clear hJr hSr hIr hxs hbc
      gi_wp2
      go_end0
      exact ⟨⟨_, rfl⟩, .inl ⟨_, HXS.out, HJ3.out⟩⟩
theorem seq25 (m b n c : Nat) (P0 : Option Addr) (ls : List Rw) (ps : List Pr) (A : Nat → Prop) (w : World) (hm : 1 ≤ m) (hn : n ≤ 100000) (hdec : ∀ p ∈ ps, p.dec.length ≤ 1000) (hb : b < w.heap.size) (hBs : w.cell? ⟨b, 0, none⟩ = some (.slice P0 n c)) (hS : RAt w P0 n ls) (hI : Ist w ls ps) (hA : ∀ k, k < w.heap.size → (k = b ∨ (0 < n ∧ ∃ a, P0 = some a ∧ a.block = k) ∨ ∃ t ∈ ls, 0 < t.dm ∧ ∃ a, t.dp = some a ∧ a.block = k) → A k) :
    SeqNx Fence.wide m Tryd.prog 25 #[.pointer (some ⟨b, 0, none⟩)] rwArr (RwRd (w.heap.size + 2)) A 0 0 (fun ys => ys.map Prod.snd = ps) (fun pre => pre.map Prod.snd <+: ps) (NxR ps) w :=
  fun l J Jx W hW hsz hJ _ hY h0 =>
    iter25 m l b n c (w.heap.size + 2) P0 ls ps _ hm hn hdec J Jx (fun _ _ _ h hb => hJ.below h hb) (fun pre x W1 hj hx hl => hY pre x W1 hj hx hl) W ((hW.cell (p := ⟨b, 0, none⟩) hb).trans hBs) (hS.below hW) (hI.below hW)
      ⟨hA b hb (.inl rfl), by omega, by omega⟩
      (fun h a e => have hlt : a.block < w.heap.size := (by obtain ⟨b', off, e', hl, -⟩ := hS.2 h; rw [e] at e'; cases e'; exact hl); ⟨hA _ hlt (.inr (.inl ⟨h, a, e, rfl⟩)), by omega, by omega⟩)
      (fun t ht hd a e => have hlt : a.block < w.heap.size := (by obtain ⟨p, -, hp⟩ := ist_mem hI ht; obtain ⟨b', off, e', hl, -⟩ := hp.2.2.2.2.2.2.2 hd; rw [e] at e'; cases e'; exact hl); ⟨hA _ hlt (.inr (.inr ⟨t, ht, hd, a, e, rfl⟩)), by omega, by omega⟩)
      (by omega) h0
end Go.Proofs.YtfmkhfjdihfppaaDoor
