/- For any octets and any small number the statement UtfPoints answers true: Points tells each scalar with its place, however early who asks leaves off, and as often as they ask. Conditions: those of the row itself (the two tables of unicode/utf8 hold what Go's text lays in them; the card ties that to the text). -/
import Derived.Test.YtijokbgpbpfclaaDoorCards
import Derived.Test.YtijokbgpbpfclaaDoorTie
import Derived.Test.YtijokbgpbpfclaaDoorLaid
import Derived.Test.YtijokbgpbpfclaaDoorRange
namespace Go.Proofs.YtijokbgpbpfclaaDoor.utfPoints
open Go.ChangeShapes Go.WideShapes Go.ChangeAt Go.RowKit Go.Shelf
attribute [local go_sem] Oper.semAt_some

/-- The two boxes that the statement lays first, in whatever world comes later. -/
def Boxes (w : World) (most : Nat) (W : World) : Prop :=
  Below w.heap.size w W ∧ W.cell? ⟨w.heap.size, 0, none⟩ = some (.int .u8 most) ∧ W.cell? ⟨w.heap.size + 1, 0, none⟩ = some (.bool false) ∧ W.frozen? ⟨w.heap.size + 1, 0, none⟩ = false ∧ w.heap.size + 1 < W.heap.size
theorem boxes_first (w : World) (most : Nat) : Boxes w most ((w.alloc (.cells #[.int .u8 most] 5)).alloc (.cells #[.bool false] 4)) := by
  refine ⟨((Below.refl _ w).alloc (Nat.le_refl _) _).alloc (by simp) _, ?_, ?_, ?_, by simp⟩
  · simp
  · simp
  · simp
theorem Boxes.below {w W W' : World} {most : Nat} (h : Boxes w most W) (hb : Below W.heap.size W W') : Boxes w most W' := by
  obtain ⟨h1, h2, h3, h4, h5⟩ := h
  have := hb.size
  exact ⟨h1.trans (hb.mono h1.size), (hb.cell (p := ⟨w.heap.size, 0, none⟩) (by show w.heap.size < _; omega)).trans h2, (hb.cell (p := ⟨w.heap.size + 1, 0, none⟩) h5).trans h3, (hb.frozen (p := ⟨w.heap.size + 1, 0, none⟩) h5).trans h4, by omega⟩

/-- What a going-through begins with. -/
def RS (w : World) (most B ca len0 Bw ce : Nat) (A E : Option Addr) (bs s : List Int) (W : World) : Prop :=
  Boxes w most W ∧ W.cell? ⟨Bw, 0, none⟩ = some (.slice E s.length ce) ∧ Bw < W.heap.size ∧ Nums .i64 W E s.length s ∧ B < W.heap.size ∧ W.cell? ⟨B, 0, none⟩ = some (.slice A len0 ca) ∧ Nums .u8 W A len0 bs ∧ Lib.Utf8Tabs 0 1 W
theorem RS.below {w W W' : World} {most B ca len0 Bw ce : Nat} {A E : Option Addr} {bs s : List Int} (h : RS w most B ca len0 Bw ce A E bs s W) (hb : Below W.heap.size W W') : RS w most B ca len0 Bw ce A E bs s W' := by
  obtain ⟨h1, h2, h3, h4, h5, h6, h7, h8⟩ := h
  have := hb.size
  exact ⟨h1.below hb, (hb.cell (p := ⟨Bw, 0, none⟩) h3).trans h2, by omega, h4.below hb, by omega, (hb.cell (p := ⟨B, 0, none⟩) h5).trans h6, h7.below hb, tabs_below h8 hb⟩
theorem rs_first {w w2 w3 : World} {most B ca len0 ce : Nat} {A E : Option Addr} {bs s : List Int} (h1 : Boxes w most w2) (hT : Lib.Utf8Tabs 0 1 w) (h5 : B < w2.heap.size) (h6 : w2.cell? ⟨B, 0, none⟩ = some (.slice A len0 ca)) (h7 : Nums .u8 w2 A len0 bs) (hM : Nums .i64 w3 E s.length s) (hb : Below w2.heap.size w2 w3) :
    RS w most B ca len0 w3.heap.size ce A E bs s (w3.alloc (.cells #[.slice E s.length ce] 22)) := by
  have hb2 : Below w3.heap.size w3 (w3.alloc (.cells #[.slice E s.length ce] 22)) := (Below.refl _ _).alloc (Nat.le_refl _) _
  have hb3 : Below w2.heap.size w2 (w3.alloc (.cells #[.slice E s.length ce] 22)) := hb.trans (hb2.mono hb.size)
  have := hb3.size
  exact ⟨h1.below hb3, by simp, by simp, hM.below hb2, by omega, (hb3.cell (p := ⟨B, 0, none⟩) h5).trans h6, h7.below hb3, tabs_below (tabs_below hT h1.1) hb3⟩
theorem pi_first (s : List Int) (most : Nat) (W : World) : PI s most W.heap.size W.heap.size (W.heap.size + 1) ((W.alloc (.cells #[.int .i64 0] 3)).alloc (.cells #[.int .i64 0] 3)) [] ((W.alloc (.cells #[.int .i64 0] 3)).alloc (.cells #[.int .i64 0] 3)) := by
  refine ⟨⟨List.nil_prefix, Nat.zero_le _, ?_, ?_, ?_, ?_⟩, Below.refl _ _⟩ <;> simp [encs]
theorem below_boxes (W : World) (o p : Obj) : Below W.heap.size W ((W.alloc o).alloc p) := ((Below.refl _ W).alloc (Nat.le_refl _) _).alloc (by simp) _

theorem not_pre_len {s : List Int} {pre : List (Int × Int)} {x : Int × Int} {k : Nat} (hk : pre.length = k) (h : ¬ k < s.length) : ¬ pre ++ [x] <+: pts 0 s := fun hp => by
  have := hp.length_le
  rw [pts_length] at this
  simp at this
  omega
theorem is_pre {s : List Int} {pre : List (Int × Int)} {x : Int × Int} {k L : Nat} (hk : pre.length = k) (hL : (encs (s.take k)).length = L) (h : k < s.length) (hp : pre ++ [x] <+: pts 0 s) : x = ((L : Int), s.getD k 0) := by
  have e := pre_snoc hp
  rw [hk, pts_get 0 s k h, Nat.zero_add, hL] at e
  injection e with e
  exact e.symm
theorem pre_next {s : List Int} {pre : List (Int × Int)} {k L : Nat} (hk : pre.length = k) (hL : (encs (s.take k)).length = L) (h : k < s.length) (hp : pre <+: pts 0 s) : pre ++ [((L : Int), s.getD k 0)] <+: pts 0 s :=
  snoc_pre hp (by rw [hk, pts_get 0 s k h, Nat.zero_add, hL])

/-- The world behind 'n++'. -/
theorem bump {W : World} {N : Nat} {k L : Nat} (hn : W.cell? ⟨N, 0, none⟩ = some (.int .i64 (k : Nat))) (hnf : W.frozen? ⟨N, 0, none⟩ = false) (hat : W.cell? ⟨N + 1, 0, none⟩ = some (.int .i64 (L : Nat))) (haf : W.frozen? ⟨N + 1, 0, none⟩ = false) (hz : N + 1 < W.heap.size) :
    ∃ Wn, W.setCell ⟨N, 0, none⟩ (.int .i64 ((k : Int) + 1)) = Wn ∧ Wn.cell? ⟨N, 0, none⟩ = some (.int .i64 ((k + 1 : Nat) : Int)) ∧ Wn.frozen? ⟨N, 0, none⟩ = false ∧ Wn.cell? ⟨N + 1, 0, none⟩ = some (.int .i64 (L : Nat)) ∧ Wn.frozen? ⟨N + 1, 0, none⟩ = false ∧ N + 1 < Wn.heap.size ∧ Below N W Wn ∧ KeepsOthers W Wn := by
  refine ⟨_, rfl, ?_, ?_, ?_, ?_, by simpa using hz, (Below.refl N W).setCell (p := ⟨N, 0, none⟩) (Nat.le_refl _) _, KeepsOthers.setCell _ _ _⟩
  · exact World.cell?_setCell_same' _ _ _ (by rw [hn]; rfl)
  · rw [World.frozen?_setCell]; exact hnf
  · rw [World.cell?_setCell_other _ _ _ _ (by intro e; injection e with e; omega)]; exact hat
  · rw [World.frozen?_setCell]; exact haf

theorem undrew {w w' : World} (h : Below w.drew.heap.size w.drew w') : Below w.heap.size w w' := ⟨h.os, h.tape, h.output, h.size, h.block⟩
theorem close_round {s : List Int} {pre : List (Int × Int)} {k L M N most : Nat} {c : Int} {w0 W Wn w' : World} (hk : pre.length = k) (hL : (encs (s.take k)).length = L) (hM : (oct c).length = M) (hy : s.getD k 0 = c) (h1 : k < most) (h2 : k < s.length) (hpre : pre <+: pts 0 s) (hb : Below N w0 W)
    (p1 : Wn.cell? ⟨N, 0, none⟩ = some (.int .i64 ((k + 1 : Nat) : Int))) (p2 : Wn.frozen? ⟨N, 0, none⟩ = false) (p5 : N + 1 < Wn.heap.size) (p6 : Below N W Wn) (p7 : KeepsOthers W Wn) (hb1 : Below Wn.heap.size Wn w')
    (p3 : w'.cell? ⟨N + 1, 0, none⟩ = some (.int .i64 (L : Nat))) (p4 : w'.frozen? ⟨N + 1, 0, none⟩ = false) :
    KeepsOthers W (w'.setCell ⟨N + 1, 0, none⟩ (.int .i64 ((L : Int) + (M : Int)))) ∧ Below N W (w'.setCell ⟨N + 1, 0, none⟩ (.int .i64 ((L : Int) + (M : Int)))) ∧
      PI s most N N (N + 1) w0 (pre ++ [((L : Int), c)]) (w'.setCell ⟨N + 1, 0, none⟩ (.int .i64 ((L : Int) + (M : Int)))) := by
  have b1 : Below N Wn w' := hb1.mono (by omega)
  have b2 : Below N W (w'.setCell ⟨N + 1, 0, none⟩ (.int .i64 ((L : Int) + (M : Int)))) := (p6.trans b1).setCell (p := ⟨N + 1, 0, none⟩) (by simp) _
  have e1 : (encs (s.take (k + 1))).length = L + M := by rw [encs_snoc h2, List.length_append, hL, hy, hM]
  have hlen : (pre ++ [((L : Int), c)]).length = k + 1 := by simp [hk]
  refine ⟨(p7.trans (keeps_below hb1)).trans (KeepsOthers.setCell _ _ _), b2, ⟨?_, by rw [hlen]; omega, ?_, ?_, ?_, ?_⟩, hb.trans b2⟩
  · rw [← hy]; exact pre_next hk hL h2 hpre
  · rw [World.cell?_setCell_other _ _ _ _ (by intro e; injection e with e; omega), hlen]
    exact (hb1.cell (p := ⟨N, 0, none⟩) (by show N < _; omega)).trans p1
  · rw [World.frozen?_setCell]
    exact (hb1.frozen (p := ⟨N, 0, none⟩) (by show N < _; omega)).trans p2
  · rw [hlen, e1]
    have := World.cell?_setCell_same' w' ⟨N + 1, 0, none⟩ (.int .i64 ((L : Int) + (M : Int))) (by rw [p3]; rfl)
    rw [this]
    simp
  · rw [World.frozen?_setCell]
    exact p4

theorem leave0 {w Wf : World} {tmps : Array Value} (ht : tmps[4]?.getD undef = .pointer (some ⟨w.heap.size + 1, 0, none⟩)) (hr : Wf.cell? ⟨w.heap.size + 1, 0, none⟩ = some (.bool true)) (hb : Below w.heap.size w Wf) :
    LeavesInM Fence.wide 6 Tryd.prog Tryd.f5 tmps (fun e w' => e = .returned (.bool true) ∧ Below w.heap.size w w') [] .returning Wf := by
  refine ⟨.bool true, ?_, rfl, hb⟩
  simp [results, Tryd.results5, go_sem, hr, ht]
/-- The statement's end: both marks are taken off, and the result's box is read. -/
theorem leave {w Wf : World} {D1 D2 : Nat} {tmps : Array Value} (ht : tmps[4]?.getD undef = .pointer (some ⟨w.heap.size + 1, 0, none⟩)) (hk1 : Wf.heap[D1]? = some (.deferred (some []))) (hk2 : Wf.heap[D2]? = some (.deferred (some []))) (hne : D1 ≠ D2) (hd1 : w.heap.size ≤ D1) (hd2 : w.heap.size ≤ D2)
    (hr : Wf.cell? ⟨w.heap.size + 1, 0, none⟩ = some (.bool true)) (hb : Below w.heap.size w Wf) :
    LeavesInM Fence.wide 6 Tryd.prog Tryd.f5 tmps (fun e w' => e = .returned (.bool true) ∧ Below w.heap.size w w') [{ target := .collected D2, args := #[] }, { target := .collected D1, args := #[] }] .returning Wf := by
  have hk1' : (Wf.putObj D2 (.deferred none)).heap[D1]? = some (.deferred (some [])) := (World.putObj_heap_other hne).trans hk1
  refine ⟨by simp, .inl ⟨_, _, rfl, run_takeDeferred hk2, by simp, .inl ⟨_, _, rfl, run_takeDeferred hk1', ?_⟩⟩⟩
  have h1 := cell_kept hr (grownBy_putObj' _ D2 (.deferred none)) (fun r e => by cases e; exact ⟨_, hk2, rfl⟩)
  have h2 := cell_kept h1 (grownBy_putObj' _ D1 (.deferred none)) (fun r e => by cases e; exact ⟨_, hk1', rfl⟩)
  refine ⟨.bool true, ?_, rfl, (hb.trans (belowK_b (w := w) (Nat.le_refl _) _ D2 _ _ hd2 hk2 rfl rfl)).trans (belowK_b (w := w) (Nat.le_refl _) _ D1 _ _ hd1 hk1' rfl rfl)⟩
  simp [results, Tryd.results5, go_sem, h2, ht]

set_option maxRecDepth 100000 in
set_option maxHeartbeats 4000000 in
theorem walk_short (a0 : Option Addr) (len0 cap0 : Nat) (bs s : List Int) (k0 most : Nat) (w : World) (hT : Lib.Utf8Tabs 0 1 w) (n0 : Nums .u8 w a0 len0 bs) (hnil : a0 = none → cap0 = 0) (ho : Octs bs) (h : len0 ≤ 600) (hs : Stop bs s k0) (hm : most < 256) :
    Calls Tryd.prog 5 #[.slice a0 len0 cap0, .int .u8 most] w fun e w' => e = .returned (.bool true) ∧ Below w.heap.size w w' := by
  have hsl : s.length ≤ 600 := by have := hs.few; have := hs.le; have := n0.1; omega
  have N0 := Lib.hid n0
  have HS := Lib.hid hs
  have TT := Lib.hid hT
  have HO := Lib.hid ho
  have HZ := Lib.hid hnil
  clear n0 hs hT ho hnil
  have BB := boxes_first w most
  have c8 := callsIn_wide (n := 5) |>.2 (awake8 ((w.alloc (.cells #[.int .u8 most] 5)).alloc (.cells #[.bool false] 4)) (tabs_below TT.out BB.1))
  have HB := Lib.hid BB
  clear BB
  refine (callsIn_wide (n := 6)).1 ?_
  refine callsIn_of_wp_marks Tryd.func5 rfl trivial ?_ rfl
  simp only [Tryd.ntmps5, List.size_toArray, List.length_cons, List.length_nil, Nat.reduceAdd, Nat.reduceSub, Array.replicate_succ, Array.replicate_zero, List.push_toArray, List.append_toArray, List.nil_append, List.cons_append]
  gi_wp2_with (refine ⟨trivial, ?_⟩; gi_at_call 8; (with_reducible refine c8.mono ?_); rintro e w1 ⟨rfl, hb1⟩)
  have HB1 := Lib.hid (HB.out.below hb1)
  clear c8 hb1 HB
  have c14 := callsIn_wide (n := 5) |>.2 (points14 a0 len0 cap0 bs w1 (N0.out.below HB1.out.1) HZ.out (by omega))
  gi_wp2_with (refine ⟨trivial, ?_⟩; gi_at_call 14; (with_reducible refine c14.mono ?_); rintro e w2 ⟨hb2, B, A, ca, rfl, hB2, hBs, hca, hN⟩; have HB2 := Lib.hid (HB1.out.below hb2); have hconv := conv_nums cap0 (N0.out.below HB2.out.1))
  clear c14 hconv hb2 HB1
  have c13 := callsIn_wide (n := 5) |>.2 (refDecode13 bs w2 len0 N0.out.1 HO.out (by omega))
  have NN := Lib.hid hN
  clear hN
  gi_wp2_with (refine ⟨trivial, ?_⟩; gi_at_call 13; (with_reducible refine c13.mono ?_); rintro e w3 hE; obtain ⟨E, ce, rfl, hM, hb3⟩ := rdec_stop HS.out hE; clear hE)
  have hRS := rs_first (ce := ce) HB2.out TT.out hB2 hBs NN.out hM hb3
  clear c13 hM hb3 hBs hB2 HB2 NN N0 HZ
  generalize w3.heap.size = Bw at hRS ⊢
  generalize w3.alloc (.cells #[.slice E s.length ce] 22) = W4 at hRS ⊢
  have R4 := Lib.hid hRS
  clear hRS
  refine wpIn_loop_rounds 3 ?_
  rw [roundsIn_succ]
  gi_wp2
  refine pts_range 6 B W4.heap.size len0 ca most W4.heap.size (W4.heap.size + 1) A bs s k0 (by omega) rfl rfl (by omega) hca HO.out HS.out R4.out.2.2.2.2.1 (by simp; omega)
    (((below_boxes W4 _ _).cell (p := ⟨B, 0, none⟩) R4.out.2.2.2.2.1).trans R4.out.2.2.2.2.2.1) (fun W' hb => R4.out.2.2.2.2.2.2.1.below ((below_boxes W4 _ _).trans hb)) (fun W' hb => tabs_below R4.out.2.2.2.2.2.2.2 ((below_boxes W4 _ _).trans hb))
    (pi_first s most W4) ?a1 ?assign ?body ?exit ?cont
  case assign =>
    intro l x W K hK
    gi_wp2
    exact hK
  case exit => 
    intro b W hq
    exact wpIn_exit hq
  case body =>
    rintro l pre ⟨i, c⟩ W ⟨⟨hpre, hle, hn, hnf, hat, haf⟩, hb⟩ _
    have hbW : Below W4.heap.size W4 W := (below_boxes W4 _ _).trans hb
    have RW := R4.out.below hbW
    obtain ⟨⟨_, q1, q2, q3, q4⟩, q5, _, q6, _⟩ := RW
    have HPre := Lib.hid hpre
    have HBel := Lib.hid hb
    have Q6 := Lib.hid q6
    have hsz2 : W4.heap.size + 1 < W.heap.size := by have := hb.size; simp at this; omega
    clear hpre hb hbW q6
    obtain ⟨k, hk⟩ : ∃ k, pre.length = k := ⟨_, rfl⟩
    rw [hk] at hle hn hat
    have HK := Lib.hid hk
    clear hk
    obtain ⟨L, hL⟩ : ∃ L, (encs (s.take k)).length = L := ⟨_, rfl⟩
    rw [hL] at hat
    have HL := Lib.hid hL
    clear hL
    by_cases h1 : k < most
    · by_cases h2 : k < s.length
      · obtain ⟨eb, eo, rfl, _, hc⟩ := Q6.out.2 (by omega)
        have hcx := hc k h2
        clear hc
        obtain ⟨y, hy⟩ : ∃ y, s.getD k 0 = y := ⟨_, rfl⟩
        rw [hy] at hcx
        have HY := Lib.hid hy
        clear hy
        by_cases hi : i = (L : Int)
        · by_cases hc : c = y
          · subst hi
            subst hc
            have hsc : scal c = true := HS.out.1 c (by have := HY.out; rw [← this]; simp [List.getD_eq_getElem?_getD, List.getElem?_eq_getElem h2])
            have HSC := Lib.hid hsc
            clear hsc
            have hmx : Tryd.prog.follows .mixedOrders = true := by kernel_rfl
            gi_wp2
            obtain ⟨Wn, hWn, p1, p2, p3, p4, p5, p6, p7⟩ := bump hn hnf hat haf hsz2
            rw [hWn]
            clear hWn hn hnf hat haf q1 q2 q3 q4 q5 hcx hsz2
            have hd : 1 ≤ 6 - 1 - 1 := by omega
            have hLs : L ≤ 2400 := by have h1 := (encs_length (s.take k)).2; have h3 : (s.take k).length ≤ k := List.length_take_le _ _; have := HL.out; omega
            have hoc := (oct_length c).2
            obtain ⟨M, hM⟩ : ∃ M, (oct c).length = M := ⟨_, rfl⟩
            have hsM : (strOfNums (oct c)).size = M := by rw [strOfNums_size]; exact hM
            rw [hM] at hoc
            have HM := Lib.hid hM
            clear hM
            have hwr : IntKind.i64.wrap ((L : Int) + (M : Int)) = (L : Int) + (M : Int) := IntWalk.i64_in _ (by omega)
            gi_region_with_o (refine ⟨trivial, ?_⟩; gi_at_call 15; refine (CallsIn.inRound l (callsIn_wide.2 (octets15 c _ HSC.out))).mono ?_; rintro e w' ⟨rfl, hb1⟩; have p3' := (hb1.cell (p := ⟨W4.heap.size + 1, 0, none⟩) p5).trans p3; have p4' := (hb1.frozen (p := ⟨W4.heap.size + 1, 0, none⟩) p5).trans p4)
            all_goals exact close_round HK.out HL.out HM.out HY.out h1 h2 HPre.out HBel.out p1 p2 p5 p6 p7 (undrew hb1) p3' p4'
          · have e1 : (c == y) = false := beq_false_of_ne hc
            have e2 : (c != y) = true := bne_iff_ne.2 hc
            have HC := Lib.hid hc
            subst hi
            clear hc
            gi_wp2
            exact ⟨KeepsOthers.setCell _ _ _, .inr ⟨rfl, fun hp => HC.out (by have := is_pre HK.out HL.out h2 hp; rw [HY.out] at this; injection this)⟩⟩
        · have e1 : (i == (L : Int)) = false := beq_false_of_ne hi
          have e2 : (i != (L : Int)) = true := bne_iff_ne.2 hi
          have HI := Lib.hid hi
          clear hi
          gi_wp2
          exact ⟨KeepsOthers.setCell _ _ _, .inr ⟨rfl, fun hp => HI.out (by have := is_pre HK.out HL.out h2 hp; injection this)⟩⟩
      · gi_wp2
        exact ⟨KeepsOthers.setCell _ _ _, .inr ⟨rfl, not_pre_len HK.out h2⟩⟩
    · obtain rfl : k = most := by omega
      gi_wp2
      exact ⟨KeepsOthers.refl _, .inl ⟨⟨rfl, by simp [HK.out], hn⟩, HBel.out⟩⟩
  case cont =>
    intro D1 W5 hD1 hn hb hK1
    have hb5 : Below W4.heap.size W4 W5 := (below_boxes W4 _ _).trans hb
    have R5 := Lib.hid (R4.out.below hb5)
    have HD1 : Hid (w.heap.size ≤ D1 ∧ D1 < W5.heap.size) := ⟨by have h1 := R4.out.1.1.size; simp at hD1; omega, (Array.getElem?_eq_some_iff.1 hK1).1⟩
    have HK1 := Lib.hid hK1
    obtain ⟨⟨_, q1, q2, q3, q4⟩, q5, _⟩ := R5.out
    clear hb hb5 hD1 hK1
    gi_wp2
    clear q1 q2 q3 q4 q5 hn
    rw [roundsIn_succ]
    gi_wp2
    refine pts_range 6 B W5.heap.size len0 ca most W5.heap.size (W5.heap.size + 1) A bs s k0 (by omega) rfl rfl (by omega) hca HO.out HS.out R5.out.2.2.2.2.1 (by simp; omega)
      (((below_boxes W5 _ _).cell (p := ⟨B, 0, none⟩) R5.out.2.2.2.2.1).trans R5.out.2.2.2.2.2.1) (fun W' hb => R5.out.2.2.2.2.2.2.1.below ((below_boxes W5 _ _).trans hb)) (fun W' hb => tabs_below R5.out.2.2.2.2.2.2.2 ((below_boxes W5 _ _).trans hb))
      (pi_first s most W5) ?a15 ?assign5 ?body5 ?exit5 ?cont5
    case assign5 =>
      intro l x W K hK
      gi_wp2
      exact hK
    case exit5 => 
      intro b W hq
      exact wpIn_exit hq
    case body5 =>
      rintro l pre ⟨i, c⟩ W ⟨⟨hpre, hle, hn, hnf, hat, haf⟩, hb⟩ _
      have hbW : Below W5.heap.size W5 W := (below_boxes W5 _ _).trans hb
      have RW := R5.out.below hbW
      obtain ⟨⟨_, q1, q2, q3, q4⟩, q5, _, q6, _⟩ := RW
      have HPre := Lib.hid hpre
      have HBel := Lib.hid hb
      have Q6 := Lib.hid q6
      have hsz2 : W5.heap.size + 1 < W.heap.size := by have := hb.size; simp at this; omega
      clear hpre hb hbW q6
      obtain ⟨k, hk⟩ : ∃ k, pre.length = k := ⟨_, rfl⟩
      rw [hk] at hle hn hat
      have HK := Lib.hid hk
      clear hk
      obtain ⟨L, hL⟩ : ∃ L, (encs (s.take k)).length = L := ⟨_, rfl⟩
      rw [hL] at hat
      have HL := Lib.hid hL
      clear hL
      by_cases h1 : k < most
      · by_cases h2 : k < s.length
        · obtain ⟨eb, eo, rfl, _, hc⟩ := Q6.out.2 (by omega)
          have hcx := hc k h2
          clear hc
          obtain ⟨y, hy⟩ : ∃ y, s.getD k 0 = y := ⟨_, rfl⟩
          rw [hy] at hcx
          have HY := Lib.hid hy
          clear hy
          by_cases hi : i = (L : Int)
          · by_cases hc : c = y
            · subst hi
              subst hc
              have hsc : scal c = true := HS.out.1 c (by have := HY.out; rw [← this]; simp [List.getD_eq_getElem?_getD, List.getElem?_eq_getElem h2])
              have HSC := Lib.hid hsc
              clear hsc
              have hmx : Tryd.prog.follows .mixedOrders = true := by kernel_rfl
              gi_wp2
              obtain ⟨Wn, hWn, p1, p2, p3, p4, p5, p6, p7⟩ := bump hn hnf hat haf hsz2
              rw [hWn]
              clear hWn hn hnf hat haf q1 q2 q3 q4 q5 hcx hsz2
              have hd : 1 ≤ 6 - 1 - 1 := by omega
              have hLs : L ≤ 2400 := by have h1 := (encs_length (s.take k)).2; have h3 : (s.take k).length ≤ k := List.length_take_le _ _; have := HL.out; omega
              have hoc := (oct_length c).2
              obtain ⟨M, hM⟩ : ∃ M, (oct c).length = M := ⟨_, rfl⟩
              have hsM : (strOfNums (oct c)).size = M := by rw [strOfNums_size]; exact hM
              rw [hM] at hoc
              have HM := Lib.hid hM
              clear hM
              have hwr : IntKind.i64.wrap ((L : Int) + (M : Int)) = (L : Int) + (M : Int) := IntWalk.i64_in _ (by omega)
              gi_region_with_o (refine ⟨trivial, ?_⟩; gi_at_call 15; refine (CallsIn.inRound l (callsIn_wide.2 (octets15 c _ HSC.out))).mono ?_; rintro e w' ⟨rfl, hb1⟩; have p3' := (hb1.cell (p := ⟨W5.heap.size + 1, 0, none⟩) p5).trans p3; have p4' := (hb1.frozen (p := ⟨W5.heap.size + 1, 0, none⟩) p5).trans p4)
              all_goals exact close_round HK.out HL.out HM.out HY.out h1 h2 HPre.out HBel.out p1 p2 p5 p6 p7 (undrew hb1) p3' p4'
            · have e1 : (c == y) = false := beq_false_of_ne hc
              have e2 : (c != y) = true := bne_iff_ne.2 hc
              have HC := Lib.hid hc
              subst hi
              clear hc
              gi_wp2
              exact ⟨KeepsOthers.setCell _ _ _, .inr ⟨rfl, fun hp => HC.out (by have := is_pre HK.out HL.out h2 hp; rw [HY.out] at this; injection this)⟩⟩
          · have e1 : (i == (L : Int)) = false := beq_false_of_ne hi
            have e2 : (i != (L : Int)) = true := bne_iff_ne.2 hi
            have HI := Lib.hid hi
            clear hi
            gi_wp2
            exact ⟨KeepsOthers.setCell _ _ _, .inr ⟨rfl, fun hp => HI.out (by have := is_pre HK.out HL.out h2 hp; injection this)⟩⟩
        · gi_wp2
          exact ⟨KeepsOthers.setCell _ _ _, .inr ⟨rfl, not_pre_len HK.out h2⟩⟩
      · obtain rfl : k = most := by omega
        gi_wp2
        exact ⟨KeepsOthers.refl _, .inl ⟨⟨rfl, by simp [HK.out], hn⟩, HBel.out⟩⟩
    case cont5 =>
      intro D2 W6 hD2 hn hb hK2
      have hb6 : Below W5.heap.size W5 W6 := (below_boxes W5 _ _).trans hb
      have R6 := Lib.hid (R5.out.below hb6)
      obtain ⟨⟨_, q1, q2, q3, q4⟩, q5, _⟩ := R6.out
      have HK2 := Lib.hid hK2
      have HD2 : Hid (W5.heap.size ≤ D2) := by show _ ≤ _; simp at hD2; omega
      have HB6 := Lib.hid hb6
      clear hb hb6 hD2 hK2
      gi_wp2
      rw [roundsIn_succ]
      gi_wp2
      have hk6 := KeepsOthers.setCell W6 ⟨w.heap.size + 1, 0, none⟩ (.bool true)
      exact leave rfl (hk6.same D1 _ ((HB6.out.block D1 HD1.out.2).trans HK1.out) rfl) (hk6.same D2 _ HK2.out rfl) (by have h1 := HD1.out.2; have h2 := HD2.out; omega) HD1.out.1 (by have h1 := HD2.out; have h2 := R5.out.1.1.size; omega)
        (World.cell?_setCell_same' _ _ _ (by rw [q2]; rfl)) (R6.out.1.1.setCell (p := ⟨w.heap.size + 1, 0, none⟩) (by simp) _)

set_option maxRecDepth 100000 in
set_option maxHeartbeats 1000000 in
theorem walk_long (a0 : Option Addr) (len0 cap0 most : Nat) (w : World) (hT : Lib.Utf8Tabs 0 1 w) (h : 600 < len0) :
    Calls Tryd.prog 5 #[.slice a0 len0 cap0, .int .u8 most] w fun e w' => e = .returned (.bool true) ∧ Below w.heap.size w w' := by
  have BB := boxes_first w most
  have hT0 := tabs_below hT BB.1
  have c8 := callsIn_wide (n := 5) |>.2 (awake8 ((w.alloc (.cells #[.int .u8 most] 5)).alloc (.cells #[.bool false] 4)) hT0)
  have HB := Lib.hid BB
  have TT := Lib.hid hT0
  clear BB hT hT0
  refine (callsIn_wide (n := 6)).1 ?_
  refine callsIn_of_wp_marks Tryd.func5 rfl trivial ?_ rfl
  simp only [Tryd.ntmps5, List.size_toArray, List.length_cons, List.length_nil, Nat.reduceAdd, Nat.reduceSub, Array.replicate_succ, Array.replicate_zero, List.push_toArray, List.append_toArray, List.nil_append, List.cons_append]
  gi_wp2_with (refine ⟨trivial, ?_⟩; gi_at_call 8; (with_reducible refine c8.mono ?_); rintro e w1 ⟨rfl, hb1⟩)
  have HB1 := Lib.hid (HB.out.below hb1)
  have TT1 := Lib.hid (tabs_below TT.out hb1)
  clear c8 hb1 HB TT
  have c8 := callsIn_wide (n := 5) |>.2 (awake8 w1 TT1.out)
  gi_wp2_with (refine ⟨trivial, ?_⟩; gi_at_call 8; (with_reducible refine c8.mono ?_); rintro e w2 ⟨rfl, hb2⟩; have HB2 := Lib.hid (HB1.out.below hb2); have r2 := HB2.out.2.2.1; have f2 := HB2.out.2.2.2.1)
  exact leave0 rfl (World.cell?_setCell_same' _ _ _ (by rw [r2]; rfl)) (HB2.out.1.setCell (p := ⟨w.heap.size + 1, 0, none⟩) (by simp) _)

theorem walk (a0 : Option Addr) (len0 cap0 : Nat) (z0 : List Int) (a1 : Int) (w : World) (hT : Lib.Utf8Tabs 0 1 w) (w0 : IsRow .u8 w a0 len0 cap0 z0) (w1 : (Lit.int .u8 a1).wf = true) :
    Calls Tryd.prog 5 #[.slice a0 len0 cap0, .int .u8 a1] w fun e w' => e = .returned (.bool true) ∧ Below w.heap.size w w' := by
  have hb := bounds_u8 w1
  obtain ⟨most, rfl⟩ : ∃ m : Nat, a1 = (m : Int) := ⟨a1.toNat, by omega⟩
  by_cases h0 : 600 < len0
  · exact walk_long a0 len0 cap0 most w hT h0
  · obtain ⟨n0, hcap, hwf⟩ := w0.nums
    have ho := octs_of_wf hwf
    obtain ⟨s, k, hs⟩ := stop_exists _ _ (Nat.le_refl _) ho
    have hnil : a0 = none → cap0 = 0 := fun ha => by
      rcases w0 with ⟨_, _, h, _⟩ | ⟨x, hx, _⟩
      · exact h
      · rw [hx] at ha; cases ha
    exact walk_short a0 len0 cap0 _ s k most w hT n0 hnil ho (by omega) hs (by omega)

theorem contract (H : Type) (enc : TypeId × Value → H) (W : World) (base : Nat) (args : Array Value) (ds gs : List (DataW H)) (before : List MemPlace)
    (hval : ∀ (j : Nat) t v, Tryd.f5.params[j]? = some t → args[j]? = some v → Value.okWide Tryd.prog W .any base t v)
    (hW : DataW.Whole enc Tryd.prog Tryd.f5.params.toList Rows.utfPointsSpec.vars false W args.toList ds gs before) (hL : laidMetH Tryd.prog Rows.utfPointsRow.laid W) :
    Calls Tryd.prog 5 args W fun e W' => ∃ v, e = .returned v ∧ Rows.utfPointsSpec.post enc Tryd.prog Tryd.f5 false true false false W args v W' := by
  have hT := tabs hL
  have hW' := hW
  obtain ⟨p, q, hA0, hV, rfl, hfz, hnd⟩ := hW
  have hA : DataW.TrodAll enc Tryd.prog W 0 (fun _ => true) true Tryd.f5.params.toList args.toList ds p := hA0
  rw [Tryd.params5] at hA hval
  obtain ⟨v0, vs0, d0, ds0, p0, q0, hargs, rfl, rfl, h0, r0⟩ := trodAll_cons hA
  obtain ⟨v1, vs1, d1, ds1, p1, q1, rfl, rfl, rfl, h1, r1⟩ := trodAll_cons r0
  obtain ⟨rfl, rfl, rfl⟩ := trodAll_nil r1
  obtain rfl : args = #[v0, v1] := by cases args; simp_all
  obtain ⟨rfl, rfl⟩ := trodVars_none hV
  obtain ⟨a0, len0, cap0, rfl⟩ := okWide_slice Tryd.underlying24 (hval 0 24 v0 rfl rfl)
  have k0 := h0
  have lt0 : ∀ x ∈ p0, x.block < W.heap.size := by obtain ⟨m, hm⟩ := k0; exact DataW.trod_lt m _ _ _ hm
  obtain ⟨z0, w0⟩ : ∃ zs, IsRow .u8 W a0 len0 cap0 zs := by
    obtain ⟨fuel, hf⟩ := h0
    rcases open_ints Tryd.underlying24 Tryd.underlying5 (by kernel_rfl) hf with ⟨hcs, _⟩ | ⟨x, l, c, zs, hcs, _, hl, hm, hz, _, hcell, hwz⟩
    · simp [Value.cells] at hcs
      obtain ⟨rfl, rfl, rfl⟩ := hcs
      exact ⟨[], .inl ⟨rfl, rfl, rfl, rfl⟩⟩
    · simp [Value.cells] at hcs
      obtain ⟨rfl, rfl, rfl⟩ := hcs
      exact ⟨zs, .inr ⟨_, rfl, hl, hm, by simpa using hz, hcell, hwz⟩⟩
  obtain ⟨a1, rfl, rfl, rfl, w1⟩ := open_int Tryd.underlying5 (hval 1 5 v1 rfl rfl) h1
  clear hA0
  refine (walk a0 len0 cap0 z0 a1 W hT w0 w1).mono fun e W' ⟨he, bel⟩ => ?_
  subst he
  exact ⟨_, rfl, _, _, _, [], _, [], hW', trodAll_mk1 (shut_bool Tryd.underlying4 _), (trodAll_cons_mk (Below.trod laidOut (by kernel_rfl) (of_decide_eq_true (by kernel_rfl)) k0 bel lt0) (trodAll_cons_mk (shut_int Tryd.underlying5 w1) trodAll_mk0)), rfl, bel.frame _, fun h => by cases h⟩

theorem laid_met (os : Os) : laidMet Tryd.prog Rows.utfPointsRow.laid ((laidWorld os).forCall (fun _ _ => 0) ⟨#[], #[.slice none 0 0, .int .u8 0], []⟩).memory :=
  laidMet_of_run' 8 (by kernel_rfl) (by kernel_rfl)
theorem reads (os : Os) {H : Type} (enc : TypeId × Value → H) : ∃ places, DataW.whole enc Tryd.prog ((laidWorld os).forCall (fun _ _ => 0) ⟨#[], #[.slice none 0 0, .int .u8 0], []⟩).memory Tryd.f5.params.toList Rows.utfPointsSpec.vars false #[Value.slice none 0 0, .int .u8 0].toList 8 = some ([.nil, .lit (.int .u8 0)], [], places) :=
  ⟨[], by kernel_rfl⟩

set_option maxRecDepth 100000 in
theorem lifted (os : Os) (started : os.Started) (H : Type) (enc : TypeId × Value → H) (F : Stop.Interp) :
    ReturnsInHanded {} Tryd.checked os 5 .any ((OpenSpec.ofChange Rows.utfPointsSpec).preRow enc Tryd.prog Tryd.f5 Rows.utfPointsRow.domain false Rows.utfPointsRow.laid) (((OpenSpec.ofChange Rows.utfPointsSpec).at F).post enc Tryd.prog Tryd.f5 false true false false) := by
  obtain ⟨places, hx⟩ := reads os enc
  refine returnsInHanded_of_row (C := Tryd.checked) (s := OpenSpec.ofChange Rows.utfPointsSpec) own started (by kernel_rfl) Tryd.func5
    (witness_row_at (enc := enc) (C := Tryd.checked) false (laidWorld os) #[.slice none 0 0, .int .u8 0] rfl (by kernel_rfl) (by kernel_rfl) (by kernel_rfl)
      (OpenSpec.preRow_of_cond 8 hx (by kernel_rfl) (fun k hk => by cases hk) (by kernel_rfl) (laid_met os))) ?_
  intro W base args ds gs before hval hW _ _ _ hL _ _
  exact contract H enc W base args ds gs before hval hW hL

theorem said : Rows.UtfPointsSaid :=
  OpenClaim.holds_of_cond 5 Tryd.f5 rfl rfl rfl rfl rfl rfl rfl ⟨rfl, rfl, rfl, rfl, rfl⟩ rfl rfl rfl rfl rfl (by kernel_rfl) Tryd.func5 (by kernel_rfl)
    (of_decide_eq_true (by kernel_rfl)) (by unfold Func.isWrapper; first | (rw [if_pos (by decide +kernel)]; kernel_rfl) | (rw [if_neg (by decide +kernel)]; exact ⟨rfl, rfl⟩))
    (fun os started H enc _ F => by rw [OpenClaim.pre_eq_preRow]; exact lifted os started H enc F)

theorem plain (f : FuncId) (fn : Func) (hf : Tryd.pinned.checked.prog.funcNamed Rows.utfPointsRow.func = some f) (hfn : Tryd.pinned.checked.prog.funcs[f]? = some fn) :
    false = Tryd.pinned.checked.prog.looks [] ∧ ∀ (j : Nat) t, fn.params[j]? = some t → Tryd.pinned.checked.prog.wantsStandIn t = false := by
  obtain rfl : f = 5 := Option.some.inj ((show Tryd.prog.funcNamed Rows.utfPointsRow.func = some 5 by kernel_rfl).symm.trans hf) |>.symm
  obtain rfl : fn = Tryd.f5 := (Option.some.inj (Tryd.func5.symm.trans hfn)).symm
  refine ⟨by kernel_rfl, fun j t ht => ?_⟩
  rw [Tryd.params5] at ht
  have hm := Array.mem_of_getElem? ht
  simp at hm
  rcases hm with rfl | rfl
  · exact (show Tryd.prog.wantsStandIn 24 = false by kernel_rfl)
  · exact (show Tryd.prog.wantsStandIn 5 = false by kernel_rfl)
end Go.Proofs.YtijokbgpbpfclaaDoor.utfPoints
namespace Go.Proofs.YtijokbgpbpfclaaDoor
theorem utfPoints_card : Rows.UtfPointsCardSaid :=
  Claim7.holds_tied_plain_at .later [] _ _ _ _ utfPoints.said (fun _ h => by cases h) (by kernel_rfl) (fun _ h => by cases h) utfPoints_row_tie rfl ⟨rfl, rfl⟩ (by kernel_rfl) rfl utfPoints.plain (by kernel_rfl)
#print axioms utfPoints_card
end Go.Proofs.YtijokbgpbpfclaaDoor

