/- For any octets and any short text the statement FieldRemarks answers true: remarks behind lines' bodies, and octet 0D ahead of their ends, change no fields. Conditions: those of the row itself (the two tables of unicode/utf8 hold what Go's text lays in them; the card ties that to the text). -/
import Derived.Test.YtlknffldlnhfdaaDoorCards
import Derived.Test.YtlknffldlnhfdaaDoorTie
import Derived.Test.YtlknffldlnhfdaaDoorLaid
import Derived.Test.YtlknffldlnhfdaaDoorLoop
import Derived.Test.YtlknffldlnhfdaaDoorQuietin
import Derived.Test.YtlknffldlnhfdaaDoorRem
namespace Go.Proofs.YtlknffldlnhfdaaDoor.fieldRemarks
open Go.ChangeShapes Go.WideShapes Go.ChangeAt Go.RowKit Go.Shelf
attribute [local go_sem] Oper.semAt_some
attribute [local go_sem] round_fn
attribute [local simp] round_fn

/-- The box that the statement lays first, in whatever world comes later. -/
def Boxes (w : World) (W : World) : Prop :=
  Below w.heap.size w W ∧ W.cell? ⟨w.heap.size, 0, none⟩ = some (.bool false) ∧ W.frozen? ⟨w.heap.size, 0, none⟩ = false ∧ w.heap.size < W.heap.size
theorem boxes_first (w : World) : Boxes w (w.alloc (.cells #[.bool false] 4)) :=
  ⟨(Below.refl _ w).alloc (Nat.le_refl _) _, by simp, frozen_new w _ _ _, by simp⟩
theorem Boxes.below {w : World} {W W' : World} (h : Boxes w W) (hb : Below W.heap.size W W') : Boxes w W' := by
  obtain ⟨h1, h3, h4, h5⟩ := h
  exact ⟨h1.trans (hb.mono h1.size), (hb.cell (p := ⟨w.heap.size, 0, none⟩) h5).trans h3, (hb.frozen (p := ⟨w.heap.size, 0, none⟩) h5).trans h4, Nat.lt_of_lt_of_le h5 hb.size⟩
theorem leave {w Wf : World} {D : Nat} {tmps : Array Value} {m : Nat} (ht : tmps[4]?.getD undef = .pointer (some ⟨w.heap.size, 0, none⟩)) (hk : Wf.heap[D]? = some (.deferred (some []))) (hd : w.heap.size ≤ D)
    (hr : Wf.cell? ⟨w.heap.size, 0, none⟩ = some (.bool true)) (hb : Below w.heap.size w Wf) :
    LeavesInM Fence.wide m Tryd.prog Tryd.f6 tmps (fun e w' => e = .returned (.bool true) ∧ Below w.heap.size w w') [{ target := .collected D, args := #[] }] .returning Wf := by
  refine ⟨by simp, .inl ⟨_, _, rfl, run_takeDeferred hk, ?_⟩⟩
  have h1 := cell_kept hr (grownBy_putObj' _ D (.deferred none)) (fun r e => by cases e; exact ⟨_, hk, rfl⟩)
  refine ⟨.bool true, ?_, rfl, hb.trans (belowK_b (w := w) (Nat.le_refl _) _ D _ _ hd hk rfl rfl)⟩
  simp [results, Tryd.results6, go_sem, h1, ht]
theorem leave0 {w Wf : World} {tmps : Array Value} {m : Nat} (ht : tmps[4]?.getD undef = .pointer (some ⟨w.heap.size, 0, none⟩)) (hr : Wf.cell? ⟨w.heap.size, 0, none⟩ = some (.bool true)) (hb : Below w.heap.size w Wf) :
    LeavesInM Fence.wide m Tryd.prog Tryd.f6 tmps (fun e w' => e = .returned (.bool true) ∧ Below w.heap.size w w') [] .returning Wf := by
  refine ⟨.bool true, ?_, rfl, hb⟩
  simp [results, Tryd.results6, go_sem, hr, ht]

set_option maxRecDepth 100000 in
set_option maxHeartbeats 1000000 in
theorem walk_long (a0 : Option Addr) (len0 cap0 : Nat) (R : List UInt8) (w : World) (hM : ML w) (hR : R.length ≤ maxLen) (h : 400 < len0 ∨ (len0 ≤ 400 ∧ 30 < R.length)) :
    Calls Tryd.prog 6 #[.slice a0 len0 cap0, .string (bs R)] w fun e w' => e = .returned (.bool true) ∧ Below w.heap.size w w' := by
  have BB := boxes_first w
  have hM0 := hM.below BB.1
  have c7 := callsIn_wide (n := 8) |>.2 (awake7 (w.alloc (.cells #[.bool false] 4)) hM0)
  have HB := Lib.hid BB
  have MM := Lib.hid hM0
  have hsz := bs_size R
  obtain ⟨n, hn⟩ : ∃ n, R.length = n := ⟨_, rfl⟩
  rw [hn] at hR h hsz
  unfold maxLen at hR
  clear BB hM hM0 hn
  refine (callsIn_wide (n := 9)).1 ?_
  refine callsIn_of_wp_marks Tryd.func6 rfl trivial ?_ rfl
  simp only [Tryd.ntmps6, List.size_toArray, List.length_cons, List.length_nil, Nat.reduceAdd, Nat.reduceSub, Array.replicate_succ, Array.replicate_zero, List.push_toArray, List.append_toArray, List.nil_append, List.cons_append]
  rcases h with h | ⟨h, h'⟩
  all_goals
    gi_wp2_with (refine ⟨trivial, ?_⟩; gi_at_call 7; (with_reducible refine c7.mono ?_); rintro e w1 ⟨rfl, hb1⟩)
    have HB1 := Lib.hid (HB.out.below hb1)
    have MM1 := Lib.hid (MM.out.below hb1)
    clear c7 hb1 HB MM
    have c7 := callsIn_wide (n := 8) |>.2 (awake7 w1 MM1.out)
    gi_wp2_with (refine ⟨trivial, ?_⟩; gi_at_call 7; (with_reducible refine c7.mono ?_); rintro e w2 ⟨rfl, hb2⟩; have HB2 := Lib.hid (HB1.out.below hb2); have r2 := HB2.out.2.1; have f2 := HB2.out.2.2.1)
    exact leave0 rfl (World.cell?_setCell_same' _ _ _ (by rw [r2]; rfl)) (HB2.out.1.setCell (p := ⟨w.heap.size, 0, none⟩) (Nat.le_refl _) _)

/-- A text's octets, in new memory. -/
theorem convB (W : World) (x : List UInt8) : ∃ cap W', (convert 9 22 (.string (bs x))).run Tryd.prog W = .ok (.slice (some ⟨W.heap.size, 0, none⟩) x.length cap) W' ∧ Below W.heap.size W W' ∧ Octs W' (some ⟨W.heap.size, 0, none⟩) x.length x := by
  have h := run_bytes_of_string (P := Tryd.prog) W 9 22 5 (bs x) Tryd.underlying9 Tryd.underlying22 Tryd.underlying5
  rw [bs_size] at h
  refine ⟨_, _, h, (below_drew (Below.refl W.heap.size W)).alloc (by show _ ≤ W.heap.size; exact Nat.le_refl _) _, ?_⟩
  refine octs_of rfl (fun _ => by simp) (fun j hj => ?_)
  rw [Nat.zero_add]
  have hn := World.alloc_heap_new W.drew (.cells (bytesRow (bs x) (grownCap W x.length 0 5)) 5 ((bytesRow (bs x) (grownCap W x.length 0 5)).size, (bytesRow (bs x) (grownCap W x.length 0 5)).size + 1))
  unfold World.cell?
  simp only
  have e : W.drew.heap.size = W.heap.size := rfl
  rw [e] at hn
  rw [hn]
  have hj' : j < (bs x).data.size := by have := bs_size x; show j < (bs x).size; omega
  have hb := bytesRow_at (bs x) (grownCap W x.length 0 5) j hj'
  have he : ((bs x).data[j].toNat : Int) = (ints x).getD j 0 := by
    rw [ints_get]
    exact bs_oct x j hj'
  rw [he] at hb
  simpa using hb

def RemRel (R : List UInt8) (n : Nat) (w1 : World) (i : Value) (wr : World) : Prop := wr = w1 ∧ ∃ k : Nat, i = .int .i64 k ∧ k ≤ n ∧ ∀ j, j < k → ¬ R.getD j 0 = 10
def CatRel (R : List UInt8) (P : List (List UInt8)) (w2 : World) (s i : Value) (wr : World) : Prop :=
  ∃ k q : Nat, wr = w2.drewN q ∧ i = .int .i64 k ∧ s = .string (bs (allR R (P.take k))) ∧ k ≤ P.length ∧ ∀ j, j < k → ¬ (P.getD j []).getLast? = some 13

set_option maxRecDepth 100000 in
set_option maxHeartbeats 4000000 in
theorem walk_short (a0 : Option Addr) (len0 cap0 : Nat) (l R : List UInt8) (w : World) (hM : ML w) (hO : Octs w a0 len0 l) (h : len0 ≤ 400) (hR : R.length ≤ 30) :
    Calls Tryd.prog 6 #[.slice a0 len0 cap0, .string (bs R)] w fun e w' => e = .returned (.bool true) ∧ Below w.heap.size w w' := by
  have BB := boxes_first w
  have hM0 := hM.below BB.1
  have hl := hO.len
  have h0w : 0 < w.heap.size := by obtain ⟨mm, hmm⟩ := hM; exact World.block_lt_of_cell? w _ hmm
  have c7 := callsIn_wide (n := 8) |>.2 (awake7 (w.alloc (.cells #[.bool false] 4)) hM0)
  have HB := Lib.hid BB
  have MM := Lib.hid hM0
  have OO := Lib.hid (hO.below BB.1)
  have HLN := Lib.hid hl
  have hsz := bs_size R
  obtain ⟨n, hn⟩ : ∃ n, R.length = n := ⟨_, rfl⟩
  have HRL := Lib.hid hn
  rw [hn] at hR hsz
  clear BB hM hM0 hO hl hn
  refine (callsIn_wide (n := 9)).1 ?_
  refine callsIn_of_wp_marks Tryd.func6 rfl trivial ?_ rfl
  simp only [Tryd.ntmps6, List.size_toArray, List.length_cons, List.length_nil, Nat.reduceAdd, Nat.reduceSub, Array.replicate_succ, Array.replicate_zero, List.push_toArray, List.append_toArray, List.nil_append, List.cons_append]
  gi_wp2_with (refine ⟨trivial, ?_⟩; gi_at_call 7; (with_reducible refine c7.mono ?_); rintro e w1 ⟨rfl, hb1⟩)
  have HB1 := Lib.hid (HB.out.below hb1)
  have MM1 := Lib.hid (MM.out.below hb1)
  have OO1 := Lib.hid (OO.out.below hb1)
  clear c7 hb1 HB MM OO
  gi_loopw [5] (fun i wr => RemRel R n w1 i wr) (fun i _ => n - (intOf i).toNat)
  case atStart => exact ⟨rfl, 0, rfl, Nat.zero_le _, fun j hj => absurd hj (by omega)⟩
  case round =>
    obtain ⟨rfl, k, rfl, hkn, hno⟩ := hrel
    by_cases hlt : k < n
    · have hx := bs_oct R k
      have q2 := HB1.out.2.1
      have q3 := HB1.out.2.2.1
      obtain ⟨X, hX⟩ : ∃ X, oct R k = X := ⟨_, rfl⟩
      rw [hX] at hx
      have HX := Lib.hid hX
      have HNO := Lib.hid hno
      clear hX hno
      by_cases h10 : X = 10
      · subst h10
        gi_wp2
        exact leave0 rfl (World.cell?_setCell_same' _ _ _ (by rw [q2]; rfl)) (HB1.out.1.setCell (p := ⟨w.heap.size, 0, none⟩) (Nat.le_refl _) _)
      · have h10b : (X == 10) = false := beq_false_of_ne h10
        by_cases h13 : X = 13
        · subst h13
          gi_wp2
          exact leave0 rfl (World.cell?_setCell_same' _ _ _ (by rw [q2]; rfl)) (HB1.out.1.setCell (p := ⟨w.heap.size, 0, none⟩) (Nat.le_refl _) _)
        · have h13b : (X == 13) = false := beq_false_of_ne h13
          gi_wp2
          go_roundw
          case rel =>
            refine ⟨rfl, k + 1, by go_num, by omega, fun j hj => ?_⟩
            by_cases e : j = k
            · subst e
              intro e2
              apply h10
              rw [← HX.out]
              unfold oct
              rw [e2]
              rfl
            · exact HNO.out j (by omega)
          case measure => simp [intOf]; omega
    · have hke : k = n := by omega
      subst hke
      have hR10 : (10 : UInt8) ∉ R := by
        intro hm
        obtain ⟨j, hj, e⟩ := List.getElem_of_mem hm
        refine hno j (by rw [← HRL.out]; exact hj) ?_
        rw [List.getD_eq_getElem?_getD, List.getElem?_eq_getElem hj]
        exact e
      have HR10 := Lib.hid hR10
      clear hno hR10
      have hconv := conv22 cap0 OO1.out
      have c20 := callsIn_wide (n := 8) |>.2 (cut20_at 10 10 rfl l wr (by have := HLN.out; omega))
      gi_wp2_with (refine ⟨trivial, ?_⟩; gi_at_call 20; (with_reducible refine c20.mono ?_); rintro e w2 ⟨hb2, A, ca, rfl, hV⟩)
      have HB2 := Lib.hid (HB1.out.below hb2)
      have MM2 := Lib.hid (MM1.out.below hb2)
      have OO2 := Lib.hid (OO1.out.below hb2)
      have hPl := cutAll_length 10 l
      have hPp := fun k (h : k < (cutAll 10 l).length) => cutAll_mem_length 10 l _ (getD_mem (d := []) h)
      have hbnd := fun k => allR_bound (R := R) (l := l) (by rw [HLN.out]; exact h) (by rw [HRL.out]; exact hR) k
      have hfin := fun hh => lines_allR (R := R) (l := l) HR10.out hh
      clear c20 hconv HB1 MM1 OO1 hb2
      obtain ⟨P, hP⟩ : ∃ P, cutAll 10 l = P := ⟨_, rfl⟩
      rw [hP] at hV hPl hPp hfin ⊢
      simp only [hP] at hbnd
      obtain ⟨N, hN⟩ : ∃ N, P.length = N := ⟨_, rfl⟩
      rw [hN] at hV hPl ⊢
      have HV := Lib.hid hV
      have HN := Lib.hid hN
      have HPP := Lib.hid hPp
      have HBD := Lib.hid hbnd
      have HFIN := Lib.hid hfin
      clear hV hN hPp hbnd hfin hP hkn hlt
      have hl400 := HLN.out
      rw [hl400] at hPl
      clear hl400
      obtain ⟨wA, rfl⟩ : ∃ wA, wA = wr := ⟨_, rfl⟩
      gi_wp2
      gi_loopw [7, 8] (fun s i wr => CatRel R P w2 s i wr) (fun _ i _ => N - (intOf i).toNat)
      case atStart => exact ⟨0, 0, rfl, rfl, rfl, Nat.zero_le _, fun j hj => absurd hj (by omega)⟩
      case round =>
        obtain ⟨k, q, rfl, rfl, rfl, hkP, hlast⟩ := hrel
        have hmx : Tryd.prog.follows .mixedOrders = true := by kernel_rfl
        have q2 := HB2.out.2.1
        have q3 := HB2.out.2.2.1
        by_cases hlt : k < N
        · have hkP' : k < P.length := by rw [HN.out]; exact hlt
          obtain ⟨b, off, rfl, hbl, hcell⟩ := HV.out.2 (by omega)
          have hck : w2.cell? ⟨b, off + k, none⟩ = some (.string (bs (P.getD k []))) := hcell k _ (strs_get hkP')
          have hpl := HPP.out k hkP'
          rw [HLN.out] at hpl
          have hsn := allR_snoc (R := R) hkP'
          have hxl := HBD.out k
          obtain ⟨x, hx⟩ : ∃ x, allR R (P.take k) = x := ⟨_, rfl⟩
          obtain ⟨p, hp⟩ : ∃ p, P.getD k [] = p := ⟨_, rfl⟩
          rw [hx] at hsn hxl ⊢
          rw [hp] at hsn hpl hck
          have hcr := cr_cases p (by omega)
          have hxs := bs_size x
          have HP0 := Lib.hid hp
          have HSN := Lib.hid hsn
          have HLA := Lib.hid hlast
          have HKP := Lib.hid hkP'
          clear hcell hsn hp hx hlast hkP' hkP
          have hcr' : (¬ p.getLast? = some 13 ∧ ((bs p).size = 0 ∨ ∃ n, (bs p).size = n + 1 ∧ n ≤ 1000000 ∧ ∃ X : Int, (∀ h, (((bs p)[n]'h).toNat : Int) = X) ∧ (X == 13) = false)) ∨ (∃ n, (bs p).size = n + 1 ∧ n ≤ 1000000 ∧ (∀ h, (((bs p)[n]'h).toNat : Int) = 13)) := by
            rcases hcr with ⟨e, h⟩ | ⟨n, h1, h2, h3, -⟩
            · by_cases hl13 : p.getLast? = some 13
              · exfalso
                unfold noCR at e
                rw [if_pos hl13] at e
                have := congrArg List.length e
                rw [List.length_dropLast] at this
                have hpos : 0 < p.length := by
                  cases p with
                  | nil => simp at hl13
                  | cons _ _ => simp
                omega
              · exact .inl ⟨hl13, h⟩
            · exact .inr ⟨n, h1, h2, h3⟩
          clear hcr
          rcases hcr' with ⟨h13, hcs⟩ | ⟨m, hm1, hm2, hm3⟩
          · have hrel : Hid (∀ q', CatRel R P w2 (.string (bs ((((x ++ p) ++ [35]) ++ R) ++ [13, 10]))) (.int .i64 ((k : Int) + 1)) (w2.drewN q')) := Lib.hid fun q' =>
              ⟨k + 1, q', rfl, by go_num, by rw [HSN.out], HKP.out, fun j hj => by
                by_cases e : j = k
                · subst e; rw [HP0.out]; exact h13
                · exact HLA.out j (by omega)⟩
            have ha1 := bs_app x p
            have ha2 : bs (x ++ p) ++ ⟨#[35]⟩ = bs ((x ++ p) ++ [35]) := bs_app _ [35]
            have ha3 := bs_app ((x ++ p) ++ [35]) R
            have ha4 : bs (((x ++ p) ++ [35]) ++ R) ++ ⟨#[13, 10]⟩ = bs ((((x ++ p) ++ [35]) ++ R) ++ [13, 10]) := bs_app _ [13, 10]
            have z1 : (bs (x ++ p)).size ≤ 30000 := by rw [bs_size, List.length_append]; omega
            have z2 : (bs ((x ++ p) ++ [35])).size ≤ 30001 := by rw [bs_size, List.length_append, List.length_append]; simp; omega
            have z3 : (bs (((x ++ p) ++ [35]) ++ R)).size ≤ 30031 := by rw [bs_size, List.length_append, List.length_append, List.length_append]; have := HRL.out; simp; omega
            generalize bs (x ++ p) = T1 at ha1 ha2 z1
            generalize bs ((x ++ p) ++ [35]) = T2 at ha2 ha3 z2
            generalize bs (((x ++ p) ++ [35]) ++ R) = T3 at ha3 ha4 z3
            generalize bs ((((x ++ p) ++ [35]) ++ R) ++ [13, 10]) = T4 at ha4 hrel
            clear h13 HSN HLA HP0 HKP
            obtain ⟨t, ht⟩ : ∃ t, bs p = t := ⟨_, rfl⟩
            obtain ⟨u, hu⟩ : ∃ u, bs x = u := ⟨_, rfl⟩
            rw [ht] at hck hcs ha1
            rw [hu] at hxs ha1 ⊢
            clear ht hu
            rcases hcs with h0 | ⟨m, h0, hm, X, hX, hX13⟩
            all_goals
              gi_wp2
              gi_big_quiet_th_o (fail)
              gi_wp2
              go_roundw
              case rel => exact hrel.out _
              case measure => simp [intOf]; omega
          · gi_wp2
            gi_big_quiet_th_o (fail)
            gi_wp2
            exact leave0 rfl (World.cell?_setCell_same' _ _ _ (by show (w2.cell? _).isSome = true; rw [q2]; rfl)) ((below_drewN HB2.out.1 (q + nq)).setCell (p := ⟨w.heap.size, 0, none⟩) (Nat.le_refl _) _)
        · have hke : k = N := by have := HN.out; omega
          subst hke
          rw [List.take_of_length_le (by rw [HN.out]; exact Nat.le_refl _)]
          have hlast' : ∀ p ∈ P, ¬ p.getLast? = some 13 := by
            intro p hp
            obtain ⟨j, hj, e⟩ := List.getElem_of_mem hp
            have := hlast j (by rw [← HN.out]; exact hj)
            rw [List.getD_eq_getElem?_getD, List.getElem?_eq_getElem hj] at this
            rw [← e]
            exact this
          have hxl : (allR R P).length ≤ 20000 := by
            have := HBD.out k
            rwa [List.take_of_length_le (by rw [HN.out]; exact Nat.le_refl _)] at this
          have HWT0 : Hid (linesIn (allR R P) = linesIn l) := Lib.hid (HFIN.out hlast')
          obtain ⟨x, hx⟩ : ∃ x, allR R P = x := ⟨_, rfl⟩
          rw [hx] at hxl HWT0 ⊢
          clear hlast hlast' hx HFIN HBD HPP hkP
          have hb3 : Below w2.heap.size w2 (w2.drewN q) := below_drewN (Below.refl _ _) q
          have HB3 := Lib.hid (HB2.out.below hb3)
          have MM3 := Lib.hid (MM2.out.below hb3)
          have OO3 := Lib.hid (OO2.out.below hb3)
          generalize w2.drewN q = w3 at HB3 MM3 OO3 hb3 ⊢
          clear HV HB2 MM2 OO2 hb3 q2 q3 hlt
          have hconv := conv22 cap0 OO3.out
          have c8 := callsIn_wide (n := 8) |>.2 (lines8 l w3 (by rw [HLN.out]; omega))
          gi_wp2_with (refine ⟨trivial, ?_⟩; gi_at_call 8; (with_reducible refine c8.mono ?_); rintro e w4 ⟨hb4, A2, cw, rfl, hcw, hLA⟩; obtain ⟨cap9, W9, hk9, hb9, hO9⟩ := convB ((w4.alloc (.cells #[.slice A2 (linesIn l).length cw] 24)).alloc (.cells #[.int .i64 0] 3)) x; rw [World.size_alloc, World.size_alloc] at hk9)
          have hwl : (linesIn l).length ≤ 1000 := by
            rw [← lines_pieces]
            have h1 := List.length_filterMap_le lineOf (numbered 1 (pieces l))
            rw [numbered_length] at h1
            have h2 := pieces_length l
            have h3 := HLN.out
            omega
          have HB4 := Lib.hid (HB3.out.below hb4)
          have MM4 := Lib.hid (MM3.out.below hb4)
          clear c8 HB3 MM3 OO3 hconv hb4 hk9
          have hylen : ∀ y ∈ linesIn l, y.2.length ≤ 1000000 := fun y hy => by have h2 := lines_bound hy; have h3 := HLN.out; omega
          obtain ⟨want, hwt⟩ : ∃ want, linesIn l = want := ⟨_, rfl⟩
          rw [hwt] at hcw hLA hwl HWT0 hb9 hO9 hylen ⊢
          obtain ⟨M, hM⟩ : ∃ M, want.length = M := ⟨_, rfl⟩
          rw [hM] at hcw hLA hwl hb9 hO9 ⊢
          have HM := Lib.hid hM
          have HYL := Lib.hid hylen
          clear hM hwt hylen
          have b5 : Below w4.heap.size w4 ((w4.alloc (.cells #[.slice A2 M cw] 24)).alloc (.cells #[.int .i64 0] 3)) := ((Below.refl _ _).alloc (Nat.le_refl _) _).alloc (by simp) _
          have hcw5 : ((w4.alloc (.cells #[.slice A2 M cw] 24)).alloc (.cells #[.int .i64 0] 3)).cell? ⟨w4.heap.size, 0, none⟩ = some (.slice A2 M cw) := by simp
          have hcn5 : ((w4.alloc (.cells #[.slice A2 M cw] 24)).alloc (.cells #[.int .i64 0] 3)).cell? ⟨w4.heap.size + 1, 0, none⟩ = some (.int .i64 0) := by simp
          have hfn5 : ((w4.alloc (.cells #[.slice A2 M cw] 24)).alloc (.cells #[.int .i64 0] 3)).frozen? ⟨w4.heap.size + 1, 0, none⟩ = false := by
            have := frozen_new (w4.alloc (.cells #[.slice A2 M cw] 24)) #[.int .i64 0] 3 0
            rwa [World.size_alloc] at this
          have hs5 : ((w4.alloc (.cells #[.slice A2 M cw] 24)).alloc (.cells #[.int .i64 0] 3)).heap.size = w4.heap.size + 2 := by simp
          rw [hs5] at hO9
          have hM9 := (MM4.out.below b5).below hb9
          generalize (w4.alloc (.cells #[.slice A2 M cw] 24)).alloc (.cells #[.int .i64 0] 3) = W5 at b5 hcw5 hcn5 hfn5 hs5 hb9 hM9
          have c9 := callsIn_wide (n := 8) |>.2 (lines9 (some ⟨w4.heap.size + 2, 0, none⟩) x.length cap9 x W9 hO9 (by omega))
          have HO9 := Lib.hid hO9
          have HS5 := Lib.hid hs5
          have HLA := Lib.hid hLA
          have HB9 := Lib.hid hb9
          clear hs5 hLA hO9 hb9
          gi_wp2_with (refine ⟨trivial, ?_⟩; gi_at_call 9; (with_reducible refine c9.mono ?_); rintro e W6 ⟨hb6, B, PP, cb, rfl, hB1, hB2, hBc, hOP, hcb, hPn, hPb⟩; have h1 := Lib.hid hOP; have h2 := Lib.hid hPn; have h3 := Lib.hid hPb; clear hOP hPn hPb)
          have hs5 := HS5.out
          have hs9 := HB9.out.size
          have hs6 := hb6.size
          have hs4 := HB4.out.2.2.2
          have hq := iter23 8 B x.length cb W9.heap.size PP x W6 (by omega) (by omega) hB1 hB2 hBc h1.out h3.out (hM9.below hb6) h2.out hcb
          rw [HWT0.out] at hq
          have hb56 : Below W5.heap.size W5 W6 := HB9.out.trans (hb6.mono hs9)
          have hb46 : Below w4.heap.size w4 W6 := b5.trans (hb56.mono b5.size)
          have h0 : FlI want 300000 (w4.heap.size + 1) w W6 [] W6 := ⟨⟨List.nil_prefix, Nat.zero_le _⟩, ⟨(hb56.cell (p := ⟨w4.heap.size + 1, 0, none⟩) (by show w4.heap.size + 1 < _; omega)).trans hcn5, (hb56.frozen (p := ⟨w4.heap.size + 1, 0, none⟩) (by show w4.heap.size + 1 < _; omega)).trans hfn5⟩, Kept.refl _ _, HB4.out.1.trans (hb46.mono HB4.out.1.size)⟩
          have hcw6 : W6.cell? ⟨w4.heap.size, 0, none⟩ = some (.slice A2 M cw) := (hb56.cell (p := ⟨w4.heap.size, 0, none⟩) (by show w4.heap.size < _; omega)).trans hcw5
          have HQ := Lib.hid hq
          have H0 := Lib.hid h0
          have HB46 := Lib.hid hb46
          have HCW := Lib.hid hcw6
          have HL : Hid (W9.heap.size ≤ W6.heap.size ∧ w.heap.size ≤ W6.heap.size ∧ w4.heap.size + 1 < W9.heap.size ∧ w.heap.size < w4.heap.size) := Lib.hid ⟨hs6, by omega, by omega, hs4⟩
          clear hq h0 hs5 hs6 hs4 hs9 hcn5 hfn5 hBc hb6 b5 hM9 c9 HS5 hcw5 hcw6 hb46 hb56 hB1 hB2 MM4 HB9 HO9
          refine range_own2 rfl (by omega) rfl trivial (enters_of Tryd.func23 (by kernel_rfl) rfl) HQ.out (Nat.zero_le _) (.inr HL.out.1) (.inr (by have := HL.out.1; omega)) (fun _ => rfl) (fun x => lnRd_abide x _)
            (FlI want 300000 (w4.heap.size + 1) w W6) (FlX 0 want 300000 (w4.heap.size + 1) w W6) (fli_abide _ _ _ _ _ HL.out.2.1) (flx_abide _ _ _ _ _ _ HL.out.2.1) H0.out LnBox (fun x b => lnBox_abide x b _) ?a1 ?assign ?body ?done ?stop
          case assign =>
            rintro l' pre x' W K hi hr hK
            simp only [lnVal]
            gi_wp2
            obtain ⟨b, hb⟩ : ∃ b, W.heap.size = b := ⟨_, rfl⟩
            rw [hb]
            refine hK b _ (Kept.alloc _ _) ((fli_abide _ _ _ _ _ HL.out.2.1).alloc _ hi) ((lnRd_abide x' 0).alloc (s := ()) _ hr) ?_
            rw [← hb]
            exact lnBox_new x' W
          case body =>
            rintro lq pre ⟨num, Af, fs⟩ b W hi hr ⟨hb1, hb2⟩ hlen
            have hK2 : Kept (fun k => k < w4.heap.size) w4 W := (Kept.of_below HB46.out).trans (hi.2.2.1.mono (fun k hk => by omega))
            have hL := HL.out
            have q2 : W.cell? ⟨w.heap.size, 0, none⟩ = some (.bool false) := hK2.cell (a := ⟨w.heap.size, 0, none⟩) (by show w.heap.size < _; omega) HB4.out.2.1
            have q3 : W.frozen? ⟨w.heap.size, 0, none⟩ = false := (hK2.frozen (a := ⟨w.heap.size, 0, none⟩) (by show w.heap.size < _; omega) HB4.out.2.1).trans HB4.out.2.2.1
            have q4 : W.cell? ⟨w4.heap.size, 0, none⟩ = some (.slice A2 M cw) := hi.2.2.1.cell (a := ⟨w4.heap.size, 0, none⟩) (by show w4.heap.size ≠ _; omega) HCW.out
            have q5 := HLA.out.kept hK2
            have hcn := hi.2.1.1
            have hfn := hi.2.1.2
            have hnext := fun q hx => @fl_next want 300000 (w4.heap.size + 1) W9.heap.size w W6 W pre (num, Af, fs) q hi hx (by omega) (by omega) (by omega) (by omega)
            have hbad := @fl_bad want pre (num, Af, fs)
            obtain ⟨k2, hk⟩ : ∃ k, pre.length = k := ⟨_, rfl⟩
            rw [hk] at hcn hnext hbad hlen
            have HNX := Lib.hid hnext
            have hbad2 : ∀ q, want[k2]? ≠ some (view (num, Af, fs)) → Kept (fun k => k = 0 ∨ W9.heap.size ≤ k) W ((W.drewN q).setCell ⟨w.heap.size, 0, none⟩ (.bool false)) ∧ FlX 0 want 300000 (w4.heap.size + 1) w W6 .ret (pre ++ [(num, Af, fs)]) ((W.drewN q).setCell ⟨w.heap.size, 0, none⟩ (.bool false)) := fun q hne =>
              ⟨(Kept.of_drew W q).trans (Kept.setCell _ _ _ (by have := HL.out; omega)), .inr ⟨rfl, hbad hne⟩⟩
            have HB2' := Lib.hid hbad2
            have hrL : fs.length ≤ 200000 := hr.2
            have HRV : Hid (Vals W Af fs.length (strs fs)) := Lib.hid hr.1
            have Q5 := Lib.hid q5
            clear hnext hbad hi hk hK2 hbad2 hr q5
            by_cases hkN : k2 < M
            · have hkw : k2 < want.length := by rw [HM.out]; exact hkN
              obtain ⟨wb, hA, -, hc⟩ := Q5.out.2 (by omega)
              subst hA
              obtain ⟨y, hy⟩ : ∃ y, want[k2]? = some y := ⟨_, List.getElem?_eq_getElem hkw⟩
              obtain ⟨e1, F, cf, e2, hVF⟩ := hc k2 y hy
              have hyl : y.2.length ≤ 1000000 := HYL.out y (List.mem_of_getElem? hy)
              have HY := Lib.hid hy
              have HVF := Lib.hid hVF
              clear hc hy hVF hkw
              obtain ⟨ny, gs⟩ := y
              simp only at e1 e2 hyl
              rw [Nat.mul_comm] at e1 e2
              have HVF' : Hid (Vals W F gs.length (strs gs)) := Lib.hid HVF.out
              clear HVF
              have hd0 : decide (M ≤ k2) = false := decide_eq_false (by omega)
              by_cases g1 : num = ny
              · subst g1
                by_cases g2 : fs = gs
                · have R := Lib.hid (fun q => HNX.out q (by rw [HY.out, g2]; rfl))
                  have hd : Hid (decide (fs = gs) = true) := by rw [decide_eq_true g2]; exact Lib.hid rfl
                  have hfl : Hid (fs.length ≤ 1000000) := Lib.hid (by omega)
                  clear HNX HB2' HY g2
                  gi_wp2
                  refine region_round (by kernel_rfl) hmx (by kernel_rfl) ?_
                  repeat (gi_big_quiet_step (((gi_at_call 10; exact same_quiet lq _ Af F _ _ _ cf fs gs W HRV.out HVF'.out hfl.out hyl true hd.out _))))
                  refine wpQuietIn_nil ?_
                  intro _ hw'
                  obtain ⟨nq, hw''⟩ := hw'
                  subst hw''
                  gi_wp2
                  exact R.out nq
                · have R := Lib.hid (fun q => HB2'.out q (by rw [HY.out]; intro e; cases e; exact g2 rfl))
                  have hd : Hid (decide (fs = gs) = false) := by rw [decide_eq_false g2]; exact Lib.hid rfl
                  have hfl : Hid (fs.length ≤ 1000000) := Lib.hid (by omega)
                  clear HNX HB2' HY g2
                  gi_wp2
                  refine region_round (by kernel_rfl) hmx (by kernel_rfl) ?_
                  repeat (gi_big_quiet_step (((gi_at_call 10; exact same_quiet lq _ Af F _ _ _ cf fs gs W HRV.out HVF'.out hfl.out hyl false hd.out _))))
                  refine wpQuietIn_nil ?_
                  intro _ hw'
                  obtain ⟨nq, hw''⟩ := hw'
                  subst hw''
                  gi_wp2
                  exact R.out nq
              · have R := Lib.hid (fun q => HB2'.out q (by rw [HY.out]; intro e; cases e; exact g1 rfl))
                have g1b : (num == ny) = false := beq_false_of_ne g1
                have g1c : (num != ny) = true := by simp [bne, g1b]
                clear HNX HB2' HY
                gi_wp2
                refine region_round (by kernel_rfl) hmx (by kernel_rfl) ?_
                repeat (gi_big_quiet_step (fail))
                refine wpQuietIn_nil ?_
                intro _ hw'
                obtain ⟨nq, hw''⟩ := hw'
                subst hw''
                gi_wp2
                exact R.out nq
            · have hd0 : decide (M ≤ k2) = true := decide_eq_true (by omega)
              have R := Lib.hid (fun q => HB2'.out q (by rw [List.getElem?_eq_none (by rw [HM.out]; omega)]; intro e; cases e))
              clear HNX HB2'
              gi_wp2
              refine region_round (by kernel_rfl) hmx (by kernel_rfl) ?_
              repeat (gi_big_quiet_step (fail))
              refine wpQuietIn_nil ?_
              intro _ hw'
              obtain ⟨nq, hw''⟩ := hw'
              subst hw''
              gi_wp2
              exact R.out nq
          case done =>
            rintro D xs W hD hxs hi hKD
            have hK2 : Kept (fun k => k < w4.heap.size) w4 W := (Kept.of_below HB46.out).trans (hi.2.2.1.mono (fun k hk => by omega))
            have hL := HL.out
            have q2 : W.cell? ⟨w.heap.size, 0, none⟩ = some (.bool false) := hK2.cell (a := ⟨w.heap.size, 0, none⟩) (by show w.heap.size < _; omega) HB4.out.2.1
            have q3 : W.frozen? ⟨w.heap.size, 0, none⟩ = false := (hK2.frozen (a := ⟨w.heap.size, 0, none⟩) (by show w.heap.size < _; omega) HB4.out.2.1).trans HB4.out.2.2.1
            have q4 : W.cell? ⟨w4.heap.size, 0, none⟩ = some (.slice A2 M cw) := hi.2.2.1.cell (a := ⟨w4.heap.size, 0, none⟩) (by show w4.heap.size ≠ _; omega) HCW.out
            have hlen : xs.length = M := by
              have := congrArg List.length hxs
              rw [List.length_map, HM.out] at this
              exact this
            have hcn := hi.2.1.1
            rw [hlen] at hcn
            have HBW := Lib.hid hi.2.2.2
            clear hi hxs hK2 hlen
            gi_wp2
            exact leave rfl ((KeepsOthers.setCell W ⟨w.heap.size, 0, none⟩ _).same D _ hKD rfl) (Nat.le_trans HL.out.2.1 hD) (World.cell?_setCell_same' _ _ _ (by rw [q2]; rfl)) (HBW.out.setCell (p := ⟨w.heap.size, 0, none⟩) (Nat.le_refl _) _)
          case stop =>
            rintro D c pre W hD hpre (⟨⟨rfl, hpl⟩, -⟩ | ⟨-, hno⟩) hKD
            · exfalso
              have := hpre.length_le
              rw [List.length_map, hpl, HM.out] at this
              omega
            · exact absurd hpre hno

theorem walk (a0 : Option Addr) (len0 cap0 : Nat) (z0 : List Int) (a1 : ByteArray) (w : World) (hM : ML w) (w0 : IsRow .u8 w a0 len0 cap0 z0) (w1 : a1.size ≤ maxLen) :
    Calls Tryd.prog 6 #[.slice a0 len0 cap0, .string a1] w fun e w' => e = .returned (.bool true) ∧ Below w.heap.size w w' := by
  obtain ⟨R, rfl⟩ : ∃ R, a1 = bs R := ⟨_, (bs_of a1).symm⟩
  rw [bs_size] at w1
  by_cases h0 : 400 < len0
  · exact walk_long a0 len0 cap0 R w hM w1 (.inl h0)
  · by_cases h1 : 30 < R.length
    · exact walk_long a0 len0 cap0 R w hM w1 (.inr ⟨by omega, h1⟩)
    · obtain ⟨l, hO, -, -⟩ := w0.octs
      exact walk_short a0 len0 cap0 l R w hM hO (by omega) (by omega)

set_option maxRecDepth 100000 in
theorem contract (H : Type) (enc : TypeId × Value → H) (W : World) (base : Nat) (args : Array Value) (ds gs : List (DataW H)) (before : List MemPlace)
    (hval : ∀ (j : Nat) t v, Tryd.f6.params[j]? = some t → args[j]? = some v → Value.okWide Tryd.prog W .any base t v)
    (hW : DataW.Whole enc Tryd.prog Tryd.f6.params.toList Rows.fieldRemarksSpec.vars false W args.toList ds gs before) (hsh : W.ShapedOpen Tryd.prog) :
    Calls Tryd.prog 6 args W fun e W' => ∃ v, e = .returned v ∧ Rows.fieldRemarksSpec.post enc Tryd.prog Tryd.f6 false true false false W args v W' := by
  have hM : ML W := Tryd.maxLen_cell W hsh
  have hW' := hW
  obtain ⟨p, q, hA0, hV, rfl, hfz, hnd⟩ := hW
  have hA : DataW.TrodAll enc Tryd.prog W 0 (fun _ => true) true Tryd.f6.params.toList args.toList ds p := hA0
  rw [Tryd.params6] at hA hval
  obtain ⟨v0, vs0, d0, ds0, p0, q0, hargs, rfl, rfl, h0, r0⟩ := trodAll_cons hA
  obtain ⟨v1, vs1, d1, ds1, p1, q1, rfl, rfl, rfl, h1, r1⟩ := trodAll_cons r0
  obtain ⟨rfl, rfl, rfl⟩ := trodAll_nil r1
  obtain rfl : args = #[v0, v1] := by cases args; simp_all
  obtain ⟨rfl, rfl⟩ := trodVars_none hV
  obtain ⟨a0, len0, cap0, rfl⟩ := okWide_slice Tryd.underlying22 (hval 0 22 v0 rfl rfl)
  have k0 := h0
  have lt0 : ∀ x ∈ p0, x.block < W.heap.size := by obtain ⟨m, hm⟩ := k0; exact DataW.trod_lt m _ _ _ hm
  obtain ⟨z0, w0⟩ : ∃ zs, IsRow .u8 W a0 len0 cap0 zs := by
    obtain ⟨fuel, hf⟩ := h0
    rcases open_ints Tryd.underlying22 Tryd.underlying5 (by kernel_rfl) hf with ⟨hcs, _⟩ | ⟨x, l, c, zs, hcs, _, hl, hm, hz, _, hcell, hwz⟩
    · simp [Value.cells] at hcs
      obtain ⟨rfl, rfl, rfl⟩ := hcs
      exact ⟨[], .inl ⟨rfl, rfl, rfl, rfl⟩⟩
    · simp [Value.cells] at hcs
      obtain ⟨rfl, rfl, rfl⟩ := hcs
      exact ⟨zs, .inr ⟨_, rfl, hl, hm, by simpa using hz, hcell, hwz⟩⟩
  obtain ⟨a1, rfl, rfl, rfl, w1⟩ := Go.ChangeMaps.open_string Tryd.underlying9 (hval 1 9 v1 rfl rfl) h1
  clear hA0
  refine (walk a0 len0 cap0 z0 a1 W hM w0 w1).mono fun e W' ⟨he, bel⟩ => ?_
  subst he
  exact ⟨_, rfl, _, _, _, [], _, [], hW', trodAll_mk1 (shut_bool Tryd.underlying4 _), (trodAll_cons_mk (Below.trod laidOut (by kernel_rfl) (of_decide_eq_true (by kernel_rfl)) k0 bel lt0) (trodAll_cons_mk (Go.ChangeMaps.shut_string Tryd.underlying9 w1) trodAll_mk0)), rfl, bel.frame _, fun h => by cases h⟩

theorem laid_met (os : Os) : laidMet Tryd.prog Rows.fieldRemarksRow.laid ((laidWorld os).forCall (fun _ _ => 0) ⟨#[], #[.slice none 0 0, .string ⟨#[]⟩], []⟩).memory :=
  laidMet_of_run' 8 (by kernel_rfl) (by kernel_rfl)
theorem reads (os : Os) {H : Type} (enc : TypeId × Value → H) : ∃ places, DataW.whole enc Tryd.prog ((laidWorld os).forCall (fun _ _ => 0) ⟨#[], #[.slice none 0 0, .string ⟨#[]⟩], []⟩).memory Tryd.f6.params.toList Rows.fieldRemarksSpec.vars false #[Value.slice none 0 0, .string ⟨#[]⟩].toList 8 = some ([.nil, .lit (.string [])], [], places) :=
  ⟨[], by kernel_rfl⟩

set_option maxRecDepth 100000 in
theorem lifted (os : Os) (started : os.Started) (H : Type) (enc : TypeId × Value → H) (F : Stop.Interp) :
    ReturnsInHanded {} Tryd.checked os 6 .any ((OpenSpec.ofChange Rows.fieldRemarksSpec).preRow enc Tryd.prog Tryd.f6 Rows.fieldRemarksRow.domain false Rows.fieldRemarksRow.laid) (((OpenSpec.ofChange Rows.fieldRemarksSpec).at F).post enc Tryd.prog Tryd.f6 false true false false) := by
  obtain ⟨places, hx⟩ := reads os enc
  refine returnsInHanded_of_row (C := Tryd.checked) (s := OpenSpec.ofChange Rows.fieldRemarksSpec) own started (by kernel_rfl) Tryd.func6
    (witness_row_at (enc := enc) (C := Tryd.checked) false (laidWorld os) #[.slice none 0 0, .string ⟨#[]⟩] rfl (by kernel_rfl) (by kernel_rfl) (by kernel_rfl)
      (OpenSpec.preRow_of_cond 8 hx (by kernel_rfl) (fun k hk => by cases hk) (by kernel_rfl) (laid_met os))) ?_
  intro W base args ds gs before hval hW _ _ _ _ hsh _
  exact contract H enc W base args ds gs before hval hW hsh

theorem said : Rows.FieldRemarksSaid :=
  OpenClaim.holds_of_cond 6 Tryd.f6 rfl rfl rfl rfl rfl rfl rfl ⟨rfl, rfl, rfl, rfl, rfl⟩ rfl rfl rfl rfl rfl (by kernel_rfl) Tryd.func6 (by kernel_rfl)
    (of_decide_eq_true (by kernel_rfl)) (by unfold Func.isWrapper; first | (rw [if_pos (by decide +kernel)]; kernel_rfl) | (rw [if_neg (by decide +kernel)]; exact ⟨rfl, rfl⟩))
    (fun os started H enc _ F => by rw [OpenClaim.pre_eq_preRow]; exact lifted os started H enc F)

theorem plain (f : FuncId) (fn : Func) (hf : Tryd.pinned.checked.prog.funcNamed Rows.fieldRemarksRow.func = some f) (hfn : Tryd.pinned.checked.prog.funcs[f]? = some fn) :
    false = Tryd.pinned.checked.prog.looks [] ∧ ∀ (j : Nat) t, fn.params[j]? = some t → Tryd.pinned.checked.prog.wantsStandIn t = false := by
  obtain rfl : f = 6 := Option.some.inj ((show Tryd.prog.funcNamed Rows.fieldRemarksRow.func = some 6 by kernel_rfl).symm.trans hf) |>.symm
  obtain rfl : fn = Tryd.f6 := (Option.some.inj (Tryd.func6.symm.trans hfn)).symm
  refine ⟨by kernel_rfl, fun j t ht => ?_⟩
  rw [Tryd.params6] at ht
  have hm := Array.mem_of_getElem? ht
  simp at hm
  rcases hm with rfl | rfl
  · exact (show Tryd.prog.wantsStandIn 22 = false by kernel_rfl)
  · exact (show Tryd.prog.wantsStandIn 9 = false by kernel_rfl)
end Go.Proofs.YtlknffldlnhfdaaDoor.fieldRemarks
namespace Go.Proofs.YtlknffldlnhfdaaDoor
theorem fieldRemarks_card : Rows.FieldRemarksCardSaid :=
  Claim7.holds_tied_plain_at .later [] _ _ _ _ fieldRemarks.said (fun _ h => by cases h) (by kernel_rfl) (fun _ h => by cases h) fieldRemarks_row_tie rfl ⟨rfl, rfl⟩ (by kernel_rfl) rfl fieldRemarks.plain (by kernel_rfl)
#print axioms fieldRemarks_card
end Go.Proofs.YtlknffldlnhfdaaDoor

