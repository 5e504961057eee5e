/- Going through the code points of a value. -/
import Derived.Test.YtfggoegofbghhaaPts
import Derived.Scope
import Derived.ControlIn
namespace Go.Proofs.Ytfggoegofbghhaa
open Go.RowKit Go.Shelf
attribute [local go_sem] Oper.semAt_some

def ptArr (x : Int) : Array Value := #[.int .i64 x]
/-- What a round over the spans must find as it was: who is called, and the value. -/
def PKeep (A : World → Nat → Prop) (N0 l yb B1 : Nat) (V : ByteArray) (W : World) : Prop :=
  (W.cell? ⟨yb, 0, none⟩ = some (.func (.yield l) #[] #[]) ∧ A W yb) ∧ ((W.cell? ⟨B1, 0, none⟩ = some (.string V) ∧ A W B1) ∧ N0 ≤ W.heap.size)
theorem pkeep_abide {β : Type} {A : World → Nat → Prop} (hL : Lets A) (N0 l yb B1 B : Nat) (V : ByteArray) : Abide 0 0 B (fun (_ : β) W => PKeep A N0 l yb B1 V W) :=
  Abide.and (Abide.and (cell_abide _ _) (hL.abide yb _)) (Abide.and (Abide.and (cell_abide _ _) (hL.abide B1 _)) (fun _ _ _ _ h hg _ => Nat.le_trans h hg.size))
theorem PKeep.hold {A : World → Nat → Prop} {N0 l yb B1 : Nat} {V : ByteArray} {W W' : World} (h : PKeep A N0 l yb B1 V W) (hk : Hold A W W') : PKeep A N0 l yb B1 V W' :=
  ⟨⟨hk.cell (a := ⟨yb, 0, none⟩) h.1.2 h.1.1, (hk.2 yb h.1.2 (World.block_lt_of_cell? W _ h.1.1)).2⟩, ⟨hk.cell (a := ⟨B1, 0, none⟩) h.2.1.2 h.2.1.1, (hk.2 B1 h.2.1.2 (World.block_lt_of_cell? W _ h.2.1.1)).2⟩, Nat.le_trans h.2.2 hk.1⟩
def PI (r : List Sp) (v : List UInt8) (A : World → Nat → Prop) (N0 l yb B1 : Nat) (V : ByteArray) (J : List Int → World → Prop) (pre : List Sp) (W : World) : Prop :=
  ((∀ s ∈ pre, s ∈ r) ∧ J (pointsOf pre v) W) ∧ PKeep A N0 l yb B1 V W
def PX (v : List UInt8) (Jx : List Int → World → Prop) (c : Code) (pre : List Sp) (W : World) : Prop := c = .exit 0 ∧ ∃ xs, xs <+: pointsOf pre v ∧ Jx xs W
theorem pi_abide {r : List Sp} {v : List UInt8} {A : World → Nat → Prop} (hL : Lets A) {N0 l yb B1 B C : Nat} {V : ByteArray} {J : List Int → World → Prop} (hB : B ≤ C) (h : Abide 0 0 B J) : Abide 0 0 C (PI r v A N0 l yb B1 V J) :=
  Abide.and (fun s W W' row hs hg hr => ⟨hs.1, h.mono (fun _ _ h => absurd h (by omega)) hB _ W W' row hs.2 hg hr⟩) (pkeep_abide hL N0 l yb B1 C V)
theorem px_abide {v : List UInt8} {Jx : List Int → World → Prop} {B C : Nat} (hB : B ≤ C) (h : Abide 0 0 B Jx) (c : Code) : Abide 0 0 C (PX v Jx c) := by
  intro s W W' row hs hg hr
  obtain ⟨e, xs, h1, h3⟩ := hs
  exact ⟨e, xs, h1, h.mono (fun _ _ h => absurd h (by omega)) hB xs W W' row h3 hg hr⟩
/-- The loop's variable, a span, in a block that is kept. -/
def PBox (A : World → Nat → Prop) (x : Sp) (b : Nat) (W : World) : Prop := SpBox x b W ∧ A W b
theorem pbox_abide {A : World → Nat → Prop} (hL : Lets A) (x : Sp) (b B : Nat) : Abide 0 0 B (fun (_ : Unit) W => PBox A x b W) := Abide.and (spBox_abide x b B) (hL.abide b _)
theorem PBox.hold {A : World → Nat → Prop} {x : Sp} {b : Nat} {W W' : World} (h : PBox A x b W) (hk : Hold A W W') : PBox A x b W' :=
  ⟨⟨hk.cell (a := ⟨b, 0, none⟩) h.2 h.1.1, hk.cell (a := ⟨b, 1, none⟩) h.2 h.1.2.1, hk.cell (a := ⟨b, 2, none⟩) h.2 h.1.2.2⟩, (hk.2 b h.2 (World.block_lt_of_cell? W _ h.1.1)).2⟩
theorem leave36 {R : Ending → World → Prop} {Wf : World} {D m : Nat} {tmps : Array Value} (hk : Wf.heap[D]? = some (.deferred (some []))) (h : R (.returned (.tuple #[])) (Wf.putObj D (.deferred none))) :
    LeavesInM Fence.wide m Try.prog Try.f36 tmps R [{ target := .collected D, args := #[] }] .returning Wf := by
  refine ⟨by simp, .inl ⟨_, _, rfl, run_takeDeferred hk, ?_⟩⟩
  refine ⟨.tuple #[], ?_, h⟩
  simp [results, go_sem]
/-- In the midst of one span. -/
def PRel (A : World → Nat → Prop) (x : Sp) (b N0 l yb B1 : Nat) (V : ByteArray) (ps : List Int) (Wb : World) (J : List Int → World → Prop) (i : Value) (wr : World) : Prop :=
  ∃ j : Nat, i = .int .i64 (x.a + j) ∧ x.a + j ≤ x.b + 1 ∧ J (ps ++ (upTo x.a x.b).take j) wr ∧ PKeep A N0 l yb B1 V wr ∧ PBox A x b wr ∧ Hold A Wb wr

set_option maxRecDepth 100000 in
set_option maxHeartbeats 4000000 in
theorem piter36 (m B0 B1 b c : Nat) (P0 : Option Addr) (r : List Sp) (v : List UInt8) (A : World → Nat → Prop) (w : World) (hL : Lets A) (hm : 5 ≤ m) (hn : r.length ≤ 30) (hg : Good r) (hB0 : B0 < w.heap.size) (hB1 : B1 < w.heap.size) (hb : b < w.heap.size)
    (h0 : w.cell? ⟨B0, 0, none⟩ = some (.func (.func 55) #[] #[.pointer (some ⟨b, 0, none⟩)])) (h1 : w.cell? ⟨B1, 0, none⟩ = some (.string (bs v))) (h2 : w.cell? ⟨b, 0, none⟩ = some (.slice P0 r.length c)) (hS : SAt w P0 r.length r)
    (hA1 : A w B1) (hP : 0 < r.length → ∀ a, P0 = some a → A w a.block) :
    SeqFree Fence.wide m Try.prog 36 #[.pointer (some ⟨B0, 0, none⟩), .pointer (some ⟨B1, 0, none⟩)] ptArr (fun _ W => w.heap.size + 2 ≤ W.heap.size) A (fun xs => xs = pointsOf r v) (fun pre => pre <+: pointsOf r v) 200000000000 w := by
  intro l J Jx W hW hsz hJ hJx hfree hY hJ0
  obtain ⟨V, hV⟩ : ∃ V, bs v = V := ⟨_, rfl⟩
  have hbw : Below W.heap.size W (W.alloc (.cells #[.func (.yield l) #[] #[]] 70)) := (Below.refl _ _).alloc (Nat.le_refl _) _
  have bw2 : Below w.heap.size w (W.alloc (.cells #[.func (.yield l) #[] #[]] 70)) := hW.trans (hbw.mono hW.size)
  have hL' : Lets (fun W k => A W k ∧ k ≠ w.heap.size ∧ k ≠ w.heap.size + 1) := hL.and _
  have hq := fseq55 (m - 1) b r.length c P0 r (fun W k => A W k ∧ k ≠ w.heap.size ∧ k ≠ w.heap.size + 1) (W.alloc (.cells #[.func (.yield l) #[] #[]] 70)) hL' (by omega) (by omega) (by have := bw2.size; omega) ((bw2.cell (p := ⟨b, 0, none⟩) hb).trans h2) (hS.below bw2)
    (fun h a e => have hlt := hS.lt h a e; ⟨hL.below (hP h a e) bw2, by omega, by omega⟩)
  have hyb : (W.alloc (.cells #[.func (.yield l) #[] #[]] 70)).cell? ⟨W.heap.size, 0, none⟩ = some (.func (.yield l) #[] #[]) := by simp
  have hsz2 : (W.alloc (.cells #[.func (.yield l) #[] #[]] 70)).heap.size = w.heap.size + 3 := by simp; omega
  have hJ2 : J [] (W.alloc (.cells #[.func (.yield l) #[] #[]] 70)) := hJ.below hJ0 hbw
  have hkeep : PKeep (fun W k => A W k ∧ k ≠ w.heap.size ∧ k ≠ w.heap.size + 1) (w.heap.size + 2) l W.heap.size B1 (bs v) (W.alloc (.cells #[.func (.yield l) #[] #[]] 70)) :=
    ⟨⟨hyb, hL.below (hfree _ _ hJ0 _ (Nat.le_refl _)) hbw, by omega, by omega⟩, ⟨(bw2.cell (p := ⟨B1, 0, none⟩) hB1).trans h1, hL.below hA1 bw2, by omega, by omega⟩, by omega⟩
  have hc0 : (W.alloc (.cells #[.func (.yield l) #[] #[]] 70)).cell? ⟨B0, 0, none⟩ = some (.func (.func 55) #[] #[.pointer (some ⟨b, 0, none⟩)]) := (bw2.cell (p := ⟨B0, 0, none⟩) hB0).trans h0
  rw [hV] at hkeep
  refine callsIn_of_wp_marks Try.func36 rfl trivial ?_ rfl
  simp only [Try.ntmps36, List.size_toArray, List.length_cons, List.length_nil, Nat.reduceAdd, Nat.reduceSub, Array.replicate_succ, Array.replicate_zero, List.push_toArray, List.append_toArray, List.nil_append, List.cons_append]
  have HQ := Lib.hid hq
  have HJ := Lib.hid hJ
  have HJx := Lib.hid hJx
  have HYY := Lib.hid hY
  have HFR := Lib.hid hfree
  have HG := Lib.hid hg
  have HL := Lib.hid hL
  have HL' := Lib.hid hL'
  have HSZ := Lib.hid hsz
  have HKP := Lib.hid hkeep
  have HJ2 := Lib.hid hJ2
  have HV := Lib.hid hV
  have HN := Lib.hid hn
  clear hq hJ hJx hY hfree hg hL hL' hsz hkeep hJ2 hV h0 h1 h2 hS hP hA1 hJ0 hyb hn
  gi_wp2
  obtain ⟨W2, hW2⟩ : ∃ W2, W.alloc (.cells #[.func (.yield l) #[] #[]] 70) = W2 := ⟨_, rfl⟩
  rw [hW2] at HQ hsz2 HJ2 HKP hbw bw2 hc0 ⊢
  clear hW2
  have HSZ2 := Lib.hid hsz2
  clear hsz2
  refine wpIn_wide.2 (wp_scope_straight ((wpIn_wide (n := m)).1 ?_))
  refine wpIn_seq ?_
  refine wpIn_label ?_
  gi_wp2
  refine range_free2 rfl (by omega) rfl trivial (enters_of Try.func55 (by kernel_rfl) rfl) HQ.out HL'.out (fun _ => rfl) (fun x _ W1 W2 row hs hg hr => ⟨hs.1, Nat.le_trans hs.2 hg.size⟩)
    (PI r v (fun W k => A W k ∧ k ≠ w.heap.size ∧ k ≠ w.heap.size + 1) (w.heap.size + 2) l W.heap.size B1 V J) (PX v Jx) (pi_abide HL'.out (by have := HSZ2.out; have := HSZ.out; omega) HJ.out) (px_abide (by have := HSZ2.out; have := HSZ.out; omega) HJx.out)
    (fun s X hs k hk => ⟨HFR.out _ _ hs.1.2 k hk, by have := hs.2.2.2; omega, by have := hs.2.2.2; omega⟩) ⟨⟨(fun s h => by cases h), (by rw [points_nil]; exact HJ2.out)⟩, HKP.out⟩ (PBox (fun W k => A W k ∧ k ≠ w.heap.size ∧ k ≠ w.heap.size + 1)) (fun x b => pbox_abide HL'.out x b _) ?a1 ?assign ?body ?done ?stop
  case assign =>
    rintro lq pre x W' K hi hr hK
    simp only [spArr, spV]
    gi_wp2
    obtain ⟨b', hb'⟩ : ∃ b', W'.heap.size = b' := ⟨_, rfl⟩
    rw [hb']
    have hbo : ∀ o, Below W'.heap.size W' (W'.alloc o) := fun o => (Below.refl _ _).alloc (Nat.le_refl _) o
    refine hK b' _ (Hold.of_below HL'.out (hbo _)) ((pi_abide HL'.out (Nat.le_refl _) HJ.out).below hi (hbo _)) ⟨hr.1, Nat.le_trans hr.2 (by simp)⟩ ?_
    rw [← hb']
    exact ⟨spBox_new x W' _, HL'.out.below ⟨HFR.out _ _ hi.1.2 _ (Nat.le_refl _), by have := hi.2.2.2; omega, by have := hi.2.2.2; omega⟩ (hbo _)⟩
  case body =>
    rintro lq pre x b' Wb ⟨⟨hin, hJb⟩, hkp⟩ hr hbx hlen
    obtain ⟨f1, f2, f3, f4⟩ := HG.out.2 x hr.1
    have hin2 : ∀ s ∈ pre ++ [x], s ∈ r := fun s hs => by
      rcases List.mem_append.1 hs with h | h
      · exact hin s h
      · rw [List.mem_singleton.1 h]; exact hr.1
    obtain ⟨⟨b0, b1, b2⟩, hab⟩ := id hbx
    obtain ⟨⟨y0, hya⟩, ⟨v0, hva⟩, hNW⟩ := id hkp
    have heq := bs_eq x.v v
    rw [HV.out] at heq
    by_cases hxv : x.v = v
    · have hps := pts_yes (pre := pre) hxv f4
      have hTV : bs x.v = V := by rw [hxv]; exact HV.out
      rw [hTV] at b2
      have hplen := pts_length (v := v) pre (fun s hs => HG.out.2 s (hin s hs))
      have hbound : ∀ j : Nat, x.a + j ≤ x.b → (pointsOf pre v ++ (upTo x.a x.b).take j).length < 200000000000 := fun j hj => by
        rw [List.length_append, List.length_take]
        omega
      have H0 : Hid (PRel (fun W k => A W k ∧ k ≠ w.heap.size ∧ k ≠ w.heap.size + 1) x b' (w.heap.size + 2) l W.heap.size B1 V (pointsOf pre v) Wb J (.int .i64 x.a) Wb) := Lib.hid ⟨0, by simp, by omega, by simpa using hJb, hkp, hbx, Hold.refl _ _⟩
      have HPS := Lib.hid hps
      have HBD := Lib.hid hbound
      have HIN2 := Lib.hid hin2
      clear hps hplen hbound hin2 heq hTV hJb hkp hbx hin hr hab hya hva hNW hlen hxv
      gi_wp2
      gi_loopw [5] (fun i wr => PRel (fun W k => A W k ∧ k ≠ w.heap.size ∧ k ≠ w.heap.size + 1) x b' (w.heap.size + 2) l W.heap.size B1 V (pointsOf pre v) Wb J i wr) (fun i _ => (x.b + 1 - intOf i).toNat)
      case atStart => exact H0.out
      case round =>
        clear b0 b1 b2 y0 v0 H0
        obtain ⟨j, rfl, hj, hJr, hkr, hbr, hHr⟩ := hrel
        have y0 := hkr.1.1
        have b1 := hbr.1.2.1
        by_cases hle : x.a + j ≤ x.b
        · have hY2 := HYY.out (pointsOf pre v ++ (upTo x.a x.b).take j) (x.a + j) wr hJr hkr.2.2 (HBD.out j hle)
          have hstep : ∀ W3, Hold (fun W k => A W k ∧ k ≠ w.heap.size ∧ k ≠ w.heap.size + 1) wr W3 → J ((pointsOf pre v ++ (upTo x.a x.b).take j) ++ [x.a + (j : Int)]) W3 → PRel (fun W k => A W k ∧ k ≠ w.heap.size ∧ k ≠ w.heap.size + 1) x b' (w.heap.size + 2) l W.heap.size B1 V (pointsOf pre v) Wb J (.int .i64 (x.a + (j : Int) + 1)) W3 := fun W3 hk hJ3 =>
            ⟨j + 1, by rw [Int.add_assoc]; rfl, by omega, by rw [upTo_take hle, ← List.append_assoc]; exact hJ3, hkr.hold hk, hbr.hold hk, hHr.trans hk⟩
          have hstop : ∀ W3, Hold (fun W k => A W k ∧ k ≠ w.heap.size ∧ k ≠ w.heap.size + 1) wr W3 → Jx ((pointsOf pre v ++ (upTo x.a x.b).take j) ++ [x.a + (j : Int)]) W3 → Hold (fun W k => A W k ∧ k ≠ w.heap.size ∧ k ≠ w.heap.size + 1) Wb W3 ∧ PX v Jx (.exit 0) (pre ++ [x]) W3 := fun W3 hk hJ3 =>
            ⟨hHr.trans hk, rfl, _, by rw [HPS.out, List.append_assoc, ← upTo_take hle]; exact (List.prefix_append_right_inj _).2 (List.take_prefix _ _), hJ3⟩
          have HST := Lib.hid hstep
          have HSP := Lib.hid hstop
          clear hstep hstop hJr hkr hbr hHr
          unfold ptArr at hY2
          obtain ⟨fn, tmps, assign, body, hy, hR⟩ := hY2
          obtain ⟨C, hC⟩ : ∃ C, x.a + (j : Int) = C := ⟨_, rfl⟩
          rw [hC] at hy HST HSP hle hR hj ⊢
          have hC0 : 0 ≤ C := by omega
          clear hC
          gi_wp2
          refine ⟨fun _ => (by omega), (round_any hR).mono ?_⟩
          rintro e W3 ⟨⟨rfl, hJ3⟩ | ⟨rfl, hJx3⟩, hk3⟩
          · have R := Lib.hid (HST.out W3 hk3 hJ3)
            clear HST HSP
            gi_wp2
            go_roundw
            case rel => exact R.out
            case measure => simp [intOf]; omega
          · have R := Lib.hid (HSP.out W3 hk3 hJx3)
            clear HST HSP
            gi_wp2
            exact R.out
        · have hend : Hold (fun W k => A W k ∧ k ≠ w.heap.size ∧ k ≠ w.heap.size + 1) Wb wr ∧ PI r v (fun W k => A W k ∧ k ≠ w.heap.size ∧ k ≠ w.heap.size + 1) (w.heap.size + 2) l W.heap.size B1 V J (pre ++ [x]) wr := by
            refine ⟨hHr, ⟨HIN2.out, ?_⟩, hkr⟩
            rw [upTo_all (by omega)] at hJr
            rw [HPS.out]
            exact hJr
          have HE := Lib.hid hend
          obtain ⟨C, hC⟩ : ∃ C, x.a + (j : Int) = C := ⟨_, rfl⟩
          rw [hC] at hle hj ⊢
          have hlt : x.b < C := by omega
          clear hC hend hJr hkr hbr hHr
          gi_wp2
          exact HE.out
    · have hps := pts_no (pre := pre) hxv
      rw [decide_eq_false hxv] at heq
      have hne : ¬ (bs x.v).toList = V.toList := by
        intro e
        rw [e] at heq
        simp at heq
      have HE : Hid (Hold (fun W k => A W k ∧ k ≠ w.heap.size ∧ k ≠ w.heap.size + 1) Wb Wb ∧ PI r v (fun W k => A W k ∧ k ≠ w.heap.size ∧ k ≠ w.heap.size + 1) (w.heap.size + 2) l W.heap.size B1 V J (pre ++ [x]) Wb) := Lib.hid ⟨Hold.refl _ _, ⟨hin2, by rw [hps]; exact hJb⟩, hkp⟩
      obtain ⟨T, hT⟩ : ∃ T, bs x.v = T := ⟨_, rfl⟩
      rw [hT] at b2 heq hne
      clear hps hin2 hJb hkp hbx hin hr hab hya hva hNW hlen hT
      gi_wp2
      exact HE.out
  case done =>
    rintro D ys W3 hD hys ⟨⟨-, hJ3⟩, -⟩ hKD
    subst hys
    have hJ4 : J (pointsOf ys v) (W3.putObj D (.deferred none)) := HJ.out.put hJ3 (by have := HSZ2.out; have := HSZ.out; omega) hKD rfl
    have HJ4 := Lib.hid hJ4
    clear hJ4 hJ3
    gi_wp2
    exact leave36 hKD ⟨⟨_, rfl⟩, .inl ⟨_, rfl, HJ4.out⟩⟩
  case stop =>
    rintro D c' pre W3 hD hpre ⟨rfl, xs, hxs, hJ3⟩ hKD
    have hres : xs <+: pointsOf r v := hxs.trans (pts_pre v hpre)
    have hJ4 : Jx xs (W3.putObj D (.deferred none)) := HJx.out.put hJ3 (by have := HSZ2.out; have := HSZ.out; omega) hKD rfl
    have HR := Lib.hid hres
    have HJ4 := Lib.hid hJ4
    clear hres hJ4 hxs hpre hJ3
    gi_wp2
    exact leave36 hKD ⟨⟨_, rfl⟩, .inr ⟨xs, HR.out, HJ4.out⟩⟩
end Go.Proofs.Ytfggoegofbghhaa
