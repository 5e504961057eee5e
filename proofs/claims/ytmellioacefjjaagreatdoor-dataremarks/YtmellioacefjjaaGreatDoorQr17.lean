/- What add of the program's follower leaves behind. -/
/- What run of the program's follower hands back. -/
import Derived.Test.YtmellioacefjjaaGreatDoorQr16
import Derived.Test.YtmellioacefjjaaGreatDoorQr10
import Derived.Deep.AppendLies
import Derived.Deep.RegionHeld3
namespace Go.Proofs.YtmellioacefjjaaGreatDoor
open Go.RowKit Go.Shelf
attribute [local go_sem] Oper.semAt_some

/-- c uses each of these. -/
def addU (us : Int → List Int) (c : Int) (ps : List Int) : Int → List Int := ps.foldl (fun us d => putV us d (us d ++ [c])) us
theorem addU_snoc (us : Int → List Int) (c : Int) (ps : List Int) (d : Int) : addU us c (ps ++ [d]) = putV (addU us c ps) d (addU us c ps d ++ [c]) := by unfold addU; rw [List.foldl_append]; rfl
theorem addU_len (us : Int → List Int) (c : Int) {N : Nat} (h : ∀ d, (us d).length ≤ N) : ∀ (ps : List Int) (d : Int), (addU us c ps d).length ≤ N + ps.length := by
  intro ps
  induction ps generalizing us N with
  | nil => exact fun d => by simpa [addU] using h d
  | cons p ps ih =>
    intro d
    have h2 := ih (us := putV us p (us p ++ [c])) (N := N + 1) (fun x => by
      by_cases e : x = p
      · subst e; rw [putV_same]; have := h x; simp; omega
      · rw [putV_other _ _ e]; have := h x; omega) d
    have e : addU us c (p :: ps) d = addU (putV us p (us p ++ [c])) c ps d := rfl
    rw [e, List.length_cons]
    omega
/-- The blocks that add may turn. -/
def Ofs (M1 M2 : Nat) (val : Int → Value) (k : Nat) : Prop := k ≠ M1 ∧ k ≠ M2 ∧ ∀ x, (val x).ownBlock ≠ some k
def Moved (w : World) (val val' : Int → Value) : Prop := ∀ x, (val' x).ownBlock = (val x).ownBlock ∨ ∃ g, (val' x).ownBlock = some g ∧ w.heap.size ≤ g
theorem Moved.refl (w : World) (val : Int → Value) : Moved w val val := fun _ => .inl rfl
/-- Between two parts. -/
def AdI (w : World) (b M1 M2 n1 n2 base B0 nn : Nat) (D1 : DataW Value) (us : Int → List Int) (val : Int → Value) (c : Int) (A : Option Addr) (ps : List Int) (i : Value) (wr : World) : Prop :=
  ∃ (k m : Nat) (D : DataW Value) (v : Int → Value), (i = .int .i64 k ∧ k ≤ nn) ∧ (F2 wr M2 m base D (addU us c (ps.take k)) v ∧ m ≤ n2 + k) ∧ (wr.ownsMap Tryz.prog 3 Cf.tokE M1 n1 D1 ∧ Vals wr A nn (nums .i64 ps) ∧ wr.cell? ⟨b, 1, none⟩ = some (.map (some M2))) ∧ (Moved w val v ∧ Kept (Ofs M1 M2 val) w wr ∧ Below B0 w wr)
def AddPost (w : World) (M1 M2 n1 n2 base B0 nn : Nat) (D1 : DataW Value) (us : Int → List Int) (val : Int → Value) (c : Int) (ps : List Int) (e : Ending) (w' : World) : Prop :=
  e = .returned (.tuple #[]) ∧ ∃ (m : Nat) (D : DataW Value) (v : Int → Value), (F2 w' M2 m base D (addU us c ps) v ∧ m ≤ n2 + nn) ∧ w'.ownsMap Tryz.prog 3 Cf.tokE M1 n1 D1 ∧ (Moved w val v ∧ Kept (Ofs M1 M2 val) w w' ∧ Below B0 w w')
set_option maxRecDepth 100000 in
theorem look_at {W : World} {M m : Nat} {D : DataW Value} {d : Int} {v : Value} (h : W.ownsMap Tryz.prog 3 Cf.tokE M m D) (hd : (Lit.int .i64 d).wf = true) (hat : D.atKey (key d) nilT = .held v) : (Instr.lookup 109 (.map (some M)) (.int .i64 d) false).run Tryz.prog W = .ok v W := by
  obtain ⟨v', ps, hr, hR⟩ := h.lookup Cf.k3 Tryz.underlying109 (Cf.zero33 W) (zd := nilT) (zp := []) rfl (Cf.key3 hd)
  have e : D.atKey (key d) nilT = .held v' := Cf.tokE_inv hR
  have e2 : v' = v := by rw [hat] at e; injection e with e; exact e.symm
  rw [← e2]
  exact hr
theorem upd_at {W : World} {M m : Nat} {D : DataW Value} {d : Int} {v : Value} (h : W.ownsMap Tryz.prog 3 Cf.tokE M m D) (hd : (Lit.int .i64 d).wf = true) (hm : m ≤ 1000000) : ∃ W', (Instr.mapUpdate 109 (.map (some M)) (.int .i64 d) v).run Tryz.prog W = .ok () W' ∧ W'.ownsMap Tryz.prog 3 Cf.tokE M (m + 1) (D.put (key d) (.held v)) ∧ W.grownBy W' (some M) :=
  h.update Cf.k3 Tryz.underlying109 (by unfold maxLen; omega) (Cf.key3 hd) (val := v) rfl
theorem kept_grown {A : Nat → Prop} {w w' : World} {row : Option Nat} (hg : w.grownBy w' row) (hr : ∀ k, A k → some k ≠ row) : Kept A w w' := ⟨hg.size, fun k ha hk => hg.block k hk (hr k ha)⟩
/-- One part is done. -/
theorem ad_next {w wr W1 W2 : World} {b M1 M2 n1 n2 base B0 nn k m g : Nat} {D1 D : DataW Value} {us : Int → List Int} {val v : Int → Value} {c d : Int} {A : Option Addr} {ps : List Int} {o : Obj} {cap : Nat} (hk : k < nn) (hd : ps[k]? = some d) (hc : (Lit.int .i64 c).wf = true)
    (hne : M1 ≠ M2) (hb : b < base) (hbl : b ≠ M2) (hM1 : M1 < base) (hM2 : M2 < base) (hbw : base ≤ w.heap.size) (hB1 : B0 ≤ M1) (hB2 : B0 ≤ M2) (hA : ∀ a, A = some a → Ofs M1 M2 val a.block ∧ a.block < w.heap.size)
    (hF : F2 wr M2 m base D (addU us c (ps.take k)) v) (hm : m ≤ n2 + k) (ho : wr.ownsMap Tryz.prog 3 Cf.tokE M1 n1 D1) (hV : Vals wr A nn (nums .i64 ps)) (hcl : wr.cell? ⟨b, 1, none⟩ = some (.map (some M2))) (hmv : Moved w val v) (hkp : Kept (Ofs M1 M2 val) w wr) (hbe : Below B0 w wr)
    (hown : W1.ownsRow base 3 1 (.slice (some ⟨g, 0, none⟩) ((addU us c (ps.take k) d).length + 1) cap) ((addU us c (ps.take k) d).length + 1) (nums .i64 (addU us c (ps.take k) d) ++ [.int .i64 c])) (hgr : (wr.alloc o).grownBy W1 (v d).ownBlock) (hat : (v d).ownBlock = some g ∨ g = wr.heap.size + 1)
    (hup : W2.ownsMap Tryz.prog 3 Cf.tokE M2 (m + 1) (D.put (key d) (.held (.slice (some ⟨g, 0, none⟩) ((addU us c (ps.take k) d).length + 1) cap)))) (hg2 : W1.grownBy W2 (some M2)) :
    AdI w b M1 M2 n1 n2 base B0 nn D1 us val c A ps (.int .i64 ((k : Int) + 1)) W2 := by
  have hsw := hkp.1
  have hga : wr.grownBy W1 (v d).ownBlock := (World.grownBy_alloc wr o _).trans hgr
  have hlo : ∀ r, (v d).ownBlock = some r → base ≤ r := fun r e => ((hF.row d).1.lt r e).1
  have hne1 : ∀ j, j < base → some j ≠ (v d).ownBlock := fun j hj e => by have := hlo j e.symm; omega
  have hpt : ps.take (k + 1) = ps.take k ++ [d] := by
    rw [List.take_succ_eq_append_getElem (List.getElem?_eq_some_iff.1 hd).1, (List.getElem?_eq_some_iff.1 hd).2]
  have hofs : ∀ j, Ofs M1 M2 val j → j < w.heap.size → some j ≠ (v d).ownBlock := fun j hj hjw e => by
    rcases hmv d with h1 | ⟨r, h1, h2⟩
    · exact hj.2.2 d (h1.symm.trans e.symm)
    · rw [h1] at e; injection e with e; omega
  refine ⟨k + 1, m + 1, D.put (key d) (.held (.slice (some ⟨g, 0, none⟩) ((addU us c (ps.take k) d).length + 1) cap)), putV v d (.slice (some ⟨g, 0, none⟩) ((addU us c (ps.take k) d).length + 1) cap), ⟨by go_num, by omega⟩, ⟨?_, by omega⟩, ⟨?_, ?_, ?_⟩, fun x => ?_, ?_, ?_⟩
  · rw [hpt, addU_snoc]
    exact f2_put hF hc hga hown (hat.elim (fun e => .inl e.symm) (fun e => .inr ⟨g, rfl, by omega⟩)) hM2 hg2 hup
  · exact (ho.kept hga (hne1 _ hM1)).kept hg2 (fun e => hne (by injection e))
  · exact vals_grown (vals_grown hV hga (fun a e => hofs _ (hA a e).1 (hA a e).2)) hg2 (fun a e e2 => (hA a e).1.2.1 (by injection e2))
  · exact hg2.cell (a := ⟨b, 1, none⟩) (hga.cell (a := ⟨b, 1, none⟩) hcl (hne1 _ hb)) (fun e => hbl (by injection e))
  · by_cases e : x = d
    · subst e
      rw [putV_same]
      rcases hat with h1 | h1
      · rcases hmv x with h2 | ⟨r, h2, h3⟩
        · exact .inl (by rw [← h2, h1]; rfl)
        · exact .inr ⟨g, rfl, by rw [h1] at h2; injection h2 with h2; omega⟩
      · exact .inr ⟨g, rfl, by omega⟩
    · rw [putV_other _ _ e]; exact hmv x
  · refine ⟨Nat.le_trans hsw (Nat.le_trans hga.size hg2.size), fun j hj hjw => ?_⟩
    rw [hg2.block j (Nat.lt_of_lt_of_le hjw (Nat.le_trans hsw hga.size)) (fun e => hj.2.1 (by injection e)), hga.block j (Nat.lt_of_lt_of_le hjw hsw) (hofs j hj hjw)]
    exact hkp.2 j hj hjw
  · exact (hbe.grown hga (by omega) (fun r e => by have := hlo r e; omega)).grown hg2 (by have := hga.size; omega) (fun r e => by injection e with e; omega)
set_option maxRecDepth 100000 in
set_option maxHeartbeats 2000000 in
theorem add97 (b M1 M2 n1 n2 base B0 nn ca : Nat) (D1 D2 : DataW Value) (us : Int → List Int) (val : Int → Value) (c : Int) (A : Option Addr) (ps : List Int) (w : World)
    (h0 : w.cell? ⟨b, 0, none⟩ = some (.map (some M1))) (h1 : w.cell? ⟨b, 1, none⟩ = some (.map (some M2))) (hO : w.ownsMap Tryz.prog 3 Cf.tokE M1 n1 D1) (hF : F2 w M2 n2 base D2 us val) (hc : (Lit.int .i64 c).wf = true) (hw : ∀ d ∈ ps, (Lit.int .i64 d).wf = true)
    (hV : Vals w A nn (nums .i64 ps)) (hA : ∀ a, A = some a → Ofs M1 M2 val a.block ∧ a.block < w.heap.size) (hne : M1 ≠ M2) (hb : b < base) (hbl : b ≠ M1 ∧ b ≠ M2) (hM1 : M1 < base) (hM2 : M2 < base) (hbw : base ≤ w.heap.size) (hB1 : B0 ≤ M1) (hB2 : B0 ≤ M2) (hn : nn ≤ 1000) (hn1 : n1 ≤ 100000) (hn2 : n2 ≤ 100000) (hu : ∀ d, (us d).length ≤ 100000) :
    Calls Tryz.prog 97 #[.pointer (some ⟨b, 0, none⟩), .int .i64 c, .slice A nn ca] w (AddPost w M1 M2 (n1 + 1) n2 base B0 nn (D1.put (key c) (.held (.slice A nn ca))) us val c ps) := by
  obtain ⟨i0, hi, hz0, hz1, hz2⟩ := info_parts infoI
  obtain ⟨w1, hr1, ho1, hg1⟩ := upd_at (v := .slice A nn ca) hO hc (by omega)
  have hl : ps.length = nn := by have := hV.1; rwa [nums_len] at this
  have HI0 : Hid (AdI w b M1 M2 (n1 + 1) n2 base B0 nn (D1.put (key c) (.held (.slice A nn ca))) us val c A ps (.int .i64 (0 : Nat)) w1) := Lib.hid ⟨0, n2, D2, val, ⟨rfl, Nat.zero_le _⟩, ⟨hF.kept hg1 (fun e => hne (by injection e with e; exact e.symm)) (fun x => by
      cases hx : (val x).ownBlock with
      | none => exact .inl rfl
      | some g => exact .inr (fun e => by injection e with e; have := ((hF.row x).1.lt g hx).1; omega)), by omega⟩, ⟨ho1, vals_grown hV hg1 (fun a e e2 => (hA a e).1.1 (by injection e2)), hg1.cell (a := ⟨b, 1, none⟩) h1 (fun e => hbl.1 (by injection e))⟩, Moved.refl _ _, kept_grown hg1 (fun k hk e => hk.1 (by injection e)), (Below.refl _ w).grown hg1 (by omega) (fun r e => by injection e with e; omega)⟩
  have HNX := Lib.hid (fun (wr W1 W2 : World) (k m g : Nat) (D : DataW Value) (v : Int → Value) (d : Int) (o : Obj) (cap : Nat) => @ad_next w wr W1 W2 b M1 M2 (n1 + 1) n2 base B0 nn k m g (D1.put (key c) (.held (.slice A nn ca))) D us val v c d A ps o cap)
  have HSD := Lib.hid (And.intro hc (And.intro hne (And.intro hb (And.intro hbl.2 (And.intro hM1 (And.intro hM2 (And.intro hbw (And.intro hB1 (And.intro hB2 hA)))))))))
  have HL := Lib.hid hl
  have HW := Lib.hid hw
  have HU := Lib.hid hu
  have HI := Lib.hid hi
  clear hO hF hw hV hA hne hb hbl hM1 hM2 hbw hB1 hB2 ho1 hg1 hl hu hc h1
  go_enter Tryz.func97, Tryz.ntmps97
  go_wp2
  go_loopw [16] (fun i wr => AdI w b M1 M2 (n1 + 1) n2 base B0 nn (D1.put (key c) (.held (.slice A nn ca))) us val c A ps i wr) (fun i _ => nn - (intOf i).toNat)
  case atStart => exact HI0.out
  case round =>
    clear HI0 hr1 h0
    obtain ⟨k, m, D, v, ⟨rfl, hk⟩, ⟨hF, hm⟩, ⟨ho, hV, hcl⟩, hmv, hkp, hbe⟩ := hrel
    by_cases hlt : k < nn
    · obtain ⟨d, hd⟩ : ∃ d, ps[k]? = some d := ⟨_, List.getElem?_eq_getElem (by have := HL.out; omega)⟩
      obtain ⟨b2, off, rfl, -, hcc⟩ := hV.2 (by omega)
      have k1 : wr.cell? ⟨b2, off + k, none⟩ = some (.int .i64 d) := hcc k _ (by unfold nums; rw [List.getElem?_map, hd]; rfl)
      have hwd := HW.out d (List.mem_of_getElem? hd)
      have hul := addU_len us c HU.out (ps.take k) d
      rw [List.length_take] at hul
      obtain ⟨hc, hne, hb, hbl, hM1, hM2, hbw, hB1, hB2, hA⟩ := HSD.out
      have HE := Lib.hid (fun (W1 W2 : World) (g : Nat) (o : Obj) (cap : Nat) => HNX.out wr W1 W2 k m g D v d o cap hlt hd hc hne hb hbl hM1 hM2 hbw hB1 hB2 hA hF hm ho hV hcl hmv hkp hbe)
      have hlk : ∀ W : World, W.ownsMap Tryz.prog 3 Cf.tokE M2 m D → (Instr.lookup 109 (.map (some M2)) (.int .i64 d) false).run Tryz.prog W = .ok (v d) W := fun W h => look_at h hwd (hF.at2 d)
      have hup : ∀ (W : World) (z : Value), W.ownsMap Tryz.prog 3 Cf.tokE M2 m D → _ := fun W z h => upd_at (v := z) h hwd (by omega)
      have l0 := hlk wr hF.own
      have l0d := hlk wr.drew hF.own.drew
      have l1 : ∀ W : World, Below wr.heap.size wr W → (Instr.lookup 109 (.map (some M2)) (.int .i64 d) false).run Tryz.prog W = .ok (v d) W := fun W hb => hlk W (hF.own.kept (grown_below hb) (by simp))
      have l2 : ∀ (o : Obj) (W : World), (wr.alloc o).grownBy W (v d).ownBlock → (Instr.lookup 109 (.map (some M2)) (.int .i64 d) false).run Tryz.prog W = .ok (v d) W := fun o W hg => hlk W ((hF.own.alloc o).kept hg (fun e => by have := ((hF.row d).1.lt M2 e.symm).1; omega))
      have l4 : ∀ (o : Obj) (W : World), (wr.alloc o).grownBy W (v d).ownBlock → W.ownsMap Tryz.prog 3 Cf.tokE M2 m D := fun o W hg => (hF.own.alloc o).kept hg (fun e => by have := ((hF.row d).1.lt M2 e.symm).1; omega)
      have l3 : ∀ (o : Obj) (W : World), (wr.alloc o).grownBy W (v d).ownBlock → W.cell? ⟨b, 1, none⟩ = some (.map (some M2)) := fun o W hg => hg.cell (a := ⟨b, 1, none⟩) ((World.cell?_alloc_past _ _ _ (World.block_lt_of_cell? wr _ hcl)).trans hcl) (fun e => by have := ((hF.row d).1.lt b e.symm).1; omega)
      have hrow := (hF.row d).1
      have hrl := (hF.row d).1.1
      have hbase : base ≤ wr.heap.size := Nat.le_trans hbw hkp.1
      have hbb : b < wr.heap.size := World.block_lt_of_cell? wr _ hcl
      obtain ⟨L, hL⟩ : ∃ L, addU us c (ps.take k) d = L := ⟨_, rfl⟩
      rw [hL] at hrow hul HE
      have HUP := Lib.hid hup
      have HROW := Lib.hid hrow
      have HOWN := Lib.hid hF.own
      obtain ⟨vd, hvd⟩ : ∃ x, v d = x := ⟨_, rfl⟩
      rw [hvd] at HROW l0 l0d l1 l2 l3 l4 HE
      have HC := Lib.hid hc
      have HM := Lib.hid (And.intro hM2 hb)
      have l1a : ∀ o, (Instr.lookup 109 (.map (some M2)) (.int .i64 d) false).run Tryz.prog (wr.alloc o) = .ok vd (wr.alloc o) := fun o => l1 _ ((Below.refl _ _).alloc (Nat.le_refl _) o)
      have l1d : ∀ o, (Instr.lookup 109 (.map (some M2)) (.int .i64 d) false).run Tryz.prog (wr.alloc o).drew = .ok vd (wr.alloc o).drew := fun o => l1 _ (below_drew ((Below.refl _ _).alloc (Nat.le_refl _) o))
      have HBN : Hid (b ≠ M2) := Lib.hid hbl
      have L2 := Lib.hid (And.intro l2 (And.intro l3 l4))
      clear hV hcc hd ho hF hmv hkp hbe hne hbl hM1 hM2 hbw hB1 hB2 hA hlk hup hL hrow hvd hrl hwd hc l1 l2 l3 l4 hb
      go_wp2
      go_region_held3 (fun w' => w'.cell? ⟨b, 1, none⟩ = some (.map (some M2)))
        (first | exact hcl | exact (World.cell?_alloc_past _ _ _ hbb).trans hcl | exact L2.out.2.1 _ _ hgr | exact hg2.cell (a := ⟨b, 1, none⟩) (L2.out.2.1 _ _ hgr) (fun e => HBN.out (by injection e)))
        ((refine step_append_lies _ (by rfl) _ _ _ (by rfl) base 3 i0 (.int .i64 0) 1 8 Tryz.underlying31 HI.out hz0 hz1 hz2 (by rfl) (by decide) vd L.length (nums .i64 L) (by rfl) (HROW.out.alloc _) ⟨wr.heap.size, 0, none⟩ 1 1 [.int .i64 c] (by rfl) (by rfl) (fun j u hj => lit_cells wr [.int .i64 c] 3 j u hj) (by simp [Value.oneCell']) (by omega) (by unfold maxLen; omega) (by omega) (by simp; omega) (wr.heap.size + 1) (by simp) ?_; intro g cap W1 hown1 hgd hat hlt1; have hgr : (wr.alloc (.cells #[.int .i64 c] 3)).grownBy W1 vd.ownBlock := ⟨hgd.os, hgd.tape, hgd.output, hgd.size, hgd.block⟩; obtain ⟨W2, hu2, ho2, hg2⟩ := HUP.out W1 (.slice (some ⟨g, 0, none⟩) (L.length + 1) cap) (L2.out.2.2 _ _ hgr)))
      all_goals
        have R := Lib.hid (HE.out W1 W2 g (.cells #[.int .i64 c] 3) cap hown1 hgr hat ho2 hg2)
        clear HE hown1 hgr hgd hat ho2 hg2 hu2 hlt1 l0 l0d l1a l1d L2 HNX HUP HROW HOWN
        go_wp2_with fail
        go_roundw
        case rel => exact R.out
        case measure => simp [intOf]; omega
    · have hke : k = nn := by omega
      subst hke
      have R : Hid (AddPost w M1 M2 (n1 + 1) n2 base B0 k (D1.put (key c) (.held (.slice A k ca))) us val c ps (.returned (.tuple #[])) wr) := Lib.hid ⟨rfl, m, D, v, ⟨by rw [List.take_of_length_le (by rw [HL.out]; exact Nat.le_refl _)] at hF; exact hF, hm⟩, ho, hmv, hkp, hbe⟩
      clear hF hm ho hV hcl hmv hkp hbe
      go_wp2
      go_end0
      exact R.out
end Go.Proofs.YtmellioacefjjaaGreatDoor

namespace Go.Proofs.YtmellioacefjjaaGreatDoor
open Go.RowKit Go.Shelf
attribute [local go_sem] Oper.semAt_some

def lenV : Value → Nat
  | .slice _ n _ => n
  | _ => 0
theorem own_unique {H : Type} {W : World} {P : Program} {k : TypeId} {R : Value → Option (DataW H × List MemPlace)} {b n n' : Nat} {D D' : DataW H} (h : W.ownsMap P k R b n D) (h' : W.ownsMap P k R b n' D') : D = D' := by
  obtain ⟨es, clock, hb, -, -, rfl⟩ := h
  obtain ⟨es', clock', hb', -, -, rfl⟩ := h'
  rw [hb] at hb'
  cases hb'
  rfl
theorem toDo_perm {us : Int → List Int} {O O' : List Int} (h : O.Perm O') : toDo us O = toDo us O' := by
  induction h with
  | nil => rfl
  | cons x _ ih => rw [toDo, toDo, ih]
  | swap x y l => rw [toDo, toDo, toDo, toDo]; omega
  | trans _ _ h1 h2 => rw [h1, h2]
theorem f1_same {W : World} {M n n' : Nat} {D D' : DataW Value} {O O' : List Int} (h : F1 W M n D O) (h' : F1 W M n' D' O') : O.Perm O' := by
  have e := own_unique h.1 h'.1
  subst e
  refine (List.perm_ext_iff_of_nodup h.2.2.2 h'.2.2.2).2 fun c => ?_
  have h1 := h.2.1 c
  rw [h'.2.1 c] at h1
  exact (decide_eq_decide.1 h1).symm
/-- How much what is open still brings, as the world tells it. -/
noncomputable def muW (us : Int → List Int) (M : Nat) (W : World) : Nat := by
  classical
  exact if h : ∃ O n D, F1 W M n D O then toDo us h.choose else 0
theorem muW_is {us : Int → List Int} {M n : Nat} {W : World} {D : DataW Value} {O : List Int} (h : F1 W M n D O) : muW us M W = toDo us O := by
  have hx : ∃ O n D, F1 W M n D O := ⟨O, n, D, h⟩
  unfold muW
  rw [dif_pos hx]
  obtain ⟨n', D', h'⟩ := hx.choose_spec
  exact toDo_perm (f1_same h' h)
/-- What does not turn while run goes on. -/
structure RnF (dec : Int → List Int) (K : List Int) (us : Int → List Int) : Prop where
  all : ∀ c, dec c ≠ [] → c ∈ K
  has : ∀ c ∈ K, dec c ≠ []
  use : ∀ c, ∀ x ∈ K, c ∈ dec x → x ∈ us c
  few : ∀ c, (dec c).length ≤ 1000
  wfd : ∀ c, ∀ d ∈ dec c, (Lit.int .i64 d).wf = true
  wfk : ∀ c ∈ K, (Lit.int .i64 c).wf = true
  low : ∀ c, (us c).length ≤ 100000
/-- Between two steps. -/
structure RnS (w : World) (b M1 M2 M3 base B0 n2 T N : Nat) (D2 : DataW Value) (dec : Int → List Int) (K : List Int) (us : Int → List Int) (val : Int → Value) (wr : World) (n1 n3 : Nat) (D1 D3 : DataW Value) (O wk : List Int) (sz : Int → Nat) (lg : Nat) (wv : Value) : Prop where
  f1 : F1 wr M1 n1 D1 O
  a1 : A1 wr D1 dec O (fun k => wv.ownBlock = some k)
  f2 : F2 wr M2 n2 base D2 us val
  sep : ∀ c, (val c).ownBlock = none ∨ (val c).ownBlock ≠ wv.ownBlock
  f3 : F3 wr M3 n3 D3 sz
  row : wr.ownsRow base 3 1 wv wk.length (nums .i64 wk)
  fi : FI dec K O wk sz lg
  cel : wr.cell? ⟨b, 0, none⟩ = some (.map (some M1)) ∧ wr.cell? ⟨b, 1, none⟩ = some (.map (some M2)) ∧ wr.cell? ⟨b, 2, none⟩ = some (.map (some M3))
  wfw : ∀ c ∈ wk, (Lit.int .i64 c).wf = true
  few : wk.length + toDo us O ≤ T
  fe3 : n3 + O.length ≤ N
  bel : Below B0 w wr
  oth : ∀ k o, w.heap[k]? = some o → o.isCells = false → k ≠ M1 → k ≠ M3 → wr.heap[k]? = some o
def RnI (w : World) (b M1 M2 M3 base B0 n2 T N : Nat) (D2 : DataW Value) (dec : Int → List Int) (K : List Int) (us : Int → List Int) (val : Int → Value) (v l : Value) (wr : World) : Prop :=
  ∃ (n1 n3 : Nat) (D1 D3 : DataW Value) (O wk : List Int) (sz : Int → Nat) (lg : Nat), l = .int .i64 (lg : Nat) ∧ RnS w b M1 M2 M3 base B0 n2 T N D2 dec K us val wr n1 n3 D1 D3 O wk sz lg v
def RunPost (w : World) (b M1 M3 B0 : Nat) (dec : Int → List Int) (K : List Int) (e : Ending) (w' : World) : Prop :=
  ∃ (n1 : Nat) (D1 : DataW Value) (O : List Int) (sz : Int → Nat) (lg : Nat), e = .returned (.int .i64 (lg : Nat)) ∧ (F1 w' M1 n1 D1 O ∧ FI dec K O [] sz lg) ∧ w'.cell? ⟨b, 0, none⟩ = some (.map (some M1)) ∧ Below B0 w w' ∧ ∀ k o, w.heap[k]? = some o → o.isCells = false → k ≠ M1 → k ≠ M3 → w'.heap[k]? = some o
section
variable {w : World} {b M1 M2 M3 base B0 n2 T N : Nat} {D2 : DataW Value} {dec : Int → List Int} {K : List Int} {us : Int → List Int} {val : Int → Value} {wr : World} {n1 n3 : Nat} {D1 D3 : DataW Value} {O wk : List Int} {sz : Int → Nat} {lg : Nat}
theorem RnS.gone {g n cap : Nat} {c : Int} (h : RnS w b M1 M2 M3 base B0 n2 T N D2 dec K us val wr n1 n3 D1 D3 O (wk ++ [c]) sz lg (.slice (some ⟨g, 0, none⟩) (n + 1) cap)) (hl : wk.length = n) (hfi : FI dec K O wk sz lg) :
    RnS w b M1 M2 M3 base B0 n2 T N D2 dec K us val wr n1 n3 D1 D3 O wk sz lg (.slice (some ⟨g, 0, none⟩) n cap) := by
  have hr := h.row
  rw [List.length_append, List.length_singleton, hl] at hr
  refine ⟨h.f1, h.a1, h.f2, h.sep, h.f3, ?_, hfi, h.cel, fun x hx => h.wfw x (List.mem_append_left _ hx), by have := h.few; simp at this; omega, h.fe3, h.bel, h.oth⟩
  rw [hl]
  exact own_pop (z := .int .i64 c) (by simpa [nums] using hr)
/-- Where things lie. -/
structure RnB (w : World) (b M1 M2 M3 base B0 : Nat) : Prop where
  m1 : M1 < base
  m2 : M2 < base
  m3 : M3 < base
  b1 : b < base
  ne : (M1 ≠ M2 ∧ M1 ≠ M3 ∧ M2 ≠ M3) ∧ (b ≠ M1 ∧ b ≠ M2 ∧ b ≠ M3)
  lo : B0 ≤ M1 ∧ B0 ≤ M2 ∧ B0 ≤ M3
  top : base ≤ w.heap.size
theorem none_ne {base j : Nat} {W : World} {e : TypeId} {s n : Nat} {v : Value} {xs : List Value} (h : W.ownsRow base e s v n xs) (hj : j < base) : v.ownBlock = none ∨ v.ownBlock ≠ some j := by
  cases hv : v.ownBlock with
  | none => exact .inl rfl
  | some g => exact .inr (fun e => by injection e with e; have := (h.lt g hv).1; omega)
theorem ne_row {base j : Nat} {W : World} {e : TypeId} {s n : Nat} {v : Value} {xs : List Value} (h : W.ownsRow base e s v n xs) (hj : j < base) : some j ≠ v.ownBlock := fun e2 => by have := (h.lt j e2.symm).1; omega
/-- One is followed to its end. -/
theorem RnS.done {W2 W3 W4 : World} {c : Int} {wv wv' v' : Value} (hB : RnB w b M1 M2 M3 base B0) (hR : RnF dec K us) (h : RnS w b M1 M2 M3 base B0 n2 T N D2 dec K us val wr n1 n3 D1 D3 O (wk ++ [c]) sz lg wv) (hrow : wr.ownsRow base 3 1 wv' wk.length (nums .i64 wk)) (hwv : wv'.ownBlock = wv.ownBlock) (hc : c ∈ O) (hno : ∀ d ∈ dec c, d ∉ O)
    (ho2 : W2.ownsMap Tryz.prog 3 (plainElem Tryz.prog 3) M3 (n3 + 1) (D3.put (key c) (.lit (.int .i64 (sizeS sz (dec c) : Nat))))) (hg2 : wr.grownBy W2 (some M3))
    (ho3 : W3.ownsMap Tryz.prog 3 Cf.tokE M1 n1 (D1.del (key c))) (hg3 : W2.grownBy W3 (some M1))
    (ho4 : W4.ownsRow base 3 1 v' (wk.length + (us c).length) (nums .i64 wk ++ nums .i64 (us c))) (hg4 : W3.grownBy W4 wv.ownBlock) (hl4 : v'.ownBlock = wv.ownBlock ∨ v'.ownBlock = some W3.heap.size) :
    RnS w b M1 M2 M3 base B0 n2 T N D2 dec K us val W4 n1 (n3 + 1) (D1.del (key c)) (D3.put (key c) (.lit (.int .i64 (sizeS sz (dec c) : Nat)))) (cutO O c) (wk ++ us c) (putS sz c (sizeS sz (dec c))) (max lg (sizeS sz (dec c))) v' := by
  obtain ⟨⟨n12, n13, n23⟩, nb1, nb2, nb3⟩ := hB.ne
  have r4 : ∀ j, j < base → some j ≠ wv.ownBlock := fun j hj => by rw [← hwv]; exact ne_row hrow hj
  have hs3 : wr.heap.size ≤ W3.heap.size := Nat.le_trans hg2.size hg3.size
  have keepB : ∀ (j : Nat) (v : Value), j < base → j ≠ M1 → j ≠ M3 → ∀ k, wr.cell? ⟨j, k, none⟩ = some v → W4.cell? ⟨j, k, none⟩ = some v := fun j v hj h1 h3 k hk =>
    hg4.cell (a := ⟨j, k, none⟩) (hg3.cell (a := ⟨j, k, none⟩) (hg2.cell (a := ⟨j, k, none⟩) hk (fun e => h3 (by injection e))) (fun e => h1 (by injection e))) (r4 j hj)
  have hf1' := f1_del h.f1 hc ho3
  have hf2 : F2 W4 M2 n2 base D2 us val := ((h.f2.kept hg2 (fun e => n23 (by injection e)) (fun x => none_ne (h.f2.row x).1 hB.m3)).kept hg3 (fun e => n12 (by injection e with e; exact e.symm)) (fun x => none_ne (h.f2.row x).1 hB.m1)).kept hg4 (r4 _ hB.m2) h.sep
  have hlow : ∀ x, (val x).ownBlock = none ∨ (val x).ownBlock ≠ v'.ownBlock := fun x => by
    rcases hl4 with e | e
    · rw [e]; exact h.sep x
    · cases hx : (val x).ownBlock with
      | none => exact .inl rfl
      | some g => exact .inr (fun e2 => by rw [e] at e2; injection e2 with e2; have := ((h.f2.row x).1.lt g hx).2; omega)
  refine ⟨hf1'.kept hg4 (r4 _ hB.m1), ?_, hf2, hlow, (f3_put ((h.f3)) ho2 |>.kept hg3 (fun e => n13 (by injection e with e; exact e.symm))).kept hg4 (r4 _ hB.m3), ?_, ?_, ⟨keepB b _ hB.b1 nb1 nb3 0 h.cel.1, keepB b _ hB.b1 nb1 nb3 1 h.cel.2.1, keepB b _ hB.b1 nb1 nb3 2 h.cel.2.2⟩, ?_, ?_, ?_, ?_, ?_⟩
  · have ha := a1_del (c := c) h.a1
    have hav : A1 W4 (D1.del (key c)) dec (cutO O c) (fun k => wv.ownBlock = some k) := by
      have hM : ∀ j : Nat, (∃ o, wr.heap[j]? = some o ∧ o.isCells = false) → ∀ (A : Option Addr) (n : Nat) (zs : List Int), 0 < n → Vals wr A n (nums .i64 zs) → ∀ a, A = some a → a.block ≠ j := by
        intro j ⟨o, ho, hcl⟩ A n zs hn hv a ha e
        obtain ⟨b', off, e', -, hcc⟩ := hv.2 hn
        rw [ha] at e'
        cases e'
        obtain ⟨z, hz⟩ : ∃ z, (nums .i64 zs)[0]? = some z := ⟨_, List.getElem?_eq_getElem (by have := hv.1; omega)⟩
        obtain ⟨o', ho', hc'⟩ := cells_of_cell (hcc 0 z hz)
        have e : b' = j := e
        rw [e, ho] at ho'
        cases ho'
        rw [hcl] at hc'
        cases hc'
      have hm1 : ∃ o, wr.heap[M1]? = some o ∧ o.isCells = false := by obtain ⟨es, clock, hb, -⟩ := h.f1.1; exact ⟨_, hb, rfl⟩
      have hm3 : ∃ o, wr.heap[M3]? = some o ∧ o.isCells = false := by obtain ⟨es, clock, hb, -⟩ := h.f3.1; exact ⟨_, hb, rfl⟩
      intro x hx
      obtain ⟨A, k, q1, q2, q3⟩ := ha x hx
      have hpos : 0 < (dec x).length := List.length_pos_iff.2 (hR.has x (h.fi.sub x (cutO_mem.1 hx).1))
      refine ⟨A, k, q1, vals_grown (vals_grown (vals_grown q2 hg2 (fun a e e2 => hM _ hm3 A _ _ hpos q2 a e (by injection e2))) hg3 (fun a e e2 => hM _ hm1 A _ _ hpos q2 a e (by injection e2))) hg4 (fun a e e2 => (q3 a e).2 e2.symm), fun a e => ⟨Nat.lt_of_lt_of_le (q3 a e).1 (Nat.le_trans hs3 hg4.size), (q3 a e).2⟩⟩
    intro x hx
    obtain ⟨A, k, q1, q2, q3⟩ := hav x hx
    obtain ⟨A0, k0, p1, p2, p3⟩ := ha x hx
    refine ⟨A, k, q1, q2, fun a e => ⟨(q3 a e).1, fun e2 => ?_⟩⟩
    rcases hl4 with e3 | e3
    · exact (q3 a e).2 (e3.symm.trans e2)
    · rw [e3] at e2
      injection e2 with e2
      rw [p1] at q1
      injection q1 with q1
      injection q1 with q1 _ _
      subst q1
      have := (p3 a e).1
      omega
  · rw [List.length_append]
    have e : nums .i64 (wk ++ us c) = nums .i64 wk ++ nums .i64 (us c) := by unfold nums; rw [List.map_append]
    rw [e]
    exact ho4
  · exact fi_done h.fi hR.all hR.has hc hno (fun x hx hd => hR.use c x hx hd)
  · intro x hx
    rcases List.mem_append.1 hx with hx | hx
    · exact h.wfw x (List.mem_append_left _ hx)
    · exact (h.f2.row c).2 x hx
  · have h1 := h.few
    have h2 := toDo_cut (us := us) hc
    rw [List.length_append, List.length_singleton] at h1
    rw [List.length_append]
    omega
  · have h1 := h.fe3
    have h2 := cutO_len h.f1.2.2.2 hc
    omega
  · have hb1 := h.bel.grown hg2 (by have := h.bel.size; have := hB.top; have := hB.lo; have := hB.m1; omega) (fun r e => by injection e with e; have := hB.lo; omega)
    have hb2 := hb1.grown hg3 (by have := hb1.size; have := hB.top; have := hB.lo; have := hB.m1; omega) (fun r e => by injection e with e; have := hB.lo; omega)
    exact hb2.grown hg4 (by have := hb2.size; have := hB.top; have := hB.lo; have := hB.m1; omega) (fun r e => by have := (hrow.lt r (hwv.trans e)).1; have := hB.lo; have := hB.m1; omega)
  · intro k o hk hc0 hk1 hk3
    have q0 := h.oth k o hk hc0 hk1 hk3
    have l0 := (Array.getElem?_eq_some_iff.1 q0).1
    have q2 := (hg2.block k l0 (fun e => hk3 (by injection e))).trans q0
    have l2 := (Array.getElem?_eq_some_iff.1 q2).1
    have q3 := (hg3.block k l2 (fun e => hk1 (by injection e))).trans q2
    have l3 := (Array.getElem?_eq_some_iff.1 q3).1
    refine (hg4.block k l3 (fun e => ?_)).trans q3
    rw [← hwv] at e
    rcases hrow.2 with ⟨e2, -⟩ | ⟨g, cap, cur, e2, -, hg, -⟩
    · rw [e2] at e; cases e
    · rw [e2] at e
      have e : k = g := by injection e
      rw [← e, q0] at hg
      cases hg
      cases hc0
end
end Go.Proofs.YtmellioacefjjaaGreatDoor
