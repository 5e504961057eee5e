/- What the program's spoilsHangul hands back. -/
/- The data's own table of Hangul code points, out of the rows' list. -/
/- Rows in boxes; what a sequence's post says; no walk. -/
/- slices.Clone of numbers; what Decomp and Rows hand back; going through the rows of a table. -/
/- Syllables by arithmetic: what the document says of them, in plain numbers; no program is spoken of. -/
/- The program's small ones (among, Is, isLeading, isVowel, isOpen, isTrailing), and its Apart. -/
/- A block of slices alone is changed: what reads as rows, spans, pairs or numbers stays. -/
/- What the program's check, ahead, side, list and Len hand back. -/
import Derived.Test.YtfakohoamgogoaaGreatDoorQt09
import Derived.Test.YtfakohoamgogoaaGreatDoorQt03
import Derived.Test.YtfakohoamgogoaaGreatDoorQt08
import Derived.Test.YtfakohoamgogoaaGreatDoorQt05
import Derived.Test.YtfakohoamgogoaaGreatDoorQt01
import Derived.Test.YtfakohoamgogoaaGreatDoorQt07
import Derived.Test.YtfakohoamgogoaaGreatDoorQt02
import Derived.Test.YtfakohoamgogoaaGreatDoorProg
import Derived.BigQuiet
import Derived.Sort.Grow
namespace Go.Proofs.YtfakohoamgogoaaGreatDoor
open Go.RowKit Go.Shelf
attribute [local go_sem] Oper.semAt_some

/-- The table of Hangul code points lies where it was laid. -/
def HanT (w : World) : Prop := (w.cell? ⟨0, 0, none⟩ = some (.int .i64 4352) ∧ w.cell? ⟨0, 1, none⟩ = some (.int .i64 4370) ∧ w.cell? ⟨0, 2, none⟩ = some (.int .i64 4449) ∧ w.cell? ⟨0, 3, none⟩ = some (.int .i64 4469)) ∧ (w.cell? ⟨0, 4, none⟩ = some (.int .i64 4520) ∧ w.cell? ⟨0, 5, none⟩ = some (.int .i64 4546) ∧ w.cell? ⟨0, 6, none⟩ = some (.int .i64 44032) ∧ w.cell? ⟨0, 7, none⟩ = some (.int .i64 55203))
theorem HanT.lt {w : World} (h : HanT w) : 0 < w.heap.size := World.block_lt_of_cell? w _ h.1.1
theorem HanT.below {w w' : World} {n : Nat} (h : HanT w) (hn : 0 < n) (hb : Below n w w') : HanT w' :=
  have c : ∀ i, w'.cell? ⟨0, i, none⟩ = w.cell? ⟨0, i, none⟩ := fun i => hb.cell (p := ⟨0, i, none⟩) hn
  ⟨⟨(c _).trans h.1.1, (c _).trans h.1.2.1, (c _).trans h.1.2.2.1, (c _).trans h.1.2.2.2⟩, (c _).trans h.2.1, (c _).trans h.2.2.1, (c _).trans h.2.2.2.1, (c _).trans h.2.2.2.2⟩
def inH (a b : Int) : Nat → Prop
  | 0 => a ≤ 4370 ∧ 4352 ≤ b
  | 1 => a ≤ 4469 ∧ 4449 ≤ b
  | 2 => a ≤ 4546 ∧ 4520 ≤ b
  | _ => a ≤ 55203 ∧ 44032 ≤ b
instance (a b : Int) (k : Nat) : Decidable (inH a b k) := by unfold inH; split <;> infer_instance
def spoB (c : Int) (n : Nat) (a b : Int) : Bool := decide ((¬ c = 0 ∨ ¬ n = 0) ∧ (inH a b 0 ∨ inH a b 1 ∨ inH a b 2 ∨ inH a b 3))
def SpI (a b : Int) (W : World) (i : Value) (wr : World) : Prop := ∃ k : Nat, (i = .int .i64 k ∧ k ≤ 4) ∧ (∀ j, j < k → ¬ inH a b j) ∧ Below W.heap.size W wr
theorem sp_hit {c : Int} {n : Nat} {a b : Int} {k : Nat} (hc : ¬ c = 0 ∨ ¬ n = 0) (hk : k < 4) (h : inH a b k) : spoB c n a b = true := by
  refine decide_eq_true ⟨hc, ?_⟩
  match k, hk, h with
  | 0, _, h => exact .inl h
  | 1, _, h => exact .inr (.inl h)
  | 2, _, h => exact .inr (.inr (.inl h))
  | 3, _, h => exact .inr (.inr (.inr h))
theorem sp_none {c : Int} {n : Nat} {a b : Int} (h : ∀ j, j < 4 → ¬ inH a b j) : spoB c n a b = false :=
  decide_eq_false (fun ⟨_, hh⟩ => by rcases hh with h1 | h1 | h1 | h1 <;> exact h _ (by omega) h1)
theorem sp_idle {c : Int} {n : Nat} {a b : Int} (h1 : c = 0) (h2 : n = 0) : spoB c n a b = false := decide_eq_false (fun ⟨hh, _⟩ => hh.elim (fun x => x h1) (fun x => x h2))
theorem sp_bad {r : Uc.Pr} (h : r.a ≤ r.b) : spoB r.ccc r.dec.length r.a r.b = decide (badK r) := by
  unfold spoB badK
  refine decide_eq_decide.2 ?_
  have e : (inH r.a r.b 0 ∨ inH r.a r.b 1 ∨ inH r.a r.b 2 ∨ inH r.a r.b 3) ↔ touB r.a r.b = true := by
    unfold touB korB kors inH
    simp only [Bool.or_eq_true, decide_eq_true_eq, List.any_cons, List.any_nil, Bool.or_false]
    omega
  rw [e]
  constructor
  · rintro ⟨h1, h2⟩; exact ⟨by omega, h2⟩
  · rintro ⟨h1, h2⟩; exact ⟨by omega, h2⟩
theorem han0 (W : World) : (Instr.index 186 (.agg #[.int .i64 4352, .int .i64 4370, .int .i64 4449, .int .i64 4469, .int .i64 4520, .int .i64 4546, .int .i64 44032, .int .i64 55203]) (.int .i64 0)).run Tryz.prog W = .ok (.agg #[.int .i64 4352, .int .i64 4370]) W := by kernel_rfl
theorem han1 (W : World) : (Instr.index 186 (.agg #[.int .i64 4352, .int .i64 4370, .int .i64 4449, .int .i64 4469, .int .i64 4520, .int .i64 4546, .int .i64 44032, .int .i64 55203]) (.int .i64 1)).run Tryz.prog W = .ok (.agg #[.int .i64 4449, .int .i64 4469]) W := by kernel_rfl
theorem han2 (W : World) : (Instr.index 186 (.agg #[.int .i64 4352, .int .i64 4370, .int .i64 4449, .int .i64 4469, .int .i64 4520, .int .i64 4546, .int .i64 44032, .int .i64 55203]) (.int .i64 2)).run Tryz.prog W = .ok (.agg #[.int .i64 4520, .int .i64 4546]) W := by kernel_rfl
theorem han3 (W : World) : (Instr.index 186 (.agg #[.int .i64 4352, .int .i64 4370, .int .i64 4449, .int .i64 4469, .int .i64 4520, .int .i64 4546, .int .i64 44032, .int .i64 55203]) (.int .i64 3)).run Tryz.prog W = .ok (.agg #[.int .i64 44032, .int .i64 55203]) W := by kernel_rfl
set_option maxRecDepth 100000 in
set_option maxHeartbeats 4000000 in
theorem spoils72 (s : Uc.Rw) (w : World) (hH : HanT w) : Calls Tryz.prog 67 #[Uc.rwV s] w fun e w' => e = .returned (.bool (spoB s.ccc s.dm s.a s.b)) ∧ Below w.heap.size w w' := by
  obtain ⟨T, hT⟩ : ∃ T, bs s.gc = T := ⟨_, rfl⟩
  obtain ⟨U, hU⟩ : ∃ T, bs s.bd = T := ⟨_, rfl⟩
  unfold Uc.rwV
  rw [hT, hU]
  obtain ⟨a, ha⟩ : ∃ x, s.a = x := ⟨_, rfl⟩
  obtain ⟨b, hb⟩ : ∃ x, s.b = x := ⟨_, rfl⟩
  obtain ⟨c, hc⟩ : ∃ x, s.ccc = x := ⟨_, rfl⟩
  obtain ⟨dp, hdp⟩ : ∃ x, s.dp = x := ⟨_, rfl⟩
  obtain ⟨dm, hdm⟩ : ∃ x, s.dm = x := ⟨_, rfl⟩
  obtain ⟨dc, hdc⟩ : ∃ x, s.dc = x := ⟨_, rfl⟩
  rw [ha, hb, hc, hdp, hdm, hdc]
  have hh0 := hH.lt
  have x0 := han0
  have x1 := han1
  have x2 := han2
  have x3 := han3
  have hb0 : Below w.heap.size w (w.alloc (.cells #[.int .i64 a, .int .i64 b, .string T, .int .i64 c, .string U, .slice dp dm dc] 59)) := (Below.refl _ _).alloc (Nat.le_refl _) _
  obtain ⟨⟨g0, g1, g2, g3⟩, g4, g5, g6, g7⟩ := hH
  have hne : ¬ w.heap.size = 0 := by omega
  clear ha hb hc hdp hdm hdc hT hU
  by_cases hz : c = 0 ∧ dm = 0
  · obtain ⟨rfl, rfl⟩ := hz
    have HR : Hid (spoB 0 0 a b = false) := Lib.hid (sp_idle rfl rfl)
    have HB := Lib.hid hb0
    clear hb0
    go_enter Tryz.func67, Tryz.ntmps67
    go_wp2
    go_ret
    exact ⟨by rw [HR.out]; rfl, HB.out⟩
  · have HZ : Hid (¬ c = 0 ∨ ¬ dm = 0) := Lib.hid (by omega)
    have HB := Lib.hid hb0
    have HI0 : Hid (SpI a b w (.int .i64 (0 : Nat)) (w.alloc (.cells #[.int .i64 a, .int .i64 b, .string T, .int .i64 c, .string U, .slice dp dm dc] 59))) := Lib.hid ⟨0, ⟨rfl, by omega⟩, fun j hj => absurd hj (by omega), hb0⟩
    clear hb0
    have hways : (¬ c = 0 ∧ (c == 0) = false) ∨ ((c == 0) = true ∧ ¬ dm = 0) := by
      by_cases h : c = 0
      · exact .inr ⟨by rw [h]; rfl, by omega⟩
      · exact .inl ⟨h, beq_false_of_ne h⟩
    clear hz HB
    rcases hways with ⟨h1, h2⟩ | ⟨h2, h1⟩
    all_goals
      go_enter Tryz.func67, Tryz.ntmps67
      go_wp2
      obtain ⟨w1, hw1⟩ : ∃ w1, w.alloc (.cells #[.int .i64 a, .int .i64 b, .string T, .int .i64 c, .string U, .slice dp dm dc] 59) = w1 := ⟨_, rfl⟩
      have hs1 : w1.heap.size = w.heap.size + 1 := by rw [← hw1]; simp
      have b0 : w1.cell? ⟨w.heap.size, 0, none⟩ = some (.int .i64 a) := by rw [← hw1]; simp
      have b1 : w1.cell? ⟨w.heap.size, 1, none⟩ = some (.int .i64 b) := by rw [← hw1]; simp
      rw [hw1] at HI0 ⊢
      have HS := Lib.hid (And.intro hs1 (And.intro b0 b1))
      have HBW : Hid (Below w.heap.size w w1) := Lib.hid (HI0.out.choose_spec.2.2)
      clear g0 g1 g2 g3 g4 g5 g6 g7 hw1 hs1 b0 b1
      go_loopw [15] (fun i wr => SpI a b w1 i wr) (fun i _ => 4 - (intOf i).toNat)
      case atStart => exact ⟨0, ⟨rfl, by omega⟩, fun j hj => absurd hj (by omega), Below.refl _ _⟩
      case round =>
        clear HI0
        obtain ⟨k, ⟨rfl, hk⟩, hno, hb⟩ := hrel
        obtain ⟨hs1, b0, b1⟩ := HS.out
        have e0 : wr.cell? ⟨w.heap.size, 0, none⟩ = some (.int .i64 a) := (hb.cell (p := ⟨w.heap.size, 0, none⟩) (show w.heap.size < w1.heap.size by omega)).trans b0
        have e1 : wr.cell? ⟨w.heap.size, 1, none⟩ = some (.int .i64 b) := (hb.cell (p := ⟨w.heap.size, 1, none⟩) (show w.heap.size < w1.heap.size by omega)).trans b1
        have hlr : w.heap.size < wr.heap.size := World.block_lt_of_cell? wr _ e0
        have HW := Lib.hid (And.intro hb (And.intro hno (HBW.out.trans (hb.mono (by omega)))))
        have hsz := hb.size
        clear hb hno b0 b1
        rcases Nat.lt_or_ge k 4 with hk4 | hk4
        · have hb2 : ∀ o, Below w1.heap.size w1 (wr.alloc o) := fun o => HW.out.1.alloc hsz o
          have hb3 : ∀ o, Below w.heap.size w (wr.alloc o) := fun o => HW.out.2.2.alloc (by omega) o
          have HB2 := Lib.hid (And.intro hb2 hb3)
          clear hb2 hb3
          by_cases hin : inH a b k
          · have HR : Hid (spoB c dm a b = true) := Lib.hid (sp_hit HZ.out hk4 hin)
            match k, hk4, hin with
            | 0, _, hin | 1, _, hin | 2, _, hin | 3, _, hin =>
              obtain ⟨i1, i2⟩ : _ ∧ _ := hin
              go_wp2
              go_ret
              exact ⟨by rw [HR.out]; rfl, HB2.out.2 _⟩
          · have HNX : Hid (∀ j, j < k + 1 → ¬ inH a b j) := Lib.hid (fun j hj => by
              by_cases e : j = k
              · subst e; exact hin
              · exact HW.out.2.1 j (by omega))
            match k, hk4, hin with
            | 0, _, hin =>
              have hin : ¬ (a ≤ 4370 ∧ 4352 ≤ b) := hin
              by_cases i0 : a ≤ 4370
              · have i1 : ¬ 4352 ≤ b := fun h => hin ⟨i0, h⟩
                clear hin
                go_wp2
                go_roundw
                case rel => exact ⟨1, ⟨rfl, by decide⟩, HNX.out, HB2.out.1 _⟩
                case measure => simp [intOf]
              · clear hin
                go_wp2
                go_roundw
                case rel => exact ⟨1, ⟨rfl, by decide⟩, HNX.out, HB2.out.1 _⟩
                case measure => simp [intOf]
            | 1, _, hin =>
              have hin : ¬ (a ≤ 4469 ∧ 4449 ≤ b) := hin
              by_cases i0 : a ≤ 4469
              · have i1 : ¬ 4449 ≤ b := fun h => hin ⟨i0, h⟩
                clear hin
                go_wp2
                go_roundw
                case rel => exact ⟨2, ⟨rfl, by decide⟩, HNX.out, HB2.out.1 _⟩
                case measure => simp [intOf]
              · clear hin
                go_wp2
                go_roundw
                case rel => exact ⟨2, ⟨rfl, by decide⟩, HNX.out, HB2.out.1 _⟩
                case measure => simp [intOf]
            | 2, _, hin =>
              have hin : ¬ (a ≤ 4546 ∧ 4520 ≤ b) := hin
              by_cases i0 : a ≤ 4546
              · have i1 : ¬ 4520 ≤ b := fun h => hin ⟨i0, h⟩
                clear hin
                go_wp2
                go_roundw
                case rel => exact ⟨3, ⟨rfl, by decide⟩, HNX.out, HB2.out.1 _⟩
                case measure => simp [intOf]
              · clear hin
                go_wp2
                go_roundw
                case rel => exact ⟨3, ⟨rfl, by decide⟩, HNX.out, HB2.out.1 _⟩
                case measure => simp [intOf]
            | 3, _, hin =>
              have hin : ¬ (a ≤ 55203 ∧ 44032 ≤ b) := hin
              by_cases i0 : a ≤ 55203
              · have i1 : ¬ 44032 ≤ b := fun h => hin ⟨i0, h⟩
                clear hin
                go_wp2
                go_roundw
                case rel => exact ⟨4, ⟨rfl, by decide⟩, HNX.out, HB2.out.1 _⟩
                case measure => simp [intOf]
              · clear hin
                go_wp2
                go_roundw
                case rel => exact ⟨4, ⟨rfl, by decide⟩, HNX.out, HB2.out.1 _⟩
                case measure => simp [intOf]
        · have hk0 : k = 4 := by omega
          have HR : Hid (spoB c dm a b = false) := Lib.hid (sp_none (fun j hj => HW.out.2.1 j (by omega)))
          subst hk0
          go_wp2
          go_ret
          exact ⟨by rw [HR.out]; rfl, HW.out.2.2⟩
end Go.Proofs.YtfakohoamgogoaaGreatDoor

namespace Go.Proofs.YtfakohoamgogoaaGreatDoor
open Go.ChangeShapes Go.WideShapes Go.ChangeAt Go.RowKit

theorem hant {W : World} (h : laidMetH Tryz.prog Rows.decompFormsRow.laid W) : HanT W := by
  have h' : laidMet Tryz.prog Rows.decompFormsRow.laid W := by
    rw [MakeChecks.laidMetH_plain _ _ _ (by kernel_rfl)] at h
    exact h
  obtain ⟨g, t, cs, fuel, p, hg, hty, hvar, hd⟩ := Lib.laidMet.reads h' (n := "paronym/data.hangul") (d := Rows.laid_paronym_data_hangul) (by simp [Rows.decompFormsRow])
  obtain rfl := Option.some.inj ((show Tryz.prog.globalNamed "paronym/data.hangul" = some 0 by kernel_rfl).symm.trans hg)
  obtain rfl := Option.some.inj ((show (Tryz.prog.globals[0]?).map (·.type) = some 186 by kernel_rfl).symm.trans hty)
  have part : ∀ i, i < 4 → ∀ a b : Int, ((Rows.laid_paronym_data_hangul : DataW Unit) = .agg [.agg [.lit (.int .i64 4352), .lit (.int .i64 4370)], .agg [.lit (.int .i64 4449), .lit (.int .i64 4469)], .agg [.lit (.int .i64 4520), .lit (.int .i64 4546)], .agg [.lit (.int .i64 44032), .lit (.int .i64 55203)]]) →
      ([(4352, 4370), (4449, 4469), (4520, 4546), (44032, 55203)] : List (Int × Int))[i]? = some (a, b) → W.cell? ⟨0, 2 * i, none⟩ = some (.int .i64 a) ∧ W.cell? ⟨0, 2 * i + 1, none⟩ = some (.int .i64 b) := by
    intro i hi a b he hab
    rw [he] at hd
    obtain ⟨fuel', d, q, hdi, hde⟩ := Lib.array_elem Tryz.underlying186 hd i hi
    rw [show Tryz.prog.cellsOf 185 = 2 by kernel_rfl] at hde
    have hdd : d = Lib.tabData .i64 [a, b] := by
      match i, hi with
      | 0, _ => simp at hdi hab; obtain ⟨rfl, rfl⟩ := hab; exact hdi.symm
      | 1, _ => simp at hdi hab; obtain ⟨rfl, rfl⟩ := hab; exact hdi.symm
      | 2, _ => simp at hdi hab; obtain ⟨rfl, rfl⟩ := hab; exact hdi.symm
      | 3, _ => simp at hdi hab; obtain ⟨rfl, rfl⟩ := hab; exact hdi.symm
    subst hdd
    have hcs := Lib.cells_of_tab Tryz.underlying185 Tryz.underlying3 (by kernel_rfl) (by kernel_rfl) hde
    have e0 := congrArg (·[0]?) hcs
    have e1 := congrArg (·[1]?) hcs
    simp only [List.getElem?_take, List.getElem?_drop] at e0 e1
    constructor
    · rw [World.var?_cell hg hvar (2 * i), ← Array.getElem?_toList]
      simpa [Nat.mul_comm] using e0
    · rw [World.var?_cell hg hvar (2 * i + 1), ← Array.getElem?_toList]
      simpa [Nat.mul_comm] using e1
  have q0 := part 0 (by omega) _ _ rfl rfl
  have q1 := part 1 (by omega) _ _ rfl rfl
  have q2 := part 2 (by omega) _ _ rfl rfl
  have q3 := part 3 (by omega) _ _ rfl rfl
  exact ⟨⟨q0.1, q0.2, q1.1, q1.2⟩, ⟨q2.1, q2.2, q3.1, q3.2⟩⟩
end Go.Proofs.YtfakohoamgogoaaGreatDoor

namespace Go.Proofs.YtfakohoamgogoaaGreatDoor.Uc
open Go.RowKit

/-- The six cells of a row's box. -/
def Box6 (w : World) (b : Nat) (v0 v1 v2 v3 v4 v5 : Value) : Prop :=
  (w.cell? ⟨b, 0, none⟩ = some v0 ∧ w.cell? ⟨b, 1, none⟩ = some v1 ∧ w.cell? ⟨b, 2, none⟩ = some v2 ∧ w.cell? ⟨b, 3, none⟩ = some v3 ∧ w.cell? ⟨b, 4, none⟩ = some v4 ∧ w.cell? ⟨b, 5, none⟩ = some v5) ∧ ∀ i, w.frozen? ⟨b, i, none⟩ = false
theorem Box6.below {w w' : World} {b : Nat} {v0 v1 v2 v3 v4 v5 : Value} (h : Box6 w b v0 v1 v2 v3 v4 v5) (hl : b < w.heap.size) (hb : Below w.heap.size w w') : Box6 w' b v0 v1 v2 v3 v4 v5 :=
  ⟨⟨(hb.cell (p := ⟨b, 0, none⟩) hl).trans h.1.1, (hb.cell (p := ⟨b, 1, none⟩) hl).trans h.1.2.1, (hb.cell (p := ⟨b, 2, none⟩) hl).trans h.1.2.2.1, (hb.cell (p := ⟨b, 3, none⟩) hl).trans h.1.2.2.2.1, (hb.cell (p := ⟨b, 4, none⟩) hl).trans h.1.2.2.2.2.1, (hb.cell (p := ⟨b, 5, none⟩) hl).trans h.1.2.2.2.2.2⟩, fun i => (hb.frozen (p := ⟨b, i, none⟩) hl).trans (h.2 i)⟩
theorem dec_err {l : List UInt8} (h : tagB l = false) : decErr l = match seqOf l with | none => 13 | some cs => if 2 < cs.length then 16 else 0 := by unfold decErr; rw [if_neg (by rw [h]; decide)]; cases seqOf l <;> rfl
theorem seq_none {l : List UInt8} {w w' : World} {e : Ending} (hs : seqOf l = none) (h : SeqPost l w e w') : e = .returned (.tuple #[.slice none 0 0, .int .i64 13]) ∧ Below w.heap.size w w' := by
  rcases h.2 with ⟨cs, A, ca, h1, -⟩ | ⟨-, h2⟩
  · rw [hs] at h1; cases h1
  · exact ⟨h2, h.1⟩
theorem seq_some {l : List UInt8} {w w' : World} {e : Ending} {cs : List Nat} (hs : seqOf l = some cs) (h : SeqPost l w e w') : Below w.heap.size w w' ∧ ∃ A ca, e = .returned (.tuple #[.slice A cs.length ca, .int .i64 0]) ∧ Hid (Vals w' A cs.length (i64s cs) ∧ ∀ a, A = some a → w.heap.size ≤ a.block) := by
  rcases h.2 with ⟨cs', A, ca, h1, h2, h3⟩ | ⟨h1, -⟩
  · rw [hs] at h1
    cases h1
    exact ⟨h.1, A, ca, h2, Lib.hid h3⟩
  · rw [hs] at h1; cases h1
theorem vals_set {w : World} {A : Option Addr} {n b i : Nat} {vs : List Value} {v : Value} (h : Vals w A n vs) (hA : ∀ a, A = some a → ¬ a.block = b) : Vals (w.setCell ⟨b, i, none⟩ v) A n vs := by
  refine ⟨h.1, fun hn => ?_⟩
  obtain ⟨b', off, rfl, hlt, hc⟩ := h.2 hn
  refine ⟨b', off, rfl, by rw [World.size_setCell]; exact hlt, fun j u hj => ?_⟩
  rw [World.cell?_setCell_other _ _ _ _ (by intro e; have := hA _ rfl; injection e with e1; exact this e1.symm)]
  exact hc j u hj
theorem vals_set6 {w : World} {A : Option Addr} {n b : Nat} {vs : List Value} {v0 v1 v2 v3 v4 v5 : Value} (h : Vals w A n vs) (hA : ∀ a, A = some a → ¬ a.block = b) :
    Vals ((((((w.setCell ⟨b, 0, none⟩ v0).setCell ⟨b, 1, none⟩ v1).setCell ⟨b, 2, none⟩ v2).setCell ⟨b, 3, none⟩ v3).setCell ⟨b, 4, none⟩ v4).setCell ⟨b, 5, none⟩ v5) A n vs :=
  vals_set (vals_set (vals_set (vals_set (vals_set (vals_set h hA) hA) hA) hA) hA) hA
theorem below_set {w v : World} {r : Nat} (h : Below w.heap.size w v) (hr : w.heap.size ≤ r) (i : Nat) (x : Value) : Below w.heap.size w (v.setCell ⟨r, i, none⟩ x) := Below.setCell h hr _
end Go.Proofs.YtfakohoamgogoaaGreatDoor.Uc

namespace Go.Proofs.YtfakohoamgogoaaGreatDoor.Uc
open Go.RowKit Go.Shelf
attribute [local go_sem] Oper.semAt_some

def ClonedPost (n : Nat) (zs : List Int) (w : World) (e : Ending) (w' : World) : Prop := ∃ A2 c2, e = .returned (.slice A2 n c2) ∧ Below w.heap.size w w' ∧ Hid (Vals w' A2 n (nums .i64 zs) ∧ ∀ a, A2 = some a → w.heap.size ≤ a.block)
theorem clone26 (A : Option Addr) (n c : Nat) (zs : List Int) (w : World) (hV : Vals w A n (nums .i64 zs)) (hn : n ≤ 1000000) : Calls Tryz.prog 84 #[.slice A n c] w (ClonedPost n zs w) := by
  have hl : zs.length = n := by have := hV.1; unfold nums at this; rwa [List.length_map] at this
  cases A with
  | none =>
    have h0 : n = 0 := by
      rcases Nat.eq_zero_or_pos n with h | h
      · exact h
      · obtain ⟨b, off, e, -⟩ := hV.2 h
        cases e
    subst h0
    obtain rfl : zs = [] := List.eq_nil_of_length_eq_zero hl
    refine (Tryz.slices_Clone_int_nil 0 c w).mono ?_
    rintro e w' ⟨rfl, rfl⟩
    exact ⟨none, 0, rfl, Below.refl _ _, Lib.hid ⟨Vals.nil _ _, fun a e => by cases e⟩⟩
  | some ad =>
    have fin : ∀ (v' : Value) (w' : World), w'.ownsRow w.heap.size 3 1 v' n (nums .i64 zs) → Below w.heap.size w w' → ClonedPost n zs w (.returned v') w' := by
      intro v' w' ho hb
      obtain ⟨A2, c2, rfl, -, hV2, -⟩ := own_vals ho
      exact ⟨A2, c2, rfl, hb, Lib.hid ⟨hV2, fun a e => (ho.lt a.block (by rw [e]; rfl)).1⟩⟩
    rcases Nat.eq_zero_or_pos n with h0 | hpos
    · subst h0
      obtain rfl : zs = [] := List.eq_nil_of_length_eq_zero hl
      refine (Tryz.slices_Clone_int_zero ad c w).mono ?_
      rintro e w' ⟨v', rfl, ho, -, hb⟩
      exact fin v' w' ho hb
    · obtain ⟨b, off, e, hlt, hc⟩ := hV.2 hpos
      cases e
      refine (Tryz.slices_Clone_int b off n c zs w (by omega) (by omega) (fun j hj => hc j _ (nums_get hj))).mono ?_
      rintro e w' ⟨v', rfl, ho, -, hb⟩
      rw [List.take_of_length_le (by omega)] at ho
      exact fin v' w' ho hb
set_option maxHeartbeats 1000000 in
theorem rows10 (p A : Option Addr) (c : Nat) (ls : List Rw) (w : World) (hT : TIn w p A c ls) : Calls Tryz.prog 66 #[.pointer p] w fun e w' =>
    e = .returned (.func (.func 103) #[] #[.pointer (some ⟨w.heap.size, 0, none⟩)]) ∧ w' = w.alloc (.cells #[.slice A ls.length c] 77) := by
  have c24 := list24 p A c ls w hT
  clear hT
  go_enter Tryz.func66, Tryz.ntmps66
  go_wp2_with (go_at_call 70; (with_reducible refine c24.mono ?_); rintro e w1 ⟨rfl, rfl⟩)
  go_ret
  exact ⟨rfl, rfl⟩

/-- A row as it is handed over: where it lies, and what it says. -/
abbrev RwP := Rw × Pr
def rwArr (x : RwP) : Array Value := #[rwV x.1]
theorem RAt.kept {A' : Nat → Prop} {w w' : World} {A : Option Addr} {n : Nat} {ls : List Rw} (h : RAt w A n ls) (hk : Kept A' w w') (hA : 0 < n → ∀ a, A = some a → A' a.block) : RAt w' A n ls := by
  refine ⟨h.1, fun hn => ?_⟩
  obtain ⟨b, off, rfl, hlt, hc⟩ := h.2 hn
  have hb := hA hn _ rfl
  refine ⟨b, off, rfl, Nat.lt_of_lt_of_le hlt hk.1, fun j s hj => ?_⟩
  obtain ⟨h1, h2, h3, h4, h5, h6⟩ := hc j s hj
  exact ⟨hk.cell (a := ⟨b, _, none⟩) hb h1, hk.cell (a := ⟨b, _, none⟩) hb h2, hk.cell (a := ⟨b, _, none⟩) hb h3, hk.cell (a := ⟨b, _, none⟩) hb h4, hk.cell (a := ⟨b, _, none⟩) hb h5, hk.cell (a := ⟨b, _, none⟩) hb h6⟩
theorem Ist.kept {A' : Nat → Prop} {w w' : World} (hk : Kept A' w w') : ∀ {ls : List Rw} {ps : List Pr}, Ist w ls ps → (∀ t ∈ ls, 0 < t.dm → ∀ a, t.dp = some a → A' a.block) → Ist w' ls ps
  | [], [], _, _ => trivial
  | t :: _, _ :: _, hc, he => ⟨⟨hc.1.1, hc.1.2.1, hc.1.2.2.1, hc.1.2.2.2.1, hc.1.2.2.2.2.1, hc.1.2.2.2.2.2.1, ⟨hc.1.2.2.2.2.2.2.1, fun hn => by
      obtain ⟨b, off, e, hlt, hcc⟩ := hc.1.2.2.2.2.2.2.2 hn
      exact ⟨b, off, e, Nat.lt_of_lt_of_le hlt hk.1, fun j v hj => hk.cell (a := ⟨b, off + j, none⟩) (he t (List.mem_cons_self ..) hn ⟨b, off, none⟩ e) (hcc j v hj)⟩⟩⟩, Ist.kept hk hc.2 fun u hu => he u (List.mem_cons_of_mem _ hu)⟩
  | [], _ :: _, hc, _ => hc.elim
  | _ :: _, [], hc, _ => hc.elim
/-- Where the going through stands. -/
def RVRel (ls : List Rw) (ps : List Pr) (B : Option Addr) (b n c N0 : Nat) (J : List RwP → World → Prop) (i : Value) (wr : World) : Prop :=
  ∃ (k : Nat) (xs : List RwP), i = .int .i64 k ∧ k ≤ n ∧ (xs.map Prod.snd = ps.take k ∧ xs.length = k) ∧ J xs wr ∧ RAt wr B n ls ∧ Ist wr ls ps ∧ wr.cell? ⟨b, 0, none⟩ = some (.slice B n c) ∧ N0 ≤ wr.heap.size
theorem take_sn {ps : List Pr} {k : Nat} {p : Pr} {xs : List RwP} {s : Rw} (hs : ps[k]? = some p) (h : xs.map Prod.snd = ps.take k) : (xs ++ [(s, p)]).map Prod.snd = ps.take (k + 1) := by
  have hlt := (List.getElem?_eq_some_iff.1 hs).1
  have e : ps[k] = p := (List.getElem?_eq_some_iff.1 hs).2
  rw [List.take_succ_eq_append_getElem hlt, e, List.map_append, h]
  rfl
/-- What comes next is as the rows say. -/
def NxR (ps : List Pr) (pre : List RwP) (x : RwP) : Prop := (pre ++ [x]).map Prod.snd <+: ps ∧ pre.length < 100001
end Go.Proofs.YtfakohoamgogoaaGreatDoor.Uc

namespace Go.Proofs.YtfakohoamgogoaaGreatDoor

/-- The parts of the syllable of the l-th leading one, the v-th vowel, the t-th trailing one. -/
def partsOf (l v t : Int) : List Int := if t = 0 then [4352 + l, 4449 + v] else [4352 + l, 4449 + v, 4519 + t]
/-- Places of a leading one, a vowel, a trailing one. -/
def Places (l v t : Int) : Prop := 0 ≤ l ∧ l < 19 ∧ 0 ≤ v ∧ v < 21 ∧ 0 ≤ t ∧ t < 28
def syl (l v t : Int) : Int := 44032 + (21 * l + v) * 28 + t
theorem hang (c : Int) (h1 : 44032 ≤ c) (h2 : c < 55204) : ∃ l v t, Places l v t ∧ c = syl l v t := by
  refine ⟨(c - 44032) / 28 / 21, (c - 44032) / 28 % 21, (c - 44032) % 28, ⟨by omega, by omega, by omega, by omega, by omega, by omega⟩, ?_⟩
  unfold syl
  omega
theorem hang_in {l v t : Int} (h : Places l v t) : 44032 ≤ syl l v t ∧ syl l v t < 55204 := by
  obtain ⟨a, b, c, d, e, f⟩ := h
  unfold syl
  omega
theorem divs {l v t : Int} (h : Places l v t) : (syl l v t - 44032).tdiv 28 = 21 * l + v ∧ (syl l v t - 44032).tmod 28 = t ∧ (21 * l + v).tdiv 21 = l ∧ (21 * l + v).tmod 21 = v := by
  obtain ⟨a, b, c, d, e, f⟩ := h
  unfold syl
  rw [Int.tdiv_eq_ediv_of_nonneg (by omega), Int.tmod_eq_emod_of_nonneg (by omega), Int.tdiv_eq_ediv_of_nonneg (by omega), Int.tmod_eq_emod_of_nonneg (by omega)]
  omega
end Go.Proofs.YtfakohoamgogoaaGreatDoor

namespace Go.Proofs.YtfakohoamgogoaaGreatDoor
open Go.RowKit

theorem and_dec {p q : Prop} [Decidable p] [Decidable q] : (decide p && decide q) = decide (p ∧ q) := by
  by_cases hp : p <;> by_cases hq : q <;> simp [hp, hq]
/-- The three bounds that the program asks with. -/
theorem among15 (c a n : Int) (w : World) (ha : 0 ≤ a ∧ a ≤ 1000000) (hn : 0 ≤ n ∧ n ≤ 1000000) : Calls Tryz.prog 85 #[.int .i64 c, .int .i64 a, .int .i64 n] w fun e w' => e = .returned (.bool (decide (a ≤ c ∧ c < a + n))) ∧ w' = w := by
  obtain ⟨ha, ha2⟩ := ha
  obtain ⟨hn, hn2⟩ := hn
  by_cases h1 : a ≤ c
  · by_cases h2 : c < a + n
    · have h3 : a ≤ c ∧ c < a + n := ⟨h1, h2⟩
      rw [decide_eq_true h3]
      go_enter Tryz.func85, Tryz.ntmps85
      go_wp2
      go_ret
      exact ⟨rfl, rfl⟩
    · have h3 : ¬ (a ≤ c ∧ c < a + n) := fun h => h2 h.2
      rw [decide_eq_false h3]
      go_enter Tryz.func85, Tryz.ntmps85
      go_wp2
      go_ret
      exact ⟨rfl, rfl⟩
  · have h3 : ¬ (a ≤ c ∧ c < a + n) := fun h => h1 h.1
    rw [decide_eq_false h3]
    go_enter Tryz.func85, Tryz.ntmps85
    go_wp2
    go_ret
    exact ⟨rfl, rfl⟩
theorem is10 (c : Int) (w : World) : Calls Tryz.prog 55 #[.int .i64 c] w fun e w' => e = .returned (.bool (decide (44032 ≤ c ∧ c < 55204))) ∧ w' = w := by
  have h := among15 c 44032 11172 w (by omega) (by omega)
  rw [show (44032 : Int) + 11172 = 55204 from rfl] at h
  go_enter Tryz.func55, Tryz.ntmps55
  go_wp2_with (go_at_call 85; (with_reducible refine h.mono ?_); rintro e w' ⟨rfl, rfl⟩)
  go_ret
  exact ⟨congrArg (fun b => Ending.returned (Value.bool b)) and_dec, rfl⟩
theorem two_row (w : World) (x y : Int) : (w.alloc (.cells #[.int .i64 x, .int .i64 y] 3)).ownsRow w.heap.size 3 1 (.slice (some ⟨w.heap.size, 0, none⟩) 2 2) 2 (nums .i64 [x, y]) :=
  World.ownsRow_lit w #[.int .i64 x, .int .i64 y] 2 (Nat.le_refl _) (by decide) rfl
end Go.Proofs.YtfakohoamgogoaaGreatDoor

namespace Go.Proofs.YtfakohoamgogoaaGreatDoor
open Go.RowKit

/-- The block B alone is changed. -/
def Chg (B : Nat) (W W' : World) : Prop := W'.heap.size = W.heap.size ∧ ∀ k, k ≠ B → W'.heap[k]? = W.heap[k]?
theorem Chg.cell {B : Nat} {W W' : World} (h : Chg B W W') {p : Addr} (hp : p.block ≠ B) : W'.cell? p = W.cell? p := by
  have e := h.2 p.block hp
  unfold World.cell?
  rw [e]
theorem chg_set (W : World) (B k : Nat) (v : Value) : Chg B W (W.setCell ⟨B, k, none⟩ v) :=
  ⟨World.size_setCell _ _ _, fun j hj => heap_setCell_other _ ⟨B, k, none⟩ j _ (fun e => hj (by simpa using e))⟩
/-- One of them is set. -/
def put1 (g : Nat → Value) (k : Nat) (v : Value) : Nat → Value := fun i => if i = k then v else g i
theorem put1_at (g : Nat → Value) (k : Nat) (v : Value) : put1 g k v k = v := if_pos rfl
theorem put1_else (g : Nat → Value) {k i : Nat} (v : Value) (h : i ≠ k) : put1 g k v i = g i := if_neg h
/-! What stays. -/
end Go.Proofs.YtfakohoamgogoaaGreatDoor

namespace Go.Proofs.YtfakohoamgogoaaGreatDoor.Pq
open Go.RowKit Go.Sort

theorem check_alone {s : Sp} (h : ¬ (s.a < 0 ∨ 1114111 < s.b ∨ s.b < s.a)) (hv : ¬ s.v = []) : check [] s = 0 := check_fine h hv rfl
set_option maxRecDepth 100000 in
set_option maxHeartbeats 1000000 in
theorem check34 (x : Sp) (w : World) : Calls Tryz.prog 170 #[spV x] w (ChkPost [] x w) := by
  obtain ⟨xa, xb, xv⟩ := x
  unfold spV
  have HB := Lib.hid (show Below w.heap.size w (w.alloc (.cells #[.int .i64 xa, .int .i64 xb, .string (bs xv)] 168)) from (Below.refl _ _).alloc (Nat.le_refl _) _)
  by_cases hr : xa < 0 ∨ 1114111 < xb ∨ xb < xa
  · have HR := Lib.hid (check_range (l := []) (s := ⟨xa, xb, xv⟩) hr)
    obtain ⟨T, hT⟩ : ∃ T, bs xv = T := ⟨_, rfl⟩
    rw [hT] at HB ⊢
    clear hT
    rcases (show xa < 0 ∨ (¬ xa < 0 ∧ 1114111 < xb) ∨ (¬ xa < 0 ∧ ¬ 1114111 < xb ∧ xb < xa) by omega) with g | ⟨g, g'⟩ | ⟨g, g', g''⟩
    all_goals
      clear hr
      go_enter Tryz.func170, Tryz.ntmps170
      go_wp2
      go_ret
      exact ⟨by rw [HR.out]; rfl, HB.out⟩
  · have HF := Lib.hid hr
    have g1 : ¬ xa < 0 := fun h => hr (.inl h)
    have g2 : ¬ 1114111 < xb := fun h => hr (.inr (.inl h))
    have g3 : ¬ xb < xa := fun h => hr (.inr (.inr h))
    clear hr
    by_cases hv : xv = []
    · have HR := Lib.hid (check_empty (l := []) (s := ⟨xa, xb, xv⟩) HF.out hv)
      subst hv
      rw [bs_nil] at HB ⊢
      go_enter Tryz.func170, Tryz.ntmps170
      go_wp2
      go_ret
      exact ⟨by rw [HR.out]; rfl, HB.out⟩
    · have hemp := bs_some hv
      have HR := Lib.hid (check_alone (s := ⟨xa, xb, xv⟩) HF.out hv)
      obtain ⟨T, hT⟩ : ∃ T, bs xv = T := ⟨_, rfl⟩
      rw [hT] at HB hemp ⊢
      clear hT hv
      go_enter Tryz.func170, Tryz.ntmps170
      go_wp2
      go_ret
      exact ⟨by rw [HR.out]; rfl, HB.out⟩

def sideOf (s t : Sp) : Int := if s.b < t.a then -1 else if t.b < s.a then 1 else 0
set_option maxRecDepth 100000 in
set_option maxHeartbeats 1000000 in
theorem side43 (s t : Sp) (w : World) : Calls Tryz.prog 260 #[spV s, spV t] w fun e w' => e = .returned (.int .i64 (sideOf s t)) ∧ ∃ q os', w' = grow (w.drewN q) os' := by
  obtain ⟨xa, xb, xv⟩ := s
  obtain ⟨ya, yb, yv⟩ := t
  unfold spV
  have HW : ∀ T U, ∃ q os', (w.alloc (.cells #[.int .i64 xa, .int .i64 xb, .string T] 168)).alloc (.cells #[.int .i64 ya, .int .i64 yb, .string U] 168) = grow (w.drewN q) os' := fun T U => ⟨0, _, by rw [alloc_eq_grow, alloc_eq_grow, grow_grow]; rfl⟩
  have HW := Lib.hid HW
  obtain ⟨T, hT⟩ : ∃ T, bs xv = T := ⟨_, rfl⟩
  obtain ⟨U, hU⟩ : ∃ U, bs yv = U := ⟨_, rfl⟩
  rw [hT, hU]
  clear hT hU
  by_cases h1 : xb < ya
  · have HR : Hid (sideOf ⟨xa, xb, xv⟩ ⟨ya, yb, yv⟩ = -1) := Lib.hid (by unfold sideOf; rw [if_pos h1])
    go_enter Tryz.func260, Tryz.ntmps260
    go_wp2
    go_ret
    exact ⟨by rw [HR.out]; rfl, HW.out _ _⟩
  · by_cases h2 : yb < xa
    · have HR : Hid (sideOf ⟨xa, xb, xv⟩ ⟨ya, yb, yv⟩ = 1) := Lib.hid (by unfold sideOf; rw [if_neg h1, if_pos h2])
      go_enter Tryz.func260, Tryz.ntmps260
      go_wp2
      go_ret
      exact ⟨by rw [HR.out]; rfl, HW.out _ _⟩
    · have HR : Hid (sideOf ⟨xa, xb, xv⟩ ⟨ya, yb, yv⟩ = 0) := Lib.hid (by unfold sideOf; rw [if_neg h1, if_neg h2])
      go_enter Tryz.func260, Tryz.ntmps260
      go_wp2
      go_ret
      exact ⟨by rw [HR.out]; rfl, HW.out _ _⟩

/-! ahead: how many spans stand ahead of the first that is wrong by itself. -/
def AhdPost (ls : List Sp) (w : World) (e : Ending) (w' : World) : Prop :=
  Below w.heap.size w w' ∧ ((e = .returned (.tuple #[.int .i64 ls.length, .int .i64 0]) ∧ ∀ s ∈ ls, check [] s = 0) ∨
    ∃ (k : Nat) (s : Sp), ls[k]? = some s ∧ e = .returned (.tuple #[.int .i64 k, .int .i64 (check [] s)]) ∧ check [] s ≠ 0 ∧ ∀ t ∈ ls.take k, check [] t = 0)
def AhdRel (ls : List Sp) (w : World) (i : Value) (wr : World) : Prop :=
  Below w.heap.size w wr ∧ ∃ k : Nat, i = .int .i64 k ∧ k ≤ ls.length ∧ ∀ t ∈ ls.take k, check [] t = 0
set_option maxRecDepth 100000 in
set_option maxHeartbeats 2000000 in
theorem ahead24 (A : Option Addr) (n ca : Nat) (ls : List Sp) (w : World) (hV : SAt w A n ls) (hn : n ≤ 100000) :
    Calls Tryz.prog 130 #[.slice A n ca] w (AhdPost ls w) := by
  have HV := Lib.hid hV
  have HL := Lib.hid hV.1
  clear hV
  go_enter Tryz.func130, Tryz.ntmps130
  go_wp2
  go_loopw [9] (fun i wr => AhdRel ls w i wr) (fun i _ => n - (intOf i).toNat)
  case atStart => exact ⟨Below.refl _ _, 0, rfl, Nat.zero_le _, by simp⟩
  case round =>
    obtain ⟨hbel, k, rfl, hkn, hfit⟩ := hrel
    rw [HL.out] at hkn
    by_cases hlt : k < n
    · obtain ⟨b, off, rfl, hblt, hc⟩ := (HV.out.below hbel).2 (by omega)
      obtain ⟨s, hs⟩ := getSp (ls := ls) (k := k) (by rw [HL.out]; exact hlt)
      obtain ⟨h1, h2, h3⟩ := hc k s hs
      have HM := Lib.hid (take_more (P := fun t => check [] t = 0) hs hfit)
      have HF := Lib.hid hfit
      have HS := Lib.hid hs
      clear hc hfit hs
      have c34 := fun W => check34 s W
      unfold spV ChkPost at c34
      obtain ⟨T, hT⟩ : ∃ T, bs s.v = T := ⟨_, rfl⟩
      rw [hT] at h3 c34
      have HB := Lib.hid (fun o => hbel.alloc hbel.size o)
      clear hT
      obtain ⟨X, hX⟩ : ∃ X, check [] s = X := ⟨_, rfl⟩
      rw [hX] at c34
      have HX := Lib.hid hX
      clear hX
      by_cases hx : X = 0
      · subst hx
        go_wp2_with (go_at_call 170; (with_reducible refine (c34 _).mono ?_); rintro e w1 ⟨rfl, hb1⟩)
        go_roundw
        case rel => exact ⟨(HB.out _).trans (hb1.mono (HB.out _).size), k + 1, by go_num, by rw [HL.out]; omega, HM.out HX.out⟩
        case measure => simp [intOf]; omega
      · have hb0 : (X == 0) = false := beq_false_of_ne hx
        have HX0 := Lib.hid hx
        clear hx
        go_wp2_with (go_at_call 170; (with_reducible refine (c34 _).mono ?_); rintro e w1 ⟨rfl, hb1⟩)
        go_ret2
        exact ⟨(HB.out _).trans (hb1.mono (HB.out _).size), .inr ⟨k, s, HS.out, by rw [HX.out]; rfl, by rw [HX.out]; exact HX0.out, HF.out⟩⟩
    · have hke : k = n := by omega
      subst hke
      rw [List.take_of_length_le (by rw [HL.out]; exact Nat.le_refl _)] at hfit
      have HF := Lib.hid hfit
      clear hfit
      go_wp2
      go_ret2
      exact ⟨hbel, .inl ⟨by rw [HL.out]; rfl, HF.out⟩⟩
end Go.Proofs.YtfakohoamgogoaaGreatDoor.Pq
