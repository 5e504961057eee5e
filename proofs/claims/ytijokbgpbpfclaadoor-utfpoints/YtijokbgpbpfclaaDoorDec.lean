/- What the program's decoding hands back for any octets. -/
import Derived.Test.YtijokbgpbpfclaaDoorSteps
import Derived.Test.YtijokbgpbpfclaaDoorShelf
namespace Go.Proofs.YtijokbgpbpfclaaDoor
open Go.RowKit

theorem decodeGo_dN {bs : List Int} (hb : Octs bs) : Lib.decodeGo (strOfNums bs) = dN bs := by
  unfold Lib.decodeGo dN
  rw [strOfNums_size]
  split
  · rfl
  · rw [Lib.decode_at, strOfNums_size, Nat.sub_zero]
    have e0 := str_get hb 0
    have e1 := str_get hb 1
    have e2 := str_get hb 2
    have e3 := str_get hb 3
    rw [← e0, ← e1, ← e2, ← e3]
    rfl

theorem dN_small {bs : List Int} (hb : Octs bs) : (dN bs).1 ≤ 1114111 := by
  by_cases h : (dN bs).1 = 65533 ∧ (dN bs).2 ≤ 1
  · omega
  · have := scal_iff.1 (dN_good hb h).1
    omega

/-- DecodeRune at numbers. -/
theorem rune31 (b off cap : Nat) (bs : List Int) (w : World) (hT : Lib.Utf8Tabs 0 1 w) (hb : Octs bs) (hc : ∀ j, j < bs.length → w.cell? ⟨b, off + j, none⟩ = some (.int .u8 (bs.getD j 0))) :
    Calls Tryd.prog 31 #[.slice (some ⟨b, off, none⟩) bs.length cap] w fun e w' => e = .returned (.tuple #[.int .i32 (dN bs).1, .int .i64 (dN bs).2]) ∧ Below w.heap.size w w' := by
  have h := Tryd.utf8_DecodeRune (strOfNums bs) b off cap w hT (fun j hj => by
    rw [strOfNums_size] at hj
    rw [hc j hj, ← str_get hb j])
  rw [strOfNums_size, decodeGo_dN hb] at h
  exact h

theorem first25_bad (A : Value) (K : Int) (w : World) (hK : K ≤ 1)
    (c : Calls Tryd.prog 31 #[A] w fun e w' => e = .returned (.tuple #[.int .i32 65533, .int .i64 K]) ∧ Below w.heap.size w w') :
    Calls Tryd.prog 25 #[A] w fun e w' => e = .returned (.tuple #[.int .i64 0, .int .i64 0]) ∧ Below w.heap.size w w' := by
  go_enter Tryd.func25, Tryd.ntmps25
  go_wp2_with (go_at_call 31; refine c.mono ?_; rintro e w' ⟨rfl, hb⟩)
  go_ret2
  exact ⟨rfl, hb⟩
theorem first25_other (A : Value) (R K : Int) (w : World) (hR : (R == 65533) = false) (h0 : 0 ≤ R) (h1 : R ≤ 1114111)
    (c : Calls Tryd.prog 31 #[A] w fun e w' => e = .returned (.tuple #[.int .i32 R, .int .i64 K]) ∧ Below w.heap.size w w') :
    Calls Tryd.prog 25 #[A] w fun e w' => e = .returned (.tuple #[.int .i64 R, .int .i64 K]) ∧ Below w.heap.size w w' := by
  go_enter Tryd.func25, Tryd.ntmps25
  go_wp2_with (go_at_call 31; refine c.mono ?_; rintro e w' ⟨rfl, hb⟩)
  go_ret2
  exact ⟨rfl, hb⟩
theorem first25_long (A : Value) (K : Int) (w : World) (hK : 1 < K)
    (c : Calls Tryd.prog 31 #[A] w fun e w' => e = .returned (.tuple #[.int .i32 65533, .int .i64 K]) ∧ Below w.heap.size w w') :
    Calls Tryd.prog 25 #[A] w fun e w' => e = .returned (.tuple #[.int .i64 65533, .int .i64 K]) ∧ Below w.heap.size w w' := by
  go_enter Tryd.func25, Tryd.ntmps25
  go_wp2_with (go_at_call 31; refine c.mono ?_; rintro e w' ⟨rfl, hb⟩)
  go_ret2
  exact ⟨rfl, hb⟩

theorem first25_some (b off cap : Nat) (bs : List Int) (c : Int) (w : World) (hT : Lib.Utf8Tabs 0 1 w) (hb : Octs bs) (hc : ∀ j, j < bs.length → w.cell? ⟨b, off + j, none⟩ = some (.int .u8 (bs.getD j 0))) (hf : fst bs = some c) :
    Calls Tryd.prog 25 #[.slice (some ⟨b, off, none⟩) bs.length cap] w fun e w' => e = .returned (.tuple #[.int .i64 c, .int .i64 (oct c).length]) ∧ Below w.heap.size w w' := by
  have h := rune31 b off cap bs w hT hb hc
  have hs := dN_small hb
  unfold fst at hf
  split at hf
  · cases hf
  · rename_i hg
    have hgood := dN_good hb hg
    obtain rfl : ((dN bs).1 : Int) = c := by injection hf
    rw [← hgood.2.1]
    by_cases e : (dN bs).1 = 65533
    · rw [e] at h ⊢
      exact first25_long _ _ w (by omega) h
    · exact first25_other _ _ _ w (by simp; omega) (by omega) (by omega) h
theorem first25_none (b off cap : Nat) (bs : List Int) (w : World) (hT : Lib.Utf8Tabs 0 1 w) (hb : Octs bs) (hc : ∀ j, j < bs.length → w.cell? ⟨b, off + j, none⟩ = some (.int .u8 (bs.getD j 0))) (hf : fst bs = none) :
    Calls Tryd.prog 25 #[.slice (some ⟨b, off, none⟩) bs.length cap] w fun e w' => e = .returned (.tuple #[.int .i64 0, .int .i64 0]) ∧ Below w.heap.size w w' := by
  have h := rune31 b off cap bs w hT hb hc
  unfold fst at hf
  split at hf
  · rename_i hg
    rw [hg.1] at h
    exact first25_bad _ _ w (by omega) h
  · cases hf

theorem tabs_below {w w' : World} (hT : Lib.Utf8Tabs 0 1 w) (hb : Below w.heap.size w w') : Lib.Utf8Tabs 0 1 w' := by
  have h0 : 0 < w.heap.size := World.block_lt_of_cell? w ⟨0, 0, none⟩ (hT.1 0 (by omega))
  have h1 : 1 < w.heap.size := World.block_lt_of_cell? w ⟨1, 0, none⟩ (hT.2 0 (by omega)).1
  exact ⟨fun c hc => (hb.cell (p := ⟨0, c, none⟩) h0).trans (hT.1 c hc), fun i hi => ⟨(hb.cell (p := ⟨1, 2 * i, none⟩) h1).trans (hT.2 i hi).1, (hb.cell (p := ⟨1, 2 * i + 1, none⟩) h1).trans (hT.2 i hi).2⟩⟩

/-- The slice's part from k on. -/
theorem first_at {b off : Nat} {n k : Nat} {bs : List Int} {w : World} (hl : bs.length = n) (hc : ∀ j, j < n → w.cell? ⟨b, off + j, none⟩ = some (.int .u8 (bs.getD j 0))) :
    ∀ j, j < (bs.drop k).length → w.cell? ⟨b, off + k + j, none⟩ = some (.int .u8 ((bs.drop k).getD j 0)) := by
  intro j hj
  rw [List.length_drop] at hj
  have := hc (k + j) (by omega)
  rw [Nat.add_assoc, this]
  simp [List.getD_eq_getElem?_getD, List.getElem?_drop]

theorem call_some {b off cap n k : Nat} {bs : List Int} {c : Int} {w : World} (hT : Lib.Utf8Tabs 0 1 w) (hb : Octs bs) (hl : bs.length = n) (hc : ∀ j, j < n → w.cell? ⟨b, off + j, none⟩ = some (.int .u8 (bs.getD j 0))) (hf : fst (bs.drop k) = some c) :
    Calls Tryd.prog 25 #[.slice (some ⟨b, off + k, none⟩) (n - k) cap] w fun e w' => e = .returned (.tuple #[.int .i64 c, .int .i64 (oct c).length]) ∧ Below w.heap.size w w' := by
  have := first25_some b (off + k) cap (bs.drop k) c w hT (octs_drop hb k) (first_at hl hc) hf
  rwa [List.length_drop, hl] at this
theorem call_none {b off cap n k : Nat} {bs : List Int} {w : World} (hT : Lib.Utf8Tabs 0 1 w) (hb : Octs bs) (hl : bs.length = n) (hc : ∀ j, j < n → w.cell? ⟨b, off + j, none⟩ = some (.int .u8 (bs.getD j 0))) (hf : fst (bs.drop k) = none) :
    Calls Tryd.prog 25 #[.slice (some ⟨b, off + k, none⟩) (n - k) cap] w fun e w' => e = .returned (.tuple #[.int .i64 0, .int .i64 0]) ∧ Below w.heap.size w w' := by
  have := first25_none b (off + k) cap (bs.drop k) w hT (octs_drop hb k) (first_at hl hc) hf
  rwa [List.length_drop, hl] at this

/-- What Decode hands back. -/
def DecPost (bs : List Int) (n : Nat) (w : World) (e : Ending) (w' : World) : Prop :=
  Below w.heap.size w w' ∧ ∃ s k, Part bs s k ∧
  ((k = n ∧ ∃ v, e = .returned (.tuple #[v, .int .i64 0, .int .i64 n]) ∧ w'.ownsRow w.heap.size 3 1 v s.length (s.map (Value.int .i64))) ∨
   (k < n ∧ fst (bs.drop k) = none ∧ e = .returned (.tuple #[.slice none 0 0, .int .i64 10, .int .i64 k])))

def DecRel (bs : List Int) (w : World) (v i : Value) (wr : World) : Prop :=
  ∃ s k, i = .int .i64 (k : Nat) ∧ Part bs s k ∧ wr.ownsRow w.heap.size 3 1 v s.length (s.map (Value.int .i64)) ∧ Below w.heap.size w wr

theorem dec_step {bs s : List Int} {k : Nat} {c : Int} {w wr w1 w2 : World} {v v' : Value} {o : Obj} (hp : Part bs s k) (ho : Octs bs) (hc : fst (bs.drop k) = some c)
    (hown : wr.ownsRow w.heap.size 3 1 v s.length (s.map (Value.int .i64))) (hb : Below w.heap.size w wr) (hb1 : Below wr.heap.size wr w1)
    (hown' : w2.ownsRow w.heap.size 3 1 v' (s.length + 1) (s.map (Value.int .i64) ++ [.int .i64 c])) (hg : (w1.alloc o).grownBy w2 v.ownBlock) :
    DecRel bs w v' (.int .i64 ((k : Int) + ((oct c).length : Int))) w2 := by
  refine ⟨s ++ [c], k + (oct c).length, by go_num, hp.step ho hc, by simpa using hown', ?_⟩
  have h1 : Below w.heap.size w w1 := hb.trans (hb1.mono hb.size)
  exact (h1.alloc h1.size o).grown hg (by have := h1.size; simp; omega) (fun g hgv => (hown.lt g hgv).1)

theorem info3 : (Tryd.prog.info? 3).map (fun i => (i.zero, i.size, i.bytes)) = some (some (.int .i64 0), 1, 8) := by kernel_rfl

set_option maxHeartbeats 1000000 in
theorem decode11 (A : Option Addr) (n ca : Nat) (bs : List Int) (w : World) (hT : Lib.Utf8Tabs 0 1 w) (ho : Octs bs) (ha : Nums .u8 w A n bs) (hn : n ≤ 1000000) (hca : n ≤ ca) :
    Calls Tryd.prog 11 #[.slice A n ca] w (DecPost bs n w) := by
  have HA := Lib.hid ha.1
  obtain ⟨i0, hi, hz0, hz1, hz2⟩ := info_parts info3
  go_enter Tryd.func11, Tryd.ntmps11
  go_wp2
  go_loopw [5, 6] (fun v i wr => DecRel bs w v i wr) (fun _ i _ => n - (intOf i).toNat)
  case atStart => exact ⟨[], 0, rfl, Part.zero bs, World.ownsRow_nil _ _ _ _, Below.refl _ _⟩
  case round =>
    obtain ⟨s, k, rfl, hp, hown, hbel⟩ := hrel
    have hkn : k ≤ n := by have := hp.le; have := HA.out; omega
    have hfew := hp.few
    by_cases hlt : k < n
    · obtain ⟨b, off, rfl, hbl, hc⟩ := ha.2 (by omega)
      have hcw : ∀ j, j < n → wr.cell? ⟨b, off + j, none⟩ = some (.int .u8 (bs.getD j 0)) := fun j hj => (hbel.cell (p := ⟨b, off + j, none⟩) hbl).trans (hc j hj)
      have hTw := tabs_below hT hbel
      clear hc ha hT
      cases hf : fst (bs.drop k) with
      | some c =>
        have hcall := call_some (cap := ca - k) hTw ho HA.out hcw hf
        have hpos := (oct_length c).1
        have hle := (hp.step ho hf).le
        have hlen4 := (oct_length c).2
        rw [HA.out] at hle
        have hst := fun w1 w2 v v' o => @dec_step bs s k c w wr w1 w2 v v' o hp ho hf
        obtain ⟨L, hL⟩ : ∃ L, (oct c).length = L := ⟨_, rfl⟩
        rw [hL] at hcall hpos hle hlen4 hst
        have HSt := Lib.hid hst
        clear hf ho hcw hTw hst hp hL
        have hz : ((L : Int) == 0) = false := beq_false_of_ne (by omega)
        have hk2 : ¬ ca = k := by omega
        have hc63 : s.length + 1 ≤ maxLen := by unfold maxLen; omega
        have hc47 : (s.length + 1) * 8 ≤ 140737488355328 := by omega
        go_wp2_with (first
          | (go_at_call 25; refine hcall.mono ?_; rintro e w1 ⟨rfl, hb1⟩; have hown1 := own_below hown hb1 (Nat.le_refl _); have hsz1 : w.heap.size ≤ w1.heap.size := Nat.le_trans hbel.size hb1.size)
          | (at_builtin; refine wpList_append_own _ rfl _ _ 22 rfl w.heap.size 3 i0 (.int .i64 0) 1 8 Tryd.underlying22 hi hz0 hz1 hz2 rfl (by decide) _ _ _ rfl (hown1.alloc _) ⟨w1.heap.size, 0, none⟩ 1 1 [.int .i64 c] rfl rfl ?c1 ?c2 hc63 hc47 ?c5 ?_))
        case c1 =>
          intro j u hj
          match j, hj with
          | 0, hj => simp at hj; subst hj; simp [Addr.add]
        case c2 => intro u hu; simp at hu; subst hu; rfl
        case c5 => simp; omega
        intro v' w2 hown' hgrow _
        have R := HSt.out w1 w2 _ v' _ hown hbel hb1 hown' hgrow
        clear hown' hgrow hown hown1
        go_wp2
        go_roundw
        case rel => exact R
        case measure => simp [intOf]; omega
      | none =>
        have hcall := call_none (cap := ca - k) hTw ho HA.out hcw hf
        have HF := Lib.hid hf
        clear hf ho hcw hTw
        have hk2 : ¬ ca = k := by omega
        go_wp2_with (go_at_call 25; refine hcall.mono ?_; rintro e w1 ⟨rfl, hb1⟩)
        go_ret3
        exact ⟨hbel.trans (hb1.mono hbel.size), s, k, hp, .inr ⟨hlt, HF.out, rfl⟩⟩
    · have hk : k = n := by omega
      subst hk
      clear ha
      go_wp2
      go_ret3
      exact ⟨hbel, s, k, hp, .inl ⟨rfl, _, rfl, hown⟩⟩
end Go.Proofs.YtijokbgpbpfclaaDoor
