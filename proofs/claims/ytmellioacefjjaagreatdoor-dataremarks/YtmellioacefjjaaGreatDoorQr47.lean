/- What the laws' own awake hands back. -/
import Derived.Test.YtmellioacefjjaaGreatDoorQr46
import Derived.Lib.SlBytesConst
namespace Go.Proofs.YtmellioacefjjaaGreatDoor
open Go.RowKit
attribute [local go_sem] Oper.semAt_some

def awA : Array Value := (nums .u8 (ints (awF 0))).toArray
set_option maxRecDepth 100000 in
theorem awA_is : awA = #[.int .u8 48, .int .u8 48, .int .u8 67, .int .u8 53, .int .u8 59, .int .u8 65, .int .u8 32, .int .u8 82, .int .u8 73, .int .u8 78, .int .u8 71, .int .u8 59, .int .u8 76, .int .u8 117, .int .u8 59, .int .u8 48, .int .u8 59, .int .u8 76, .int .u8 59, .int .u8 48, .int .u8 48, .int .u8 52, .int .u8 49, .int .u8 32, .int .u8 48, .int .u8 51, .int .u8 48, .int .u8 65, .int .u8 59, .int .u8 59, .int .u8 59, .int .u8 59, .int .u8 78, .int .u8 59, .int .u8 59, .int .u8 59, .int .u8 59, .int .u8 48, .int .u8 48, .int .u8 69, .int .u8 53, .int .u8 59, .int .u8 10, .int .u8 48, .int .u8 51, .int .u8 48, .int .u8 65, .int .u8 59, .int .u8 82, .int .u8 73, .int .u8 78, .int .u8 71, .int .u8 59, .int .u8 77, .int .u8 110, .int .u8 59, .int .u8 50, .int .u8 51, .int .u8 48, .int .u8 59, .int .u8 78, .int .u8 83, .int .u8 77, .int .u8 59, .int .u8 59, .int .u8 59, .int .u8 59, .int .u8 59, .int .u8 78, .int .u8 59, .int .u8 59, .int .u8 59, .int .u8 59, .int .u8 59, .int .u8 10] := by kernel_rfl
theorem mark_cell (w : World) (C : Array Value) (t : TypeId) (fr : Nat × Nat) (a : Addr) : (w.alloc (.cells C t fr)).cell? a = (w.alloc (.cells C t)).cell? a := by
  simp only [World.cell?, World.alloc, Array.getElem?_push]
  by_cases h : a.block = w.heap.size
  · simp only [h, if_true]
  · simp only [h, if_false]
theorem aw_octs (w : World) : Octs (w.alloc (.cells awA 5 (75, 76))) (some ⟨w.heap.size, 0, none⟩) 75 (awF 0) := by
  have h : Octs (w.alloc (.cells awA 5)) (some ⟨w.heap.size, 0, none⟩) 75 (awF 0) := vals_lit w (nums .u8 (ints (awF 0))) 5
  refine ⟨h.1, fun hn => ?_⟩
  obtain ⟨b, off, e, hl, hc⟩ := h.2 hn
  exact ⟨b, off, e, by simpa using hl, fun j v hj => (mark_cell w awA 5 (75, 76) _).trans (hc j v hj)⟩
set_option maxRecDepth 100000 in
theorem awA_size : awA.size = 75 := by kernel_rfl
theorem aw_conv (w : World) : (convert 22 22 (.slice (some ⟨w.heap.size, 0, none⟩) 75 75)).run Tryz.prog (w.alloc (.cells awA 5)) = .ok (.slice (some ⟨w.heap.size, 0, none⟩) 75 75) (w.alloc (.cells awA 5 (75, 76))) := by
  have h := Lib.run_convert_bytes_const (P := Tryz.prog) w 22 5 awA 75 75 Tryz.underlying22 Tryz.underlying5
  rw [awA_size] at h
  exact h
set_option maxRecDepth 100000 in
theorem aw_stat : bs (statOf (awD.sp 2) 65) = ⟨#[85, 78, 65, 83, 83, 73, 71, 78, 69, 68]⟩ := by kernel_rfl
set_option maxRecDepth 100000 in
set_option maxHeartbeats 8000000 in
theorem awake7 (w : World) (hM : ML w) (hH : HanT w) : Calls Tryz.prog 7 #[] w fun e w' => e = .returned (.bool true) ∧ Below w.heap.size w w' := by
  have hb1 : Below w.heap.size w (w.alloc (.cells awA 5 (75, 76))) := (Below.refl _ _).alloc (Nat.le_refl _) _
  have c29 := load29 (some ⟨w.heap.size, 0, none⟩) none none none none none none 75 0 0 0 0 0 0 75 0 0 0 0 0 0 awF (w.alloc (.cells awA 5 (75, 76))) (aw_octs w) (Vals.nil _ _) (Vals.nil _ _) (Vals.nil _ _) (Vals.nil _ _) (Vals.nil _ _) (Vals.nil _ _) (by omega) aw_small (ml_on hM hb1) (hH.below hH.lt hb1)
  have d29 : Calls Tryz.prog 29 #[.agg #[.slice (some ⟨w.heap.size, 0, none⟩) 75 75, .slice none 0 0, .slice none 0 0, .slice none 0 0, .slice none 0 0, .slice none 0 0, .slice none 0 0]] (w.alloc (.cells awA 5 (75, 76))) fun e W => ∃ b, e = .returned (.tuple #[.pointer (some ⟨b, 0, none⟩), .agg #[.int .i64 0, .int .i64 0, .int .i64 0]]) ∧ Hid (Below w.heap.size w W ∧ PF W b awD.ps awD.sp awD.cf ∧ PM W b awD.ms ∧ Szs awD.ps awD.sp) := c29.mono (by
    rintro e W ⟨hb, ⟨d, b, hl, rfl, h1, h2, h3⟩ | ⟨x, hl, -⟩⟩
    · rw [aw_load] at hl
      injection hl with _ hl
      injection hl with hl
      subst hl
      exact ⟨b, rfl, Lib.hid ⟨hb1.trans (hb.mono hb1.size), h1, h2, h3⟩⟩
    · rw [aw_load] at hl
      injection hl with _ hl
      cases hl)
  have D13 : Hid (∀ W2 b o, (Below w.heap.size w W2 ∧ PF W2 b awD.ps awD.sp awD.cf ∧ PM W2 b awD.ms ∧ Szs awD.ps awD.sp) → Calls Tryz.prog 13 #[.pointer (some ⟨b, 0, none⟩), .int .i64 65, .int .i64 778] (W2.alloc o) fun e W => e = .returned (.tuple #[.int .i64 197, .bool true]) ∧ W2.alloc o = W) := Lib.hid (fun W2 b o ⟨g1, g2, g3, g4⟩ =>
    (mak13 b awD.ms 65 778 (W2.alloc o) (g3.below ((Below.refl _ _).alloc (Nat.le_refl _) o)) (by decide) (by decide)).mono (by
      rintro e W ⟨rfl, rfl⟩
      exact ⟨by rw [aw_make]; rfl, rfl⟩))
  have D20 : Hid (∀ W2 b o, (Below w.heap.size w W2 ∧ PF W2 b awD.ps awD.sp awD.cf ∧ PM W2 b awD.ms ∧ Szs awD.ps awD.sp) → Calls Tryz.prog 20 #[.pointer (some ⟨b, 0, none⟩), .int .i64 65] (W2.alloc o) fun e W => e = .returned (.string ⟨#[85, 78, 65, 83, 83, 73, 71, 78, 69, 68]⟩) ∧ Hid (Below w.heap.size w W)) := Lib.hid (fun W2 b o ⟨g1, g2, g3, g4⟩ => by
    have ha : Below W2.heap.size W2 (W2.alloc o) := (Below.refl _ _).alloc (Nat.le_refl _) o
    obtain ⟨p, A, c, k1, k2⟩ := (g2.below ha).prs 2 (by omega)
    have hg := g4.spg 2
    refine (sta20_at b p A c (awD.sp 2) 65 (W2.alloc o) k1 k2 (by have := g4.spf 2; omega) hg.1 (fun t ht => (hg.2 t ht).2.2.1)).mono ?_
    rintro e W ⟨rfl, hb⟩
    exact ⟨by rw [aw_stat], Lib.hid (g1.trans ((ha.trans (hb.mono ha.size)).mono g1.size))⟩)
  have hcv := aw_conv w
  rw [awA_is] at d29 hcv
  clear c29 hb1 hM hH
  go_enter Tryz.func7, Tryz.ntmps7
  go_wp2_with (first
    | (go_at_call 29; (with_reducible refine d29.mono ?_); rintro e W2 ⟨b, rfl, H2⟩)
    | (go_at_call 13; (with_reducible refine (D13.out W2 b _ H2.out).mono ?_); rintro e W3 ⟨rfl, rfl⟩)
    | (go_at_call 20; (with_reducible refine (D20.out W2 b _ H2.out).mono ?_); rintro e W4 ⟨rfl, H4⟩))
  go_ret
  exact ⟨rfl, H4.out⟩
end Go.Proofs.YtmellioacefjjaaGreatDoor
