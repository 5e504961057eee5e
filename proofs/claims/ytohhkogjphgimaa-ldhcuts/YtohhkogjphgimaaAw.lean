/- What the laws' own awake hands back. -/
import Derived.Test.YtohhkogjphgimaaKd
import Derived.Lib.SlBytesConst
import Derived.Laws.IdiomStrings
namespace Go.Proofs.Ytohhkogjphgimaa
open Go.RowKit
attribute [local go_sem] Oper.semAt_some

theorem lit_octs (w : World) (l : List UInt8) (fr : Nat × Nat) : Octs (w.alloc (.cells (nums .u8 (ints l)).toArray 5 fr)) (some ⟨w.heap.size, 0, none⟩) l.length l := by
  refine octs_of rfl (fun _ => by simp) (fun j hj => ?_)
  have hx := nums_get (k := .u8) (zs := ints l) (j := j) (by rw [ints_length]; exact hj)
  rw [Nat.zero_add, World.cell?_alloc_mark, List.getElem?_toArray]
  exact hx
theorem aw_call (l : List UInt8) (k : Int) (C : Array Value) (n : Nat) (hC : C = (nums .u8 (ints l)).toArray) (hn : l.length = n) (h9 : n ≤ 9) (hk : kindO l = k) (fr : Nat × Nat) (w : World) :
    Calls Try.prog 8 #[.slice (some ⟨w.heap.size, 0, none⟩) n n] (w.alloc (.cells C 5 fr)) fun e w' => e = .returned (.int .i64 k) ∧ Hid (Below w.heap.size w w') := by
  subst hC hn hk
  have ha : Below w.heap.size w (w.alloc (.cells (nums .u8 (ints l)).toArray 5 fr)) := (Below.refl _ _).alloc (Nat.le_refl _) _
  refine (kind8 _ _ _ l _ (lit_octs w l fr) (by omega) (Nat.le_refl _)).mono ?_
  rintro e W ⟨rfl, hb⟩
  exact ⟨rfl, ha.trans (hb.out.mono ha.size)⟩
set_option maxRecDepth 100000 in
set_option maxHeartbeats 4000000 in
theorem awake6 (w : World) : Calls Try.prog 6 #[] w fun e w' => e = .returned (.bool true) ∧ Hid (Below w.heap.size w w') := by
  have d1 := aw_call [120, 110, 45, 45, 97] 3 #[.int .u8 120, .int .u8 110, .int .u8 45, .int .u8 45, .int .u8 97] 5 rfl rfl (by omega) (by decide) (5, 6)
  have d2 := aw_call [97, 98, 45, 45, 99] 2 #[.int .u8 97, .int .u8 98, .int .u8 45, .int .u8 45, .int .u8 99] 5 rfl rfl (by omega) (by decide) (5, 6)
  have d3 := aw_call [97, 45, 98] 1 #[.int .u8 97, .int .u8 45, .int .u8 98] 3 rfl rfl (by omega) (by decide) (3, 4)
  have d4 := aw_call [45, 97] 0 #[.int .u8 45, .int .u8 97] 2 rfl rfl (by omega) (by decide) (2, 3)
  have kc := fun (w : World) (C : Array Value) (n c : Nat) => Lib.run_convert_bytes_const (P := Try.prog) w 22 5 C n c Try.underlying22 Try.underlying5
  go_enter Try.func6, Try.ntmps6
  go_wp2_with (first
    | (go_at_call 8; (with_reducible refine (d1 _).mono ?_); rintro e w1 ⟨rfl, H1⟩)
    | (go_at_call 8; (with_reducible refine (d2 _).mono ?_); rintro e w2 ⟨rfl, H2⟩)
    | (go_at_call 8; (with_reducible refine (d3 _).mono ?_); rintro e w3 ⟨rfl, H3⟩)
    | (go_at_call 8; (with_reducible refine (d4 _).mono ?_); rintro e w4 ⟨rfl, H4⟩))
  go_ret
  have t2 := H1.out.trans (H2.out.mono H1.out.size)
  have t3 := t2.trans (H3.out.mono t2.size)
  exact ⟨rfl, t3.trans (H4.out.mono t3.size)⟩
end Go.Proofs.Ytohhkogjphgimaa
