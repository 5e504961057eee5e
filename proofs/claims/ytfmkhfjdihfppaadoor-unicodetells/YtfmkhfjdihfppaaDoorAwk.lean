/- The laws' awake: the document's example. -/
import Derived.Test.YtfmkhfjdihfppaaDoorPparse
import Derived.Test.YtfmkhfjdihfppaaDoorRit
import Derived.Test.YtfmkhfjdihfppaaDoorInts
import Derived.Lib.SlBytesConst
namespace Go.Proofs.YtfmkhfjdihfppaaDoor
open Go.RowKit Go.Shelf

def exO : List UInt8 := [48, 48, 67, 53, 59, 65, 32, 82, 73, 78, 71, 59, 76, 117, 59, 48, 59, 76, 59, 48, 48, 52, 49, 32, 48, 51, 48, 65, 59, 59, 59, 59, 78, 59, 59, 59, 59, 48, 48, 69, 53, 59, 10]
def exR : List Pr := [⟨197, 197, [76, 117], 0, [76], [65, 778]⟩]
theorem ex_parse : parseOf (linesIn exO) = ⟨exR, 0, 0⟩ := by kernel_rfl
theorem ex_cells : (ints exO).map (Value.int .u8) = [.int .u8 48, .int .u8 48, .int .u8 67, .int .u8 53, .int .u8 59, .int .u8 65, .int .u8 32, .int .u8 82, .int .u8 73, .int .u8 78, .int .u8 71, .int .u8 59, .int .u8 76, .int .u8 117, .int .u8 59, .int .u8 48, .int .u8 59, .int .u8 76, .int .u8 59, .int .u8 48, .int .u8 48, .int .u8 52, .int .u8 49, .int .u8 32, .int .u8 48, .int .u8 51, .int .u8 48, .int .u8 65, .int .u8 59, .int .u8 59, .int .u8 59, .int .u8 59, .int .u8 78, .int .u8 59, .int .u8 59, .int .u8 59, .int .u8 59, .int .u8 48, .int .u8 48, .int .u8 69, .int .u8 53, .int .u8 59, .int .u8 10] := by kernel_rfl
theorem ex_octs (w : World) (us : List Value) (hu : (ints exO).map (Value.int .u8) = us) : Octs (w.alloc (.cells us.toArray 5 (43, 43 + 1))) (some ⟨w.heap.size, 0, none⟩) 43 exO := by
  subst hu
  refine ⟨by kernel_rfl, fun _ => ⟨w.heap.size, 0, rfl, by simp, fun j v hj => ?_⟩⟩
  have hh := World.alloc_heap_new w (.cells ((ints exO).map (Value.int .u8)).toArray 5 (43, 43 + 1))
  rw [cell_of_row _ w.heap.size _ _ 5 (43, 43 + 1) hh, Nat.zero_add]
  rw [List.getElem?_toArray]
  exact hj
/-- A table's answers, told by its plain rows. -/
theorem good_at {w : World} {ls : List Rw} {ps : List Pr} (hi : Ist w ls ps) (hg : Good ps) : Rises ls := ist_rises hi hg
theorem ex_good : Good exR := by
  have := good_parse (linesIn exO)
  rw [ex_parse] at this
  exact this
set_option maxRecDepth 100000 in
set_option maxHeartbeats 4000000 in
theorem awake7 (w : World) (hM : ML w) : Calls Tryd.prog 7 #[] w fun e w' => e = .returned (.bool true) ∧ Below w.heap.size w w' := by
  have ho := ex_octs w _ ex_cells
  dsimp only at ho
  have hb0 : ∀ o, Below w.heap.size w (w.alloc o) := fun o => (Below.refl _ _).alloc (Nat.le_refl _) o
  have c8 := parse8 (some ⟨w.heap.size, 0, none⟩) 43 43 exO _ ho (by omega) (hM.below (hb0 _))
  have c8' := c8.mono (R' := fun e w' => ∃ b A c ls, e = .returned (.tuple #[.pointer (some ⟨b, 0, none⟩), .int .i64 0, .int .i64 0]) ∧ Below w.heap.size w w' ∧ Hid (TIn w' (some ⟨b, 0, none⟩) A c ls ∧ Ist w' ls exR)) (by
    rintro e w' ⟨hb, ⟨-, b, A, c, ls, rfl, -, h2, h3⟩ | ⟨h1, -⟩⟩
    · rw [ex_parse] at h3
      exact ⟨b, A, c, ls, rfl, (hb0 _).trans (hb.mono (by simp)), Lib.hid ⟨h2, h3.1⟩⟩
    · exact absurd (by rw [ex_parse]) h1)
  clear c8 ho
  have c14 := fun (W : World) (p A : Option Addr) (c : Nat) (ls : List Rw) (hT : TIn W p A c ls) (hi : Ist W ls exR) => show Calls Tryd.prog 14 #[.pointer p, .int .i64 197] W fun e w' => e = .returned (.string ⟨#[76, 117]⟩) ∧ Below W.heap.size W w' from
    (gc14 p A c ls 197 W hT (by rw [hi.len]; decide) (ist_rises hi ex_good)).mono fun e w' ⟨h1, h2⟩ => ⟨by rw [h1, (ist_at 197 hi).2.2.1]; rfl, h2⟩
  have c18 := fun (W : World) (p A : Option Addr) (c : Nat) (ls : List Rw) (hT : TIn W p A c ls) (hi : Ist W ls exR) => show Calls Tryd.prog 18 #[.pointer p, .int .i64 197] W fun e w' => ∃ A2 c2, e = .returned (.slice A2 2 c2) ∧ Below W.heap.size W w' ∧ Hid (Vals w' A2 2 (nums .i64 [65, 778])) from
    decomp18 p A c ls 197 (patOf exR 197) W hT (by rw [hi.len]; decide) (ist_rises hi ex_good) (ist_at 197 hi) (by decide)
  have c12 := fun (W : World) (p A : Option Addr) (c : Nat) (ls : List Rw) (hT : TIn W p A c ls) (hi : Ist W ls exR) => show Calls Tryd.prog 12 #[.pointer p] W fun e w' => e = .returned (.int .i64 1) ∧ W = w' from
    (len12 p A c ls W hT).mono fun e w' ⟨h1, h2⟩ => ⟨by rw [h1, hi.len]; rfl, h2⟩
  have c17 := fun (W : World) (A : Option Addr) (c : Nat) (hV : Vals W A 2 (nums .i64 [65, 778])) => same17 A (some ⟨W.heap.size, 0, none⟩) 2 c 2 [65, 778] (W.alloc (.cells #[.int .i64 65, .int .i64 778] 3)) (hV.below ((Below.refl _ _).alloc (Nat.le_refl _) _)) ⟨rfl, fun _ => ⟨W.heap.size, 0, rfl, by simp, fun j v hj => by
    have := lit_cells W (nums .i64 [65, 778]) 3 j v hj
    rwa [add_at] at this⟩⟩ (by omega)
  have C14 := Lib.hid c14
  have C18 := Lib.hid c18
  have C12 := Lib.hid c12
  have C17 := Lib.hid c17
  clear c14 c18 c12 c17 hM hb0
  go_enter Tryd.func7, Tryd.ntmps7
  go_wp2_with fail
  rw [Lib.run_convert_bytes_const w 22 5 _ 43 43 Tryd.underlying22 Tryd.underlying5]
  go_wp2_with (first
    | (go_at_call 8; (with_reducible refine c8'.mono ?_); rintro e w1 ⟨b, A, c, ls, rfl, hb1, hT⟩; have k14 := C14.out w1 _ A c ls hT.out.1 hT.out.2)
    | (go_at_call 14; (with_reducible refine k14.mono ?_); rintro e w2 ⟨rfl, hb2⟩; have k18 := C18.out w2 _ A c ls (hT.out.1.below hb2) (hT.out.2.below hb2))
    | (go_at_call 18; (with_reducible refine k18.mono ?_); rintro e w3 ⟨A2, c2, rfl, hb3, hV3⟩; have k17 := C17.out w3 A2 c2 hV3.out; have hba : Below w3.heap.size w3 (w3.alloc (.cells #[.int .i64 65, .int .i64 778] 3)) := (Below.refl _ _).alloc (Nat.le_refl _) _; have k12 := fun q => C12.out ((w3.alloc (.cells #[.int .i64 65, .int .i64 778] 3)).drewN q) _ A c ls (((hT.out.1.below hb2).below hb3).below (below_drewN hba q)) (((hT.out.2.below hb2).below hb3).below (below_drewN hba q)); have K12 := Lib.hid k12; clear k12)
    | (go_at_call 17; (with_reducible refine k17.mono ?_); rintro e w4 ⟨rfl, q, rfl⟩)
    | (go_at_call 12; (with_reducible refine (K12.out q).mono ?_); rintro e w5 ⟨rfl, rfl⟩))
  go_ret
  have z1 := hb1.trans (hb2.mono hb1.size)
  have z2 := z1.trans (hb3.mono z1.size)
  exact ⟨rfl, z2.trans ((below_drewN hba q).mono z2.size)⟩
end Go.Proofs.YtfmkhfjdihfppaaDoor
