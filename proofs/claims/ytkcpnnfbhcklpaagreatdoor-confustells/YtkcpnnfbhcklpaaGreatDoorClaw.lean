/- The laws of confusables: what they share; awake. -/
import Derived.Test.YtkcpnnfbhcklpaaGreatDoorIcs
import Derived.Lib.SlBytesConst
namespace Go.Proofs.YtkcpnnfbhcklpaaGreatDoor
open Go.RowKit Go.Shelf
attribute [local go_sem] Oper.semAt_some

theorem clines_fields {l : List UInt8} {N : Nat} (hN : l.length ≤ N) : ∀ x ∈ linesIn l, ∀ f ∈ x.2, f.length ≤ N := by
  intro y h
  unfold linesIn at h
  rw [List.mem_filterMap] at h
  obtain ⟨x, hx, e⟩ := h
  obtain ⟨p, hp, hb⟩ := numbered_mem 1 _ x hx
  unfold lineOf at e
  split at e
  · cases e
  · cases e
    show ∀ f ∈ fieldsOf x.2, f.length ≤ N
    refine fields_len ?_
    rw [hb]
    have h2 := body_length p
    have h3 := cutAll_mem_length 10 l p hp
    omega
theorem clines_few {l : List UInt8} : (linesIn l).length ≤ l.length + 1 := by
  rw [← lines_pieces]
  have h1 := List.length_filterMap_le lineOf (numbered 1 (pieces l))
  rw [numbered_length] at h1
  have h2 := pieces_length l
  omega
theorem cf_many (l : List UInt8) : (cfOf (linesIn l)).rows.length ≤ l.length + 1 := by
  have h1 := cf_len (linesIn l) []
  have h2 := clines_few (l := l)
  have h3 : (cfOf (linesIn l)).rows.length ≤ ([] : List Pp).length + (linesIn l).length := h1
  simp at h3
  omega
theorem cf_num (L : List Ln) (h : (cfOf L).err = 0) : (cfOf L).num = 0 := (cf_inv L [] List.Pairwise.nil h).2.2.2
/-- There is a table. -/
theorem cp_ok (A : Option Addr) (n c : Nat) (l : List UInt8) (w : World) (hO : Octs w A n l) (hn : n ≤ 2000) (hM : ML w) (he : (cfOf (linesIn l)).err = 0) :
    Calls Tryz.prog 7 #[.slice A n c] w fun e w' => ∃ b, e = .returned (.tuple #[.pointer (some ⟨b, 0, none⟩), .int .i64 0, .int .i64 0]) ∧ Hid (Below w.heap.size w w' ∧ CT w' (some ⟨b, 0, none⟩) (cfOf (linesIn l)).rows) :=
  (cparse7 A n c l w hO hn hM).mono (by
    rintro e w' ⟨hb, ⟨-, b, rfl, hT⟩ | ⟨h, -⟩⟩
    · exact ⟨b, rfl, Lib.hid ⟨hb, hT⟩⟩
    · exact absurd he h)
theorem cp_no (A : Option Addr) (n c : Nat) (l : List UInt8) (w : World) (hO : Octs w A n l) (hn : n ≤ 2000) (hM : ML w) (he : ¬ (cfOf (linesIn l)).err = 0) :
    Calls Tryz.prog 7 #[.slice A n c] w fun e w' => e = .returned (.tuple #[.pointer none, .int .i64 (cfOf (linesIn l)).err, .int .i64 (cfOf (linesIn l)).num]) ∧ Hid (Below w.heap.size w w' ∧ CT w' none (cfOf (linesIn l)).rows) :=
  (cparse7 A n c l w hO hn hM).mono (by
    rintro e w' ⟨hb, ⟨h, -⟩ | ⟨-, rfl⟩⟩
    · exact absurd h he
    · refine ⟨rfl, Lib.hid ⟨hb, ?_⟩⟩
      rw [show (cfOf (linesIn l)).rows = [] from cf_rows _ [] he]
      exact ct_nil _)
theorem cp_any (A : Option Addr) (n c : Nat) (l : List UInt8) (w : World) (hO : Octs w A n l) (hn : n ≤ 2000) (hM : ML w) :
    Calls Tryz.prog 7 #[.slice A n c] w fun e w' => ∃ p E M, e = .returned (.tuple #[.pointer p, .int .i64 E, .int .i64 M]) ∧ Hid (Below w.heap.size w w' ∧ CT w' p (cfOf (linesIn l)).rows) := by
  by_cases he : (cfOf (linesIn l)).err = 0
  · refine (cp_ok A n c l w hO hn hM he).mono ?_
    rintro e w' ⟨b, rfl, h⟩
    exact ⟨_, _, _, rfl, h⟩
  · refine (cp_no A n c l w hO hn hM he).mono ?_
    rintro e w' ⟨rfl, h⟩
    exact ⟨_, _, _, rfl, h⟩
/-- The document's own. -/
theorem rc_any (l : List UInt8) (w : World) (hl : l.length ≤ 2000) : Calls Tryz.prog 8 #[.string (bs l)] w fun e w' => ∃ A c qs, e = .returned (.tuple #[.slice A (cfOf (linesIn l)).rows.length c, .int .i64 (cfOf (linesIn l)).err, .int .i64 (cfOf (linesIn l)).num]) ∧ Hid (Below w.heap.size w w' ∧ PAt w' A (cfOf (linesIn l)).rows.length qs ∧ IsPs w' qs (cfOf (linesIn l)).rows) :=
  (rconf8 l w hl (clines_fields hl)).mono (by
    rintro e w' ⟨hb, A, c, qs, rfl, h⟩
    exact ⟨A, c, qs, rfl, Lib.hid ⟨hb, h.out⟩⟩)
/-! awake. -/
def exC : List UInt8 := [48, 52, 51, 48, 32, 59, 32, 48, 48, 54, 49, 32, 59, 32, 77, 65, 32, 35, 32, 115, 109, 97, 108, 108, 32, 97, 10]
theorem ex_conf : cfOf (linesIn exC) = ⟨[⟨1072, [97]⟩], 0, 0⟩ := by kernel_rfl
theorem ex_cellsC : (ints exC).map (Value.int .u8) = [.int .u8 48, .int .u8 52, .int .u8 51, .int .u8 48, .int .u8 32, .int .u8 59, .int .u8 32, .int .u8 48, .int .u8 48, .int .u8 54, .int .u8 49, .int .u8 32, .int .u8 59, .int .u8 32, .int .u8 77, .int .u8 65, .int .u8 32, .int .u8 35, .int .u8 32, .int .u8 115, .int .u8 109, .int .u8 97, .int .u8 108, .int .u8 108, .int .u8 32, .int .u8 97, .int .u8 10] := by kernel_rfl
theorem ex_octsC (w : World) (us : List Value) (hu : (ints exC).map (Value.int .u8) = us) : Octs (w.alloc (.cells us.toArray 5 (27, 27 + 1))) (some ⟨w.heap.size, 0, none⟩) 27 exC := by
  subst hu
  refine ⟨by kernel_rfl, fun _ => ⟨w.heap.size, 0, rfl, by simp, fun j v hj => ?_⟩⟩
  have hh := World.alloc_heap_new w (.cells ((ints exC).map (Value.int .u8)).toArray 5 (27, 27 + 1))
  rw [cell_of_row _ w.heap.size _ _ 5 (27, 27 + 1) hh, Nat.zero_add]
  rw [List.getElem?_toArray]
  exact hj
theorem find_ex : findC [(⟨1072, [97]⟩ : Pp)] 1072 = 0 := by decide
theorem proto_ex {p : Option Addr} {w : World} (h : CT w p [⟨1072, [97]⟩]) : Calls Tryz.prog 10 #[.pointer p, .int .i64 1072] w fun e w' => ∃ A k, e = .returned (.tuple #[.slice A 1 k, .bool true]) ∧ Hid (Below w.heap.size w w' ∧ Vals w' A 1 (nums .i64 [97])) :=
  (cproto10 p _ 1072 w h (by decide)).mono (by
    rintro e w' ⟨hb, ⟨h1, -⟩ | ⟨r, A, k, h1, -, rfl, hv⟩⟩
    · rw [find_ex] at h1; omega
    · rw [find_ex] at h1
      simp at h1
      subst h1
      exact ⟨A, k, rfl, Lib.hid ⟨hb, hv⟩⟩)
theorem one_num (w : World) : Vals (w.alloc (.cells #[.int .i64 97] 3)) (some ⟨w.heap.size, 0, none⟩) 1 (nums .i64 [97]) :=
  ⟨rfl, fun _ => ⟨w.heap.size, 0, rfl, by simp, fun j u hj => by
    have := lit_cells w (nums .i64 [97]) 3 j u hj
    rwa [add_at] at this⟩⟩
set_option maxRecDepth 100000 in
set_option maxHeartbeats 4000000 in
theorem cawake6 (w : World) (hM : ML w) : Calls Tryz.prog 6 #[] w fun e w' => e = .returned (.bool true) ∧ Below w.heap.size w w' := by
  have ho := ex_octsC w _ ex_cellsC
  have hb0 : Below w.heap.size w (w.alloc (.cells #[.int .u8 48, .int .u8 52, .int .u8 51, .int .u8 48, .int .u8 32, .int .u8 59, .int .u8 32, .int .u8 48, .int .u8 48, .int .u8 54, .int .u8 49, .int .u8 32, .int .u8 59, .int .u8 32, .int .u8 77, .int .u8 65, .int .u8 32, .int .u8 35, .int .u8 32, .int .u8 115, .int .u8 109, .int .u8 97, .int .u8 108, .int .u8 108, .int .u8 32, .int .u8 97, .int .u8 10] 5 (27, 27 + 1))) := (Below.refl _ _).alloc (Nat.le_refl _) _
  have c7 := cp_ok (some ⟨w.heap.size, 0, none⟩) 27 27 exC _ ho (by omega) (hM.below hb0) (by rw [ex_conf])
  rw [ex_conf] at c7
  have HB0 := Lib.hid hb0
  clear hM ho hb0
  go_enter Tryz.func6, Tryz.ntmps6
  go_wp2_with fail
  rw [Lib.run_convert_bytes_const w 22 5 _ 27 27 Tryz.underlying22 Tryz.underlying5]
  go_wp2_with (first
    | (go_at_call 7; (with_reducible refine c7.mono ?_); rintro e w1 ⟨b, rfl, hT⟩; have k10 := proto_ex hT.out.2)
    | (go_at_call 10; (with_reducible refine k10.mono ?_); rintro e w2 ⟨A, k, rfl, hv⟩; have ha : Below w2.heap.size w2 (w2.alloc (.cells #[.int .i64 97] 3)) := (Below.refl _ _).alloc (Nat.le_refl _) _; have k12 := same17 A (some ⟨w2.heap.size, 0, none⟩) 1 k 1 [97] (w2.alloc (.cells #[.int .i64 97] 3)) (hv.out.2.below ha) (one_num w2) (by omega); have k13 := fun q => clen13 (some ⟨b, 0, none⟩) _ ((w2.alloc (.cells #[.int .i64 97] 3)).drewN q) ((hT.out.2.below hv.out.1).below (below_drewN ha q)) (by simp); simp only [List.length_cons, List.length_nil, Nat.zero_add] at k13)
    | (go_at_call 12; (with_reducible refine k12.mono ?_); rintro e w3 ⟨rfl, q, rfl⟩; have m13 := k13 q)
    | (go_at_call 13; (with_reducible refine m13.mono ?_); rintro e w4 ⟨rfl, rfl⟩))
  go_ret
  have z1 := HB0.out.trans (hT.out.1.mono HB0.out.size)
  have z2 := z1.trans (hv.out.1.mono z1.size)
  exact ⟨rfl, z2.trans ((below_drewN ha q).mono z2.size)⟩
end Go.Proofs.YtkcpnnfbhcklpaaGreatDoor
