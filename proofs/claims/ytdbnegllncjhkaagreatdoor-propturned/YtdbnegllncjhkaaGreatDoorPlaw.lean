/- The laws of property files: what they share; awake. -/
import Derived.Test.YtdbnegllncjhkaaGreatDoorPfin
import Derived.Test.YtdbnegllncjhkaaGreatDoorRprop
import Derived.Test.YtdbnegllncjhkaaGreatDoorIs
import Derived.Test.YtdbnegllncjhkaaGreatDoorRpts
import Derived.Test.YtdbnegllncjhkaaGreatDoorFlns
import Derived.Lib.SlBytesConst
namespace Go.Proofs.YtdbnegllncjhkaaGreatDoor
open Go.RowKit Go.Shelf
attribute [local go_sem] Oper.semAt_some

theorem lines_fields {l : List UInt8} {N : Nat} (hN : l.length ≤ N) : ∀ x ∈ linesIn l, ∀ f ∈ x.2, f.length ≤ N := by
  intro y h
  unfold linesIn at h
  rw [List.mem_filterMap] at h
  obtain ⟨x, hx, e⟩ := h
  obtain ⟨p, hp, hb⟩ := numbered_mem 1 _ x hx
  unfold lineOf at e
  split at e
  · cases e
  · cases e
    show ∀ f ∈ fieldsOf x.2, f.length ≤ N
    refine fields_len ?_
    rw [hb]
    have h2 := body_length p
    have h3 := cutAll_mem_length 10 l p hp
    omega
/-- There is a table. -/
theorem pp_ok (A : Option Addr) (n c : Nat) (l : List UInt8) (V : Option Addr) (nv cv : Nat) (vs : List (List UInt8)) (w : World) (hO : Octs w A n l) (hn : n ≤ 2000) (hV : Vals w V nv (strs vs)) (hnv : nv ≤ 1000) (hM : ML w) (he : (propOf vs (linesIn l)).err = 0) :
    Calls Tryz.prog 9 #[.slice A n c, .slice V nv cv] w fun e w' => ∃ b A c, e = .returned (.tuple #[.pointer (some ⟨b, 0, none⟩), .int .i64 0, .int .i64 0]) ∧ Hid (Below w.heap.size w w' ∧ TIn w' (some ⟨b, 0, none⟩) A c (sorted (propOf vs (linesIn l)).rows)) :=
  (pparse9 A n c l V nv cv vs w hO hn hV hnv hM).mono (by
    rintro e w' ⟨hb, ⟨-, b, A, c, rfl, hT⟩ | ⟨h, -⟩⟩
    · exact ⟨b, A, c, rfl, Lib.hid ⟨hb, hT⟩⟩
    · exact absurd he h)
theorem pp_no (A : Option Addr) (n c : Nat) (l : List UInt8) (V : Option Addr) (nv cv : Nat) (vs : List (List UInt8)) (w : World) (hO : Octs w A n l) (hn : n ≤ 2000) (hV : Vals w V nv (strs vs)) (hnv : nv ≤ 1000) (hM : ML w) (he : ¬ (propOf vs (linesIn l)).err = 0) :
    Calls Tryz.prog 9 #[.slice A n c, .slice V nv cv] w fun e w' => ∃ A c, e = .returned (.tuple #[.pointer none, .int .i64 (propOf vs (linesIn l)).err, .int .i64 (propOf vs (linesIn l)).num]) ∧ Hid (Below w.heap.size w w' ∧ TIn w' none A c (sorted (propOf vs (linesIn l)).rows)) :=
  (pparse9 A n c l V nv cv vs w hO hn hV hnv hM).mono (by
    rintro e w' ⟨hb, ⟨h, -⟩ | ⟨-, rfl⟩⟩
    · exact absurd h he
    · refine ⟨none, 0, rfl, Lib.hid ⟨hb, ?_⟩⟩
      rw [show (propOf vs (linesIn l)).rows = [] from prp_rows vs _ [] he]
      exact .inl ⟨rfl, rfl, rfl, rfl⟩)
theorem pp_any (A : Option Addr) (n c : Nat) (l : List UInt8) (V : Option Addr) (nv cv : Nat) (vs : List (List UInt8)) (w : World) (hO : Octs w A n l) (hn : n ≤ 2000) (hV : Vals w V nv (strs vs)) (hnv : nv ≤ 1000) (hM : ML w) :
    Calls Tryz.prog 9 #[.slice A n c, .slice V nv cv] w fun e w' => ∃ p A c E M, e = .returned (.tuple #[.pointer p, .int .i64 E, .int .i64 M]) ∧ Hid (Below w.heap.size w w' ∧ TIn w' p A c (sorted (propOf vs (linesIn l)).rows)) := by
  by_cases he : (propOf vs (linesIn l)).err = 0
  · refine (pp_ok A n c l V nv cv vs w hO hn hV hnv hM he).mono ?_
    rintro e w' ⟨b, A, c, rfl, h⟩
    exact ⟨_, A, c, _, _, rfl, h⟩
  · refine (pp_no A n c l V nv cv vs w hO hn hV hnv hM he).mono ?_
    rintro e w' ⟨A, c, rfl, h⟩
    exact ⟨_, A, c, _, _, rfl, h⟩
/-- The document's own. -/
theorem rp_any (l : List UInt8) (V : Option Addr) (nv cv : Nat) (vs : List (List UInt8)) (w : World) (hl : l.length ≤ 2000) (hV : Vals w V nv (strs vs)) (hnv : nv ≤ 1000) :
    Calls Tryz.prog 10 #[.string (bs l), .slice V nv cv] w fun e w' => ∃ A c, e = .returned (.tuple #[.slice A (propOf vs (linesIn l)).rows.length c, .int .i64 (propOf vs (linesIn l)).err, .int .i64 (propOf vs (linesIn l)).num]) ∧ Hid (Below w.heap.size w w' ∧ SAt w' A (propOf vs (linesIn l)).rows.length (sorted (propOf vs (linesIn l)).rows)) :=
  (rprop10 l V nv cv vs w hl (lines_fields hl) hV hnv).mono (by
    rintro e w' ⟨hb, A, c, rfl, hS⟩
    exact ⟨A, c, rfl, Lib.hid ⟨hb, hS⟩⟩)
theorem vals_none (w : World) : Vals w none 0 (strs []) := Vals.nil _ _

/-! awake. -/
def exO : List UInt8 := [48, 48, 54, 49, 46, 46, 48, 48, 54, 51, 32, 59, 32, 80, 86, 65, 76, 73, 68, 10, 48, 48, 54, 52, 32, 59, 32, 68, 73, 83, 65, 76, 76, 79, 87, 69, 68, 10]
def exV : List UInt8 := [80, 86, 65, 76, 73, 68]
theorem ex_prop : propOf [exV] (linesIn exO) = ⟨[⟨97, 99, exV⟩], 0, 0⟩ := by kernel_rfl
theorem ex_cells : (ints exO).map (Value.int .u8) = [.int .u8 48, .int .u8 48, .int .u8 54, .int .u8 49, .int .u8 46, .int .u8 46, .int .u8 48, .int .u8 48, .int .u8 54, .int .u8 51, .int .u8 32, .int .u8 59, .int .u8 32, .int .u8 80, .int .u8 86, .int .u8 65, .int .u8 76, .int .u8 73, .int .u8 68, .int .u8 10, .int .u8 48, .int .u8 48, .int .u8 54, .int .u8 52, .int .u8 32, .int .u8 59, .int .u8 32, .int .u8 68, .int .u8 73, .int .u8 83, .int .u8 65, .int .u8 76, .int .u8 76, .int .u8 79, .int .u8 87, .int .u8 69, .int .u8 68, .int .u8 10] := by kernel_rfl
theorem ex_octs (w : World) (us : List Value) (hu : (ints exO).map (Value.int .u8) = us) : Octs (w.alloc (.cells us.toArray 5 (38, 38 + 1))) (some ⟨w.heap.size, 0, none⟩) 38 exO := by
  subst hu
  refine ⟨by kernel_rfl, fun _ => ⟨w.heap.size, 0, rfl, by simp, fun j v hj => ?_⟩⟩
  have hh := World.alloc_heap_new w (.cells ((ints exO).map (Value.int .u8)).toArray 5 (38, 38 + 1))
  rw [cell_of_row _ w.heap.size _ _ 5 (38, 38 + 1) hh, Nat.zero_add]
  rw [List.getElem?_toArray]
  exact hj
/-- One value, laid; two. -/
theorem one_val (w : World) (v : List UInt8) : Vals (w.alloc (.cells #[.string (bs v)] 9)) (some ⟨w.heap.size, 0, none⟩) 1 (strs [v]) :=
  ⟨rfl, fun _ => ⟨w.heap.size, 0, rfl, by simp, fun j u hj => by
    have := lit_cells w (strs [v]) 9 j u hj
    rwa [add_at] at this⟩⟩
theorem two_val (w : World) (v u : List UInt8) : Vals (w.alloc (.cells #[.string (bs v), .string (bs u)] 9)) (some ⟨w.heap.size, 0, none⟩) 2 (strs [v, u]) :=
  ⟨rfl, fun _ => ⟨w.heap.size, 0, rfl, by simp, fun j x hj => by
    have := lit_cells w (strs [v, u]) 9 j x hj
    rwa [add_at] at this⟩⟩
set_option maxRecDepth 100000 in
set_option maxHeartbeats 4000000 in
theorem awake7 (w : World) (hM : ML w) : Calls Tryz.prog 7 #[] w fun e w' => e = .returned (.bool true) ∧ Below w.heap.size w w' := by
  have ho := ex_octs w _ ex_cells
  dsimp only at ho
  have hb0 : ∀ o1 o2, Below w.heap.size w ((w.alloc o1).alloc o2) := fun o1 o2 => ((Below.refl _ _).alloc (Nat.le_refl _) _).alloc (by simp) _
  have hb1 : ∀ W : World, ∀ o, Below W.heap.size W (W.alloc o) := fun W o => (Below.refl _ _).alloc (Nat.le_refl _) _
  have hv := one_val (w.alloc (.cells #[.int .u8 48, .int .u8 48, .int .u8 54, .int .u8 49, .int .u8 46, .int .u8 46, .int .u8 48, .int .u8 48, .int .u8 54, .int .u8 51, .int .u8 32, .int .u8 59, .int .u8 32, .int .u8 80, .int .u8 86, .int .u8 65, .int .u8 76, .int .u8 73, .int .u8 68, .int .u8 10, .int .u8 48, .int .u8 48, .int .u8 54, .int .u8 52, .int .u8 32, .int .u8 59, .int .u8 32, .int .u8 68, .int .u8 73, .int .u8 83, .int .u8 65, .int .u8 76, .int .u8 76, .int .u8 79, .int .u8 87, .int .u8 69, .int .u8 68, .int .u8 10] 5 (38, 38 + 1))) exV
  have c9 := pp_ok (some ⟨w.heap.size, 0, none⟩) 38 38 exO _ 1 1 [exV] _ (ho.below (hb1 _ _)) (by omega) hv (by omega) (hM.below (hb0 _ _)) (by rw [ex_prop])
  rw [ex_prop] at c9
  rw [World.size_alloc] at c9
  have eV : bs exV = ⟨#[80, 86, 65, 76, 73, 68]⟩ := rfl
  rw [eV] at c9
  have hr : Rises (sorted [(⟨97, 99, exV⟩ : Sp)]) := List.pairwise_singleton _ _
  have hf : ∀ s ∈ sorted [(⟨97, 99, exV⟩ : Sp)], s.a ≤ s.b := fun s hs => by
    rw [show sorted [(⟨97, 99, exV⟩ : Sp)] = [⟨97, 99, exV⟩] from rfl] at hs
    rw [List.mem_singleton.1 hs]; decide
  have C17 := Lib.hid (fun (W : World) (p A : Option Addr) (c : Nat) (hT : TIn W p A c (sorted [(⟨97, 99, exV⟩ : Sp)])) => show Calls Tryz.prog 17 #[.pointer p] W fun e w' => e = .returned (.int .i64 1) ∧ Below W.heap.size W w' from len13 p A c _ W hT)
  have C18 := Lib.hid (fun (W : World) (p A : Option Addr) (c : Nat) (hT : TIn W p A c (sorted [(⟨97, 99, exV⟩ : Sp)])) => show Calls Tryz.prog 18 #[.pointer p, .int .i64 98] W fun e w' => e = .returned (.string ⟨#[80, 86, 65, 76, 73, 68]⟩) ∧ Below W.heap.size W w' from value16 p A c _ 98 W hT (by decide) hr hf)
  have D18 := Lib.hid (fun (W : World) (p A : Option Addr) (c : Nat) (hT : TIn W p A c (sorted [(⟨97, 99, exV⟩ : Sp)])) => show Calls Tryz.prog 18 #[.pointer p, .int .i64 100] W fun e w' => e = .returned (.string ⟨#[]⟩) ∧ Below W.heap.size W w' from value16 p A c _ 100 W hT (by decide) hr hf)
  have HB0 := Lib.hid hb0
  clear hM ho hv hr hf eV hb0 hb1
  go_enter Tryz.func7, Tryz.ntmps7
  go_wp2_with fail
  rw [Lib.run_convert_bytes_const w 22 5 _ 38 38 Tryz.underlying22 Tryz.underlying5]
  go_wp2_with (first
    | (go_at_call 9; (with_reducible refine c9.mono ?_); rintro e w1 ⟨b, A, c, rfl, hT⟩; have k17 := C17.out w1 _ A c hT.out.2)
    | (go_at_call 17; (with_reducible refine k17.mono ?_); rintro e w2 ⟨rfl, hb2⟩; have k18 := C18.out w2 _ A c (hT.out.2.below hb2))
    | (go_at_call 18; (with_reducible refine k18.mono ?_); rintro e w3 ⟨rfl, hb3⟩; have m18 := D18.out w3 _ A c ((hT.out.2.below hb2).below hb3))
    | (go_at_call 18; (with_reducible refine m18.mono ?_); rintro e w4 ⟨rfl, hb4⟩))
  go_ret
  have z1 := (HB0.out _ _).trans (hT.out.1.mono (HB0.out _ _).size)
  have z2 := z1.trans (hb2.mono z1.size)
  have z3 := z2.trans (hb3.mono z2.size)
  exact ⟨rfl, z3.trans (hb4.mono z3.size)⟩
end Go.Proofs.YtdbnegllncjhkaaGreatDoor
