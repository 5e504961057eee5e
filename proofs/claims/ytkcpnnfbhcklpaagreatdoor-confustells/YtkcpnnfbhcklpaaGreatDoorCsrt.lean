/- The sources of the program's table of confusables, out of the map's keys: maps.Keys, slices.Sorted. -/
import Derived.Test.YtkcpnnfbhcklpaaGreatDoorCtb
import Derived.Test.YtkcpnnfbhcklpaaGreatDoorShelk
namespace Go.Proofs.YtkcpnnfbhcklpaaGreatDoor
open Go.RowKit Go.Shelf

theorem sorts35 (m : Nat) : AnyZI.SortsIn Tryz.prog Tryz.sortedA_ren Fence.wide m :=
  ⟨fun blk off cap ss W hH hblk hsz => callsIn_wide.2 (AnyM.slices_Sort_int Tryz.sortA blk off cap ss W hH hblk hsz),
   fun p cap W => callsIn_wide.2 (AnyM.slices_Sort_int_none Tryz.sortA p cap W)⟩
theorem keys19 (mb : Option Nat) (W : World) : Calls Tryz.prog 19 #[.map mb] W fun e w' => e = .returned (.func (.func 36) #[] #[.pointer (some ⟨W.heap.size, 0, none⟩)]) ∧ w' = W.alloc (.cells #[.map mb] 45) :=
  (callsIn_wide (n := 5)).1 (AnyZI.keys_in Tryz.keysA Fence.wide 5 trivial rfl mb W)
/-- The keys that come are just the sources. -/
theorem keys_are {w : World} {mb n : Nat} {D : DataW Value} {ps : List Pp} (ho : w.ownsMap Tryz.prog 3 tokE mb n D) (hh : ∀ c : Int, Maps.has D (.int .i64 c) = hasS ps c) (hr : Rise ps) : (ps.map Pp.c).Perm (intKeys D) := by
  obtain ⟨es, hD, hpw, -⟩ := ho.entries k3
  obtain ⟨es', hD', hko⟩ := ho.keysOf
  obtain rfl : es = es' := by rw [hD] at hD'; simpa using hD'
  subst hD
  refine perm_intKeys hpw (fun p hp => by obtain ⟨v, hv⟩ := hko p hp; obtain ⟨x, -, hx, -⟩ := Maps.keyOf_i64 Tryz.underlying3 hv; exact ⟨x, hx⟩) (rise_nodup hr) (fun x => ?_)
  rw [hh x, has_iff, List.mem_map]
theorem sort_rise {ps : List Pp} {ss : List Int} (hr : Rise ps) (hp : ss.Perm (ps.map Pp.c)) : ss.mergeSort (fun x y => decide (x ≤ y)) = ps.map Pp.c := by
  have h1 := mergeSort_of_perm_i hp
  have tr : ∀ a b c : Int, leI a b = true → leI b c = true → leI a c = true := fun a b c h1 h2 => by simp only [leI, decide_eq_true_eq] at *; exact Int.le_trans h1 h2
  have to : ∀ a b : Int, (leI a b || leI b a) = true := fun a b => by simp only [leI, Bool.or_eq_true, decide_eq_true_eq]; exact Int.le_total a b
  refine h1.trans (List.Perm.eq_of_pairwise (le := fun a b => leI a b = true) (fun a b _ _ h1 h2 => ?_) (List.pairwise_mergeSort tr to _) ?_ (List.mergeSort_perm _ _))
  · simp only [leI, decide_eq_true_eq] at h1 h2
    exact Int.le_antisymm h1 h2
  · rw [List.pairwise_map]
    exact hr.imp (fun h => by simp only [leI, decide_eq_true_eq]; omega)
/-- What slices.Sorted hands back, of the map's keys. -/
def SkPost (ps : List Pp) (W : World) (e : Ending) (w' : World) : Prop :=
  ∃ A k, e = .returned (.slice A ps.length k) ∧ Hid (Below W.heap.size W w' ∧ Vals w' A ps.length (nums .i64 (ps.map Pp.c)) ∧ ∀ a, A = some a → W.heap.size ≤ a.block)
theorem sorted18 (Bm mb n : Nat) (D : DataW Value) (ps : List Pp) (W : World) (hB : W.cell? ⟨Bm, 0, none⟩ = some (.map (some mb))) (ho : W.ownsMap Tryz.prog 3 tokE mb n D) (hh : ∀ c : Int, Maps.has D (.int .i64 c) = hasS ps c) (hr : Rise ps) (hn : n ≤ 1000000) :
    Calls Tryz.prog 18 #[.func (.func 36) #[] #[.pointer (some ⟨Bm, 0, none⟩)]] W (SkPost ps W) := by
  have hsz := ho.size_le
  have hseq : SeqGives Fence.wide 3 Tryz.prog 36 #[.pointer (some ⟨Bm, 0, none⟩)] encZ (fun ss => ss.Perm (intKeys D)) (Maps.size D) W :=
    AnyZI.keys_gives (ρ := Tryz.keysA_ren) { Tryz.keysA with } Fence.wide 3 trivial rfl (by omega) Bm mb n D W (World.block_lt_of_cell? W _ hB) hB ho
  have cS := AnyZI.sorted_in Tryz.sortedA Fence.wide 6 trivial trivial trivial trivial rfl (by omega) (sorts35 _) (enters_of Tryz.func35 (by kernel_rfl) rfl) 36 #[.pointer (some ⟨Bm, 0, none⟩)] trivial (enters_of Tryz.func36 (by kernel_rfl) rfl) _ _ (by unfold maxLen; omega) (by omega) W hseq
  refine ((callsIn_wide (n := 6)).1 cS).mono ?_
  rintro e w' ⟨v, ss, rfl, hS, hrow, -, hb⟩
  have hp := hS.trans (keys_are ho hh hr).symm
  have hl : ss.length = ps.length := by have := hp.length_eq; rwa [List.length_map] at this
  rw [sort_rise hr hp, hl] at hrow
  obtain ⟨A, k, rfl, -, hv, -⟩ := own_vals hrow
  exact ⟨A, k, rfl, Lib.hid ⟨hb, hv, fun a e => (hrow.lt a.block (by rw [e]; rfl)).1⟩⟩
end Go.Proofs.YtkcpnnfbhcklpaaGreatDoor
