/- Spans put in order by the library's sort: what the closure of New tells, and what is left behind. -/
import Derived.Test.YtdbnegllncjhkaaGreatDoorShels
import Derived.Test.YtdbnegllncjhkaaGreatDoorChk
import Derived.Test.YtdbnegllncjhkaaGreatDoorRsort
namespace Go.Proofs.YtdbnegllncjhkaaGreatDoor
open Go.RowKit Go.Sort Go.Shelf

instance : Inhabited Sp := ⟨⟨0, 0, []⟩⟩
def cfA (x y : Sp) : Int := Lib.compareInt x.a y.a
theorem ltA (x y : Sp) : ltOf cfA x y = decide (x.a < y.a) := by
  unfold ltOf cfA Lib.compareInt
  by_cases h1 : x.a < y.a
  · simp [h1]
  · by_cases h2 : y.a < x.a <;> simp [h1, h2]
theorem swoA : SWO (ltOf cfA) where
  irrefl x := by rw [ltA]; simp
  trans x y z h1 h2 := by rw [ltA] at *; simp at *; omega
  ntrans x y z h1 h2 := by rw [ltA] at *; simp at *; omega
set_option maxHeartbeats 1000000 in
theorem closure27 (x y : Sp) (W : World) : Calls Tryz.prog 50 #[spV x, spV y] W fun e w' => e = .returned (.int .i64 (cfA x y)) ∧ ∃ q os', w' = grow (W.drewN q) os' := by
  obtain ⟨xa, xb, xv⟩ := x
  obtain ⟨ya, yb, yv⟩ := y
  have hcon := fun W' => Tryz.cmp_Compare xa ya W'
  have e0 : cfA ⟨xa, xb, xv⟩ ⟨ya, yb, yv⟩ = Lib.compareInt xa ya := rfl
  rw [e0]
  clear e0
  generalize Lib.compareInt xa ya = r at hcon ⊢
  unfold spV
  obtain ⟨T, hT⟩ : ∃ T, bs xv = T := ⟨_, rfl⟩
  obtain ⟨U, hU⟩ : ∃ U, bs yv = U := ⟨_, rfl⟩
  rw [hT, hU]
  clear hT hU
  go_enter Tryz.func50, Tryz.ntmps50
  go_wp2_with (go_at_call 51; (with_reducible refine (hcon _).mono ?_); rintro e w' ⟨rfl, rfl⟩)
  go_ret
  exact ⟨rfl, 0, _, by rw [alloc_eq_grow, alloc_eq_grow, grow_grow]; rfl⟩
theorem cmpLays27 (blk off size : Nat) (w : World) : CmpLays Tryz.prog 50 #[] spv 3 cfA blk off size w := fun _ _ _ _ x y => closure27 x y _

theorem getA {ls : List Sp} {q : Nat} {s : Sp} (h : ls[q]? = some s) : ls.toArray[q]! = s := by
  have := List.getElem?_eq_some_iff.1 h
  rw [getElem!_pos _ q (by simpa using this.1)]
  simpa using this.2
theorem holds_of_own {w : World} {base g c n : Nat} {e : TypeId} {ls : List Sp} (ho : w.ownsRow base e 3 (.slice (some ⟨g, 0, none⟩) n c) n (spvs ls)) : HoldsK spv 3 w g 0 ls.toArray := by
  have hfz : ∀ j, w.frozen? ⟨g, j, none⟩ = false := by
    intro j
    rcases ho.2 with ⟨h, _⟩ | ⟨g', cap, cur, h, _, hg, _⟩
    · cases h
    · cases h
      simp only [World.frozen?]
      rw [hg]
      simp
  intro j hj
  refine ⟨?_, hfz _⟩
  rw [size_flatK, List.size_toArray] at hj
  obtain ⟨u, hu⟩ : ∃ u, (spvs ls)[j]? = some u := ⟨_, List.getElem?_eq_getElem (by rw [spvs_length]; exact hj)⟩
  have hc := ho.cells (g := g) rfl j u hu
  rw [add_at] at hc
  rw [hc, get_flatK _ _ _ _ (by simpa using hj)]
  obtain ⟨q, s, hs, h⟩ := spvs_at hu
  rcases h with ⟨rfl, rfl⟩ | ⟨rfl, rfl⟩ | ⟨rfl, rfl⟩
  · rw [show q * 3 / 3 = q by omega, show q * 3 % 3 = 0 by omega, getA hs]; rfl
  · rw [show (q * 3 + 1) / 3 = q by omega, show (q * 3 + 1) % 3 = 1 by omega, getA hs]; rfl
  · rw [show (q * 3 + 2) / 3 = q by omega, show (q * 3 + 2) % 3 = 2 by omega, getA hs]; rfl
theorem sat_of_holds {w : World} {g : Nat} {d : Array Sp} (h : HoldsK spv 3 w g 0 d) (hg : g < w.heap.size) : SAt w (some ⟨g, 0, none⟩) d.size d.toList := by
  refine ⟨by simp, fun _ => ⟨g, 0, rfl, hg, fun j s hj => ?_⟩⟩
  have hs := List.getElem?_eq_some_iff.1 hj
  have hlt : j < d.size := by simpa using hs.1
  have e : d[j]! = s := by rw [getElem!_pos d j hlt]; simpa using hs.2
  have k0 := (h.cell hlt (c := 0) (by omega)).1
  have k1 := (h.cell hlt (c := 1) (by omega)).1
  have k2 := (h.cell hlt (c := 2) (by omega)).1
  rw [e] at k0 k1 k2
  exact ⟨k0, k1, k2⟩
theorem below_sort {w : World} {B g off n : Nat} {d : Array Sp} {os : Array Obj} (hg : g < w.heap.size) (hB : B ≤ g) : Below B w (sortWorldK spv 3 w g off n d os) := by
  refine ⟨rfl, rfl, rfl, size_sortWorldK_c spv 3 w g off n d os, fun k hk => ?_⟩
  unfold sortWorldK putRowK putRow
  rw [heap_grow_old _ _ (by simp [mapBlock]; omega)]
  simp [mapBlock, Array.getElem?_modify, show ¬ g = k by omega]
def SortPost (ls : List Sp) (g : Nat) (w : World) (e : Ending) (w' : World) : Prop :=
  e = .returned (.tuple #[]) ∧ ∃ ms : List Sp, ms.Perm ls ∧ Low ms ∧ SAt w' (some ⟨g, 0, none⟩) ls.length ms ∧ g < w'.heap.size ∧ ∀ B, B ≤ g → Below B w w'
theorem sort26 {w : World} {base g c : Nat} {e : TypeId} {ls : List Sp} (ho : w.ownsRow base e 3 (.slice (some ⟨g, 0, none⟩) ls.length c) ls.length (spvs ls)) (hn : ls.length ≤ 100000) :
    Calls Tryz.prog 49 #[.slice (some ⟨g, 0, none⟩) ls.length c, .func (.func 50) #[] #[]] w (SortPost ls g w) := by
  have hg : g < w.heap.size := (ho.lt g rfl).2
  have hH := holds_of_own ho
  have hc := Tryz.slices_SortFunc spv (fun _ => rfl) (fun x v hv => by simp [spv] at hv; rcases hv with rfl | rfl | rfl <;> rfl) cfA swoA 50 #[] g 0 c ls.toArray w (enters_of Tryz.func50 (by kernel_rfl) rfl) (cmpLays27 _ _ _ _) hH hg (by simp; omega)
  rw [List.size_toArray] at hc
  refine hc.mono ?_
  rintro e w' ⟨rfl, d', n, os, hp, hs, rfl⟩
  have hsz : d'.size = ls.length := by rw [hp.1, List.size_toArray]
  have hK := holdsK_sortWorldK_c spv 3 w g 0 ls.toArray d' n os hH hg hp.1
  have hg' : g < (sortWorldK spv 3 w g 0 n d' os).heap.size := Nat.lt_of_lt_of_le hg (size_sortWorldK_c spv 3 w g 0 n d' os)
  have hS := sat_of_holds hK hg'
  rw [hsz] at hS
  refine ⟨rfl, d'.toList, ?_, ?_, hS, hg', fun B hB => below_sort hg hB⟩
  · have h3 := hp.2.2
    rw [show d'.extract 0 ls.length = d' by rw [← hsz]; exact Array.extract_size, show ls.toArray.extract 0 ls.length = ls.toArray by simp] at h3
    exact h3
  · refine List.pairwise_iff_getElem.2 fun i j hi hj hij => ?_
    have h := hs i j (Nat.zero_le _) hij (by simpa [hsz] using hj)
    rw [ltA] at h
    have h := of_decide_eq_false h
    rw [getElem!_pos d' j (by simpa using hj), getElem!_pos d' i (by simpa using hi)] at h
    simp only [Array.getElem_toList]
    omega
end Go.Proofs.YtdbnegllncjhkaaGreatDoor
