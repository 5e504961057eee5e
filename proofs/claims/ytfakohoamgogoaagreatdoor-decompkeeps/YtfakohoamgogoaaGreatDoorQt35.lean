/- The library's contracts of slices.SortFunc, slices.Clone and cmp.Compare at this program's own numbers (written by the library's laying tool). -/
/- Spans put in order by the library's sort: what the closure of New tells, and what is left behind. -/
/- Plain words: a table made at once of spans in order; no program is spoken of. -/
/- What the program's overlap hands back; a copy of spans. -/
import Derived.Shelf.SlGeneric
import Derived.Shelf.SlSortCmp.WholeK
import Derived.Shelf.SlSortCmp.NoneTotal
import Derived.Shelf.SlicesG.Cmp
import Derived.Shelf.SlicesE.Clone
import Derived.Ground.SlsfProg
import Derived.Ground.SlgcProg
import Derived.Ground.SlgnProg
import Derived.Test.YtfakohoamgogoaaGreatDoorProg
import Derived.Test.YtfakohoamgogoaaGreatDoorQt10
import Derived.Test.YtfakohoamgogoaaGreatDoorQt09
import Derived.Test.YtfakohoamgogoaaGreatDoorQt23
import Derived.BigQuiet
namespace Go.Proofs
open Go.Shelf
def Tryz.sortSp_ren : Go.Shelf.Ren := ⟨fun | 6 => 132 | 15 => 165 | 14 => 171 | 28 => 197 | 29 => 198 | 20 => 201 | 21 => 202 | 22 => 203 | 23 => 204 | 24 => 205 | 25 => 206 | 26 => 207 | 27 => 208 | 46 => 239 | 47 => 234 | 48 => 235 | 49 => 240 | 50 => 241 | 57 => 256 | n => n, fun | 22 => 167 | 24 => 168 | 25 => 224 | 3 => 3 | 39 => 194 | 0 => 0 | 53 => 275 | 55 => 219 | 4 => 4 | 46 => 269 | 45 => 268 | 50 => 98 | 5 => 5 | 9 => 9 | 66 => 294 | 70 => 199 | 76 => 310 | 77 => 311 | n => n, fun | n => n⟩
theorem Tryz.sortSp : Go.Proofs.SlLaysF0.n6 Tryz.prog Tryz.sortSp_ren := {
  mixed := by kernel_rfl
  f6 := ⟨Tryz.f132.name, by decide, Tryz.func132.trans (congrArg some (by kernel_rfl))⟩
  f14 := ⟨Tryz.f171.name, by decide, Tryz.func171.trans (congrArg some (by kernel_rfl))⟩
  f15 := Tryz.func165.trans (congrArg some (by kernel_rfl))
  f20 := ⟨Tryz.f201.name, by decide, Tryz.func201.trans (congrArg some (by kernel_rfl))⟩
  f21 := ⟨Tryz.f202.name, by decide, Tryz.func202.trans (congrArg some (by kernel_rfl))⟩
  f22 := ⟨Tryz.f203.name, by decide, Tryz.func203.trans (congrArg some (by kernel_rfl))⟩
  f23 := ⟨Tryz.f204.name, by decide, Tryz.func204.trans (congrArg some (by kernel_rfl))⟩
  f24 := ⟨Tryz.f205.name, by decide, Tryz.func205.trans (congrArg some (by kernel_rfl))⟩
  f25 := ⟨Tryz.f206.name, by decide, Tryz.func206.trans (congrArg some (by kernel_rfl))⟩
  f26 := ⟨Tryz.f207.name, by decide, Tryz.func207.trans (congrArg some (by kernel_rfl))⟩
  f27 := ⟨Tryz.f208.name, by decide, Tryz.func208.trans (congrArg some (by kernel_rfl))⟩
  f28 := Tryz.func197.trans (congrArg some (by kernel_rfl))
  f29 := Tryz.func198.trans (congrArg some (by kernel_rfl))
  f46 := ⟨Tryz.f239.name, by decide, Tryz.func239.trans (congrArg some (by kernel_rfl))⟩
  f47 := Tryz.func234.trans (congrArg some (by kernel_rfl))
  f48 := Tryz.func235.trans (congrArg some (by kernel_rfl))
  f49 := ⟨Tryz.f240.name, by decide, Tryz.func240.trans (congrArg some (by kernel_rfl))⟩
  f50 := ⟨Tryz.f241.name, by decide, Tryz.func241.trans (congrArg some (by kernel_rfl))⟩
  f57 := ⟨Tryz.f256.name, by decide, Tryz.func256.trans (congrArg some (by kernel_rfl))⟩
  t0 := Tryz.underlying0
  a0 := Tryz.isAgg0
  z0 := Tryz.sizeOf0
  v0 := Tryz.zeroValue0
  t3 := Tryz.underlying3
  a3 := Tryz.isAgg3
  z3 := Tryz.sizeOf3
  v3 := Tryz.zeroValue3
  t4 := Tryz.underlying4
  a4 := Tryz.isAgg4
  z4 := Tryz.sizeOf4
  v4 := Tryz.zeroValue4
  t5 := Tryz.underlying5
  a5 := Tryz.isAgg5
  z5 := Tryz.sizeOf5
  v5 := Tryz.zeroValue5
  t9 := Tryz.underlying9
  a9 := Tryz.isAgg9
  z9 := Tryz.sizeOf9
  v9 := Tryz.zeroValue9
  t22 := Tryz.underlying167
  a22 := Tryz.isAgg167
  z22 := Tryz.sizeOf167
  v22 := Tryz.zeroValue167
  t25 := Tryz.underlying224
  a25 := Tryz.isAgg224
  z25 := Tryz.sizeOf224
  v25 := Tryz.zeroValue224
  t39 := Tryz.underlying194
  a39 := Tryz.isAgg194
  z39 := Tryz.sizeOf194
  v39 := Tryz.zeroValue194
  t45 := Tryz.underlying268
  a45 := Tryz.isAgg268
  z45 := Tryz.sizeOf268
  v45 := Tryz.zeroValue268
  t46 := Tryz.underlying269
  a46 := Tryz.isAgg269
  z46 := Tryz.sizeOf269
  v46 := Tryz.zeroValue269
  t50 := Tryz.underlying98
  a50 := Tryz.isAgg98
  z50 := Tryz.sizeOf98
  v50 := Tryz.zeroValue98
  t53 := Tryz.underlying275
  a53 := Tryz.isAgg275
  z53 := Tryz.sizeOf275
  v53 := Tryz.zeroValue275
  t55 := Tryz.underlying219
  a55 := Tryz.isAgg219
  z55 := Tryz.sizeOf219
  v55 := Tryz.zeroValue219
  t66 := Tryz.underlying294
  a66 := Tryz.isAgg294
  z66 := Tryz.sizeOf294
  v66 := Tryz.zeroValue294
  t70 := Tryz.underlying199
  a70 := Tryz.isAgg199
  z70 := Tryz.sizeOf199
  v70 := Tryz.zeroValue199
  t76 := Tryz.underlying310
  a76 := Tryz.isAgg310
  z76 := Tryz.sizeOf310
  v76 := Tryz.zeroValue310
  t77 := Tryz.underlying311
  a77 := Tryz.isAgg311
  z77 := Tryz.sizeOf311
  v77 := Tryz.zeroValue311 }
open Go.RowKit Go.Sort in
theorem Tryz.slices_SortFunc {α : Type} [Inhabited α] (enc : α → List Value) (hk : ∀ x, (enc x).length = 3) (h1 : ∀ x, ∀ v ∈ enc x, v.oneCell' = true) (cf : α → α → Int) (hO : SWO (ltOf cf)) (g : Nat) (cb : Array Value) (blk off cap : Nat) (d : Array α) (w : World)
    (eg : ∀ args w, (callFunc g args).run Tryz.prog w = .ok (.enter g args) w) (hcmp : CmpLays Tryz.prog g cb enc 3 cf blk off d.size w) (hH : HoldsK enc 3 w blk off d) (hblk : blk < w.heap.size) (hsz : d.size < 4611686018427387904) :
    Calls Tryz.prog 132 #[.slice (some ⟨blk, off, none⟩) d.size cap, .func (.func g) #[] cb] w fun e w' =>
      e = .returned (.tuple #[]) ∧ ∃ d' n os, PermIn 0 d.size d d' ∧ SortedIn (ltOf cf) 0 d.size d' ∧ w' = sortWorldK enc 3 w blk off n d' os := AnyQ.slices_SortFunc Tryz.sortSp 3 Tryz.isAgg168 Tryz.sizeOf168 enc hk h1 cf hO g cb blk off cap d w eg hcmp hH hblk hsz
theorem Tryz.slices_SortFunc_none (p : Option Addr) (cap : Nat) (fv : Value) (w : World) : Calls Tryz.prog 132 #[.slice p 0 cap, fv] w fun e w' => e = .returned (.tuple #[]) ∧ w' = w := AnyF.slices_SortFunc_none { Tryz.sortSp with } p cap fv w
def Tryz.cmpInt_ren : Go.Shelf.Ren := ⟨fun | 5 => 61 | 7 => 91 | n => n, fun | 22 => 3 | 3 => 3 | 4 => 4 | n => n, fun | n => n⟩
theorem Tryz.cmpInt : Go.Proofs.SlLaysC2.n5 Tryz.prog Tryz.cmpInt_ren := {
  mixed := by kernel_rfl
  f5 := ⟨Tryz.f61.name, by decide, Tryz.func61.trans (congrArg some (by kernel_rfl))⟩
  f7 := ⟨Tryz.f91.name, by decide, Tryz.func91.trans (congrArg some (by kernel_rfl))⟩
  t3 := Tryz.underlying3
  a3 := Tryz.isAgg3
  z3 := Tryz.sizeOf3
  v3 := Tryz.zeroValue3
  t4 := Tryz.underlying4
  a4 := Tryz.isAgg4
  z4 := Tryz.sizeOf4
  v4 := Tryz.zeroValue4
  t22 := Tryz.underlying3
  a22 := Tryz.isAgg3
  z22 := Tryz.sizeOf3
  v22 := Tryz.zeroValue3 }
theorem Tryz.cmp_Compare (x y : Int) (w : World) : Calls Tryz.prog 61 #[.int .i64 x, .int .i64 y] w fun e w' => e = .returned (.int .i64 (Lib.compareInt x y)) ∧ w' = w := AnyG.cmp_Compare_int Tryz.cmpInt x y w
def Tryz.cloneSp_ren : Go.Shelf.Ren := ⟨fun | 41 => 131 | n => n, fun | 22 => 167 | 23 => 168 | 4 => 4 | n => n, fun | n => n⟩
theorem Tryz.cloneSp : Go.Proofs.SlLaysE0.n41 Tryz.prog Tryz.cloneSp_ren := {
  mixed := by kernel_rfl
  f41 := ⟨Tryz.f131.name, by decide, Tryz.func131.trans (congrArg some (by kernel_rfl))⟩
  t4 := Tryz.underlying4
  a4 := Tryz.isAgg4
  z4 := Tryz.sizeOf4
  v4 := Tryz.zeroValue4
  t22 := Tryz.underlying167
  a22 := Tryz.isAgg167
  z22 := Tryz.sizeOf167
  v22 := Tryz.zeroValue167 }
open Go.RowKit in
theorem Tryz.slices_Clone (i0 : TypeInfo) (z : Value) (size bytes : Nat) (hi : Tryz.prog.info? 168 = some i0) (hz0 : i0.zero = some z) (hz1 : i0.size = size) (hz2 : i0.bytes = bytes) (hzs : z.cells.size = size) (hsz : 0 < size)
    (z23 : ∀ w, (Go.sizeOf 168).run Tryz.prog w = .ok size w) (b off n c : Nat) (news : List Value) (w : World) (hl : news.length = n * size) (hn : n ≤ maxLen) (hbig : n * bytes ≤ 140737488355328)
    (hc : ∀ j u, news[j]? = some u → w.cell? ⟨b, off + j, none⟩ = some u) (h1 : ∀ u ∈ news, u.oneCell' = true) :
    Calls Tryz.prog 131 #[.slice (some ⟨b, off, none⟩) n c] w fun e w' => ∃ v', e = .returned v' ∧ w'.ownsRow w.heap.size 168 size v' n news ∧ v' ≠ .slice none 0 0 ∧ Below w.heap.size w w' := AnyE.slices_Clone Tryz.cloneSp i0 z size bytes hi hz0 hz1 hz2 hzs hsz z23 b off n c news w hl hn hbig hc h1
theorem Tryz.slices_Clone_nil (n c : Nat) (w : World) : Calls Tryz.prog 131 #[.slice none n c] w fun e w' => e = .returned (.slice none 0 0) ∧ w' = w := AnyE.slices_Clone_nil Tryz.cloneSp n c w
end Go.Proofs

namespace Go.Proofs.YtfakohoamgogoaaGreatDoor.Pq
open Go.RowKit Go.Sort Go.Shelf

instance : Inhabited Sp := ⟨⟨0, 0, []⟩⟩
def cfA (x y : Sp) : Int := Lib.compareInt x.a y.a
theorem ltA (x y : Sp) : ltOf cfA x y = decide (x.a < y.a) := by
  unfold ltOf cfA Lib.compareInt
  by_cases h1 : x.a < y.a
  · simp [h1]
  · by_cases h2 : y.a < x.a <;> simp [h1, h2]
theorem swoA : SWO (ltOf cfA) where
  irrefl x := by rw [ltA]; simp
  trans x y z h1 h2 := by rw [ltA] at *; simp at *; omega
  ntrans x y z h1 h2 := by rw [ltA] at *; simp at *; omega
set_option maxHeartbeats 1000000 in
theorem closure27 (x y : Sp) (W : World) : Calls Tryz.prog 133 #[spV x, spV y] W fun e w' => e = .returned (.int .i64 (cfA x y)) ∧ ∃ q os', w' = grow (W.drewN q) os' := by
  obtain ⟨xa, xb, xv⟩ := x
  obtain ⟨ya, yb, yv⟩ := y
  have hcon := fun W' => Tryz.cmp_Compare xa ya W'
  have e0 : cfA ⟨xa, xb, xv⟩ ⟨ya, yb, yv⟩ = Lib.compareInt xa ya := rfl
  rw [e0]
  clear e0
  generalize Lib.compareInt xa ya = r at hcon ⊢
  unfold spV
  obtain ⟨T, hT⟩ : ∃ T, bs xv = T := ⟨_, rfl⟩
  obtain ⟨U, hU⟩ : ∃ U, bs yv = U := ⟨_, rfl⟩
  rw [hT, hU]
  clear hT hU
  go_enter Tryz.func133, Tryz.ntmps133
  go_wp2_with (go_at_call 61; (with_reducible refine (hcon _).mono ?_); rintro e w' ⟨rfl, rfl⟩)
  go_ret
  exact ⟨rfl, 0, _, by rw [alloc_eq_grow, alloc_eq_grow, grow_grow]; rfl⟩
theorem cmpLays27 (blk off size : Nat) (w : World) : CmpLays Tryz.prog 133 #[] spv 3 cfA blk off size w := fun _ _ _ _ x y => closure27 x y _

theorem getA {ls : List Sp} {q : Nat} {s : Sp} (h : ls[q]? = some s) : ls.toArray[q]! = s := by
  have := List.getElem?_eq_some_iff.1 h
  rw [getElem!_pos _ q (by simpa using this.1)]
  simpa using this.2
theorem holds_of_own {w : World} {base g c n : Nat} {e : TypeId} {ls : List Sp} (ho : w.ownsRow base e 3 (.slice (some ⟨g, 0, none⟩) n c) n (spvs ls)) : HoldsK spv 3 w g 0 ls.toArray := by
  have hfz : ∀ j, w.frozen? ⟨g, j, none⟩ = false := by
    intro j
    rcases ho.2 with ⟨h, _⟩ | ⟨g', cap, cur, h, _, hg, _⟩
    · cases h
    · cases h
      simp only [World.frozen?]
      rw [hg]
      simp
  intro j hj
  refine ⟨?_, hfz _⟩
  rw [size_flatK, List.size_toArray] at hj
  obtain ⟨u, hu⟩ : ∃ u, (spvs ls)[j]? = some u := ⟨_, List.getElem?_eq_getElem (by rw [spvs_length]; exact hj)⟩
  have hc := ho.cells (g := g) rfl j u hu
  rw [add_at] at hc
  rw [hc, get_flatK _ _ _ _ (by simpa using hj)]
  obtain ⟨q, s, hs, h⟩ := spvs_at hu
  rcases h with ⟨rfl, rfl⟩ | ⟨rfl, rfl⟩ | ⟨rfl, rfl⟩
  · rw [show q * 3 / 3 = q by omega, show q * 3 % 3 = 0 by omega, getA hs]; rfl
  · rw [show (q * 3 + 1) / 3 = q by omega, show (q * 3 + 1) % 3 = 1 by omega, getA hs]; rfl
  · rw [show (q * 3 + 2) / 3 = q by omega, show (q * 3 + 2) % 3 = 2 by omega, getA hs]; rfl
theorem sat_of_holds {w : World} {g : Nat} {d : Array Sp} (h : HoldsK spv 3 w g 0 d) (hg : g < w.heap.size) : SAt w (some ⟨g, 0, none⟩) d.size d.toList := by
  refine ⟨by simp, fun _ => ⟨g, 0, rfl, hg, fun j s hj => ?_⟩⟩
  have hs := List.getElem?_eq_some_iff.1 hj
  have hlt : j < d.size := by simpa using hs.1
  have e : d[j]! = s := by rw [getElem!_pos d j hlt]; simpa using hs.2
  have k0 := (h.cell hlt (c := 0) (by omega)).1
  have k1 := (h.cell hlt (c := 1) (by omega)).1
  have k2 := (h.cell hlt (c := 2) (by omega)).1
  rw [e] at k0 k1 k2
  exact ⟨k0, k1, k2⟩
theorem below_sort {w : World} {B g off n : Nat} {d : Array Sp} {os : Array Obj} (hg : g < w.heap.size) (hB : B ≤ g) : Below B w (sortWorldK spv 3 w g off n d os) := by
  refine ⟨rfl, rfl, rfl, size_sortWorldK_c spv 3 w g off n d os, fun k hk => ?_⟩
  unfold sortWorldK putRowK putRow
  rw [heap_grow_old _ _ (by simp [mapBlock]; omega)]
  simp [mapBlock, Array.getElem?_modify, show ¬ g = k by omega]
def SortPost (ls : List Sp) (g : Nat) (w : World) (e : Ending) (w' : World) : Prop :=
  e = .returned (.tuple #[]) ∧ ∃ ms : List Sp, ms.Perm ls ∧ Low ms ∧ SAt w' (some ⟨g, 0, none⟩) ls.length ms ∧ g < w'.heap.size ∧ ∀ B, B ≤ g → Below B w w'
theorem sort26 {w : World} {base g c : Nat} {e : TypeId} {ls : List Sp} (ho : w.ownsRow base e 3 (.slice (some ⟨g, 0, none⟩) ls.length c) ls.length (spvs ls)) (hn : ls.length ≤ 100000) :
    Calls Tryz.prog 132 #[.slice (some ⟨g, 0, none⟩) ls.length c, .func (.func 133) #[] #[]] w (SortPost ls g w) := by
  have hg : g < w.heap.size := (ho.lt g rfl).2
  have hH := holds_of_own ho
  have hc := Tryz.slices_SortFunc spv (fun _ => rfl) (fun x v hv => by simp [spv] at hv; rcases hv with rfl | rfl | rfl <;> rfl) cfA swoA 133 #[] g 0 c ls.toArray w (enters_of Tryz.func133 (by kernel_rfl) rfl) (cmpLays27 _ _ _ _) hH hg (by simp; omega)
  rw [List.size_toArray] at hc
  refine hc.mono ?_
  rintro e w' ⟨rfl, d', n, os, hp, hs, rfl⟩
  have hsz : d'.size = ls.length := by rw [hp.1, List.size_toArray]
  have hK := holdsK_sortWorldK_c spv 3 w g 0 ls.toArray d' n os hH hg hp.1
  have hg' : g < (sortWorldK spv 3 w g 0 n d' os).heap.size := Nat.lt_of_lt_of_le hg (size_sortWorldK_c spv 3 w g 0 n d' os)
  have hS := sat_of_holds hK hg'
  rw [hsz] at hS
  refine ⟨rfl, d'.toList, ?_, ?_, hS, hg', fun B hB => below_sort hg hB⟩
  · have h3 := hp.2.2
    rw [show d'.extract 0 ls.length = d' by rw [← hsz]; exact Array.extract_size, show ls.toArray.extract 0 ls.length = ls.toArray by simp] at h3
    exact h3
  · refine List.pairwise_iff_getElem.2 fun i j hi hj hij => ?_
    have h := hs i j (Nat.zero_le _) hij (by simpa [hsz] using hj)
    rw [ltA] at h
    have h := of_decide_eq_false h
    rw [getElem!_pos d' j (by simpa using hj), getElem!_pos d' i (by simpa using hi)] at h
    simp only [Array.getElem_toList]
    omega
end Go.Proofs.YtfakohoamgogoaaGreatDoor.Pq

namespace Go.Proofs.YtfakohoamgogoaaGreatDoor.Pq
open Go.RowKit

def Apart (ms : List Sp) : Prop := ∀ (j : Nat) (s t : Sp), ms[j]? = some s → ms[j + 1]? = some t → s.b < t.a
theorem fit_of {s : Sp} (h : check [] s = 0) : Fit s := (check_ok.1 h).1
theorem rises_of {ms : List Sp} (hl : Low ms) (ha : Apart ms) : Rises ms := by
  refine List.pairwise_iff_getElem.2 fun i j hi hj hij => ?_
  have h1 := ha i ms[i] ms[i + 1] (List.getElem?_eq_getElem hi) (List.getElem?_eq_getElem (by omega))
  rcases Nat.lt_or_eq_of_le (show i + 1 ≤ j from hij) with h | h
  · have := List.pairwise_iff_getElem.1 hl (i + 1) j (by omega) hj h
    omega
  · subst h; exact h1
theorem apart_of_rises {ms : List Sp} (hr : Rises ms) : ms.Pairwise (fun s t => meets s t = false) := by
  refine hr.imp fun {s t} h => ?_
  unfold meets
  rw [decide_eq_false (show ¬ t.a ≤ s.b by omega), Bool.and_false]
theorem new_ok {ls ms : List Sp} (hf : ∀ s ∈ ls, check [] s = 0) (hp : ms.Perm ls) (hl : Low ms) (ha : Apart ms) : addAll [] ls = .ok ms ∧ Good ms := by
  have hr := rises_of hl ha
  have hfm : ∀ s ∈ ms, Fit s := fun s hs => fit_of (hf s (hp.mem_iff.1 hs))
  have hg : Good ms := ⟨hr, hfm⟩
  obtain ⟨r, hr2⟩ := (addAll_ok ms []).2 ⟨hfm, fun s _ t ht => (by cases ht), apart_of_rises hr⟩
  obtain ⟨k1, k2, _⟩ := addAll_good ms [] r good_nil hr2
  have e : r = ms := good_eq r ms k1 hg (fun t => by rw [k2 t]; simp)
  subst e
  exact ⟨addAll_perm hp hr2, hg⟩
theorem addAll_append : ∀ (l m acc r : List Sp), addAll acc l = .ok r → addAll acc (l ++ m) = addAll r m
  | [], m, acc, r, h => by rw [addAll] at h; cases h; rfl
  | s :: l, m, acc, r, h => by
    rw [addAll] at h
    rw [List.cons_append, addAll]
    split at h
    · rename_i hc
      rw [if_pos hc]
      exact addAll_append l m _ r h
    · cases h
theorem addAll_fails : ∀ (l m acc : List Sp) (x : Int), addAll acc l = .error x → addAll acc (l ++ m) = .error x
  | [], m, acc, x, h => by rw [addAll] at h; cases h
  | s :: l, m, acc, x, h => by
    rw [addAll] at h
    rw [List.cons_append, addAll]
    split at h
    · rename_i hc
      rw [if_pos hc]
      exact addAll_fails l m _ x h
    · rename_i hc
      rw [if_neg hc]
      exact h
theorem check_fit {l : List Sp} {s : Sp} (h : check [] s = 0) : check l s = 0 ∨ check l s = 15 := by
  obtain ⟨⟨h1, h2, h3, h4⟩, -⟩ := check_ok.1 h
  unfold check
  rw [if_neg (by omega), if_neg h4]
  split
  · exact .inr rfl
  · exact .inl rfl
theorem check_unfit {l : List Sp} {s : Sp} (h : check [] s ≠ 0) : check l s = check [] s := by
  unfold check at h ⊢
  split
  · rfl
  · rename_i h1
    rw [if_neg h1] at h
    split
    · rfl
    · rename_i h2
      rw [if_neg h2] at h
      exact absurd rfl h
theorem addAll_15 : ∀ (l acc : List Sp) (x : Int), (∀ s ∈ l, check [] s = 0) → addAll acc l = .error x → x = 15
  | [], acc, x, _, h => by rw [addAll] at h; cases h
  | s :: l, acc, x, hf, h => by
    rw [addAll] at h
    split at h
    · exact addAll_15 l _ x (fun t ht => hf t (List.mem_cons_of_mem _ ht)) h
    · rename_i hc
      cases h
      rcases check_fit (l := acc) (hf s (List.mem_cons_self ..)) with e | e
      · exact absurd e hc
      · exact e
theorem new_twice {ls ms m : List Sp} {j : Nat} {s t : Sp} (hf : ∀ s ∈ ls, check [] s = 0) (hp : ms.Perm ls) (hl : Low ms) (hs : ms[j]? = some s) (ht : ms[j + 1]? = some t) (h : t.a ≤ s.b) : addAll [] (ls ++ m) = .error 15 := by
  cases hr : addAll [] ls with
  | error x =>
    have := addAll_15 ls [] x hf hr
    subst this
    exact addAll_fails ls m [] 15 hr
  | ok r =>
    exfalso
    obtain ⟨-, -, h3⟩ := (addAll_ok ls []).1 ⟨r, hr⟩
    have h4 : ms.Pairwise (fun s t => meets s t = false) := hp.symm.pairwise h3 (fun {a b} hab => by rw [meets_comm]; exact hab)
    have ei := List.getElem?_eq_some_iff.1 hs
    have ej := List.getElem?_eq_some_iff.1 ht
    have h5 := List.pairwise_iff_getElem.1 h4 j (j + 1) ei.1 ej.1 (by omega)
    have h6 := List.pairwise_iff_getElem.1 hl j (j + 1) ei.1 ej.1 (by omega)
    rw [ei.2, ej.2] at h5 h6
    have h7 := (fit_of (hf t (hp.mem_iff.1 (List.mem_of_getElem? ht)))).2.2.1
    unfold meets at h5
    rw [decide_eq_true (show s.a ≤ t.b by omega), decide_eq_true h] at h5
    cases h5
theorem new_err {ls ms : List Sp} {k : Nat} {s : Sp} (hf : ∀ t ∈ ls.take k, check [] t = 0) (hp : ms.Perm (ls.take k)) (hl : Low ms) (ha : Apart ms) (hs : ls[k]? = some s) (hx : check [] s ≠ 0) : addAll [] ls = .error (check [] s) := by
  have h1 := (new_ok hf hp hl ha).1
  have hlt := (List.getElem?_eq_some_iff.1 hs).1
  have e : ls[k] = s := (List.getElem?_eq_some_iff.1 hs).2
  have h2 := addAll_append (ls.take k) (ls.drop k) [] ms h1
  rw [List.take_append_drop, List.drop_eq_getElem_cons hlt, e, addAll, check_unfit hx, if_neg hx] at h2
  exact h2
end Go.Proofs.YtfakohoamgogoaaGreatDoor.Pq

namespace Go.Proofs.YtfakohoamgogoaaGreatDoor.Pq
open Go.RowKit Go.Sort Go.Shelf

def OvlPost (ms : List Sp) (w : World) (e : Ending) (w' : World) : Prop :=
  Below w.heap.size w w' ∧ ((e = .returned (.bool false) ∧ Apart ms) ∨ (e = .returned (.bool true) ∧ ∃ (j : Nat) (s t : Sp), ms[j]? = some s ∧ ms[j + 1]? = some t ∧ t.a ≤ s.b))
def OvlRel (ms : List Sp) (w : World) (i : Value) (wr : World) : Prop :=
  Below w.heap.size w wr ∧ ∃ k : Nat, i = .int .i64 k ∧ k ≤ ms.length ∧ ∀ (j : Nat) (s t : Sp), j + 1 < k → ms[j]? = some s → ms[j + 1]? = some t → s.b < t.a
theorem apart_more {ms : List Sp} {k : Nat} {s t : Sp} (h : ∀ (j : Nat) (s t : Sp), j + 1 < k + 1 → ms[j]? = some s → ms[j + 1]? = some t → s.b < t.a) (hs : ms[k]? = some s) (ht : ms[k + 1]? = some t) (hlt : s.b < t.a) :
    ∀ (j : Nat) (s t : Sp), j + 1 < k + 1 + 1 → ms[j]? = some s → ms[j + 1]? = some t → s.b < t.a := by
  intro j s' t' hj hs' ht'
  by_cases e : j = k
  · subst e
    rw [hs] at hs'; rw [ht] at ht'
    cases hs'; cases ht'
    exact hlt
  · exact h j s' t' (by omega) hs' ht'
set_option maxRecDepth 100000 in
set_option maxHeartbeats 2000000 in
theorem overlap29 (A : Option Addr) (n ca : Nat) (ms : List Sp) (w : World) (hV : SAt w A n ms) (hn : n ≤ 100000) :
    Calls Tryz.prog 134 #[.slice A n ca] w (OvlPost ms w) := by
  have HV := Lib.hid hV
  have HL := Lib.hid hV.1
  clear hV
  go_enter Tryz.func134, Tryz.ntmps134
  go_wp2
  go_loopw [7] (fun i wr => OvlRel ms w i wr) (fun i _ => n - (intOf i).toNat)
  case atStart => exact ⟨Below.refl _ _, 0, rfl, Nat.zero_le _, fun j s t hj => absurd hj (by omega)⟩
  case round =>
    obtain ⟨hbel, k, rfl, hkn, hap⟩ := hrel
    rw [HL.out] at hkn
    by_cases hlt : k < n
    · obtain ⟨b, off, rfl, hblt, hc⟩ := (HV.out.below hbel).2 (by omega)
      obtain ⟨t, ht⟩ := getSp (ls := ms) (k := k) (by rw [HL.out]; exact hlt)
      obtain ⟨h1, h2, h3⟩ := hc k t ht
      have HB := Lib.hid (fun o => hbel.alloc hbel.size o)
      obtain ⟨T, hT⟩ : ∃ T, bs t.v = T := ⟨_, rfl⟩
      rw [hT] at h3
      cases k with
      | zero =>
        clear hc hap hT ht
        simp only [Nat.zero_mul, Nat.add_zero] at h1 h2 h3
        have g0 : decide ((0 : Int) < ((0 : Nat) : Int)) = false := by simp
        go_wp2
        go_quiet (fail)
        go_wp2
        go_roundw
        case rel => exact ⟨below_drewN (HB.out _) _, 1, by go_num, by rw [HL.out]; omega, fun j s t hj => absurd hj (by omega)⟩
        case measure => simp [intOf]; omega
      | succ k =>
        obtain ⟨s, hs⟩ := getSp (ls := ms) (k := k) (by rw [HL.out]; omega)
        obtain ⟨k1, k2, k3⟩ := hc k s hs
        have HM := Lib.hid (apart_more hap hs ht)
        have HS := Lib.hid hs
        have HT := Lib.hid ht
        have k2' := fun o => box_cell o k2
        clear hc hap hT ht hs
        by_cases g : t.a ≤ s.b
        · go_wp2
          have e1 := k2' (.cells #[.int .i64 t.a, .int .i64 t.b, .string T] 168)
          have e2 : (wr.alloc (.cells #[.int .i64 t.a, .int .i64 t.b, .string T] 168)).cell? ⟨wr.heap.size, 0, none⟩ = some (.int .i64 t.a) := by simp
          have e3 := HB.out (.cells #[.int .i64 t.a, .int .i64 t.b, .string T] 168)
          obtain ⟨W, hW⟩ : ∃ W, wr.alloc (.cells #[.int .i64 t.a, .int .i64 t.b, .string T] 168) = W := ⟨_, rfl⟩
          obtain ⟨l, hl⟩ : ∃ l, wr.heap.size = l := ⟨_, rfl⟩
          rw [hW] at e1 e2 e3 ⊢
          rw [hl] at e2 ⊢
          clear hW hl h1 h2 h3 k1 k2 k3 k2'
          have g0 : (0 : Int) < ((k : Int) + 1) := by omega
          go_quiet (fail)
          go_wp2
          go_ret
          exact ⟨below_drewN e3 _, .inr ⟨rfl, k, s, t, HS.out, HT.out, g⟩⟩
        · have g' : s.b < t.a := by omega
          go_wp2
          have e1 := k2' (.cells #[.int .i64 t.a, .int .i64 t.b, .string T] 168)
          have e2 : (wr.alloc (.cells #[.int .i64 t.a, .int .i64 t.b, .string T] 168)).cell? ⟨wr.heap.size, 0, none⟩ = some (.int .i64 t.a) := by simp
          have e3 := HB.out (.cells #[.int .i64 t.a, .int .i64 t.b, .string T] 168)
          obtain ⟨W, hW⟩ : ∃ W, wr.alloc (.cells #[.int .i64 t.a, .int .i64 t.b, .string T] 168) = W := ⟨_, rfl⟩
          obtain ⟨l, hl⟩ : ∃ l, wr.heap.size = l := ⟨_, rfl⟩
          rw [hW] at e1 e2 e3 ⊢
          rw [hl] at e2 ⊢
          clear hW hl h1 h2 h3 k1 k2 k3 k2'
          have g0 : (0 : Int) < ((k : Int) + 1) := by omega
          go_quiet (fail)
          go_wp2
          go_roundw
          case rel => exact ⟨below_drewN e3 _, k + 1 + 1, by go_num, by rw [HL.out]; omega, HM.out g'⟩
          case measure => simp [intOf]; omega
    · have hke : k = n := by omega
      subst hke
      have HA : Hid (Apart ms) := Lib.hid fun j s t hs ht => hap j s t (by have := (List.getElem?_eq_some_iff.1 ht).1; rw [HL.out] at this; exact this) hs ht
      clear hap
      go_wp2
      go_ret
      exact ⟨hbel, .inl ⟨rfl, HA.out⟩⟩
end Go.Proofs.YtfakohoamgogoaaGreatDoor.Pq
