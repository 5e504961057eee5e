/- The program's pairs: what stands between two rows; no walk. -/
/- Plain words: a set of code points as words of 64 bits; no program is spoken of. -/
/- Zeros put behind a row of the call's own; no program is spoken of. -/
/- The program's set of code points: making room. -/
/- Small words on spans and where slices may lie. -/
/- What the program's Points of property files hands back. -/
import Derived.Test.YtfakohoamgogoaaGreatDoorQt12
import Derived.Test.YtfakohoamgogoaaGreatDoorQt23
import Derived.Test.YtfakohoamgogoaaGreatDoorQt05
import Derived.Test.YtfakohoamgogoaaGreatDoorQt04
import Derived.Test.YtfakohoamgogoaaGreatDoorQt02
import Derived.Lib.AppendZerosOnto
import Derived.Laws.OwnMore
import Derived.Test.YtfakohoamgogoaaGreatDoorQt14
import Derived.Test.YtfakohoamgogoaaGreatDoorProg
import Derived.Deep.AppendLies
import Derived.BigQuiet
import Derived.Test.YtfakohoamgogoaaGreatDoorQt11
import Derived.Test.YtfakohoamgogoaaGreatDoorQt09
import Derived.Shelf.Abstract
import Derived.Shelf.RegionOpen
import Derived.OwnWalkIn
import Derived.TacticsInMore
import Derived.LoopNIn
import Derived.LoopIn
import Derived.Maps.OwnIn
namespace Go.Proofs.YtfakohoamgogoaaGreatDoor
open Go.RowKit Go.Shelf

/-- What the files say is as Load asks it. -/
structure Szs (ps : List Uc.Pr) (sp : Nat → List Pq.Sp) : Prop where
  good : Uc.Good ps
  flat : FlatR ps
  few : ps.length ≤ 2000
  low : ∀ r ∈ ps, ∀ d ∈ r.dec, d ≤ 1114111
  spg : ∀ i, Pq.Good (sp i)
  spf : ∀ i, (sp i).length ≤ 10000
  ex : ∀ s ∈ sp 0, s.v = exclV
  ign : ∀ s ∈ sp 1, s.v = ignV
theorem value_of {ls : List Pq.Sp} {v : List UInt8} (h : ∀ s ∈ ls, s.v = v) (c : Int) : Pq.valueOf ls c = [] ∨ Pq.valueOf ls c = v := by
  induction ls with
  | nil => exact .inl rfl
  | cons s l ih =>
    rw [Pq.value_cons]
    split
    · exact .inr (h s (List.mem_cons_self ..))
    · exact ih (fun t ht => h t (List.mem_cons_of_mem _ ht))
theorem has_is {ls : List Pq.Sp} {v : List UInt8} (hv : v ≠ []) (h : ∀ s ∈ ls, s.v = v) (c : Int) : Pq.hasOf ls c v = decide (¬ Pq.valueOf ls c = []) := by
  unfold Pq.hasOf
  rw [decide_eq_true hv, Bool.true_and]
  refine decide_eq_decide.2 ?_
  rcases value_of h c with e | e
  · rw [e]; exact ⟨fun h => absurd h.symm hv, fun h => absurd rfl h⟩
  · rw [e]; exact ⟨fun _ => hv, fun _ => rfl⟩
/-- What isMade hands back, of a row. -/
theorem made99 (b : Nat) (ps : List Uc.Pr) (sp : Nat → List Pq.Sp) (cf : List Cf.Pp) (s : Uc.Rw) (r : Uc.Pr) (w : World) (h : PF w b ps sp cf) (hs : Szs ps sp) (hr : Uc.Is w s r) :
    Calls Tryz.prog 106 #[.pointer (some ⟨b, 0, none⟩), Uc.rwV s] w fun e w' => e = .returned (.bool (decide (¬ idle (sp 0) ps r))) ∧ Below w.heap.size w w' := by
  obtain ⟨p, A, c, ls, h1, h2, h3⟩ := h.uni
  obtain ⟨p0, A0, c0, k1, k2⟩ := h.prs 0 (by omega)
  have hl := h3.len
  have hsp := hs.spg 0
  refine (made99_at b p A c ls p0 A0 c0 (sp 0) s (dec0 r) w h1 k1 h2 (by rw [hl]; have := hs.few; omega) (Uc.ist_rises h3 hs.good) k2 (by have := hs.spf 0; omega) hsp.1 (fun t ht => (hsp.2 t ht).2.2.1) (fun hd => ?_)).mono ?_
  · obtain ⟨b2, off, e, hlt, hc⟩ := hr.2.2.2.2.2.2.2 (by omega)
    have hlen : r.dec.length = 2 := by rw [← hr.2.2.2.2.2.1]; exact hd
    refine ⟨b2, off, e, ?_⟩
    have := hc 0 (.int .i64 (dec0 r)) (by
      unfold dec0 nums
      rw [List.getElem?_map, List.getElem?_map]
      match hh : r.dec, hlen with
      | [x, y], _ => rfl)
    exact this
  · rintro e w' ⟨rfl, hb⟩
    refine ⟨?_, hb⟩
    have e1 : (Uc.atOf ls (dec0 r)).ccc = (Uc.patOf ps (dec0 r)).ccc := (Uc.ist_at _ h3).2.2.2.1
    rw [e1, hr.2.2.2.2.2.1, hr.2.2.2.1, hr.1, has_is (by decide) hs.ex]
    have : madeV r.dec.length r.ccc (Uc.patOf ps (dec0 r)).ccc (decide (¬ Pq.valueOf (sp 0) r.a = [])) = decide (¬ idle (sp 0) ps r) := by
      unfold madeV idle
      by_cases q1 : r.dec.length = 2 <;> by_cases q2 : r.ccc = 0 <;> by_cases q3 : (Uc.patOf ps (dec0 r)).ccc = 0 <;> by_cases q4 : Pq.valueOf (sp 0) r.a = [] <;> simp [q1, q2, q3, q4]
    rw [this]
theorem mkp_idle {ex : List Pq.Sp} {ps : List Uc.Pr} {out : List (Int × Int × Int)} {r : Uc.Pr} {l : List Uc.Pr} (h : idle ex ps r) : mkP ex ps out (r :: l) = mkP ex ps out l := by rw [mkP, if_pos h]
theorem mkp_add {ex : List Pq.Sp} {ps : List Uc.Pr} {out : List (Int × Int × Int)} {r : Uc.Pr} {l : List Uc.Pr} (h : ¬ idle ex ps r) (hn : findM out (dec0 r) (dec1 r) = none) : mkP ex ps out (r :: l) = mkP ex ps (out ++ [(r.a, dec0 r, dec1 r)]) l := by rw [mkP, if_neg h, if_pos hn]
theorem mkp_twice {ex : List Pq.Sp} {ps : List Uc.Pr} {out : List (Int × Int × Int)} {r : Uc.Pr} {l : List Uc.Pr} (h : ¬ idle ex ps r) (hn : ¬ findM out (dec0 r) (dec1 r) = none) : mkP ex ps out (r :: l) = none := by rw [mkP, if_neg h, if_neg hn]
theorem drop_next {α : Type} {ps pre : List α} {p : α} (h : pre ++ [p] <+: ps) : ps.drop pre.length = p :: ps.drop (pre.length + 1) := by
  obtain ⟨r, rfl⟩ := h
  simp
/-- Between two rows: the boxes at H, H + 1, H + 2, the map at H + 3, its box at H + 4. -/
structure PrB (H b : Nat) (W : World) (rm : Value) (re : Int) : Prop where
  bd : W.cell? ⟨H, 0, none⟩ = some (.pointer (some ⟨b, 0, none⟩))
  rm : W.cell? ⟨H + 1, 0, none⟩ = some rm ∧ W.frozen? ⟨H + 1, 0, none⟩ = false
  re : W.cell? ⟨H + 2, 0, none⟩ = some (.int .i64 re) ∧ W.frozen? ⟨H + 2, 0, none⟩ = false
  mb : W.cell? ⟨H + 4, 0, none⟩ = some (.map (some (H + 3)))
theorem prB_abide {H b B : Nat} (rm : Value) (re : Int) : Abide 0 0 B (fun (_ : Unit) W => PrB H b W rm re) := by
  intro _ W W' row h hg hr
  exact ⟨Pq.cell_abide (β := Unit) (B := B) _ _ () W W' row h.bd hg hr, abide_cell (β := Unit) (n₀ := 0) (n₁ := 0) (B := B) (fun _ => ⟨H + 1, 0, none⟩) (fun _ => rm) (fun _ => by omega) () W W' row h.rm hg hr, abide_cell (β := Unit) (n₀ := 0) (n₁ := 0) (B := B) (fun _ => ⟨H + 2, 0, none⟩) (fun _ => .int .i64 re) (fun _ => by omega) () W W' row h.re hg hr, Pq.cell_abide (β := Unit) (B := B) _ _ () W W' row h.mb hg hr⟩
def PrI (w : World) (b : Nat) (ex : List Pq.Sp) (ps : List Uc.Pr) (pre : List Uc.RwP) (W : World) : Prop :=
  ∃ (n : Nat) (D : DataW Value) (out : List (Int × Int × Int)), (mkP ex ps out (ps.drop pre.length) = mkP ex ps [] ps ∧ n ≤ pre.length ∧ out.length ≤ pre.length) ∧ (W.ownsMap Tryz.prog 193 (plainElem (H := Value) Tryz.prog 3) (w.heap.size + 3) n D ∧ MkIs D out) ∧ (PrB w.heap.size b W (.map none) 0 ∧ Below w.heap.size w W)
def PrX (w : World) (b : Nat) (ex : List Pq.Sp) (ps : List Uc.Pr) (c : Code) (_pre : List Uc.RwP) (W : World) : Prop :=
  (c = .ret ∧ mkP ex ps [] ps = none) ∧ (PrB w.heap.size b W (.map none) 15 ∧ Below w.heap.size w W)
theorem pri_abide (w : World) (b B : Nat) (ex : List Pq.Sp) (ps : List Uc.Pr) (hB : w.heap.size + 4 ≤ B) : Abide 0 0 B (PrI w b ex ps) := by
  intro pre W W' row ⟨n, D, out, h1, ⟨h2, h3⟩, h4, h5⟩ hg hr
  exact ⟨n, D, out, h1, ⟨h2.kept hg (fun e => by rcases hr _ e.symm with h | h <;> omega), h3⟩, prB_abide (B := B) _ _ () W W' row h4 hg hr, abide_below (β := Unit) w (.inr (by omega)) (by omega) (Nat.le_refl _) () W W' row h5 hg hr⟩
theorem prx_abide (w : World) (b B : Nat) (ex : List Pq.Sp) (ps : List Uc.Pr) (hB : w.heap.size ≤ B) (c : Code) : Abide 0 0 B (PrX w b ex ps c) := by
  intro pre W W' row ⟨h0, h4, h5⟩ hg hr
  exact ⟨h0, prB_abide (B := B) _ _ () W W' row h4 hg hr, abide_below (β := Unit) w (.inr (by omega)) hB (Nat.le_refl _) () W W' row h5 hg hr⟩
/-- What a round keeps. -/
def PrA (H k : Nat) : Prop := k ≠ H + 1 ∧ k ≠ H + 2 ∧ k ≠ H + 3
/-- What pairs hands back. -/
def PairsPost (ex : List Pq.Sp) (ps : List Uc.Pr) (w : World) (e : Ending) (w' : World) : Prop :=
  Below w.heap.size w w' ∧ ((∃ ms m n D, mkP ex ps [] ps = some ms ∧ e = .returned (.tuple #[.map (some m), .int .i64 0]) ∧ (w'.ownsMap Tryz.prog 193 (plainElem (H := Value) Tryz.prog 3) m n D ∧ MkIs D ms)) ∨ (mkP ex ps [] ps = none ∧ e = .returned (.tuple #[.map none, .int .i64 15])))
/-- The world once all stands. -/
def firstP (w : World) (b : Nat) : World := ((((w.alloc (.cells #[.pointer (some ⟨b, 0, none⟩)] 28)).alloc (.cells #[.map none] 71)).alloc (.cells #[.int .i64 0] 40)).alloc (.map #[] 0)).alloc (.cells #[.map (some (w.heap.size + 3))] 71)
theorem firstP_size (w : World) (b : Nat) : (firstP w b).heap.size = w.heap.size + 5 := by unfold firstP; simp
theorem firstP_below (w : World) (b : Nat) : Below w.heap.size w (firstP w b) := by
  unfold firstP
  exact (((((Below.refl _ _).alloc (Nat.le_refl _) _).alloc (by simp) _).alloc (by simp; omega) _).alloc (by simp; omega) _).alloc (by simp; omega) _
theorem pr_start (w : World) (b : Nat) (ex : List Pq.Sp) (ps : List Uc.Pr) : PrI w b ex ps [] (firstP w b) := by
  have m1 := World.ownsMap_made (((w.alloc (.cells #[.pointer (some ⟨b, 0, none⟩)] 28)).alloc (.cells #[.map none] 71)).alloc (.cells #[.int .i64 0] 40)) Tryz.prog 193 (plainElem (H := Value) Tryz.prog 3)
  rw [World.size_alloc, World.size_alloc, World.size_alloc] at m1
  refine ⟨0, .map [], [], ⟨rfl, Nat.le_refl _, Nat.le_refl _⟩, ⟨m1.alloc _, mkIs_nil⟩, ⟨?_, ⟨?_, ?_⟩, ⟨?_, ?_⟩, ?_⟩, firstP_below w b⟩
  · unfold firstP
    rw [old_at _ _ _ _ (by simp <;> omega), old_at _ _ _ _ (by simp <;> omega), old_at _ _ _ _ (by simp <;> omega), old_at _ _ _ _ (by simp <;> omega), new_at _ _ _ _ _ rfl]; rfl
  · unfold firstP
    rw [old_at _ _ _ _ (by simp <;> omega), old_at _ _ _ _ (by simp <;> omega), old_at _ _ _ _ (by simp <;> omega), new_at _ _ _ _ _ (by simp <;> omega)]; rfl
  · unfold firstP
    rw [old_fro _ _ _ _ (by simp <;> omega), old_fro _ _ _ _ (by simp <;> omega), old_fro _ _ _ _ (by simp <;> omega)]; exact new_fro _ _ _ _ _ (by simp <;> omega)
  · unfold firstP
    rw [old_at _ _ _ _ (by simp <;> omega), old_at _ _ _ _ (by simp <;> omega), new_at _ _ _ _ _ (by simp <;> omega)]; rfl
  · unfold firstP
    rw [old_fro _ _ _ _ (by simp <;> omega), old_fro _ _ _ _ (by simp <;> omega)]; exact new_fro _ _ _ _ _ (by simp <;> omega)
  · unfold firstP
    rw [new_at _ _ _ _ _ (by simp <;> omega)]; rfl
end Go.Proofs.YtfakohoamgogoaaGreatDoor

namespace Go.Proofs.YtfakohoamgogoaaGreatDoor.Pq
open Go.RowKit

def word (ws : List Nat) (k : Nat) : Nat := ws.getD k 0
def hasC (ws : List Nat) (c : Nat) : Bool := (word ws (c / 64)).testBit (c % 64)
def putC (ws : List Nat) (c : Nat) : List Nat := ws.set (c / 64) (word ws (c / 64) ||| 2 ^ (c % 64))
def Small (ws : List Nat) : Prop := ∀ x ∈ ws, x < 18446744073709551616
def words (ws : List Nat) : List Value := ws.map fun x : Nat => Value.int .u64 (x : Int)
theorem words_get {ws : List Nat} {k : Nat} (h : k < ws.length) : (words ws)[k]? = some (.int .u64 (word ws k : Int)) := by
  unfold words word
  rw [List.getElem?_map, List.getElem?_eq_getElem h]
  simp [List.getD_eq_getElem?_getD, List.getElem?_eq_getElem h]
theorem put_len (ws : List Nat) (c : Nat) : (putC ws c).length = ws.length := List.length_set
theorem put_has {ws : List Nat} {c : Nat} (h : c / 64 < ws.length) (d : Nat) : hasC (putC ws c) d = (hasC ws d || decide (c = d)) := by
  unfold hasC putC
  by_cases hw : c / 64 = d / 64
  · have e : word (ws.set (c / 64) (word ws (c / 64) ||| 2 ^ (c % 64))) (d / 64) = word ws (d / 64) ||| 2 ^ (c % 64) := by
      rw [← hw]
      unfold word
      rw [List.getD_eq_getElem?_getD, List.getElem?_set_self h]
      rfl
    rw [e, Nat.testBit_or, Nat.testBit_two_pow]
    congr 1
    rw [decide_eq_decide]
    omega
  · have e : word (ws.set (c / 64) (word ws (c / 64) ||| 2 ^ (c % 64))) (d / 64) = word ws (d / 64) := by
      unfold word
      simp only [List.getD_eq_getElem?_getD, List.getElem?_set_ne hw]
    rw [e]
    have : ¬ c = d := fun h => hw (by rw [h])
    rw [decide_eq_false this, Bool.or_false]
theorem word_lt {ws : List Nat} (h : Small ws) (k : Nat) : word ws k < 18446744073709551616 := by
  unfold word
  rw [List.getD_eq_getElem?_getD]
  cases hk : ws[k]? with
  | none => simp
  | some x => exact h x (List.mem_of_getElem? hk)
theorem put_small {ws : List Nat} (h : Small ws) (c : Nat) : Small (putC ws c) := by
  intro x hx
  unfold putC at hx
  rcases List.mem_or_eq_of_mem_set hx with hx | rfl
  · exact h x hx
  · exact Nat.or_lt_two_pow (n := 64) (word_lt h _) (Nat.pow_lt_pow_right (by decide) (Nat.mod_lt _ (by decide)))
/-- More words, all of them empty. -/
def moreW (ws : List Nat) (n : Nat) : List Nat := ws ++ List.replicate n 0
theorem more_word (ws : List Nat) (n k : Nat) : word (moreW ws n) k = word ws k := by
  unfold word moreW
  rw [List.getD_eq_getElem?_getD, List.getD_eq_getElem?_getD]
  rcases Nat.lt_or_ge k ws.length with h | h
  · rw [List.getElem?_append_left h]
  · rw [List.getElem?_append_right h, List.getElem?_eq_none h, List.getElem?_replicate]
    split <;> rfl
theorem more_has (ws : List Nat) (n c : Nat) : hasC (moreW ws n) c = hasC ws c := by unfold hasC; rw [more_word]
theorem more_small {ws : List Nat} (h : Small ws) (n : Nat) : Small (moreW ws n) := by
  intro x hx
  rcases List.mem_append.1 hx with hx | hx
  · exact h x hx
  · rw [List.eq_of_mem_replicate hx]; decide
theorem more_len (ws : List Nat) (n : Nat) : (moreW ws n).length = ws.length + n := by unfold moreW; simp
theorem more_words (ws : List Nat) (n : Nat) : words (moreW ws n) = words ws ++ List.replicate n (.int .u64 0) := by unfold words moreW; simp
theorem nil_has (c : Nat) : hasC [] c = false := by unfold hasC word; simp
theorem words_set (ws : List Nat) (c : Nat) : words (putC ws c) = (words ws).set (c / 64) (.int .u64 ((word ws (c / 64) ||| 2 ^ (c % 64) : Nat) : Int)) := by unfold words putC; rw [List.map_set]

/-! Bits of a word. -/
theorem ofIntU (x : Nat) (h : x < 18446744073709551616) : (BitVec.ofInt 64 (x : Int)).toNat = x := by
  rw [BitVec.toNat_ofInt]
  omega
theorem wrapU (n : Nat) (h : n < 18446744073709551616) : IntKind.u64.wrap (n : Int) = n := by
  simp [IntKind.wrap, IntKind.bits, IntKind.signed]
  omega
theorem pow_lt64 {k : Nat} (h : k < 64) : 2 ^ k < 18446744073709551616 := Nat.pow_lt_pow_right (n := 64) (by decide) h
theorem andU (x y : Nat) (hx : x < 18446744073709551616) (hy : y < 18446744073709551616) : bits .and .u64 (x : Int) (y : Int) = ((x &&& y : Nat) : Int) := by
  show IntKind.u64.wrap ((BitVec.ofInt 64 (x : Int) &&& BitVec.ofInt 64 (y : Int)).toNat : Int) = _
  rw [BitVec.toNat_and, ofIntU x hx, ofIntU y hy]
  exact wrapU _ (Nat.lt_of_le_of_lt Nat.and_le_left hx)
theorem orU (x y : Nat) (hx : x < 18446744073709551616) (hy : y < 18446744073709551616) : bits .or .u64 (x : Int) (y : Int) = ((x ||| y : Nat) : Int) := by
  show IntKind.u64.wrap ((BitVec.ofInt 64 (x : Int) ||| BitVec.ofInt 64 (y : Int)).toNat : Int) = _
  rw [BitVec.toNat_or, ofIntU x hx, ofIntU y hy]
  exact wrapU _ (Nat.or_lt_two_pow (n := 64) hx hy)
theorem and_pow (x k : Nat) : (x &&& 2 ^ k = 0) ↔ x.testBit k = false := by
  constructor
  · intro h
    have := congrArg (fun y => Nat.testBit y k) h
    simpa [Nat.testBit_and, Nat.testBit_two_pow_self] using this
  · intro h
    apply Nat.eq_of_testBit_eq
    intro i
    rw [Nat.testBit_and, Nat.testBit_two_pow, Nat.zero_testBit]
    by_cases e : k = i
    · subst e; rw [h]; rfl
    · rw [decide_eq_false e, Bool.and_false]
/-! What the words tell of the spans. -/
def Tells (ws : List Nat) (ls : List Sp) : Prop := Small ws ∧ ∀ c : Nat, hasC ws c = true ↔ ∃ s ∈ ls, s.a ≤ c ∧ c ≤ s.b
/-- So much of a span has been put in. -/
def Partly (ws0 ws : List Nat) (a c : Nat) : Prop := ws.length = ws0.length ∧ Small ws ∧ (∀ d, hasC ws d = (hasC ws0 d || decide (a ≤ d ∧ d < c))) ∧ ∀ d, a ≤ d → d < c → hasC ws0 d = false
theorem partly_nil {ws : List Nat} (h : Small ws) (a : Nat) : Partly ws ws a a := ⟨rfl, h, fun d => by rw [decide_eq_false (by omega), Bool.or_false], fun d h1 h2 => by omega⟩
theorem partly_old {ws0 ws : List Nat} {a c : Nat} (h : Partly ws0 ws a c) : hasC ws c = hasC ws0 c := by rw [h.2.2.1, decide_eq_false (by omega), Bool.or_false]
theorem partly_next {ws0 ws : List Nat} {a c : Nat} (h : Partly ws0 ws a c) (hac : a ≤ c) (hc : c / 64 < ws.length) (hn : hasC ws c = false) : Partly ws0 (putC ws c) a (c + 1) := by
  refine ⟨by rw [put_len, h.1], put_small h.2.1 c, fun d => ?_, fun d h1 h2 => ?_⟩
  · rw [put_has hc, h.2.2.1, Bool.or_assoc]
    congr 1
    rw [Bool.eq_iff_iff]
    simp only [Bool.or_eq_true, decide_eq_true_eq]
    omega
  · rcases Nat.lt_or_ge d c with hd | hd
    · exact h.2.2.2 d h1 hd
    · obtain rfl : d = c := by omega
      rw [← partly_old h]; exact hn
/-- What adding a span's code points comes to. -/
def AddsTo (ws0 : List Nat) (a b : Nat) : Bool → List Nat → Prop
  | true, ws => Small ws ∧ (∀ d, hasC ws d = (hasC ws0 d || decide (a ≤ d ∧ d ≤ b))) ∧ ∀ d, a ≤ d → d ≤ b → hasC ws0 d = false
  | false, _ => ∃ d, a ≤ d ∧ d ≤ b ∧ hasC ws0 d = true
theorem adds_ok {ws0 ws : List Nat} {ls : List Sp} {s : Sp} {a b : Nat} (ht : Tells ws0 ls) (hf : ∀ t ∈ ls, t.a ≤ t.b ∧ 0 ≤ t.a) (ha : s.a = a) (hb : s.b = b) (hab : a ≤ b) (hs : Fit s) (h : AddsTo ws0 a b true ws) : check ls s = 0 ∧ Tells ws (ls ++ [s]) := by
  obtain ⟨h1, h2, h3⟩ := h
  refine ⟨check_ok.2 ⟨hs, fun t hm => ?_⟩, h1, fun c => ?_⟩
  · cases hmt : meets t s with
    | false => rfl
    | true =>
      exfalso
      unfold meets at hmt
      simp only [Bool.and_eq_true, decide_eq_true_eq] at hmt
      have hq := hf t hm
      obtain ⟨m, hm1, hm2, hm3, hm4⟩ : ∃ m : Nat, a ≤ m ∧ m ≤ b ∧ t.a ≤ m ∧ m ≤ t.b := by
        rcases Nat.lt_or_ge a t.a.toNat with h | h
        · exact ⟨t.a.toNat, by omega, by omega, by omega, by omega⟩
        · exact ⟨a, by omega, by omega, by omega, by omega⟩
      have := h3 m hm1 hm2
      rw [(ht.2 m).2 ⟨t, hm, hm3, hm4⟩] at this
      cases this
  · rw [h2]
    simp only [Bool.or_eq_true, decide_eq_true_eq, List.mem_append, List.mem_singleton]
    rw [ht.2 c]
    constructor
    · rintro (⟨t, h4, h5⟩ | ⟨h4, h5⟩)
      · exact ⟨t, .inl h4, h5⟩
      · exact ⟨s, .inr rfl, by omega, by omega⟩
    · rintro ⟨t, h4 | rfl, h5⟩
      · exact .inl ⟨t, h4, h5⟩
      · exact .inr ⟨by omega, by omega⟩
theorem adds_no {ws0 ws : List Nat} {ls : List Sp} {s : Sp} {a b : Nat} (ht : Tells ws0 ls) (ha : s.a = a) (hb : s.b = b) (hs : Fit s) (h : AddsTo ws0 a b false ws) : check ls s = 15 := by
  obtain ⟨d, h1, h2, h3⟩ := h
  obtain ⟨t, h4, h5, h6⟩ := (ht.2 d).1 h3
  have hany : ls.any (meets · s) = true := by
    rw [List.any_eq_true]
    refine ⟨t, h4, ?_⟩
    unfold meets
    simp only [Bool.and_eq_true, decide_eq_true_eq]
    omega
  obtain ⟨f1, f2, f3, f4⟩ := hs
  unfold check
  rw [if_neg (by omega), if_neg f4, if_pos hany]
theorem tells_nil : Tells [] [] := ⟨fun x h => (by cases h), fun c => by rw [nil_has]; simp⟩
end Go.Proofs.YtfakohoamgogoaaGreatDoor.Pq

namespace Go.Proofs.YtfakohoamgogoaaGreatDoor
open Go.RowKit

theorem zero_cells (z : Value) (hz : z.cells = #[z]) (n : Nat) : (Builtin.zeroCells z.cells n).toList = List.replicate n z := by
  rw [hz]
  apply List.ext_getElem?
  intro j
  by_cases hj : j < n
  · simp [Builtin.zeroCells, hj, Nat.mod_one]
  · simp [Builtin.zeroCells, hj]
theorem run_zeros_room {P : Program} (w : World) (t tn ty e : TypeId) (i : TypeInfo) (z : Value) (kq kn : IntKind) (ht : P.underlying t = some (.slice e)) (htn : P.underlying tn = some (.int kn)) (hi : P.info? e = some i) (hz : i.zero = some z) (hsize : i.size = 1) (hz1 : z.cells = #[z]) (ho1 : z.oneCell' = true)
    (g sLen sCap k : Nat) (cur : Array Value) (hg : w.heap[g]? = some (.cells cur e (0, 0))) (h0 : 0 < k) (h63 : (k : Int) ≤ 9223372036854775807) (h48 : k * i.bytes ≤ 281474976710656) (hroom : sLen + k ≤ sCap) (hfit : sLen + k ≤ cur.size) :
    (Builtin.append_ #[t, tn] ty #[.slice (some ⟨g, 0, none⟩) sLen sCap, .int kq k]).run P w =
      .ok (.slice (some ⟨g, 0, none⟩) (sLen + k) sCap) (w.setRow g (cur.toList.take sLen ++ List.replicate k z ++ cur.toList.drop (sLen + k)).toArray) := by
  have hst := run_storeCells_at P g sLen e (List.replicate k z) 0 cur w hg (by simpa using hfit) (fun u hu => by rw [List.eq_of_mem_replicate hu]; exact ho1)
  simp only [Nat.add_zero, List.length_replicate] at hst
  have hk : k ≠ 0 := by omega
  have hw : IntKind.i64.wrap (k : Int) = k := by rw [IntKind.wrap_i64]; omega
  have h48i : ¬ (281474976710656 < (k : Int) * (i.bytes : Int)) := by
    rw [← Int.natCast_mul]
    omega
  have hneg : ¬ ((k : Int) < 0) := by omega
  have hzc := zero_cells z hz1 k
  simp [Builtin.append_, run_underlying ht, run_underlying htn, sizeOf, typeInfo, zeroValue, hi, hz, asInt, asIntOf, hw, hk, hneg, hsize, h48i, hroom, Addr.add_lit, hzc, hst]
/-- A number of zeros behind a row, whatever its room. -/
theorem run_append_own_zeros {P : Program} (w : World) (base : Nat) (t tn ty e : TypeId) (i : TypeInfo) (z : Value) (bytes : Nat) (kq kn : IntKind) (ht : P.underlying t = some (.slice e)) (htn : P.underlying tn = some (.int kn)) (hi : P.info? e = some i) (hz : i.zero = some z)
    (hsize : i.size = 1) (hby : i.bytes = bytes) (hz1 : z.cells = #[z]) (ho1 : z.oneCell' = true)
    (v : Value) (n : Nat) (xs : List Value) (hown : w.ownsRow base e 1 v n xs) (k : Nat) (h0 : 0 < k) (h63 : n + k ≤ maxLen) (hbytes : (n + k) * bytes ≤ 140737488355328) (hbase : base ≤ w.heap.size) :
    ∃ v' w', (Builtin.append_ #[t, tn] ty #[v, .int kq k]).run P w = .ok v' w' ∧ w'.ownsRow base e 1 v' (n + k) (xs ++ List.replicate k z) ∧ w.grownBy w' v.ownBlock ∧ ∀ j, j < w.heap.size → v'.ownBlock = some j → v.ownBlock = some j := by
  subst hby
  have hsmall : n + k ≤ 9223372036854775807 := by simp only [maxLen] at h63; omega
  have hxs : xs.length = n := by have := hown.1; omega
  have hkb : k * i.bytes ≤ 281474976710656 := by
    have : k * i.bytes ≤ (n + k) * i.bytes := Nat.mul_le_mul_right _ (by omega)
    omega
  have hlen : (xs ++ List.replicate k z).length = (n + k) * 1 := by rw [List.length_append, hxs, List.length_replicate]; omega
  have hzk := zero_cells z hz1
  have grown : ∀ (old : Nat), old < n + k → ∀ (row : Option Nat),
      (w.drew.alloc (.cells (xs.toArray ++ Builtin.zeroCells z.cells k ++ Builtin.zeroCells z.cells (grownCap w (n + k) old e - (n + k))) e)).ownsRow base e 1
        (.slice (some ⟨w.heap.size, 0, none⟩) (n + k) (grownCap w (n + k) old e)) (n + k) (xs ++ List.replicate k z) ∧
      w.grownBy (w.drew.alloc (.cells (xs.toArray ++ Builtin.zeroCells z.cells k ++ Builtin.zeroCells z.cells (grownCap w (n + k) old e - (n + k))) e)) row := by
    intro old ho row
    have hge := grownCap_ge w (n + k) old e
    have hcm : grownCap w (n + k) old e ≤ maxLen := grownCap_le_maxLen w (n + k) old e h63
    refine ⟨⟨hlen, .inr ⟨w.heap.size, _, _, rfl, hbase, heap_alloc_new w.drew _, hge, hcm, ?_, ?_⟩⟩, ⟨rfl, rfl, rfl, by simp, fun k hk _ => Below.heap_alloc w.drew _ k hk⟩⟩
    · simp only [Array.size_append, List.size_toArray, size_zeroCells, hz1, hxs, List.length_cons, List.length_nil]
      omega
    · simp only [Array.toList_append, List.append_assoc, hzk]
      rw [← List.append_assoc, ← hlen]
      exact List.take_left
  rcases hown.2 with ⟨rfl, rfl⟩ | ⟨g, cap, cur, rfl, hbg, hg, hnc, hcm, hcs, htake⟩
  · have hx : xs = [] := List.eq_nil_of_length_eq_zero hxs
    subst hx
    have hr := Lib.run_append_nil_zeros (P := P) w t tn ty e i z kq kn ht htn hi hz k h0 (by omega) (by omega) hkb
    have hgr := grown 0 (by omega) (Value.ownBlock (.slice none 0 0))
    simp only [Nat.zero_add, List.nil_append, Array.empty_append] at hgr ⊢
    exact ⟨_, _, hr, hgr.1, hgr.2, fun j hj e => by cases e; exact absurd hj (Nat.lt_irrefl _)⟩
  · by_cases hroom : n + k ≤ cap
    · have hr := run_zeros_room (P := P) w t tn ty e i z kq kn ht htn hi hz hsize hz1 ho1 g n cap k cur hg h0 (by omega) hkb hroom (by omega)
      refine ⟨_, _, hr, ⟨hlen, .inr ⟨g, cap, _, rfl, hbg, setRow_heap w g cur _ e _ hg, hroom, hcm, ?_, ?_⟩⟩, ⟨rfl, rfl, rfl, by simp, fun k _ hk => setRow_other w g k _ (fun e => hk (by simp [Value.ownBlock, e]))⟩, fun j _ e => e⟩
      · simp only [List.size_toArray, List.length_append, List.length_take, List.length_drop, Array.length_toList, List.length_replicate]
        omega
      · rw [Nat.mul_one] at htake
        rw [htake, ← hlen]
        exact List.take_left
    · have hold : (Builtin.firstCells i.size n (.slice (some ⟨g, 0, none⟩) n cap)).run P w.drew = .ok xs.toArray w.drew := run_firstCells_some (P := P) w.drew i.size n ⟨g, 0, none⟩ n cap xs (by rw [hsize]; omega) (fun j u hj => hown.cells (g := g) rfl j u hj)
      have hr := Lib.run_append_grow_zeros (P := P) w t tn ty e i z kq kn ht htn hi hz (some ⟨g, 0, none⟩) n cap xs hold k h0 (by omega) (by omega) (by omega) hkb (growslice_fits (by omega) hbytes)
      have hgr := grown cap (by omega) (Value.ownBlock (.slice (some ⟨g, 0, none⟩) n cap))
      exact ⟨_, _, hr, hgr.1, hgr.2, fun j hj e => by cases e; exact absurd hj (Nat.lt_irrefl _)⟩
end Go.Proofs.YtfakohoamgogoaaGreatDoor

namespace Go.Proofs.YtfakohoamgogoaaGreatDoor.Pq
open Go.RowKit Go.Shelf
attribute [local go_sem] Oper.semAt_some

/-- What a variable with a row does not own: not its block, nor the row's. -/
def GA (bo : Nat) (W : World) (k : Nat) : Prop := ∃ v, W.cell? ⟨bo, 0, none⟩ = some v ∧ k ≠ bo ∧ v.ownBlock ≠ some k
theorem ga_lets (bo : Nat) : Lets (GA bo) := fun _ _ _ _ ⟨v, h1, h2⟩ hg hr => ⟨v, cell_kept h1 hg hr, h2⟩
/-- The variable in block t holds a row of the call's own, from base on. -/
def RowAt (t base : Nat) (e : TypeId) (size n : Nat) (xs : List Value) (W : World) : Prop :=
  ∃ v, (W.cell? ⟨t, 0, none⟩ = some v ∧ W.frozen? ⟨t, 0, none⟩ = false) ∧ W.ownsRow base e size v n xs
theorem hold_two {R : Nat} {v : Value} {W W' : World} (hv : W.cell? ⟨R, 0, none⟩ = some v) (hs : W.heap.size ≤ W'.heap.size) (hk : ∀ k, k < W.heap.size → k ≠ R → v.ownBlock ≠ some k → W'.heap[k]? = W.heap[k]?)
    {v' : Value} (hv' : W'.cell? ⟨R, 0, none⟩ = some v') (ho : ∀ k, k < W.heap.size → v'.ownBlock = some k → v.ownBlock = some k) : Hold (GA R) W W' := by
  refine ⟨hs, fun k ⟨u, h1, h2, h3⟩ hlt => ?_⟩
  rw [hv] at h1
  cases h1
  exact ⟨hk k hlt h2 h3, v', hv', h2, fun e => h3 (ho k hlt e)⟩
theorem info101 : (Tryz.prog.info? 219).map (fun i => (i.zero, i.size, i.bytes)) = some (some (.int .u64 0), 1, 8) := by kernel_rfl
/-- The row has grown and is put into the variable. -/
theorem row_put {t base : Nat} {e : TypeId} {size n m : Nat} {xs ys : List Value} {v v' : Value} {W W2 : World} (hv : W.cell? ⟨t, 0, none⟩ = some v) (hf : W.frozen? ⟨t, 0, none⟩ = false) (ho : W.ownsRow base e size v n xs) (htb : t < base)
    (ho' : W2.ownsRow base e size v' m ys) (hg : W.grownBy W2 v.ownBlock) (hnew : ∀ k, k < W.heap.size → v'.ownBlock = some k → v.ownBlock = some k) :
    (W2.cell? ⟨t, 0, none⟩ = some v ∧ W2.frozen? ⟨t, 0, none⟩ = false) ∧ RowAt t base e size m ys (W2.setCell ⟨t, 0, none⟩ v') ∧ Hold (GA t) W (W2.setCell ⟨t, 0, none⟩ v') ∧ Below t W (W2.setCell ⟨t, 0, none⟩ v') := by
  have htl : t < W.heap.size := World.block_lt_of_cell? W _ hv
  have hgb : ∀ g, v.ownBlock = some g → base ≤ g := fun g e => (ho.lt g e).1
  have e0 : W2.heap[t]? = W.heap[t]? := hg.block t htl (fun e => by have := hgb t e.symm; omega)
  have c0 : W2.cell? ⟨t, 0, none⟩ = some v := (World.cell?_of_block e0).trans hv
  have f0 : W2.frozen? ⟨t, 0, none⟩ = false := (World.frozen?_of_block (a := ⟨t, 0, none⟩) e0).trans hf
  have c1 : (W2.setCell ⟨t, 0, none⟩ v').cell? ⟨t, 0, none⟩ = some v' := World.cell?_setCell_same' _ _ _ (by rw [c0]; rfl)
  refine ⟨⟨c0, f0⟩, ⟨v', ⟨c1, by rw [World.frozen?_setCell]; exact f0⟩, ?_⟩, hold_two hv (by rw [World.size_setCell]; exact hg.size) (fun k hk hkt hkv => ?_) c1 hnew, ?_⟩
  · exact ho'.kept (grownBy_setCell' W2 t v') (by
      cases hq : v'.ownBlock with
      | none => exact .inl rfl
      | some g => exact .inr (fun h => by cases h; have := (ho'.lt t hq).1; omega))
  · rw [heap_setCell_other _ ⟨t, 0, none⟩ k _ (fun e => hkt (by simpa using e))]
    exact hg.block k hk (fun e => hkv e.symm)
  · have hb : Below t W W2 := (Below.refl t W).grown hg (by omega) (fun g e => by have := hgb g e; omega)
    exact hb.setCell (p := ⟨t, 0, none⟩) (Nat.le_refl _) _
theorem row_some {base : Nat} {e : TypeId} {size n : Nat} {v : Value} {xs : List Value} {W : World} (h : W.ownsRow base e size v n xs) (hx : 0 < n) : ∃ g c, v = .slice (some ⟨g, 0, none⟩) n c ∧ base ≤ g ∧ g < W.heap.size := by
  rcases h.2 with ⟨-, h0⟩ | ⟨g, cap, cur, rfl, hb, hg, -⟩
  · omega
  · exact ⟨g, cap, rfl, hb, (Array.getElem?_eq_some_iff.1 hg).1⟩
theorem mx' {n : Nat} (h : n ≤ 100000) : n ≤ maxLen := by simp only [maxLen]; omega

def GrPost (t base b : Nat) (ws : List Nat) (W : World) (e : Ending) (W' : World) : Prop :=
  e = .returned (.tuple #[]) ∧ ∃ ws', Hid ((∃ m, ws' = moreW ws m) ∧ (b / 64 < ws'.length ∧ ws'.length ≤ 17408) ∧ RowAt t base 219 1 ws'.length (words ws') W' ∧ Hold (GA t) W W' ∧ Below t W W')
set_option maxRecDepth 100000 in
set_option maxHeartbeats 2000000 in
theorem grow46 (t base b : Nat) (ws : List Nat) (W : World) (hR : RowAt t base 219 1 ws.length (words ws) W) (hw : ws.length ≤ 17408) (hb : b ≤ 1114111) (htb : t < base) (hbase : base ≤ W.heap.size) :
    Calls Tryz.prog 129 #[.pointer (some ⟨t, 0, none⟩), .int .i64 (b : Int)] W (GrPost t base b ws W) := by
  obtain ⟨v, ⟨hv, hf⟩, ho⟩ := hR
  obtain ⟨i0, hi, hz0, hz1, hz2⟩ := info_parts info101
  have HO := Lib.hid ho
  obtain ⟨A, c, rfl, -⟩ := own_shape ho
  clear ho
  obtain ⟨q, hq⟩ : ∃ q : Nat, b / 64 = q := ⟨_, rfl⟩
  have hq2 : (b : Int) / 64 = (q : Int) := by omega
  have hqb : q ≤ 17407 := by omega
  obtain ⟨n, hn⟩ : ∃ n, ws.length = n := ⟨_, rfl⟩
  rw [hn] at hv hw HO
  by_cases hm : n < q + 1
  · have hk0 : 0 < q + 1 - n := by omega
    obtain ⟨v', w', hr, ho', hg', hnw⟩ := run_append_own_zeros (P := Tryz.prog) W base 166 3 166 219 i0 (.int .u64 0) 8 .i64 .i64 Tryz.underlying166 Tryz.underlying3 hi hz0 hz1 hz2 rfl rfl _ n _ HO.out (q + 1 - n) hk0 (mx' (by omega)) (by omega) hbase
    have hall := row_put hv hf HO.out htb ho' hg' hnw
    have h1 := hall.1.1
    have h2 := hall.1.2
    have HALL := Lib.hid hall
    obtain ⟨A', c', rfl, -⟩ := own_shape ho'
    rw [show ((q + 1 - n : Nat) : Int) = (q : Int) + 1 - (n : Int) by omega] at hr
    clear hall ho' hg' hnw
    go_enter Tryz.func129, Tryz.ntmps129
    go_wp2_with (at_builtin; refine Lib.wpList_append_run _ rfl _ _ _ _ rfl _ _ rfl rfl _ _ hr ?_)
    go_end0
    refine ⟨rfl, moreW ws (q + 1 - n), Lib.hid ⟨⟨_, rfl⟩, ⟨by rw [more_len]; omega, by rw [more_len]; omega⟩, ?_, HALL.out.2.2⟩⟩
    rw [more_words, more_len, hn]
    exact HALL.out.2.1
  · have HB := Lib.hid (And.intro hq (And.intro hqb hm))
    go_enter Tryz.func129, Tryz.ntmps129
    go_wp2
    go_end0
    refine ⟨rfl, ws, Lib.hid ⟨⟨0, by simp [moreW]⟩, ⟨by omega, by omega⟩, ?_, Hold.refl _ _, Below.refl _ _⟩⟩
    rw [hn]
    exact ⟨_, ⟨hv, hf⟩, HO.out⟩
end Go.Proofs.YtfakohoamgogoaaGreatDoor.Pq

namespace Go.Proofs.YtfakohoamgogoaaGreatDoor.Pq
open Go.RowKit

theorem info41 : (Tryz.prog.info? 168).map (fun i => (i.zero, i.size, i.bytes)) = some (some (.agg #[.int .i64 0, .int .i64 0, .string ⟨#[]⟩]), 3, 32) := by kernel_rfl
/-- Where a slice may lie. -/
def Flat (A : Option Addr) : Prop := A = none ∨ ∃ b off, A = some ⟨b, off, none⟩
end Go.Proofs.YtfakohoamgogoaaGreatDoor.Pq

namespace Go.Proofs.YtfakohoamgogoaaGreatDoor.Pq
open Go.RowKit Go.Shelf
attribute [local go_sem] Oper.semAt_some

theorem append_lit_at {F : Fence} {m : Nat} {P : Program} {w : World} {ops : Array Oper} {rest : List Oper} {o : Oper} {a : Act} {Q : Exit → Act → World → Prop} (hgd : o.guard = none) (s x : Operand) (t : TypeId)
    (ho : o.op = .call { callee := .builtin .append, args := #[s, x], argTypes := #[t, t] })
    (base : Nat) (e : TypeId) (i : TypeInfo) (z : Value) (size bytes : Nat) (ht : P.underlying t = some (.slice e)) (hi : P.info? e = some i) (hz : i.zero = some z)
    (hsize : i.size = size) (hby : i.bytes = bytes) (hzs : z.cells.size = size) (hsz : 0 < size)
    (v : Value) (n : Nat) (xs : List Value) (hs : a.eval s = v) (hown : w.ownsRow base e size v n xs) (us : List Value) (hus : us.length = size) (hone : ∀ u ∈ us, u.oneCell' = true)
    (hx : a.eval x = .slice (some ⟨w.heap.size, 0, none⟩) 1 1) (h63 : n + 1 ≤ maxLen) (hbytes : (n + 1) * bytes ≤ 140737488355328) (hbase : base ≤ w.heap.size)
    (h : ∀ v' w', w'.ownsRow base e size v' (n + 1) (xs ++ us) → w.grownBy w' v.ownBlock → (∀ k, k < w.heap.size → v'.ownBlock = some k → v.ownBlock = some k) → wpListIn F m P ops Q rest (a.put o.dst v') w') : wpListIn F m P ops Q (o :: rest) a (w.alloc (.cells us.toArray e)) :=
  wpListIn_append_own_at _ hgd s x t ho base e i z size bytes ht hi hz hsize hby hzs hsz v n xs hs (hown.alloc _) ⟨w.heap.size, 0, none⟩ 1 1 us hx (by rw [hus, Nat.one_mul]) (lit_cells w us e) hone h63 hbytes (by simp; omega)
    (fun v' w' h1 h2 _ h4 => h v' w' h1 ⟨h2.os, h2.tape, h2.output, Nat.le_trans (by simp) h2.size, fun k hk hr => (h2.block k (by simp; omega) hr).trans (Below.heap_alloc w _ k hk)⟩ (fun k hk e => by
      rcases h4 with h4 | h4
      · rw [← h4]; exact e
      · rw [h4] at e
        injection e with e
        simp at e
        omega))
theorem row_free {t base : Nat} {e : TypeId} {size n : Nat} {xs : List Value} {W : World} (h : RowAt t base e size n xs W) : ∀ k, W.heap.size ≤ k → GA t W k := by
  obtain ⟨v, ⟨h1, -⟩, h2⟩ := h
  intro k hk
  have hl := World.block_lt_of_cell? W _ h1
  exact ⟨v, h1, by simp only at hl; omega, fun e => by have := (h2.lt k e).2; omega⟩
end Go.Proofs.YtfakohoamgogoaaGreatDoor.Pq
