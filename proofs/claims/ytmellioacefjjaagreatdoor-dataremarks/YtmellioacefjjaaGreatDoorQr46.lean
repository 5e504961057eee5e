/- The bundle's box; two results told the same. -/
/- Plain words: a remark's line behind each file changes nothing of what is told. No program is walked. -/
/- The function that adds a remark's line behind a file: a new row of octets. -/
/- What the laws' own Small and awake hand back. -/
import Derived.Test.YtmellioacefjjaaGreatDoorQr45
import Derived.Test.YtmellioacefjjaaGreatDoorQr12
import Derived.Test.YtmellioacefjjaaGreatDoorQr06
import Derived.Lib.AppendStr
namespace Go.Proofs.YtmellioacefjjaaGreatDoor
open Go.RowKit Go.Shelf
attribute [local go_sem] Oper.semAt_some

/-- The bundle's box. -/
def BnB (w W : World) (v0 v1 v2 v3 v4 v5 v6 : Value) : Prop :=
  (W.cell? ⟨w.heap.size, 0, none⟩ = some v0 ∧ W.cell? ⟨w.heap.size, 1, none⟩ = some v1 ∧ W.cell? ⟨w.heap.size, 2, none⟩ = some v2 ∧ W.cell? ⟨w.heap.size, 3, none⟩ = some v3 ∧ W.cell? ⟨w.heap.size, 4, none⟩ = some v4 ∧ W.cell? ⟨w.heap.size, 5, none⟩ = some v5 ∧ W.cell? ⟨w.heap.size, 6, none⟩ = some v6) ∧ Below w.heap.size w W
theorem BnB.lt {w W : World} {v0 v1 v2 v3 v4 v5 v6 : Value} (h : BnB w W v0 v1 v2 v3 v4 v5 v6) : w.heap.size < W.heap.size := World.block_lt_of_cell? W _ h.1.1
theorem BnB.below {w W W' : World} {v0 v1 v2 v3 v4 v5 v6 : Value} (h : BnB w W v0 v1 v2 v3 v4 v5 v6) (hb : Below W.heap.size W W') : BnB w W' v0 v1 v2 v3 v4 v5 v6 := by
  have hl := h.lt
  obtain ⟨⟨h0, h1, h2, h3, h4, h5, h6⟩, h9⟩ := h
  have c : ∀ i, W'.cell? ⟨w.heap.size, i, none⟩ = W.cell? ⟨w.heap.size, i, none⟩ := fun i => hb.cell (p := ⟨w.heap.size, i, none⟩) hl
  exact ⟨⟨(c _).trans h0, (c _).trans h1, (c _).trans h2, (c _).trans h3, (c _).trans h4, (c _).trans h5, (c _).trans h6⟩, h9.trans (hb.mono h9.size)⟩
theorem bnb_new (w : World) (v0 v1 v2 v3 v4 v5 v6 : Value) : BnB w (w.alloc (.cells #[v0, v1, v2, v3, v4, v5, v6] 24)) v0 v1 v2 v3 v4 v5 v6 := by
  have o : ∀ i, (w.alloc (.cells #[v0, v1, v2, v3, v4, v5, v6] 24)).cell? ⟨w.heap.size, i, none⟩ = (#[v0, v1, v2, v3, v4, v5, v6] : Array Value)[i]? := fun i => new_at _ _ _ _ _ rfl
  exact ⟨⟨by rw [o]; rfl, by rw [o]; rfl, by rw [o]; rfl, by rw [o]; rfl, by rw [o]; rfl, by rw [o]; rfl, by rw [o]; rfl⟩, (Below.refl _ _).alloc (Nat.le_refl _) _⟩
end Go.Proofs.YtmellioacefjjaaGreatDoor

namespace Go.Proofs.YtmellioacefjjaaGreatDoor
open Go.RowKit Go.Shelf

def remO : List UInt8 := [10, 35, 32, 114, 101, 109, 97, 114, 107, 10]
theorem cut_app (c : UInt8) : ∀ (a b : List UInt8), cutAll c (a ++ c :: b) = cutAll c a ++ cutAll c b
  | [], b => by simp [cutAll]
  | x :: a, b => by
    have ih := cut_app c a b
    show (if x = c then [] :: cutAll c (a ++ c :: b) else glue [x] (cutAll c (a ++ c :: b))) = (if x = c then [] :: cutAll c a else glue [x] (cutAll c a)) ++ cutAll c b
    rw [ih]
    split
    · rfl
    · cases e : cutAll c a with
      | nil => exact absurd e (cutAll_ne c a)
      | cons p t => rfl
theorem lines_more (l : List UInt8) : linesIn (l ++ remO) = linesIn l := by
  have e1 : l ++ remO = l ++ 10 :: ([35, 32, 114, 101, 109, 97, 114, 107] ++ 10 :: []) := rfl
  have e3 : cutAll 10 [35, 32, 114, 101, 109, 97, 114, 107] ++ cutAll 10 [] = [[35, 32, 114, 101, 109, 97, 114, 107], []] := by decide
  have h2 : ∀ n : Int, (numbered n [[35, 32, 114, 101, 109, 97, 114, 107], []]).filterMap lineOf = [] := by
    intro n
    have t1 : trim (bodyOf [35, 32, 114, 101, 109, 97, 114, 107]) = [] := by decide
    have t3 : trim (bodyOf []) = [] := by decide
    simp [numbered, lineOf, t1, t3]
  unfold linesIn
  rw [e1, cut_app, cut_app, e3, numbered_append, List.filterMap_append, h2, List.append_nil]
def moreF (f : Nat → List UInt8) : Nat → List UInt8 := fun i => if i < 7 then f i ++ remO else f i
theorem more_lines (f : Nat → List UInt8) (i : Nat) : linesIn (moreF f i) = linesIn (f i) := by
  unfold moreF
  split
  · exact lines_more _
  · rfl
theorem more_load (f : Nat → List UInt8) : loadOf (moreF f) = loadOf f := by
  have u : uF (moreF f) = uF f := by unfold uF; rw [more_lines]
  have c : cfF (moreF f) = cfF f := by unfold cfF; rw [more_lines]
  have p : ∀ i, prF (moreF f) i = prF f i := fun i => by unfold prF; rw [more_lines]
  have s : spF (moreF f) = spF f := by funext i; unfold spF; rw [p]
  have P : ∀ ps n i, loadP (moreF f) ps n i = loadP f ps n i := by
    intro ps n
    induction n with
    | zero => intro i; rw [loadP, loadP, load1, load1, c, s]
    | succ n ih => intro i; rw [loadP, loadP, p, ih]
  unfold loadOf
  rw [u, P]
end Go.Proofs.YtmellioacefjjaaGreatDoor

namespace Go.Proofs.YtmellioacefjjaaGreatDoor
open Go.RowKit Go.Shelf

theorem info5 : (Tryz.prog.info? 5).map (fun i => (i.zero, i.size, i.bytes)) = some (some (.int .u8 0), 1, 1) := by kernel_rfl
theorem octs_one {zs : List Int} : ∀ u ∈ nums .u8 zs, u.oneCell' = true := by
  intro u hu
  unfold nums at hu
  obtain ⟨z, -, rfl⟩ := List.mem_map.1 hu
  rfl
theorem octs_len (zs : List Int) : (nums .u8 zs).length = zs.length := List.length_map _
theorem append_octs {P : Program} {w : World} {ops : Array Oper} {rest : List Oper} {o : Oper} {a : Act} {Q : Exit → Act → World → Prop} (hgd : o.guard = none) (s x : Operand) (t : TypeId)
    (ho : o.op = .call { callee := .builtin .append, args := #[s, x], argTypes := #[t, t] })
    (base : Nat) (e : TypeId) (i : TypeInfo) (z : Value) (bytes : Nat) (ht : P.underlying t = some (.slice e)) (hi : P.info? e = some i) (hz : i.zero = some z)
    (hsize : i.size = 1) (hby : i.bytes = bytes) (hzs : z.cells.size = 1)
    (v : Value) (n : Nat) (xs : List Value) (hs : a.eval s = v) (hown : w.ownsRow base e 1 v n xs)
    (A : Option Addr) (m c : Nat) (zs : List Int) (hx : a.eval x = .slice A m c) (hN : Vals w A m (nums .u8 zs))
    (h63 : n + m ≤ maxLen) (hbytes : (n + m) * bytes ≤ 140737488355328) (hbase : base ≤ w.heap.size)
    (h : ∀ v' w', w'.ownsRow base e 1 v' (n + m) (xs ++ nums .u8 zs) → w.grownBy w' v.ownBlock → wpList P ops Q rest (a.put o.dst v') w') : wpList P ops Q (o :: rest) a w := by
  cases A with
  | none =>
    have hm : m = 0 := by
      rcases Nat.eq_zero_or_pos m with h0 | h0
      · exact h0
      · obtain ⟨b, off, e, _⟩ := hN.2 h0
        cases e
    subst hm
    obtain rfl : zs = [] := List.eq_nil_of_length_eq_zero (by have := hN.1; rwa [octs_len] at this)
    refine append_nil_any hgd s x t ho base e i 1 c ht hi v n xs hs hown hx (h v w ?_ (World.grownBy.refl w _))
    simpa [nums] using hown
  | some ad =>
    exact wpList_append_own w hgd s x t ho base e i z 1 bytes ht hi hz hsize hby hzs (by decide) v n xs hs hown ad m c (nums .u8 zs) hx (by rw [octs_len, Nat.mul_one]; have := hN.1; rwa [octs_len] at this) (vals_cells hN) octs_one h63 hbytes hbase (fun v' w' h1 h2 _ => h v' w' h1 h2)
theorem rem_cells (l : List UInt8) : nums .u8 (ints l) ++ Lib.strCells ⟨#[10, 35, 32, 114, 101, 109, 97, 114, 107, 10]⟩ = nums .u8 (ints (l ++ remO)) := by
  have e : Lib.strCells ⟨#[10, 35, 32, 114, 101, 109, 97, 114, 107, 10]⟩ = nums .u8 (ints remO) := by rfl
  rw [e]
  simp [nums, ints]
set_option maxRecDepth 100000 in
set_option maxHeartbeats 4000000 in
theorem more34 (A : Option Addr) (n c : Nat) (l : List UInt8) (w : World) (hO : Octs w A n l) (hn : n ≤ 3000) :
    Calls Tryz.prog 34 #[.slice A n c] w fun e w' => ∃ A2 c2, e = .returned (.slice A2 (n + 10) c2) ∧ Hid (Below w.heap.size w w' ∧ Octs w' A2 (n + 10) (l ++ remO)) := by
  obtain ⟨i0, hi, hz0, hz1, hz2⟩ := info_parts info5
  have hb0 : Below w.heap.size w (w.alloc (.cells #[] 5)) := (Below.refl _ _).alloc (Nat.le_refl _) _
  have hF0 : Vals (w.alloc (.cells #[] 5)) A n (nums .u8 (ints l)) := hO.below hb0
  have m1 : 0 + n ≤ maxLen := by simp only [maxLen]; omega
  have m2 : (0 + n) * 1 ≤ 140737488355328 := by omega
  have m3 : 0 + n + (⟨#[10, 35, 32, 114, 101, 109, 97, 114, 107, 10]⟩ : ByteArray).size ≤ maxLen := by
    have : (⟨#[10, 35, 32, 114, 101, 109, 97, 114, 107, 10]⟩ : ByteArray).size = 10 := rfl
    rw [this]; simp only [maxLen]; omega
  have m4 : 0 + n + (⟨#[10, 35, 32, 114, 101, 109, 97, 114, 107, 10]⟩ : ByteArray).size ≤ 140737488355328 := by
    have : (⟨#[10, 35, 32, 114, 101, 109, 97, 114, 107, 10]⟩ : ByteArray).size = 10 := rfl
    rw [this]; omega
  have HB0 := Lib.hid hb0
  have HF0 := Lib.hid hF0
  have H00 := Lib.hid (own_fresh0 w 5)
  clear hb0 hF0 hO
  go_enter Tryz.func34, Tryz.ntmps34
  go_wp2_with (first
    | (at_builtin; refine append_octs rfl _ _ 22 rfl w.heap.size 5 i0 (.int .u8 0) 1 Tryz.underlying22 hi hz0 hz1 hz2 rfl (.slice (some ⟨w.heap.size, 0, none⟩) 0 0) 0 [] rfl H00.out A n c (ints l) rfl HF0.out m1 m2 (by simp) ?_; intro v1 w1 ho1 hg1; have hB1 : Below w.heap.size w w1 := HB0.out.grown hg1 (by simp) (fun g e => (H00.out.lt g e).1))
    | (at_builtin; refine Lib.wpList_append_own_string w1 rfl _ _ 22 9 rfl w.heap.size 5 i0 Tryz.underlying22 Tryz.underlying9 hi hz0 hz1 hz2 v1 (0 + n) _ rfl ho1 ⟨#[10, 35, 32, 114, 101, 109, 97, 114, 107, 10]⟩ rfl m3 m4 hB1.size ?_; intro v2 w2 ho2 hg2 hnil))
  obtain ⟨A2, c2, rfl, -, hV, -⟩ := own_vals ho2
  have hB2 : Below w.heap.size w w2 := hB1.grown hg2 hB1.size (fun g e => (ho1.lt g e).1)
  have e1 : 0 + n + (⟨#[10, 35, 32, 114, 101, 109, 97, 114, 107, 10]⟩ : ByteArray).size = n + 10 := by
    have : (⟨#[10, 35, 32, 114, 101, 109, 97, 114, 107, 10]⟩ : ByteArray).size = 10 := rfl
    rw [this]; omega
  rw [e1] at hV
  go_ret
  exact ⟨A2, c2, by rw [e1]; rfl, Lib.hid ⟨hB2, by unfold Octs; rw [← rem_cells]; simpa using hV⟩⟩
end Go.Proofs.YtmellioacefjjaaGreatDoor

namespace Go.Proofs.YtmellioacefjjaaGreatDoor
open Go.RowKit
attribute [local go_sem] Oper.semAt_some

set_option maxRecDepth 100000 in
set_option maxHeartbeats 2000000 in
theorem small8 (b0 b1 b2 b3 b4 b5 b6 : Option Addr) (n0 n1 n2 n3 n4 n5 n6 m0 m1 m2 m3 m4 m5 m6 : Nat) (w : World) (h0 : n0 ≤ 1000000000000000) (h1 : n1 ≤ 1000000000000000) (h2 : n2 ≤ 1000000000000000) (h3 : n3 ≤ 1000000000000000) (h4 : n4 ≤ 1000000000000000) (h5 : n5 ≤ 1000000000000000) (h6 : n6 ≤ 1000000000000000) :
    Calls Tryz.prog 8 #[.agg #[.slice b0 n0 m0, .slice b1 n1 m1, .slice b2 n2 m2, .slice b3 n3 m3, .slice b4 n4 m4, .slice b5 n5 m5, .slice b6 n6 m6]] w fun e w' => e = .returned (.bool (decide (n0 + n1 + n2 + n3 + n4 + n5 + n6 ≤ 3000))) ∧ Below w.heap.size w w' := by
  have hb : ∀ o, Below w.heap.size w (w.alloc o) := fun o => (Below.refl _ _).alloc (Nat.le_refl _) o
  have HB := Lib.hid hb
  clear hb
  go_enter Tryz.func8, Tryz.ntmps8
  go_wp2
  go_ret
  refine ⟨?_, HB.out _⟩
  show Ending.returned (.bool (decide ((n0 : Int) + n1 + n2 + n3 + n4 + n5 + n6 ≤ 3000))) = _
  rw [show decide ((n0 : Int) + n1 + n2 + n3 + n4 + n5 + n6 ≤ 3000) = decide (n0 + n1 + n2 + n3 + n4 + n5 + n6 ≤ 3000) from decide_eq_decide.2 (by omega)]
def awF : Nat → List UInt8
  | 0 => [48, 48, 67, 53, 59, 65, 32, 82, 73, 78, 71, 59, 76, 117, 59, 48, 59, 76, 59, 48, 48, 52, 49, 32, 48, 51, 48, 65, 59, 59, 59, 59, 78, 59, 59, 59, 59, 48, 48, 69, 53, 59, 10, 48, 51, 48, 65, 59, 82, 73, 78, 71, 59, 77, 110, 59, 50, 51, 48, 59, 78, 83, 77, 59, 59, 59, 59, 59, 78, 59, 59, 59, 59, 59, 10]
  | _ => []
def awD : Dt := ⟨(uF awF).rows, spF awF, (cfF awF).rows, [(197, 65, 778)]⟩
set_option maxRecDepth 100000 in
theorem aw_load : loadOf awF = (⟨0, 0, 0⟩, some awD) := by kernel_rfl
set_option maxRecDepth 100000 in
theorem aw_make : findM awD.ms 65 778 = some 197 := by kernel_rfl
theorem aw_small (i : Nat) : (awF i).length ≤ 4000 := by
  unfold awF
  split <;> simp
end Go.Proofs.YtmellioacefjjaaGreatDoor
