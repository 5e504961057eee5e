/- Plain words: code points' texts, ranges, sequences; no program is spoken of. -/
import Derived.Test.YtkcpnnfbhcklpaaGreatDoorWords
import Derived.Lib.IndexLaws
namespace Go.Proofs.YtkcpnnfbhcklpaaGreatDoor
open Go.RowKit

/-- The digits. -/
def digs : List UInt8 := [48, 49, 50, 51, 52, 53, 54, 55, 56, 57, 65, 66, 67, 68, 69, 70]
/-- A digit's worth, or -1. -/
def val (c : UInt8) : Int := Lib.indexByte digs c
def dch (d : Nat) : UInt8 := digs.getD (d % 16) 0
set_option maxRecDepth 100000 in
theorem val_all : ∀ n : Fin 256, val (UInt8.ofNat n.val) = (if 48 ≤ n.val ∧ n.val ≤ 57 then (n.val : Int) - 48 else if 65 ≤ n.val ∧ n.val ≤ 70 then (n.val : Int) - 55 else -1) := by decide
theorem val_eq (c : UInt8) : val c = (if 48 ≤ c.toNat ∧ c.toNat ≤ 57 then (c.toNat : Int) - 48 else if 65 ≤ c.toNat ∧ c.toNat ≤ 70 then (c.toNat : Int) - 55 else -1) := by
  have := val_all ⟨c.toNat, c.toNat_lt⟩
  simpa using this
theorem val_range (c : UInt8) : -1 ≤ val c ∧ val c < 16 := by
  rw [val_eq]
  split
  · omega
  · split <;> omega
set_option maxRecDepth 100000 in
theorem dch_val : ∀ n : Fin 256, 0 ≤ val (UInt8.ofNat n.val) → dch (val (UInt8.ofNat n.val)).toNat = UInt8.ofNat n.val := by decide
theorem dch_of {c : UInt8} (h : 0 ≤ val c) : dch (val c).toNat = c := by
  have := dch_val ⟨c.toNat, c.toNat_lt⟩
  simp at this
  exact this h
theorem val_dch : ∀ d : Fin 16, val (dch d.val) = d.val := by decide
theorem val_dch' (d : Nat) (h : d < 16) : val (dch d) = d := val_dch ⟨d, h⟩
theorem dch_ne32 : ∀ d : Fin 16, dch d.val ≠ 32 := by decide

/-- The number that digits make. -/
def hexv : Nat → List UInt8 → Option Nat
  | a, [] => some a
  | a, c :: l => if val c < 0 then none else hexv (a * 16 + (val c).toNat) l
theorem hexv_snoc : ∀ (a : Nat) (l : List UInt8) (c : UInt8), hexv a (l ++ [c]) = (hexv a l).bind fun b => if val c < 0 then none else some (b * 16 + (val c).toNat)
  | a, [], c => by simp [hexv]
  | a, x :: l, c => by
    rw [List.cons_append, hexv, hexv]
    split
    · rfl
    · exact hexv_snoc _ l c
/-- n digits of c. -/
def dn : Nat → Nat → List UInt8
  | 0, _ => []
  | n + 1, c => dn n (c / 16) ++ [dch (c % 16)]
theorem dn_length : ∀ n c, (dn n c).length = n
  | 0, _ => rfl
  | n + 1, c => by simp [dn, dn_length n]
theorem dn_cons : ∀ n c, dn (n + 1) c = dch (c / 16 ^ n % 16) :: dn n c
  | 0, c => by simp [dn]
  | n + 1, c => by
    rw [dn, dn_cons n (c / 16), List.cons_append, Nat.div_div_eq_div_mul, ← Nat.pow_succ', dn]
theorem hexv_dn : ∀ n c, c < 16 ^ n → hexv 0 (dn n c) = some c
  | 0, c, h => by simp at h; subst h; rfl
  | n + 1, c, h => by
    rw [dn, hexv_snoc, hexv_dn n (c / 16) (by rw [Nat.pow_succ] at h; omega)]
    have := val_dch' (c % 16) (by omega)
    simp [this]
    omega
theorem dn_hexv : ∀ (l : List UInt8) (c : Nat), hexv 0 l = some c → l = dn l.length c := by
  intro l
  generalize hn : l.length = n
  induction n generalizing l with
  | zero => intro c _; simp [dn]; exact List.eq_nil_of_length_eq_zero hn
  | succ n ih =>
    intro c h
    rcases List.eq_nil_or_concat l with rfl | ⟨m, x, rfl⟩
    · simp at hn
    · rw [List.concat_eq_append] at h hn ⊢
      simp at hn
      rw [hexv_snoc] at h
      cases hm : hexv 0 m with
      | none => rw [hm] at h; simp at h
      | some b =>
        rw [hm] at h
        simp at h
        obtain ⟨h1, h2⟩ := h
        have hr := val_range x
        have e1 : c / 16 = b := by omega
        have e2 : c % 16 = (val x).toNat := by omega
        rw [dn, e1, e2, dch_of h1, ← ih m hn b hm]
theorem hexv_lt : ∀ (l : List UInt8) (c : Nat), hexv 0 l = some c → c < 16 ^ l.length := by
  intro l
  generalize hn : l.length = n
  induction n generalizing l with
  | zero => intro c h; rw [List.eq_nil_of_length_eq_zero hn] at h; simp [hexv] at h; subst h; decide
  | succ n ih =>
    intro c h
    rcases List.eq_nil_or_concat l with rfl | ⟨m, x, rfl⟩
    · simp at hn
    · rw [List.concat_eq_append] at h hn
      simp at hn
      rw [hexv_snoc] at h
      cases hm : hexv 0 m with
      | none => rw [hm] at h; simp at h
      | some b =>
        rw [hm] at h
        simp at h
        have hb := ih m hn b hm
        have hr := val_range x
        rw [Nat.pow_succ]
        omega
/-- How many digits. -/
def wid (c : Nat) : Nat := if 1048575 < c then 6 else if 65535 < c then 5 else 4
def hexT (c : Nat) : List UInt8 := dn (wid c) c
theorem wid_range (c : Nat) : 4 ≤ wid c ∧ wid c ≤ 6 := by unfold wid; split <;> (try split) <;> omega
theorem wid_pow (c : Nat) (h : c ≤ 1114111) : c < 16 ^ wid c := by
  unfold wid
  split
  · omega
  · split <;> omega
theorem hexT_length (c : Nat) : (hexT c).length = wid c := dn_length _ _
/-- The code point of a text. -/
def point (l : List UInt8) : Option Nat := (hexv 0 l).bind fun c => if l.length ≤ 6 ∧ c ≤ 1114111 ∧ l.length = wid c then some c else none
theorem point_hexT (c : Nat) (h : c ≤ 1114111) : point (hexT c) = some c := by
  unfold point
  have h1 : hexv 0 (hexT c) = some c := hexv_dn _ _ (wid_pow c h)
  rw [h1]
  have := (wid_range c).2
  simp [hexT_length, h, this]
theorem hexT_iff {l : List UInt8} {c : Nat} (h : hexv 0 l = some c) : hexT c = l ↔ l.length = wid c := by
  constructor
  · intro e; rw [← e, hexT_length]
  · intro e
    have := dn_hexv l c h
    rw [e] at this
    exact this.symm
theorem hexT_ne (c : Nat) : hexT c ≠ [] := by
  intro e
  have h := hexT_length c
  rw [e] at h
  have := (wid_range c).1
  simp at h
  omega
theorem dn_no32 : ∀ n c, (32 : UInt8) ∉ dn n c
  | 0, _ => by simp [dn]
  | n + 1, c => by
    simp only [dn, List.mem_append, List.mem_singleton, not_or]
    exact ⟨dn_no32 n _, fun e => dch_ne32 ⟨c % 16, by omega⟩ e.symm⟩

/-! Ranges. -/
/-- First and last, and the error's number. -/
def rangeOf (l : List UInt8) : Int × Int × Int :=
  if 0 ≤ Lib.index l [46, 46] then
    match point (l.take (Lib.index l [46, 46]).toNat), point (l.drop ((Lib.index l [46, 46]).toNat + 2)) with
    | some a, some b => if b ≤ a then (0, 0, 14) else (a, b, 0)
    | _, _ => (0, 0, 13)
  else match point l with
    | some a => (a, a, 0)
    | none => (0, 0, 13)

/-! Sequences. -/
def seqOf (l : List UInt8) : Option (List Nat) := if l = [] then some [] else (cutAll 32 l).mapM point
/-- Texts with one blank between. -/
def joinT : Bool → List Nat → List UInt8
  | _, [] => []
  | b, c :: s => (if b then [32] else []) ++ hexT c ++ joinT true s
theorem joinT_snoc : ∀ (b : Bool) (s : List Nat) (c : Nat), joinT b (s ++ [c]) = joinT b s ++ ((if b || !s.isEmpty then [32] else []) ++ hexT c)
  | b, [], c => by simp [joinT]
  | b, x :: s, c => by
    rw [List.cons_append, joinT, joinT_snoc true s c, joinT]
    simp
theorem joinT_ne {s : List Nat} (h : s ≠ []) : joinT false s ≠ [] := by
  cases s with
  | nil => exact absurd rfl h
  | cons c s =>
    simp [joinT]
    intro e
    exact absurd e (hexT_ne c)
theorem cut_join : ∀ (c : Nat) (s : List Nat), cutAll 32 (joinT false (c :: s)) = (c :: s).map hexT
  | c, [] => by
    simp [joinT]
    exact cutAll_none 32 _ (dn_no32 _ _)
  | c, d :: s => by
    have e : joinT false (c :: d :: s) = hexT c ++ 32 :: joinT false (d :: s) := by simp [joinT]
    rw [e, cutAll_some 32 (hexT c) _ (dn_no32 _ _), cut_join d s]
    rfl
theorem mapM_points : ∀ s : List Nat, (∀ c ∈ s, c ≤ 1114111) → (s.map hexT).mapM point = some s
  | [], _ => rfl
  | c :: s, h => by
    rw [List.map_cons, List.mapM_cons, point_hexT c (h c (by simp)), mapM_points s (fun d hd => h d (by simp [hd]))]
    rfl
theorem seq_join {s : List Nat} (h : ∀ c ∈ s, c ≤ 1114111) : seqOf (joinT false s) = some s := by
  unfold seqOf
  cases s with
  | nil => rfl
  | cons c s => rw [if_neg (joinT_ne (by simp)), cut_join, mapM_points _ h]
theorem mapM_take {L : List (List UInt8)} (k : Nat) (hk : k < L.length) : (L.take (k + 1)).mapM point = ((L.take k).mapM point).bind fun xs => (point (L.getD k [])).map fun c => xs ++ [c] := by
  rw [List.take_succ_eq_append_getElem hk, List.mapM_append, List.getD_eq_getElem?_getD, List.getElem?_eq_getElem hk]
  cases (L.take k).mapM point with
  | none => simp
  | some v => cases h : point L[k] <;> simp [h]
theorem mapM_none {L : List (List UInt8)} {k : Nat} (hk : k < L.length) (h : point (L.getD k []) = none) : L.mapM point = none := by
  have e : L = L.take (k + 1) ++ L.drop (k + 1) := (List.take_append_drop _ _).symm
  rw [e, List.mapM_append, mapM_take k hk, h]
  cases (L.take k).mapM point <;> simp
end Go.Proofs.YtkcpnnfbhcklpaaGreatDoor
