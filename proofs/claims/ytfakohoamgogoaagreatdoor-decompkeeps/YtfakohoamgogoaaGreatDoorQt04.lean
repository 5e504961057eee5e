/- What the document's own At hands back. -/
/- The document's own capitals, number and named, at any text. -/
/- The program's small functions at any text: isCapital, isGc, isBidi. -/
/- Plain words: code points' texts, ranges, sequences; no program is spoken of. -/
/- Plain words: what a line says, and what a file says, as the document reads it and as the program reads it; no program is spoken of. -/
/- The program's side; what slices.BinarySearchFunc hands back for rows and a code point. -/
import Derived.Test.YtfakohoamgogoaaGreatDoorQt03
import Derived.Test.YtfakohoamgogoaaGreatDoorProg
import Derived.BigQuiet
import Derived.Handy
import Derived.Test.YtfakohoamgogoaaGreatDoorQt02
import Derived.Laws.RangeAny
import Derived.Lib.IndexLaws
namespace Go.Proofs.YtfakohoamgogoaaGreatDoor.Uc
open Go.RowKit

theorem below_six {w v : World} (a b d : Int) {c e f : Value} (h : Below w.heap.size w v) :
    Below w.heap.size w ((((((v.setCell ⟨w.heap.size, 0, none⟩ (.int .i64 a)).setCell ⟨w.heap.size, 1, none⟩ (.int .i64 b)).setCell ⟨w.heap.size, 2, none⟩ c).setCell ⟨w.heap.size, 3, none⟩ (.int .i64 d)).setCell ⟨w.heap.size, 4, none⟩ e).setCell ⟨w.heap.size, 5, none⟩ f) := by
  exact Below.setCell (Below.setCell (Below.setCell (Below.setCell (Below.setCell (Below.setCell h (Nat.le_refl _) _) (Nat.le_refl _) _) (Nat.le_refl _) _) (Nat.le_refl _) _) (Nat.le_refl _) _) (Nat.le_refl _) _

end Go.Proofs.YtfakohoamgogoaaGreatDoor.Uc

namespace Go.Proofs.YtfakohoamgogoaaGreatDoor.Uc
open Go.RowKit

/-- A text of capital letters. -/
def caps (l : List UInt8) : Bool := l.all fun b => decide (65 ≤ b.toNat ∧ b.toNat ≤ 90)
theorem caps_drop {l : List UInt8} {k : Nat} (hk : k < l.length) : caps (l.drop k) = (decide (65 ≤ oct l k ∧ oct l k ≤ 90) && caps (l.drop (k + 1))) := by
  unfold caps oct
  rw [List.drop_eq_getElem_cons hk, List.all_cons, List.getD_eq_getElem?_getD, List.getElem?_eq_getElem hk]
  congr 1
  simp only [Option.getD_some, decide_eq_decide]
  omega

/-- Decimal digits, read. -/
def decv (a : Nat) : List UInt8 → Option Nat
  | [] => some a
  | b :: t => if 48 ≤ b.toNat ∧ b.toNat ≤ 57 then decv (a * 10 + (b.toNat - 48)) t else none
theorem decv_drop {l : List UInt8} {k a : Nat} (hk : k < l.length) : decv a (l.drop k) = if 48 ≤ oct l k ∧ oct l k ≤ 57 then decv (a * 10 + (oct l k - 48).toNat) (l.drop (k + 1)) else none := by
  unfold oct
  rw [List.drop_eq_getElem_cons hk, List.getD_eq_getElem?_getD, List.getElem?_eq_getElem hk, Option.getD_some, decv]
  by_cases h : 48 ≤ (l[k]).toNat ∧ (l[k]).toNat ≤ 57
  · rw [if_pos h, if_pos (by omega), show ((l[k].toNat : Int) - 48).toNat = l[k].toNat - 48 by omega]
  · rw [if_neg h, if_neg (by omega)]
/-- A combining class: 0 to 254, or -1. -/
def cccOf (l : List UInt8) : Int :=
  if l.length < 1 ∨ 3 < l.length ∨ (1 < l.length ∧ oct l 0 = 48) then -1 else
    match decv 0 l with
    | none => -1
    | some a => if 254 < a then -1 else a
theorem ccc_out {l : List UInt8} (h : l.length < 1 ∨ 3 < l.length ∨ (1 < l.length ∧ oct l 0 = 48)) : cccOf l = -1 := by unfold cccOf; rw [if_pos h]
theorem ccc_none {l : List UInt8} (h : decv 0 l = none) : cccOf l = -1 := by unfold cccOf; rw [h]; split <;> rfl
theorem ccc_big {l : List UInt8} {a : Nat} (h : decv 0 l = some a) (hb : 254 < a) : cccOf l = -1 := by
  unfold cccOf; rw [h]; simp only [if_pos hb]; split <;> rfl
theorem ccc_yes {l : List UInt8} (a : Nat) (h0 : ¬ (l.length < 1 ∨ 3 < l.length ∨ (1 < l.length ∧ oct l 0 = 48))) (h : decv 0 l = some a) (hb : ¬ 254 < a) : cccOf l = a := by
  unfold cccOf; rw [h, if_neg h0]; simp only [if_neg hb]

/-- Does a name begin with <, and end so? -/
def namedB (s e : List UInt8) : Bool := decide (1 ≤ s.length ∧ oct s 0 = 60 ∧ e.length ≤ s.length) && ((bs s).extract (s.length - e.length) s.length).toList == (bs e).toList
theorem named_iff (s e : List UInt8) : namedB s e = true ↔ 1 ≤ s.length ∧ oct s 0 = 60 ∧ e <:+ s := by
  unfold namedB
  rw [bs_ext, Lib.toList_data, Lib.toList_data, bs_data, bs_data, Bool.and_eq_true, decide_eq_true_iff, beq_iff_eq, List.take_of_length_le (by rw [List.length_drop]; omega), and_assoc, and_assoc]
  refine and_congr_right fun _ => and_congr_right fun _ => ⟨fun h => ?_, fun h => ⟨h.length_le, ?_⟩⟩
  · exact ⟨s.take (s.length - e.length), by have := List.take_append_drop (s.length - e.length) s; rwa [h.2] at this⟩
  · obtain ⟨t, rfl⟩ := h
    rw [List.length_append, Nat.add_sub_cancel, List.drop_left]

end Go.Proofs.YtfakohoamgogoaaGreatDoor.Uc

namespace Go.Proofs.YtfakohoamgogoaaGreatDoor.Uc
open Go.RowKit

/-- A capital letter. -/
def capB (x : Int) : Bool := decide (65 ≤ x ∧ x ≤ 90)
set_option maxHeartbeats 1000000 in
theorem cap75 (x : Int) (w : World) : Calls Tryz.prog 186 #[.int .i32 x] w fun e w' => e = .returned (.bool (capB x)) ∧ w = w' := by
  by_cases h1 : 65 ≤ x
  · by_cases h2 : x ≤ 90
    · rw [show capB x = true from decide_eq_true ⟨h1, h2⟩]
      go_enter Tryz.func186, Tryz.ntmps186
      go_wp2
      go_ret
      exact ⟨rfl, rfl⟩
    · rw [show capB x = false from decide_eq_false (fun h => h2 h.2)]
      go_enter Tryz.func186, Tryz.ntmps186
      go_wp2
      go_ret
      exact ⟨rfl, rfl⟩
  · rw [show capB x = false from decide_eq_false (fun h => h1 h.1)]
    go_enter Tryz.func186, Tryz.ntmps186
    go_wp2
    go_ret
    exact ⟨rfl, rfl⟩

/-- A general category. -/
def gcB (l : List UInt8) : Bool := decide (l.length = 2) && (capB (oct l 0) && decide (97 ≤ oct l 1 ∧ oct l 1 ≤ 122))
set_option maxRecDepth 100000 in
set_option maxHeartbeats 2000000 in
theorem gc58 (l : List UInt8) (w : World) (hl : l.length ≤ 1000000) : Calls Tryz.prog 157 #[.string (bs l)] w fun e w' => e = .returned (.bool (gcB l)) ∧ w = w' := by
  have hsz := bs_size l
  have hx := bs_oct l 0
  have hxr := oct_range l 0
  have hy := bs_oct l 1
  have hyr := oct_range l 1
  obtain ⟨G, hG⟩ : ∃ G, gcB l = G := ⟨_, rfl⟩
  rw [hG]
  unfold gcB at hG
  obtain ⟨n, hn⟩ : ∃ n, l.length = n := ⟨_, rfl⟩
  obtain ⟨X, hX⟩ : ∃ X, oct l 0 = X := ⟨_, rfl⟩
  obtain ⟨Y, hY⟩ : ∃ Y, oct l 1 = Y := ⟨_, rfl⟩
  rw [hn] at hsz hl hG
  rw [hX] at hx hxr hG
  rw [hY] at hy hyr hG
  clear hn hX hY
  revert hsz hx hy
  generalize bs l = S
  intro hsz hx hy
  obtain ⟨hx0, hx1⟩ := hxr
  obtain ⟨hy0, hy1⟩ := hyr
  have c := fun w => cap75 X w
  by_cases h2 : n = 2
  · subst h2
    rw [show decide (2 = 2) = true from rfl, Bool.true_and] at hG
    cases hc : capB X with
    | false =>
      rw [hc, Bool.false_and] at hG
      rw [hc] at c
      subst hG
      have C := Lib.hid c
      clear hc c
      go_enter Tryz.func157, Tryz.ntmps157
      go_wp2_with (go_at_call 186; (with_reducible refine (C.out _).mono ?_); rintro e w' ⟨rfl, rfl⟩)
      go_ret
      exact ⟨rfl, rfl⟩
    | true =>
      rw [hc, Bool.true_and] at hG
      rw [hc] at c
      have C := Lib.hid c
      clear hc c
      by_cases g1 : 97 ≤ Y
      · by_cases g2 : Y ≤ 122
        · rw [show decide (97 ≤ Y ∧ Y ≤ 122) = true from decide_eq_true ⟨g1, g2⟩] at hG
          subst hG
          go_enter Tryz.func157, Tryz.ntmps157
          go_wp2_with (go_at_call 186; (with_reducible refine (C.out _).mono ?_); rintro e w' ⟨rfl, rfl⟩)
          go_ret
          exact ⟨rfl, rfl⟩
        · have g2b : decide (Y ≤ 122) = false := decide_eq_false g2
          rw [show decide (97 ≤ Y ∧ Y ≤ 122) = false from decide_eq_false (fun h => g2 h.2)] at hG
          subst hG
          go_enter Tryz.func157, Tryz.ntmps157
          go_wp2_with (go_at_call 186; (with_reducible refine (C.out _).mono ?_); rintro e w' ⟨rfl, rfl⟩)
          go_ret
          exact ⟨rfl, rfl⟩
      · rw [show decide (97 ≤ Y ∧ Y ≤ 122) = false from decide_eq_false (fun h => g1 h.1)] at hG
        subst hG
        go_enter Tryz.func157, Tryz.ntmps157
        go_wp2_with (go_at_call 186; (with_reducible refine (C.out _).mono ?_); rintro e w' ⟨rfl, rfl⟩)
        go_ret
        exact ⟨rfl, rfl⟩
  · rw [show decide (n = 2) = false from decide_eq_false h2, Bool.false_and] at hG
    subst hG
    have hb : ((n : Int) == 2) = false := beq_false_of_ne (by omega)
    clear hx hy c
    go_enter Tryz.func157, Tryz.ntmps157
    go_wp2
    go_ret
    exact ⟨rfl, rfl⟩

/-- A bidi class. -/
def bdB (l : List UInt8) : Bool := decide (1 ≤ l.length ∧ l.length ≤ 3) && caps l
theorem below_iter (w : World) (s : ByteArray) (p : Nat) : Below w.heap.size w (w.iter s p) := (Below.refl _ _).alloc (Nat.le_refl _) _
theorem next_low {P : Program} {w : World} {s : ByteArray} {k : Nat} {X : Int} (hk : k < s.size) (hX : ∀ h, ((s[k]'h).toNat : Int) = X) (h : X < 128) :
    ∀ ty, (Instr.next (.pointer (some ⟨w.heap.size, 0, none⟩)) true ty).run P (w.iter s k) = .ok (.tuple #[.bool true, .int .i64 k, .int .i32 X]) (w.iter s (k + 1)) := fun ty => by
  have e := hX hk
  rw [run_next_ascii w s k ty hk (by omega), e]
theorem next_high {P : Program} {w : World} {s : ByteArray} {k : Nat} {X : Int} (hk : k < s.size) (hX : ∀ h, ((s[k]'h).toNat : Int) = X) (h : ¬ X < 128) :
    ∃ (R : Int) (d : Nat), 128 ≤ R ∧ R ≤ 2147483647 ∧ ∀ ty, (Instr.next (.pointer (some ⟨w.heap.size, 0, none⟩)) true ty).run P (w.iter s k) = .ok (.tuple #[.bool true, .int .i64 k, .int .i32 R]) (w.iter s (k + d)) := by
  have e := hX hk
  have h1 := decode_high s k hk (by omega)
  have h2 := decode_le s k
  exact ⟨(Utf8.decode s k).1, (Utf8.decode s k).2, by omega, by omega, fun ty => run_next_any w s k ty hk⟩
set_option maxRecDepth 100000 in
set_option maxHeartbeats 2000000 in
theorem bd59 (l : List UInt8) (w : World) (hl : l.length ≤ 1000000) : Calls Tryz.prog 158 #[.string (bs l)] w fun e w' => e = .returned (.bool (bdB l)) ∧ Below w.heap.size w w' := by
  have hsz := bs_size l
  obtain ⟨n, hn⟩ : ∃ n, l.length = n := ⟨_, rfl⟩
  have hB : bdB l = (decide (1 ≤ n ∧ n ≤ 3) && caps l) := by unfold bdB; rw [hn]
  rw [hn] at hsz hl
  have HN := Lib.hid hn
  have HB := Lib.hid hB
  have HX := Lib.hid (fun k => bs_oct l k)
  clear hn hB
  obtain ⟨S, hS⟩ : ∃ S, bs l = S := ⟨_, rfl⟩
  rw [hS] at hsz HX ⊢
  clear hS
  go_enter Tryz.func158, Tryz.ntmps158
  go_wp2
  go_loopw [2] (fun v wr => v = .bool false ∧ ∃ k : Nat, wr = w.iter S k ∧ k ≤ n ∧ caps l = caps (l.drop k)) (fun _ wr => n - wr.iterPos w.heap.size)
  case atStart => exact ⟨rfl, 0, rfl, Nat.zero_le _, rfl⟩
  case round =>
    obtain ⟨rfl, k, rfl, hkn, hv⟩ := hrel
    by_cases hlt : k < n
    · have hlt' : k < l.length := by rw [HN.out]; exact hlt
      have hx := HX.out k
      have hxr := oct_range l k
      rw [caps_drop hlt'] at hv
      obtain ⟨X, hX⟩ : ∃ X, oct l k = X := ⟨_, rfl⟩
      rw [hX] at hx hv hxr
      clear hX hlt'
      obtain ⟨hx0, hx1⟩ := hxr
      have hks : k < S.size := by rw [hsz]; exact hlt
      by_cases hasc : X < 128
      · have hnx := next_low (P := Tryz.prog) (w := w) hks hx hasc
        have c := fun w => cap75 X w
        unfold capB at c
        cases hc : decide (65 ≤ X ∧ X ≤ 90) with
        | true =>
          rw [hc, Bool.true_and] at hv
          rw [hc] at c
          have HV := Lib.hid hv
          have C := Lib.hid c
          clear hv hx hc c hks
          go_wp2_with (go_at_call 186; (with_reducible refine (C.out _).mono ?_); rintro e w' ⟨rfl, rfl⟩)
          go_roundw
          case rel => exact ⟨rfl, k + 1, rfl, by omega, HV.out⟩
          case measure => simp; omega
        | false =>
          rw [hc, Bool.false_and] at hv
          rw [hc] at c
          have HV := Lib.hid hv
          have C := Lib.hid c
          clear hv hx hc c hks
          go_wp2_with (go_at_call 186; (with_reducible refine (C.out _).mono ?_); rintro e w' ⟨rfl, rfl⟩)
          go_ret
          exact ⟨by rw [HB.out, HV.out, Bool.and_false]; rfl, below_iter w S _⟩
      · obtain ⟨R, d, hR1, hR2, hnx⟩ := next_high (P := Tryz.prog) (w := w) hks hx hasc
        rw [show decide (65 ≤ X ∧ X ≤ 90) = false from decide_eq_false (by omega), Bool.false_and] at hv
        have c := fun w => cap75 R w
        rw [show capB R = false from decide_eq_false (by omega)] at c
        have HV := Lib.hid hv
        have C := Lib.hid c
        clear hv hx c hks
        go_wp2_with (go_at_call 186; (with_reducible refine (C.out _).mono ?_); rintro e w' ⟨rfl, rfl⟩)
        go_ret
        exact ⟨by rw [HB.out, HV.out, Bool.and_false]; rfl, below_iter w S _⟩
    · have hke : k = n := by omega
      subst hke
      rw [List.drop_of_length_le (by rw [HN.out]; exact Nat.le_refl _)] at hv
      have hv : caps l = true := hv
      have hB := HB.out
      rw [hv, Bool.and_true] at hB
      have HB2 := Lib.hid hB
      have hks : ¬ k < S.size := by rw [hsz]; exact hlt
      have hnx : ∀ ty, (Instr.next (.pointer (some ⟨w.heap.size, 0, none⟩)) true ty).run Tryz.prog (w.iter S k) = .ok (.tuple #[.bool false]) (w.iter S k) := fun ty => run_next_end w S k ty hks
      clear hv hB HB hks hlt
      by_cases h1 : 1 ≤ k
      · by_cases h3 : k ≤ 3
        · rw [show decide (1 ≤ k ∧ k ≤ 3) = true from decide_eq_true ⟨h1, h3⟩] at HB2
          have h3i : decide ((k : Int) ≤ 3) = true := decide_eq_true (by omega)
          go_wp2
          go_ret
          exact ⟨by rw [HB2.out]; rfl, below_iter w S _⟩
        · rw [show decide (1 ≤ k ∧ k ≤ 3) = false from decide_eq_false (fun h => h3 h.2)] at HB2
          have h3i : decide ((k : Int) ≤ 3) = false := decide_eq_false (by omega)
          go_wp2
          go_ret
          exact ⟨by rw [HB2.out]; rfl, below_iter w S _⟩
      · rw [show decide (1 ≤ k ∧ k ≤ 3) = false from decide_eq_false (fun h => h1 h.1)] at HB2
        obtain rfl : k = 0 := by omega
        go_wp2
        go_ret
        exact ⟨by rw [HB2.out]; rfl, below_iter w S _⟩
end Go.Proofs.YtfakohoamgogoaaGreatDoor.Uc

namespace Go.Proofs.YtfakohoamgogoaaGreatDoor
open Go.RowKit

/-- The digits. -/
def digs : List UInt8 := [48, 49, 50, 51, 52, 53, 54, 55, 56, 57, 65, 66, 67, 68, 69, 70]
/-- A digit's worth, or -1. -/
def val (c : UInt8) : Int := Lib.indexByte digs c
set_option maxRecDepth 100000 in
theorem val_all : ∀ n : Fin 256, val (UInt8.ofNat n.val) = (if 48 ≤ n.val ∧ n.val ≤ 57 then (n.val : Int) - 48 else if 65 ≤ n.val ∧ n.val ≤ 70 then (n.val : Int) - 55 else -1) := by decide
theorem val_eq (c : UInt8) : val c = (if 48 ≤ c.toNat ∧ c.toNat ≤ 57 then (c.toNat : Int) - 48 else if 65 ≤ c.toNat ∧ c.toNat ≤ 70 then (c.toNat : Int) - 55 else -1) := by
  have := val_all ⟨c.toNat, c.toNat_lt⟩
  simpa using this
theorem val_range (c : UInt8) : -1 ≤ val c ∧ val c < 16 := by
  rw [val_eq]
  split
  · omega
  · split <;> omega
/-- The number that digits make. -/
def hexv : Nat → List UInt8 → Option Nat
  | a, [] => some a
  | a, c :: l => if val c < 0 then none else hexv (a * 16 + (val c).toNat) l
/-- How many digits. -/
def wid (c : Nat) : Nat := if 1048575 < c then 6 else if 65535 < c then 5 else 4
theorem wid_range (c : Nat) : 4 ≤ wid c ∧ wid c ≤ 6 := by unfold wid; split <;> (try split) <;> omega
/-- The code point of a text. -/
def point (l : List UInt8) : Option Nat := (hexv 0 l).bind fun c => if l.length ≤ 6 ∧ c ≤ 1114111 ∧ l.length = wid c then some c else none
/-! Ranges. -/
/-- First and last, and the error's number. -/
def rangeOf (l : List UInt8) : Int × Int × Int :=
  if 0 ≤ Lib.index l [46, 46] then
    match point (l.take (Lib.index l [46, 46]).toNat), point (l.drop ((Lib.index l [46, 46]).toNat + 2)) with
    | some a, some b => if b ≤ a then (0, 0, 14) else (a, b, 0)
    | _, _ => (0, 0, 13)
  else match point l with
    | some a => (a, a, 0)
    | none => (0, 0, 13)

/-! Sequences. -/
def seqOf (l : List UInt8) : Option (List Nat) := if l = [] then some [] else (cutAll 32 l).mapM point
end Go.Proofs.YtfakohoamgogoaaGreatDoor

namespace Go.Proofs.YtfakohoamgogoaaGreatDoor.Uc
open Go.RowKit

/-- A row. -/
structure Pr where
  a : Int
  b : Int
  gc : List UInt8
  ccc : Int
  bd : List UInt8
  dec : List Nat
def pr0 : Pr := ⟨0, 0, [], 0, [], []⟩
def pI : Option Nat → Int
  | some c => c
  | none => -1
def fld (f : List (List UInt8)) (k : Nat) : List UInt8 := f.getD k []
/-- It begins with <. -/
def tagB (l : List UInt8) : Bool := decide (1 ≤ l.length ∧ oct l 0 = 60)
def okB (f : List (List UInt8)) : Bool := gcB (fld f 2) && (decide (0 ≤ cccOf (fld f 3)) && bdB (fld f 4))
def decErr (l : List UInt8) : Int := if tagB l = true then 0 else match seqOf l with
  | none => 13
  | some cs => if 2 < cs.length then 16 else 0
def decVal (l : List UInt8) : List Nat := if tagB l = true then [] else (seqOf l).getD []
def rowErr (f : List (List UInt8)) : Int := if ¬ f.length = 15 then 12 else match point (fld f 0) with
  | none => 13
  | some _ => if okB f = false then 16 else decErr (fld f 5)
def rowVal (f : List (List UInt8)) : Pr := ⟨pI (point (fld f 0)), pI (point (fld f 0)), fld f 2, cccOf (fld f 3), fld f 4, decVal (fld f 5)⟩
theorem row_len {f : List (List UInt8)} (h : ¬ f.length = 15) : rowErr f = 12 := by unfold rowErr; rw [if_pos h]
theorem row_hex {f : List (List UInt8)} (h : f.length = 15) (hp : point (fld f 0) = none) : rowErr f = 13 := by unfold rowErr; rw [if_neg (by simp [h]), hp]
theorem row_val {f : List (List UInt8)} {c : Nat} (h : f.length = 15) (hp : point (fld f 0) = some c) (ho : okB f = false) : rowErr f = 16 := by unfold rowErr; rw [if_neg (by simp [h]), hp]; simp only [ho, if_true]
theorem row_dec {f : List (List UInt8)} {c : Nat} (h : f.length = 15) (hp : point (fld f 0) = some c) (ho : okB f = true) : rowErr f = decErr (fld f 5) := by unfold rowErr; rw [if_neg (by simp [h]), hp]; simp [ho]
theorem row_ok {f : List (List UInt8)} (h : rowErr f = 0) : f.length = 15 ∧ (∃ c, point (fld f 0) = some c) ∧ okB f = true ∧ decErr (fld f 5) = 0 := by
  unfold rowErr at h
  split at h
  · cases h
  · rename_i hl
    split at h
    · cases h
    · rename_i c hc
      split at h
      · cases h
      · rename_i ho
        exact ⟨by omega, ⟨c, hc⟩, by simpa using ho, h⟩
theorem dec_two {l : List UInt8} (h : decErr l = 0) : (decVal l).length ≤ 2 := by
  unfold decErr at h
  unfold decVal
  split
  · simp
  · rename_i ht
    rw [if_neg ht] at h
    cases hs : seqOf l with
    | none => rw [hs] at h; cases h
    | some cs =>
      rw [hs] at h
      simp only at h
      split at h
      · cases h
      · simp; omega
theorem point_range {l : List UInt8} {c : Nat} (h : point l = some c) : c ≤ 1114111 := by
  unfold point at h
  cases hh : hexv 0 l with
  | none => rw [hh] at h; cases h
  | some x =>
    rw [hh, Option.bind_some] at h
    split at h
    · rename_i hc
      cases h
      exact hc.2.1
    · cases h

def nmF : List UInt8 := [44, 32, 70, 105, 114, 115, 116, 62]
def nmL : List UInt8 := [44, 32, 76, 97, 115, 116, 62]
/-- A line whose name is that of a range's first one, and the next one, are a range. -/
def joinB (f g : List (List UInt8)) : Bool :=
  namedB (fld g 1) nmL && (decide ((rowVal f).gc = (rowVal g).gc) && (decide ((rowVal f).ccc = (rowVal g).ccc) && (decide ((rowVal f).bd = (rowVal g).bd) && (decide (fld f 5 = []) && (decide (fld g 5 = []) && decide ((rowVal f).a < (rowVal g).a))))))

/-- What a file says: the rows, the error, the number of its line. -/
structure Res where
  rows : List Pr
  err : Int
  num : Int
def lastB : List Pr → Option Int
  | [] => none
  | [p] => some p.b
  | _ :: p :: t => lastB (p :: t)
theorem lastB_snoc : ∀ (l : List Pr) (p : Pr), lastB (l ++ [p]) = some p.b
  | [], _ => rfl
  | [_], _ => rfl
  | _ :: q :: t, p => lastB_snoc (q :: t) p
/-- Its code point is not above those ahead. -/
def twice (out : List Pr) (r : Pr) : Bool := match lastB out with
  | none => false
  | some b => decide (r.a ≤ b)
def refP : List Pr → List Ln → Res
  | out, [] => ⟨out, 0, 0⟩
  | out, x :: t =>
    if ¬ rowErr x.2 = 0 then ⟨[], rowErr x.2, x.1⟩ else
    if twice out (rowVal x.2) = true then ⟨[], 15, x.1⟩ else
    if namedB (fld x.2 1) nmF = true then
      match t with
      | [] => ⟨[], 14, x.1⟩
      | y :: t' => if ¬ rowErr y.2 = 0 then ⟨[], rowErr y.2, y.1⟩ else if joinB x.2 y.2 = false then ⟨[], 14, x.1⟩ else refP (out ++ [{ rowVal x.2 with b := (rowVal y.2).a }]) t'
    else refP (out ++ [rowVal x.2]) t
def parseOf (l : List Ln) : Res := refP [] l

/-- Where the program stands: an error; or the rows, and the first line of a range that is open. -/
inductive St where
  | bad (e n : Int)
  | at (rows : List Pr) (op : Option Ln)
def setB (l : List Pr) (b : Int) : List Pr := l.dropLast ++ (l.getLast?.map fun p => { p with b := b }).toList
def step : St → Ln → St
  | .bad e n, _ => .bad e n
  | .at out none, x =>
    if ¬ rowErr x.2 = 0 then .bad (rowErr x.2) x.1 else
    if twice out (rowVal x.2) = true then .bad 15 x.1 else
    .at (out ++ [rowVal x.2]) (if namedB (fld x.2 1) nmF = true then some x else none)
  | .at out (some x), y =>
    if ¬ rowErr y.2 = 0 then .bad (rowErr y.2) y.1 else
    if joinB x.2 y.2 = false then .bad 14 x.1 else .at (setB out (rowVal y.2).a) none
def fin : St → Res
  | .bad e n => ⟨[], e, n⟩
  | .at out none => ⟨out, 0, 0⟩
  | .at _ (some x) => ⟨[], 14, x.1⟩
theorem fold_bad (e n : Int) : ∀ l : List Ln, l.foldl step (.bad e n) = .bad e n
  | [] => rfl
  | _ :: t => fold_bad e n t
theorem setB_snoc (out : List Pr) (p : Pr) (b : Int) : setB (out ++ [p]) b = out ++ [{ p with b := b }] := by simp [setB]
theorem fold_ref : ∀ (l : List Ln) (out : List Pr), fin (l.foldl step (.at out none)) = refP out l
  | [], out => by simp [fin, refP]
  | x :: t, out => by
    rw [List.foldl_cons, refP.eq_def]
    simp only []
    simp only [step]
    by_cases h1 : ¬ rowErr x.2 = 0
    · rw [if_pos h1, if_pos h1, fold_bad]; rfl
    rw [if_neg h1, if_neg h1]
    by_cases h2 : twice out (rowVal x.2) = true
    · rw [if_pos h2, if_pos h2, fold_bad]; rfl
    rw [if_neg h2, if_neg h2]
    by_cases h3 : namedB (fld x.2 1) nmF = true
    · rw [if_pos h3, if_pos h3]
      cases t with
      | nil => rfl
      | cons y t' =>
        rw [List.foldl_cons]
        simp only [step]
        by_cases h4 : ¬ rowErr y.2 = 0
        · rw [if_pos h4, if_pos h4, fold_bad]; rfl
        rw [if_neg h4, if_neg h4]
        by_cases h5 : joinB x.2 y.2 = false
        · rw [if_pos h5, if_pos h5, fold_bad]; rfl
        rw [if_neg h5, if_neg h5, setB_snoc]
        exact fold_ref t' _
    · rw [if_neg h3, if_neg h3]
      exact fold_ref t _
theorem fold_parse (l : List Ln) : fin (l.foldl step (.at [] none)) = parseOf l := fold_ref l []
end Go.Proofs.YtfakohoamgogoaaGreatDoor.Uc

namespace Go.Proofs.YtfakohoamgogoaaGreatDoor.Uc
open Go.RowKit

def sideOf (s : Rw) (c : Int) : Int := if s.b < c then -1 else if c < s.a then 1 else 0
set_option maxRecDepth 100000 in
set_option maxHeartbeats 1000000 in
theorem side44 (s : Rw) (c : Int) (w : World) : Calls Tryz.prog 72 #[rwV s, .int .i64 c] w fun e w' => e = .returned (.int .i64 (sideOf s c)) ∧ Below w.heap.size w w' := by
  obtain ⟨xa, xb, xg, xc, xd, xp, xm, xk⟩ := s
  unfold rwV
  have HW : ∀ T U, Below w.heap.size w (w.alloc (.cells #[.int .i64 xa, .int .i64 xb, .string T, .int .i64 xc, .string U, .slice xp xm xk] 59)) := fun T U => (Below.refl _ _).alloc (Nat.le_refl _) _
  have HW := Lib.hid HW
  obtain ⟨T, hT⟩ : ∃ T, bs xg = T := ⟨_, rfl⟩
  obtain ⟨U, hU⟩ : ∃ U, bs xd = U := ⟨_, rfl⟩
  simp only [hT, hU]
  clear hT hU
  by_cases h1 : xb < c
  · have HR : Hid (sideOf ⟨xa, xb, xg, xc, xd, xp, xm, xk⟩ c = -1) := Lib.hid (by unfold sideOf; rw [if_pos h1])
    go_enter Tryz.func72, Tryz.ntmps72
    go_wp2
    go_ret
    exact ⟨by rw [HR.out]; rfl, HW.out _ _⟩
  · by_cases h2 : c < xa
    · have HR : Hid (sideOf ⟨xa, xb, xg, xc, xd, xp, xm, xk⟩ c = 1) := Lib.hid (by unfold sideOf; rw [if_neg h1, if_pos h2])
      go_enter Tryz.func72, Tryz.ntmps72
      go_wp2
      go_ret
      exact ⟨by rw [HR.out]; rfl, HW.out _ _⟩
    · have HR : Hid (sideOf ⟨xa, xb, xg, xc, xd, xp, xm, xk⟩ c = 0) := Lib.hid (by unfold sideOf; rw [if_neg h1, if_neg h2])
      go_enter Tryz.func72, Tryz.ntmps72
      go_wp2
      go_ret
      exact ⟨by rw [HR.out]; rfl, HW.out _ _⟩

/-- Rows that rise: none is empty, each is above those ahead. -/
def Rises (ls : List Rw) : Prop := ls.Pairwise (fun s t => s.b < t.a) ∧ ∀ s ∈ ls, s.a ≤ s.b
/-- How many rows lie wholly ahead of c; and whether the next one has it. -/
def placeOf (ls : List Rw) (c : Int) : Nat := (ls.takeWhile fun t => decide (t.b < c)).length
def foundAt (ls : List Rw) (c : Int) : Bool := match ls[placeOf ls c]? with | some t => decide (sideOf t c = 0) | none => false
theorem side_neg {s : Rw} {c : Int} : sideOf s c < 0 ↔ s.b < c := by
  unfold sideOf
  split
  · simp [*]
  · split <;> simp [*]
theorem side_zero {s : Rw} {c : Int} : sideOf s c = 0 ↔ s.a ≤ c ∧ c ≤ s.b := by
  unfold sideOf
  split
  · omega
  · split <;> omega
theorem place_at {ls : List Rw} {c : Int} {k : Nat} (hk : k ≤ ls.length) (h1 : ∀ j s, j < k → ls[j]? = some s → s.b < c) (h2 : ∀ j s, k ≤ j → ls[j]? = some s → c ≤ s.b) : placeOf ls c = k := by
  unfold placeOf
  induction ls generalizing k with
  | nil => simp at hk; simp [hk]
  | cons t ls ih =>
    cases k with
    | zero =>
      have := h2 0 t (Nat.le_refl _) rfl
      rw [List.takeWhile_cons_of_neg (by simp; omega)]
      rfl
    | succ k =>
      have := h1 0 t (by omega) rfl
      rw [List.takeWhile_cons_of_pos (by simp [this]), List.length_cons, ih (k := k) (by simpa using hk) (fun j s hj hs => h1 (j + 1) s (by omega) (by simpa using hs)) (fun j s hj hs => h2 (j + 1) s (by omega) (by simpa using hs))]
theorem rises_b {ls : List Rw} (hr : Rises ls) {i j : Nat} {s t : Rw} (hij : i ≤ j) (hs : ls[i]? = some s) (ht : ls[j]? = some t) : s.b ≤ t.b := by
  rcases Nat.lt_or_eq_of_le hij with h | h
  · have hi := (List.getElem?_eq_some_iff.1 hs)
    have hj := (List.getElem?_eq_some_iff.1 ht)
    have := List.pairwise_iff_getElem.1 hr.1 i j hi.1 hj.1 h
    rw [hi.2, hj.2] at this
    have := hr.2 t (List.mem_of_getElem? ht)
    omega
  · subst h
    rw [hs] at ht
    injection ht with ht
    rw [ht]
    exact Int.le_refl _
theorem at_found {ls : List Rw} {c : Int} {s : Rw} (hs : ls[placeOf ls c]? = some s) (h : sideOf s c = 0) : atOf ls c = s := by
  refine at_take hs (fun t ht => ?_) (side_zero.1 h)
  unfold placeOf at ht
  have e : ls.take (ls.takeWhile fun t => decide (t.b < c)).length = ls.takeWhile fun t => decide (t.b < c) := by
    have := List.takeWhile_prefix (l := ls) (fun t => decide (t.b < c))
    exact (List.prefix_iff_eq_take.1 this).symm
  rw [e] at ht
  have := List.all_takeWhile (l := ls) (p := fun t => decide (t.b < c))
  rw [List.all_eq_true] at this
  have := of_decide_eq_true (this t ht)
  omega
theorem at_lost : ∀ {ls : List Rw} {c : Int}, Rises ls → foundAt ls c = false → atOf ls c = rw0
  | [], _, _, _ => rfl
  | t :: ls, c, hr, h => by
    have hr' : Rises ls := ⟨(List.pairwise_cons.1 hr.1).2, fun s hs => hr.2 s (List.mem_cons_of_mem _ hs)⟩
    by_cases hb : t.b < c
    · have hp : placeOf (t :: ls) c = placeOf ls c + 1 := by unfold placeOf; rw [List.takeWhile_cons_of_pos (by simp [hb])]; rfl
      have hf : foundAt ls c = false := by
        unfold foundAt at h ⊢
        rw [hp, List.getElem?_cons_succ] at h
        exact h
      have := at_lost hr' hf
      unfold atOf at this ⊢
      rw [List.find?_cons_of_neg (by simp; omega)]
      exact this
    · have hp : placeOf (t :: ls) c = 0 := by unfold placeOf; rw [List.takeWhile_cons_of_neg (by simp; omega)]; rfl
      have hf : ¬ sideOf t c = 0 := by
        unfold foundAt at h
        rw [hp] at h
        exact of_decide_eq_false h
      have h1 : ¬ (t.a ≤ c ∧ c ≤ t.b) := fun h => hf (side_zero.2 h)
      have h2 := hr.2 t (List.mem_cons_self ..)
      refine at_gap fun u hu hc => ?_
      rcases List.mem_cons.1 hu with rfl | hu
      · exact h1 hc
      · have := (List.pairwise_cons.1 hr.1).1 u hu
        omega
theorem found_some {ls : List Rw} {c : Int} (h : foundAt ls c = true) : ∃ s, ls[placeOf ls c]? = some s ∧ sideOf s c = 0 := by
  unfold foundAt at h
  split at h
  · rename_i t ht
    exact ⟨t, ht, of_decide_eq_true h⟩
  · cases h

def BinRel (ls : List Rw) (c : Int) (W : World) (s9 s10 : Value) (wr : World) : Prop :=
  Below W.heap.size W wr ∧ ∃ lo hi : Nat, s9 = .int .i64 lo ∧ s10 = .int .i64 hi ∧ lo ≤ hi ∧ hi ≤ ls.length ∧ (∀ j s, j < lo → ls[j]? = some s → s.b < c) ∧ (∀ j s, hi ≤ j → ls[j]? = some s → c ≤ s.b)
def BinPost (ls : List Rw) (c : Int) (w : World) (e : Ending) (w' : World) : Prop :=
  e = .returned (.tuple #[.int .i64 (placeOf ls c), .bool (foundAt ls c)]) ∧ Below w.heap.size w w'
set_option maxRecDepth 100000 in
set_option maxHeartbeats 4000000 in
theorem bin43 (A : Option Addr) (n ca : Nat) (ls : List Rw) (x : Int) (w : World) (hV : RAt w A n ls) (hn : n ≤ 100000) (hr : Rises ls) :
    Calls Tryz.prog 71 #[.slice A n ca, .int .i64 x, .func (.func 72) #[] #[]] w (BinPost ls x w) := by
  have HV := Lib.hid hV
  have HL := Lib.hid hV.1
  have HR := Lib.hid hr
  clear hV hr
  go_enter Tryz.func71, Tryz.ntmps71
  go_wp2
  go_loopw [9, 10] (fun s9 s10 wr => BinRel ls x w s9 s10 wr) (fun s9 s10 _ => (intOf s10).toNat - (intOf s9).toNat)
  case atStart => exact ⟨Below.refl _ _, 0, n, rfl, rfl, Nat.zero_le _, by rw [HL.out]; exact Nat.le_refl _, fun j s hj => absurd hj (by omega), fun j s hj hs => by have := (List.getElem?_eq_some_iff.1 hs).1; rw [HL.out] at this; omega⟩
  case round =>
    obtain ⟨hbel, lo, hi, rfl, rfl, hlh, hin, i1, i2⟩ := hrel
    have I1 := Lib.hid i1
    have I2 := Lib.hid i2
    rw [HL.out] at hin
    clear i1 i2
    by_cases hlt : lo < hi
    · obtain ⟨b, off, rfl, hblt, hc⟩ := (HV.out.below hbel).2 (by omega)
      obtain ⟨m, hm⟩ : ∃ m, (lo + hi) / 2 = m := ⟨_, rfl⟩
      have hmI : ((lo : Int) + (hi : Int)) / 2 = (m : Int) := by omega
      have hml : lo ≤ m := by omega
      have hmh : m < hi := by omega
      have hmn : m < n := by omega
      clear hm
      obtain ⟨s, hs⟩ := getRw (ls := ls) (k := m) (by rw [HL.out]; omega)
      obtain ⟨h1, h2, h3, h4, h5, h6⟩ := hc _ s hs
      have HS := Lib.hid hs
      have c44 := fun W' => side44 s x W'
      unfold rwV at c44
      obtain ⟨T, hT⟩ : ∃ T, bs s.gc = T := ⟨_, rfl⟩
      obtain ⟨U, hU⟩ : ∃ U, bs s.bd = U := ⟨_, rfl⟩
      rw [hT] at h3 c44
      rw [hU] at h5 c44
      obtain ⟨X, hX⟩ : ∃ X, sideOf s x = X := ⟨_, rfl⟩
      rw [hX] at c44
      have HXX := Lib.hid hX
      have HBE := Lib.hid hbel
      have C44 := Lib.hid c44
      clear hc hs hT hU hX hbel c44
      by_cases hx : X < 0
      · go_wp2_with (go_at_call 72; (with_reducible refine (C44.out _).mono ?_); rintro e w1 ⟨rfl, hb1⟩)
        go_roundw
        case measure => simp [intOf]; omega
        case rel =>
          refine ⟨HBE.out.trans (hb1.mono HBE.out.size), m + 1, hi, by go_num, rfl, by omega, by rw [HL.out]; omega, fun j t hj ht => ?_, I2.out⟩
          have := side_neg.1 (by rw [HXX.out]; exact hx)
          have := rises_b HR.out (by omega) ht HS.out
          omega
      · go_wp2_with (go_at_call 72; (with_reducible refine (C44.out _).mono ?_); rintro e w1 ⟨rfl, hb1⟩)
        go_roundw
        case measure => simp [intOf]; omega
        case rel =>
          refine ⟨HBE.out.trans (hb1.mono HBE.out.size), lo, m, rfl, by go_num, by omega, by rw [HL.out]; omega, I1.out, fun j t hj ht => ?_⟩
          have := mt side_neg.2 (by rw [HXX.out]; omega)
          have := rises_b HR.out (by omega) HS.out ht
          omega
    · obtain rfl : hi = lo := by omega
      have HP := Lib.hid (place_at (c := x) (by rw [HL.out]; exact hin) I1.out I2.out)
      by_cases hn2 : hi < n
      · obtain ⟨b, off, rfl, hblt, hc⟩ := (HV.out.below hbel).2 (by omega)
        obtain ⟨s, hs⟩ := getRw (ls := ls) (k := hi) (by rw [HL.out]; omega)
        obtain ⟨h1, h2, h3, h4, h5, h6⟩ := hc _ s hs
        have c44 := fun W' => side44 s x W'
        unfold rwV at c44
        obtain ⟨T, hT⟩ : ∃ T, bs s.gc = T := ⟨_, rfl⟩
        obtain ⟨U, hU⟩ : ∃ U, bs s.bd = U := ⟨_, rfl⟩
        rw [hT] at h3 c44
        rw [hU] at h5 c44
        have HFo : Hid (foundAt ls x = decide (sideOf s x = 0)) := Lib.hid (by unfold foundAt; rw [HP.out, hs])
        obtain ⟨X, hX⟩ : ∃ X, sideOf s x = X := ⟨_, rfl⟩
        rw [hX] at c44 HFo
        have HBE := Lib.hid hbel
        have C44 := Lib.hid c44
        clear hc hs hT hU hX hbel c44
        by_cases hx : X = 0
        · subst hx
          go_wp2_with (go_at_call 72; (with_reducible refine (C44.out _).mono ?_); rintro e w1 ⟨rfl, hb1⟩)
          go_ret2
          exact ⟨by rw [HP.out, HFo.out]; rfl, HBE.out.trans (hb1.mono HBE.out.size)⟩
        · have hx0 : (X == 0) = false := beq_false_of_ne hx
          have hxd : decide (X = 0) = false := by simp [hx]
          have HXD := Lib.hid hxd
          clear hx hxd
          go_wp2_with (go_at_call 72; (with_reducible refine (C44.out _).mono ?_); rintro e w1 ⟨rfl, hb1⟩)
          go_ret2
          exact ⟨by rw [HP.out, HFo.out, HXD.out]; rfl, HBE.out.trans (hb1.mono HBE.out.size)⟩
      · have HFo : Hid (foundAt ls x = false) := Lib.hid (by unfold foundAt; rw [HP.out, List.getElem?_eq_none (by rw [HL.out]; omega)])
        have HBE := Lib.hid hbel
        clear hbel
        obtain rfl : hi = n := by omega
        go_wp2
        go_ret2
        exact ⟨by rw [HP.out, HFo.out]; rfl, HBE.out⟩
end Go.Proofs.YtfakohoamgogoaaGreatDoor.Uc
