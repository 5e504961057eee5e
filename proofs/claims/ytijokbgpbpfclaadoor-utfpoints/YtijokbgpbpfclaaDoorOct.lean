/- What the document's own answer for a scalar's octets, and for the octets of any numbers, hands back. -/
import Derived.Test.YtijokbgpbpfclaaDoorAwake
namespace Go.Proofs.YtijokbgpbpfclaaDoor
open Go.RowKit

theorem conv_one (w : World) (x : Int) : (convert 24 9 (.slice (some ⟨w.heap.size, 0, none⟩) 1 1)).run Tryd.prog (w.alloc (.cells #[.int .u8 x] 5)) = .ok (.string (strOfNums [x])) (w.alloc (.cells #[.int .u8 x] 5)) :=
  conv_nums 1 (nums_one w .u8 x 5)

def OctRel (C : Int) (w : World) (c s l f : Value) (wr : World) : Prop :=
  Below w.heap.size w wr ∧
  ((c = .int .i64 C ∧ s = .string (strOfNums []) ∧ l = .int .i64 64 ∧ f = .int .i64 192) ∨
   (c = .int .i64 (C / 64) ∧ s = .string (strOfNums [128 + C % 64]) ∧ l = .int .i64 32 ∧ f = .int .i64 192) ∨
   (2048 ≤ C ∧ c = .int .i64 (C / 4096) ∧ s = .string (strOfNums [128 + C / 64 % 64, 128 + C % 64]) ∧ l = .int .i64 16 ∧ f = .int .i64 224) ∨
   (65536 ≤ C ∧ c = .int .i64 (C / 262144) ∧ s = .string (strOfNums [128 + C / 4096 % 64, 128 + C / 64 % 64, 128 + C % 64]) ∧ l = .int .i64 8 ∧ f = .int .i64 240))

theorem str_nil : (⟨#[]⟩ : ByteArray) = strOfNums [] := rfl
theorem str_two (a : Int) (l : List Int) : strOfNums [a] ++ strOfNums l = strOfNums (a :: l) := (str_append [a] l).symm
theorem ret_str {a b : ByteArray} (h : a = b) : Ending.returned (.string a) = .returned (.string b) := by rw [h]
theorem val_str {a b : ByteArray} (h : a = b) : Value.string a = .string b := by rw [h]
theorem val_int {k : IntKind} {a b : Int} (h : a = b) : Value.int k a = .int k b := by rw [h]

set_option maxHeartbeats 1000000 in
theorem octets15_one (C : Int) (w : World) (h0 : 0 ≤ C) (h1 : C ≤ 127) :
    Calls Tryd.prog 15 #[.int .i64 C] w fun e w' => e = .returned (.string (strOfNums (oct C))) ∧ Below w.heap.size w w' := by
  have e : oct C = [C] := Lib.encodeRuneZ_one h0 h1
  rw [e]
  clear e
  have hconv := conv_one w
  go_enter Tryd.func15, Tryd.ntmps15
  go_wp2
  go_ret
  exact ⟨rfl, (Below.refl _ _).alloc (Nat.le_refl _) _⟩

set_option maxHeartbeats 2000000 in
theorem octets15_more (C : Int) (w : World) (hs : scal C = true) (h1 : 128 ≤ C) :
    Calls Tryd.prog 15 #[.int .i64 C] w fun e w' => e = .returned (.string (strOfNums (oct C))) ∧ Below w.heap.size w w' := by
  have h2 : C ≤ 1114111 := (scal_iff.1 hs).2.1
  have HS := Lib.hid hs
  clear hs
  have hsz := strOfNums_size
  have happ := str_two
  go_enter Tryd.func15, Tryd.ntmps15
  go_wp2
  go_loopw [0, 3, 4, 5] (fun c s l f wr => OctRel C w c s l f wr) (fun c _ _ _ _ => (intOf c).toNat)
  case atStart => exact ⟨Below.refl _ _, .inl ⟨rfl, rfl, rfl, rfl⟩⟩
  case round =>
    obtain ⟨hb, hrel⟩ := hrel
    have hconv := conv_one wr
    have hb2 : ∀ o, Below w.heap.size w (wr.alloc o) := fun o => hb.alloc hb.size o
    have HB := Lib.hid hb2
    clear hb2
    rcases hrel with ⟨rfl, rfl, rfl, rfl⟩ | ⟨rfl, rfl, rfl, rfl⟩ | ⟨hC, rfl, rfl, rfl, rfl⟩ | ⟨hC, rfl, rfl, rfl, rfl⟩
    · have hc : 64 ≤ C := by omega
      go_wp2
      go_roundw
      case rel => exact ⟨HB.out _, .inr (.inl ⟨rfl, rfl, rfl, rfl⟩)⟩
      case measure => simp [intOf]; omega
    · by_cases hc : C < 2048
      · have e : oct C = [192 + C / 64, 128 + C % 64] := Lib.encodeRuneZ_two h1 (by omega)
        have E := Lib.hid e
        clear e
        have hc' : C / 64 < 32 := by omega
        go_wp2
        go_ret
        exact ⟨ret_str (by rw [E.out]), HB.out _⟩
      · have hc' : 32 ≤ C / 64 := by omega
        go_wp2
        go_roundw
        case rel => exact ⟨HB.out _, .inr (.inr (.inl ⟨by omega, val_int (by omega), val_str rfl, rfl, rfl⟩))⟩
        case measure => simp [intOf]; omega
    · by_cases hc : C < 65536
      · have e : oct C = [224 + C / 4096, 128 + C / 64 % 64, 128 + C % 64] := Lib.encodeRuneZ_three (by have := scal_iff.1 HS.out; omega)
        have E := Lib.hid e
        clear e
        have hc' : C / 4096 < 16 := by omega
        go_wp2
        go_ret
        exact ⟨ret_str (by rw [E.out]), HB.out _⟩
      · have hc' : 16 ≤ C / 4096 := by omega
        go_wp2
        go_roundw
        case rel => exact ⟨HB.out _, .inr (.inr (.inr ⟨by omega, val_int (by omega), val_str rfl, rfl, rfl⟩))⟩
        case measure => simp [intOf]; omega
    · have e : oct C = [240 + C / 262144, 128 + C / 4096 % 64, 128 + C / 64 % 64, 128 + C % 64] := Lib.encodeRuneZ_four hC h2
      have E := Lib.hid e
      clear e
      have hc' : C / 262144 < 8 := by omega
      go_wp2
      go_ret
      exact ⟨ret_str (by rw [E.out]), HB.out _⟩

theorem octets15 (C : Int) (w : World) (hs : scal C = true) :
    Calls Tryd.prog 15 #[.int .i64 C] w fun e w' => e = .returned (.string (strOfNums (oct C))) ∧ Below w.heap.size w w' := by
  by_cases h : C ≤ 127
  · exact octets15_one C w (scal_iff.1 hs).1 h
  · exact octets15_more C w hs (by omega)

/-- What the document's own Encode hands back. -/
def RefPost (xs : List Int) (w : World) (e : Ending) (w' : World) : Prop :=
  Below w.heap.size w w' ∧
  (((∀ c ∈ xs, scal c = true) ∧ e = .returned (.tuple #[.string (strOfNums (encs xs)), .bool true])) ∨
   ((¬ ∀ c ∈ xs, scal c = true) ∧ e = .returned (.tuple #[.string (strOfNums []), .bool false])))

def RefRel (xs : List Int) (n : Nat) (w : World) (s i : Value) (wr : World) : Prop :=
  ∃ k : Nat, k ≤ n ∧ i = .int .i64 k ∧ (∀ c ∈ xs.take k, scal c = true) ∧ s = .string (strOfNums (encs (xs.take k))) ∧ Below w.heap.size w wr

theorem ref_step {xs : List Int} {n k : Nat} {x : Int} {w w' : World} (hk : k < n) (hl : xs.length = n) (hx : xs.getD k 0 = x) (hs : scal x = true) (ha : ∀ c ∈ xs.take k, scal c = true) (hb : Below w.heap.size w w') :
    RefRel xs n w (.string (strOfNums (encs (xs.take k)) ++ strOfNums (oct x))) (.int .i64 ((k : Int) + 1)) w' := by
  subst hx
  exact ⟨k + 1, by omega, by go_num, all_snoc (by omega) ha hs, val_str (by rw [encs_snoc (by omega), str_append]), hb⟩

set_option maxHeartbeats 1000000 in
theorem refEncode10 (A : Option Addr) (n ca : Nat) (xs : List Int) (w : World) (ha : Nums .i64 w A n xs) (hn : n ≤ 1000000) :
    Calls Tryd.prog 10 #[.slice A n ca] w (RefPost xs w) := by
  have HA := Lib.hid ha.1
  go_enter Tryd.func10, Tryd.ntmps10
  go_wp2
  go_loopw [4, 5] (fun s i wr => RefRel xs n w s i wr) (fun _ i _ => n - (intOf i).toNat)
  case atStart => exact ⟨0, Nat.zero_le _, rfl, by simp, rfl, Below.refl _ _⟩
  case round =>
    obtain ⟨k, hkn, rfl, hall, rfl, hbel⟩ := hrel
    by_cases hlt : k < n
    · obtain ⟨b, off, rfl, hbl, hc⟩ := ha.2 (by omega)
      have hcx : wr.cell? ⟨b, off + k, none⟩ = some (.int .i64 (xs.getD k 0)) := (hbel.cell (p := ⟨b, off + k, none⟩) hbl).trans (hc k hlt)
      clear hc ha
      obtain ⟨x, hx⟩ : ∃ x, xs.getD k 0 = x := ⟨_, rfl⟩
      rw [hx] at hcx
      have HX := Lib.hid hx
      clear hx
      cases hs : scal x with
      | true =>
        have HSx := Lib.hid hs
        clear hs
        have hst := fun w' hb => @ref_step xs n k x w w' hlt HA.out HX.out HSx.out hall hb
        have hL : (strOfNums (encs (xs.take k))).size ≤ 4000000 := by
          rw [strOfNums_size]
          have := (encs_length (xs.take k)).2
          have h2 : (xs.take k).length ≤ k := List.length_take_le _ _
          omega
        have hL2 : (strOfNums (oct x)).size ≤ 4 := by rw [strOfNums_size]; exact (oct_length x).2
        have HSt := Lib.hid hst
        clear hst hall
        obtain ⟨S, hS⟩ : ∃ S, strOfNums (encs (xs.take k)) = S := ⟨_, rfl⟩
        obtain ⟨T, hT⟩ : ∃ T, strOfNums (oct x) = T := ⟨_, rfl⟩
        have c15 := fun w' => octets15 x w' HSx.out
        rw [hS] at hL HSt ⊢
        rw [hT] at hL2 HSt
        simp only [hT] at c15
        have C15 := Lib.hid c15
        clear c15 hS hT
        go_wp2_with (first
          | (go_at_call 21; (with_reducible refine (scalar21_yes _ HSx.out).mono ?_); rintro e w' ⟨rfl, rfl⟩)
          | (go_at_call 15; (with_reducible refine (C15.out _).mono ?_); rintro e w1 ⟨rfl, hb1⟩))
        go_roundw
        case rel => exact HSt.out _ (hbel.trans (hb1.mono hbel.size))
        case measure => simp [intOf]; omega
      | false =>
        have HSx := Lib.hid hs
        clear hs
        go_wp2_with (go_at_call 21; (with_reducible refine (scalar21_no _ HSx.out).mono ?_); rintro e w' ⟨rfl, rfl⟩)
        go_ret2
        exact ⟨hbel, .inr ⟨not_all (k := k) (by have := HA.out; omega) (by rw [HX.out]; exact HSx.out), rfl⟩⟩
    · have hk : k = n := by omega
      subst hk
      have e : xs.take k = xs := List.take_of_length_le (by have := HA.out; omega)
      rw [e] at hall ⊢
      clear e ha
      go_wp2
      go_ret2
      exact ⟨hbel, .inl ⟨hall, rfl⟩⟩
end Go.Proofs.YtijokbgpbpfclaaDoor
