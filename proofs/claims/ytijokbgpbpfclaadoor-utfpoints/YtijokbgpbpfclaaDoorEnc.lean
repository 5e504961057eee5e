/- What the program's encoding hands back for any numbers. -/
import Derived.Test.YtijokbgpbpfclaaDoorCmp
import Derived.Test.YtijokbgpbpfclaaDoorSteps
import Derived.Test.YtijokbgpbpfclaaDoorShelf
namespace Go.Proofs.YtijokbgpbpfclaaDoor
open Go.RowKit

theorem scalar20_yes {c : Int} (w : World) (h : scal c = true) : Calls Tryd.prog 20 #[.int .i64 c] w fun e w' => e = .returned (.bool true) ∧ w = w' := by
  have := scalar20 c w
  rwa [h] at this
theorem scalar20_no {c : Int} (w : World) (h : scal c = false) : Calls Tryd.prog 20 #[.int .i64 c] w fun e w' => e = .returned (.bool false) ∧ w = w' := by
  have := scalar20 c w
  rwa [h] at this
theorem scalar21_yes {c : Int} (w : World) (h : scal c = true) : Calls Tryd.prog 21 #[.int .i64 c] w fun e w' => e = .returned (.bool true) ∧ w = w' := by
  have := scalar21 c w
  rwa [h] at this
theorem scalar21_no {c : Int} (w : World) (h : scal c = false) : Calls Tryd.prog 21 #[.int .i64 c] w fun e w' => e = .returned (.bool false) ∧ w = w' := by
  have := scalar21 c w
  rwa [h] at this

/-- What Encode hands back. -/
def EncPost (xs : List Int) (w : World) (e : Ending) (w' : World) : Prop :=
  Below w.heap.size w w' ∧
  (((∀ c ∈ xs, scal c = true) ∧ ∃ v, e = .returned (.tuple #[v, .bool true]) ∧ w'.ownsRowF w.heap.size 5 1 v (encs xs).length ((encs xs).map (Value.int .u8))) ∨
   ((¬ ∀ c ∈ xs, scal c = true) ∧ e = .returned (.tuple #[.slice none 0 0, .bool false])))

/-- What has been gathered when the round at k begins. -/
def EncRel (xs : List Int) (n : Nat) (w : World) (v i : Value) (wr : World) : Prop :=
  ∃ k : Nat, k ≤ n ∧ i = .int .i64 k ∧ (∀ c ∈ xs.take k, scal c = true) ∧ wr.ownsRowF w.heap.size 5 1 v (encs (xs.take k)).length ((encs (xs.take k)).map (Value.int .u8)) ∧ Below w.heap.size w wr

theorem runeCells_oct (c : Int) : Lib.runeCells c = (oct c).map (Value.int .u8) := rfl

theorem enc_step {xs : List Int} {n k : Nat} {x : Int} {w wr w' : World} {v v' : Value} (hk : k < n) (hl : xs.length = n) (hx : xs.getD k 0 = x) (hs : scal x = true) (ha : ∀ c ∈ xs.take k, scal c = true)
    (ho : wr.ownsRowF w.heap.size 5 1 v (encs (xs.take k)).length ((encs (xs.take k)).map (Value.int .u8))) (hb : Below w.heap.size w wr)
    (ho' : w'.ownsRowF w.heap.size 5 1 v' ((encs (xs.take k)).length + (Lib.runeCells x).length) ((encs (xs.take k)).map (Value.int .u8) ++ Lib.runeCells x))
    (hg : ∃ o, (wr.alloc o).grownBy w' v.ownBlock) : EncRel xs n w v' (.int .i64 ((k : Int) + 1)) w' := by
  subst hx
  refine ⟨k + 1, by omega, by go_num, all_snoc (by omega) ha hs, ?_, ?_⟩
  · rw [encs_snoc (by omega), List.length_append, List.map_append]
    rw [runeCells_oct, List.length_map] at ho'
    exact ho'
  · obtain ⟨o, hg⟩ := hg
    exact (hb.alloc hb.size o).grown hg (by have := hb.size; simp; omega) (fun g hgv => (ho.lt g hgv).1)

set_option maxHeartbeats 1000000 in
theorem encode9 (A : Option Addr) (n ca : Nat) (xs : List Int) (w : World) (ha : Nums .i64 w A n xs) (hn : n ≤ 1000000) :
    Calls Tryd.prog 9 #[.slice A n ca] w (EncPost xs w) := by
  have HA := Lib.hid ha.1
  go_enter Tryd.func9, Tryd.ntmps9
  go_wp2
  go_loopw [4, 9] (fun v i wr => EncRel xs n w v i wr) (fun _ i _ => n - (intOf i).toNat)
  case atStart => exact ⟨0, Nat.zero_le _, rfl, by simp, by simpa [encs] using World.ownsRowF_nil w w.heap.size 5 1, Below.refl _ _⟩
  case round =>
    obtain ⟨k, hkn, rfl, hall, hown, hbel⟩ := hrel
    by_cases hlt : k < n
    · obtain ⟨b, off, rfl, hbl, hc⟩ := ha.2 (by omega)
      have hcx : wr.cell? ⟨b, off + k, none⟩ = some (.int .i64 (xs.getD k 0)) := (hbel.cell (p := ⟨b, off + k, none⟩) hbl).trans (hc k hlt)
      clear hc ha
      obtain ⟨x, hx⟩ : ∃ x, xs.getD k 0 = x := ⟨_, rfl⟩
      rw [hx] at hcx
      have HX := Lib.hid hx
      clear hx
      cases hs : scal x with
      | true =>
        have hb1 := scal_iff.1 hs
        have h0 : 0 ≤ x := hb1.1
        have h1 : x ≤ 1114111 := hb1.2.1
        clear hb1
        have HSx := Lib.hid hs
        clear hs
        have hL : (encs (xs.take k)).length + 4 ≤ 140737488355328 := by
          have := (encs_length (xs.take k)).2
          have h2 : (xs.take k).length ≤ k := List.length_take_le _ _
          omega
        have hsz := hbel.size
        have HAll := Lib.hid hall
        clear hall
        go_wp2_with (first
          | (go_at_call 20; refine (scalar20_yes _ HSx.out).mono ?_; rintro e w' ⟨rfl, rfl⟩)
          | (go_at_call 24; refine (Tryd.utf8_AppendRune_row w.heap.size _ _ _ x (by omega) (by omega) _ hown hL hsz).mono ?_; rintro e w' ⟨v', rfl, hown', hgrow⟩))
        go_roundw
        case rel => exact enc_step hlt HA.out HX.out HSx.out HAll.out hown hbel hown' hgrow
        case measure => simp [intOf]; omega
      | false =>
        have HSx := Lib.hid hs
        clear hs
        go_wp2_with (go_at_call 20; refine (scalar20_no _ HSx.out).mono ?_; rintro e w' ⟨rfl, rfl⟩)
        go_ret2
        exact ⟨hbel, .inr ⟨not_all (k := k) (by have := HA.out; omega) (by rw [HX.out]; exact HSx.out), rfl⟩⟩
    · have hk : k = n := by omega
      subst hk
      have e : xs.take k = xs := List.take_of_length_le (by have := HA.out; omega)
      rw [e] at hall hown
      clear e ha
      go_wp2
      go_ret2
      exact ⟨hbel, .inl ⟨hall, _, rfl, hown⟩⟩
end Go.Proofs.YtijokbgpbpfclaaDoor
