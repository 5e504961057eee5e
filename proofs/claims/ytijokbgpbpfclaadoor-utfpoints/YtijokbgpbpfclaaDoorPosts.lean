/- The same contracts, told for the two ways apart: all are scalars, or not. -/
import Derived.Test.YtijokbgpbpfclaaDoorOct
import Derived.Test.YtijokbgpbpfclaaDoorCmpb
namespace Go.Proofs.YtijokbgpbpfclaaDoor
open Go.RowKit

theorem enc_yes {xs : List Int} {w w' : World} {e : Ending} (h : EncPost xs w e w') (ha : ∀ c ∈ xs, scal c = true) :
    ∃ A c, e = .returned (.tuple #[.slice A (encs xs).length c, .bool true]) ∧ (encs xs).length ≤ c ∧ Nums .u8 w' A (encs xs).length (encs xs) ∧ Below w.heap.size w w' := by
  obtain ⟨hb, ⟨_, v, rfl, hown⟩ | ⟨hn, _⟩⟩ := h
  · obtain ⟨A, c, rfl, hc, hN⟩ := ownF_nums hown
    exact ⟨A, c, rfl, hc, hN, hb⟩
  · exact absurd ha hn
theorem enc_no {xs : List Int} {w w' : World} {e : Ending} (h : EncPost xs w e w') (ha : ¬ ∀ c ∈ xs, scal c = true) :
    e = .returned (.tuple #[.slice none 0 0, .bool false]) ∧ Below w.heap.size w w' := by
  obtain ⟨hb, ⟨hn, _⟩ | ⟨_, rfl⟩⟩ := h
  · exact absurd hn ha
  · exact ⟨rfl, hb⟩
theorem ref_yes {xs : List Int} {w w' : World} {e : Ending} (h : RefPost xs w e w') (ha : ∀ c ∈ xs, scal c = true) :
    e = .returned (.tuple #[.string (strOfNums (encs xs)), .bool true]) ∧ Below w.heap.size w w' := by
  obtain ⟨hb, ⟨_, rfl⟩ | ⟨hn, _⟩⟩ := h
  · exact ⟨rfl, hb⟩
  · exact absurd ha hn
theorem ref_no {xs : List Int} {w w' : World} {e : Ending} (h : RefPost xs w e w') (ha : ¬ ∀ c ∈ xs, scal c = true) :
    e = .returned (.tuple #[.string (strOfNums []), .bool false]) ∧ Below w.heap.size w w' := by
  obtain ⟨hb, ⟨hn, _⟩ | ⟨_, rfl⟩⟩ := h
  · exact absurd hn ha
  · exact ⟨rfl, hb⟩
theorem dec_yes {xs : List Int} {w w' : World} {e : Ending} {L : Nat} (hL : L = (encs xs).length) (h : DecPost (encs xs) L w e w') (ha : ∀ c ∈ xs, scal c = true) :
    ∃ A c, e = .returned (.tuple #[.slice A xs.length c, .int .i64 0, .int .i64 L]) ∧ Nums .i64 w' A xs.length xs ∧ Below w.heap.size w w' := by
  obtain ⟨hb, s, k, hp, h⟩ := h
  have hs := stop_encs ha
  rcases h with ⟨hk, v, rfl, hown⟩ | ⟨hk, hf, _⟩
  · obtain ⟨rfl, _⟩ := (hp.whole (hk.trans hL)).unique hs
    obtain ⟨A, c, rfl, _, hN⟩ := own_nums hown
    exact ⟨A, c, rfl, hN, hb⟩
  · have := (hp.stop hf).unique hs
    omega
theorem nums_nil (w : World) (k : IntKind) (A : Option Addr) : Nums k w A 0 [] := ⟨rfl, fun h => absurd h (by omega)⟩
end Go.Proofs.YtijokbgpbpfclaaDoor
