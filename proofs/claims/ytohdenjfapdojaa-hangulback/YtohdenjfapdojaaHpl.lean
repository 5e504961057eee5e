/- Syllables by arithmetic: what the document says of them, in plain numbers; no program is spoken of. -/
import Derived.Test.YtohdenjfapdojaaVals
namespace Go.Proofs.Ytohdenjfapdojaa

/-- The parts of the syllable of the l-th leading one, the v-th vowel, the t-th trailing one. -/
def partsOf (l v t : Int) : List Int := if t = 0 then [4352 + l, 4449 + v] else [4352 + l, 4449 + v, 4519 + t]
/-- Places of a leading one, a vowel, a trailing one. -/
def Places (l v t : Int) : Prop := 0 ≤ l ∧ l < 19 ∧ 0 ≤ v ∧ v < 21 ∧ 0 ≤ t ∧ t < 28
def syl (l v t : Int) : Int := 44032 + (21 * l + v) * 28 + t
theorem hang (c : Int) (h1 : 44032 ≤ c) (h2 : c < 55204) : ∃ l v t, Places l v t ∧ c = syl l v t := by
  refine ⟨(c - 44032) / 28 / 21, (c - 44032) / 28 % 21, (c - 44032) % 28, ⟨by omega, by omega, by omega, by omega, by omega, by omega⟩, ?_⟩
  unfold syl
  omega
theorem hang_in {l v t : Int} (h : Places l v t) : 44032 ≤ syl l v t ∧ syl l v t < 55204 := by
  obtain ⟨a, b, c, d, e, f⟩ := h
  unfold syl
  omega
theorem divs {l v t : Int} (h : Places l v t) : (syl l v t - 44032).tdiv 28 = 21 * l + v ∧ (syl l v t - 44032).tmod 28 = t ∧ (21 * l + v).tdiv 21 = l ∧ (21 * l + v).tmod 21 = v := by
  obtain ⟨a, b, c, d, e, f⟩ := h
  unfold syl
  rw [Int.tdiv_eq_ediv_of_nonneg (by omega), Int.tmod_eq_emod_of_nonneg (by omega), Int.tdiv_eq_ediv_of_nonneg (by omega), Int.tmod_eq_emod_of_nonneg (by omega)]
  omega
end Go.Proofs.Ytohdenjfapdojaa
