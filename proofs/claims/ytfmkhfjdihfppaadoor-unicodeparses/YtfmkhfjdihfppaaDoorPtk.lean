/- What the program's take does, whatever the line. -/
import Derived.Test.YtfmkhfjdihfppaaDoorPadw
import Derived.Test.YtfmkhfjdihfppaaDoorPeok
namespace Go.Proofs.YtfmkhfjdihfppaaDoor
open Go.RowKit Go.Shelf Go.Sort

theorem dec_ne {l : List UInt8} : decErr l = 0 ∨ decErr l = 13 ∨ decErr l = 16 := by
  unfold decErr
  split
  · exact .inl rfl
  · split
    · exact .inr (.inl rfl)
    · split
      · exact .inr (.inr rfl)
      · exact .inl rfl
/-- readEntry at a wrong line, and at a right one. -/
theorem ent_any_bad (num : Int) (F : Option Addr) (n : Nat) (f : List (List UInt8)) (w : World) (hV : Vals w F n (strs f)) (hfl : ∀ x ∈ f, x.length ≤ 2000) (hM : ML w) (he : ¬ rowErr f = 0) : Calls Tryd.prog 34 #[.agg #[.int .i64 num, .slice F n n]] w (EntBad f w) := by
  by_cases hn : n = 15
  · subst hn
    have hl : f.length = 15 := by have := hV.1; rwa [strs_length] at this
    cases hp : point (fld f 0) with
    | none => exact ent34_hex num F 15 f w hV hfl hM hp
    | some c =>
      cases ho : okB f with
      | false => exact ent34_val num F 15 f w hV hfl hM c hp ho
      | true => exact ent34_dec num F 15 f w hV hfl hM c hp ho (by rw [← row_dec hl hp ho]; exact he)
  · exact ent34_len num F n n f w hV hn
theorem ent_any_ok (num : Int) (F : Option Addr) (n : Nat) (f : List (List UInt8)) (w : World) (hV : Vals w F n (strs f)) (hfl : ∀ x ∈ f, x.length ≤ 2000) (hM : ML w) (he : rowErr f = 0) : Calls Tryd.prog 34 #[.agg #[.int .i64 num, .slice F n n]] w (EntOk num f w) := by
  have hl : f.length = n := by have := hV.1; rwa [strs_length] at this
  obtain ⟨h1, ⟨c, h2⟩, h3, h4⟩ := row_ok he
  obtain rfl : n = 15 := by omega
  exact ent34_ok num F 15 f w hV hfl hM c h2 h3 h4
def StepTo (R base : Nat) (a b : Int) (W : World) : St → Prop
  | .bad e n => a = e ∧ b = n ∧ ¬ e = 0
  | .at ps op => a = 0 ∧ b = 0 ∧ RdrI R base ps op W
def TakePost (R base : Nat) (s : St) (w : World) (e : Ending) (w' : World) : Prop :=
  Hold (GA R) w w' ∧ Below R w w' ∧ ∃ a b, e = .returned (.tuple #[.int .i64 a, .int .i64 b]) ∧ Hid (StepTo R base a b w' s)
theorem take_any (R base : Nat) (ps : List Pr) (op : Option Ln) (num : Int) (F : Option Addr) (n : Nat) (f : List (List UInt8)) (w : World) (hI : RdrI R base ps op w) (hV : Vals w F n (strs f)) (hfl : ∀ x ∈ f, x.length ≤ 2000) (hM : ML w) (hp : ps.length ≤ 1000000) (hbase : base ≤ w.heap.size) :
    Calls Tryd.prog 20 #[.pointer (some ⟨R, 0, none⟩), .agg #[.int .i64 num, .slice F n n]] w (TakePost R base (step (.at ps op) (num, f)) w) := by
  have hR : R < w.heap.size := by obtain ⟨v, ls, n1, nm, bare, s, hx, -⟩ := hI; exact hx.lt
  have hl1 : (fld f 1).length ≤ 1000000 := by have := fld_len hfl 1; omega
  by_cases he : rowErr f = 0
  · have c34 := fun W (hW : Below w.heap.size w W) => ent_any_ok num F n f W (hV.below hW) hfl (hM.below hW) he
    cases op with
    | some x =>
      refine (take20_open R base ps x num F n f w c34 hI hl1 hp).mono ?_
      rintro e w' ⟨h1, h2, h3⟩
      refine ⟨h1, h2, ?_⟩
      rcases h3 with ⟨hj, rfl⟩ | ⟨hj, rfl, h4⟩
      · exact ⟨_, _, rfl, Lib.hid (by simp only [step]; rw [if_neg (by simp [he]), if_pos hj]; exact ⟨rfl, rfl, by decide⟩)⟩
      · exact ⟨_, _, rfl, Lib.hid (by simp only [step]; rw [if_neg (by simp [he]), if_neg (by rw [hj]; decide)]; exact ⟨rfl, rfl, h4⟩)⟩
    | none =>
      by_cases ht : twice ps (rowVal f) = true
      · refine (take20_twice R base ps num F n f w c34 hI hp ht).mono ?_
        rintro e w' ⟨rfl, hb⟩
        exact ⟨Hold.of_below (ga_lets R) hb, hb.mono (Nat.le_of_lt hR), _, _, rfl, Lib.hid (by simp only [step]; rw [if_neg (by simp [he]), if_pos ht]; exact ⟨rfl, rfl, by decide⟩)⟩
      · refine (take20_add R base ps num F n f w c34 hI hp hl1 ht hbase).mono ?_
        rintro e w' ⟨rfl, h1, h2, h3⟩
        exact ⟨h1, h2, _, _, rfl, Lib.hid (by simp only [step]; rw [if_neg (by simp [he]), if_neg ht]; exact ⟨rfl, rfl, h3⟩)⟩
  · have c34 := fun W (hW : Below w.heap.size w W) => ent_any_bad num F n f W (hV.below hW) hfl (hM.below hW) he
    refine (take20_err R num F n f w c34 he).mono ?_
    rintro e w' ⟨rfl, hb⟩
    refine ⟨Hold.of_below (ga_lets R) hb, hb.mono (Nat.le_of_lt hR), _, _, rfl, Lib.hid ?_⟩
    cases op with
    | some x => simp only [step]; rw [if_pos he]; exact ⟨rfl, rfl, he⟩
    | none => simp only [step]; rw [if_pos he]; exact ⟨rfl, rfl, he⟩
end Go.Proofs.YtfmkhfjdihfppaaDoor
