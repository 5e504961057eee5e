/- Plain facts on the octets of scalars: which scalar octets begin with; how octets are cut into scalars, in one way only; no program is spoken of. -/
import Derived.Test.YtijokbgpbpfclaaDoorPlain
import Derived.Lib.DecodeN
import Derived.Lib.RuneBytes
import Derived.Laws.BytesArg
namespace Go.Proofs.YtijokbgpbpfclaaDoor
open Go.RowKit

/-- All are octets. -/
def Octs (bs : List Int) : Prop := ∀ x ∈ bs, 0 ≤ x ∧ x < 256

def dN (bs : List Int) : Nat × Nat :=
  if bs.length = 0 then (65533, 0) else Lib.decodeN bs.length (bs.getD 0 0).toNat (bs.getD 1 0).toNat (bs.getD 2 0).toNat (bs.getD 3 0).toNat
/-- The scalar whose octets bs begins with. -/
def fst (bs : List Int) : Option Int := if (dN bs).1 = 65533 ∧ (dN bs).2 ≤ 1 then none else some (dN bs).1
def oct (c : Int) : List Int := Lib.encodeRuneZ c
def encs (s : List Int) : List Int := s.flatMap oct

theorem scal_iff {c : Int} : scal c = true ↔ 0 ≤ c ∧ c ≤ 1114111 ∧ (c < 55296 ∨ 57343 < c) := by simp [scal]

theorem oct_ways {c : Int} (h : scal c = true) : (0 ≤ c ∧ c ≤ 127) ∨ (128 ≤ c ∧ c ≤ 2047) ∨ ((2048 ≤ c ∧ c < 55296) ∨ (57343 < c ∧ c ≤ 65535)) ∨ (65536 ≤ c ∧ c ≤ 1114111) := by
  rw [scal_iff] at h
  omega

theorem octs_oct (c : Int) : Octs (oct c) := Lib.encodeRuneZ_byte c
theorem oct_length (c : Int) : 1 ≤ (oct c).length ∧ (oct c).length ≤ 4 := Lib.encodeRuneZ_length c
theorem octs_encs (s : List Int) : Octs (encs s) := by
  intro x hx
  simp only [encs, List.mem_flatMap] at hx
  obtain ⟨c, _, h⟩ := hx
  exact octs_oct c x h
theorem octs_drop {bs : List Int} (h : Octs bs) (k : Nat) : Octs (bs.drop k) := fun x hx => h x (List.mem_of_mem_drop hx)
theorem octs_at {bs : List Int} (h : Octs bs) (k : Nat) : 0 ≤ bs.getD k 0 ∧ bs.getD k 0 < 256 := by
  rw [List.getD_eq_getElem?_getD]
  cases e : bs[k]? with
  | none => simp
  | some x => exact h x (List.mem_of_getElem? e)

theorem encs_cons (c : Int) (s : List Int) : encs (c :: s) = oct c ++ encs s := rfl
theorem encs_nil : encs [] = [] := rfl
theorem encs_append (s t : List Int) : encs (s ++ t) = encs s ++ encs t := by simp [encs]
theorem encs_one (c : Int) : encs [c] = oct c := by simp [encs]
theorem encs_length (s : List Int) : s.length ≤ (encs s).length ∧ (encs s).length ≤ 4 * s.length := by
  induction s with
  | nil => simp [encs]
  | cons c s ih =>
    rw [encs_cons, List.length_append, List.length_cons]
    have := oct_length c
    omega

set_option maxHeartbeats 1000000 in
theorem fst_oct {c : Int} (h : scal c = true) (rest : List Int) : fst (oct c ++ rest) = some c := by
  rcases oct_ways h with h | h | h | h
  · have e : dN (oct c ++ rest) = (c.toNat, 1) := by
      rw [oct, Lib.encodeRuneZ_one h.1 h.2]
      unfold dN Lib.decodeN
      simp only [List.cons_append, List.nil_append, List.length_cons, List.getD_cons_zero, List.getD_cons_succ]
      rw [if_neg (by omega), if_pos (by omega)]
    simp only [fst, e]
    rw [if_neg (by omega)]
    congr 1
    omega
  · have e : dN (oct c ++ rest) = (c.toNat, 2) := by
      rw [oct, Lib.encodeRuneZ_two h.1 h.2]
      unfold dN Lib.decodeN
      simp only [List.cons_append, List.nil_append, List.length_cons, List.getD_cons_zero, List.getD_cons_succ]
      rw [if_neg (by omega), if_neg (by omega), if_pos (by omega), if_pos (by omega)]
      congr 1
      omega
    simp only [fst, e]
    rw [if_neg (by omega)]
    congr 1
    omega
  · have e : dN (oct c ++ rest) = (c.toNat, 3) := by
      rw [oct, Lib.encodeRuneZ_three h]
      unfold dN Lib.decodeN
      simp only [List.cons_append, List.nil_append, List.length_cons, List.getD_cons_zero, List.getD_cons_succ]
      rw [if_neg (by omega), if_neg (by omega), if_neg (by omega), if_pos (by omega), if_pos (by omega)]
      congr 1
      omega
    simp only [fst, e]
    rw [if_neg (by omega)]
    congr 1
    omega
  · have e : dN (oct c ++ rest) = (c.toNat, 4) := by
      rw [oct, Lib.encodeRuneZ_four h.1 h.2]
      unfold dN Lib.decodeN
      simp only [List.cons_append, List.nil_append, List.length_cons, List.getD_cons_zero, List.getD_cons_succ]
      rw [if_neg (by omega), if_neg (by omega), if_neg (by omega), if_neg (by omega), if_pos (by omega), if_pos (by omega)]
      congr 1
      omega
    simp only [fst, e]
    rw [if_neg (by omega)]
    congr 1
    omega

theorem cut1 (bs : List Int) (h : 1 ≤ bs.length) : bs = [bs.getD 0 0] ++ bs.drop 1 := by
  match bs, h with
  | a :: t, _ => simp
theorem cut2 (bs : List Int) (h : 2 ≤ bs.length) : bs = [bs.getD 0 0, bs.getD 1 0] ++ bs.drop 2 := by
  match bs, h with
  | a :: b :: t, _ => simp
theorem cut3 (bs : List Int) (h : 3 ≤ bs.length) : bs = [bs.getD 0 0, bs.getD 1 0, bs.getD 2 0] ++ bs.drop 3 := by
  match bs, h with
  | a :: b :: c :: t, _ => simp
theorem cut4 (bs : List Int) (h : 4 ≤ bs.length) : bs = [bs.getD 0 0, bs.getD 1 0, bs.getD 2 0, bs.getD 3 0] ++ bs.drop 4 := by
  match bs, h with
  | a :: b :: c :: d :: t, _ => simp

set_option maxHeartbeats 2000000 in
/-- What decoding tells, told by the octets. -/
theorem dN_good {bs : List Int} (hb : Octs bs) (h : ¬ ((dN bs).1 = 65533 ∧ (dN bs).2 ≤ 1)) :
    scal (dN bs).1 = true ∧ (dN bs).2 = (oct (dN bs).1).length ∧ bs = oct (dN bs).1 ++ bs.drop (oct (dN bs).1).length := by
  have h0 := octs_at hb 0
  have h1 := octs_at hb 1
  have h2 := octs_at hb 2
  have h3 := octs_at hb 3
  by_cases hl : bs.length = 0
  · exact absurd ⟨by simp [dN, hl], by simp [dN, hl]⟩ h
  have c1 := cut1 bs (by omega)
  have c2 := cut2 bs
  have c3 := cut3 bs
  have c4 := cut4 bs
  generalize hn : bs.length = n at *
  generalize hx0 : bs.getD 0 0 = x0 at *
  generalize hx1 : bs.getD 1 0 = x1 at *
  generalize hx2 : bs.getD 2 0 = x2 at *
  generalize hx3 : bs.getD 3 0 = x3 at *
  have hd : dN bs = Lib.decodeN n x0.toNat x1.toNat x2.toNat x3.toNat := by
    unfold dN
    rw [hn, hx0, hx1, hx2, hx3, if_neg hl]
  rw [hd] at h ⊢
  clear hd hx0 hx1 hx2 hx3
  unfold Lib.decodeN at h ⊢
  split at h
  · rename_i ha
    simp only [if_pos ha]
    have e : oct ((x0.toNat : Nat) : Int) = [x0] := by
      rw [oct, Lib.encodeRuneZ_one (by omega) (by omega)]
      congr 1
      omega
    refine ⟨scal_pos (by omega), by rw [e]; rfl, ?_⟩
    rw [e]
    exact c1
  · rename_i ha
    simp only [if_neg ha]
    split at h
    · rename_i hb2
      simp only [if_pos hb2]
      split at h
      · rename_i hc
        simp only [if_pos hc]
        have e : oct ((x0.toNat % 32 * 64 + x1.toNat % 64 : Nat) : Int) = [x0, x1] := by
          rw [oct, Lib.encodeRuneZ_two (by omega) (by omega)]
          congr 1
          · omega
          · congr 1
            omega
        refine ⟨scal_pos (by omega), by rw [e]; rfl, ?_⟩
        rw [e]
        exact c2 (by omega)
      · exact absurd ⟨rfl, Nat.le_refl _⟩ h
    · rename_i hb2
      simp only [if_neg hb2]
      split at h
      · rename_i hb3
        simp only [if_pos hb3]
        split at h
        · rename_i hc
          simp only [if_pos hc]
          have e : oct ((x0.toNat % 16 * 4096 + x1.toNat % 64 * 64 + x2.toNat % 64 : Nat) : Int) = [x0, x1, x2] := by
            rw [oct, Lib.encodeRuneZ_three (by omega)]
            congr 1
            · omega
            · congr 1
              · omega
              · congr 1
                omega
          refine ⟨scal_pos (by omega), by rw [e]; rfl, ?_⟩
          rw [e]
          exact c3 (by omega)
        · exact absurd ⟨rfl, Nat.le_refl _⟩ h
      · rename_i hb3
        simp only [if_neg hb3]
        split at h
        · rename_i hb4
          simp only [if_pos hb4]
          split at h
          · rename_i hc
            simp only [if_pos hc]
            have e : oct ((x0.toNat % 8 * 262144 + x1.toNat % 64 * 4096 + x2.toNat % 64 * 64 + x3.toNat % 64 : Nat) : Int) = [x0, x1, x2, x3] := by
              rw [oct, Lib.encodeRuneZ_four (by omega) (by omega)]
              congr 1
              · omega
              · congr 1
                · omega
                · congr 1
                  · omega
                  · congr 1
                    omega
            refine ⟨scal_pos (by omega), by rw [e]; rfl, ?_⟩
            rw [e]
            exact c4 (by omega)
          · exact absurd ⟨rfl, Nat.le_refl _⟩ h
        · exact absurd ⟨rfl, Nat.le_refl _⟩ h

theorem fst_some {bs : List Int} {c : Int} (hb : Octs bs) (h : fst bs = some c) : scal c = true ∧ bs = oct c ++ bs.drop (oct c).length := by
  unfold fst at h
  split at h
  · cases h
  · rename_i hh
    obtain ⟨a, _, d⟩ := dN_good hb hh
    cases h
    exact ⟨a, d⟩

/-- s are scalars, their octets are the first k of bs, and no scalar's octets stand behind, or nothing does. -/
def Stop (bs s : List Int) (k : Nat) : Prop :=
  (∀ c ∈ s, scal c = true) ∧ k = (encs s).length ∧ bs = encs s ++ bs.drop k ∧ (bs.drop k = [] ∨ fst (bs.drop k) = none)

theorem fst_nil : fst [] = none := by simp [fst, dN]
theorem Stop.none {bs s : List Int} {k : Nat} (h : Stop bs s k) : fst (bs.drop k) = none := by
  rcases h.2.2.2 with e | e
  · rw [e]; exact fst_nil
  · exact e

/-- There is one way only. -/
theorem stop_one : ∀ (s t r q : List Int), (∀ c ∈ s, scal c = true) → (∀ c ∈ t, scal c = true) → encs s ++ r = encs t ++ q → fst r = none → fst q = none → s = t
  | [], [], _, _, _, _, _, _, _ => rfl
  | [], c :: t, r, q, _, ht, he, hr, _ => by
    rw [encs_nil, List.nil_append, encs_cons, List.append_assoc] at he
    rw [he, fst_oct (ht c (by simp))] at hr
    cases hr
  | c :: s, [], r, q, hs, _, he, _, hq => by
    rw [encs_nil, List.nil_append, encs_cons, List.append_assoc] at he
    rw [← he, fst_oct (hs c (by simp))] at hq
    cases hq
  | c :: s, d :: t, r, q, hs, ht, he, hr, hq => by
    rw [encs_cons, encs_cons, List.append_assoc, List.append_assoc] at he
    have h1 := fst_oct (hs c (by simp)) (encs s ++ r)
    rw [he, fst_oct (ht d (by simp))] at h1
    obtain rfl : d = c := by injection h1
    rw [List.append_cancel_left_eq] at he
    rw [stop_one s t r q (fun x hx => hs x (by simp [hx])) (fun x hx => ht x (by simp [hx])) he hr hq]

theorem Stop.unique {bs s t : List Int} {k m : Nat} (h : Stop bs s k) (h' : Stop bs t m) : s = t ∧ k = m := by
  have e : s = t := stop_one s t (bs.drop k) (bs.drop m) h.1 h'.1 (h.2.2.1.symm.trans h'.2.2.1) h.none h'.none
  subst e
  exact ⟨rfl, h.2.1.trans h'.2.1.symm⟩

theorem stop_encs {s : List Int} (h : ∀ c ∈ s, scal c = true) : Stop (encs s) s (encs s).length := by
  have e : (encs s).drop (encs s).length = [] := List.drop_of_length_le (Nat.le_refl _)
  exact ⟨h, rfl, by rw [e, List.append_nil], .inl e⟩

/-- The text as octets. -/
theorem str_get {bs : List Int} (hb : Octs bs) (j : Nat) : (((strOfNums bs).get! j).toNat : Int) = bs.getD j 0 := by
  have h := octs_at hb j
  have e : (strOfNums bs).get! j = ((bs.map fun n => UInt8.ofNat n.toNat).getD j 0) := by
    simp [strOfNums, ByteArray.get!, List.getD_eq_getElem?_getD]
    rfl
  rw [e]
  rw [List.getD_eq_getElem?_getD] at h ⊢
  rw [List.getD_eq_getElem?_getD, List.getElem?_map]
  cases he : bs[j]? with
  | none => simp
  | some x =>
    rw [he] at h
    simp at h ⊢
    omega

theorem str_eq {a b : List Int} (ha : Octs a) (hb : Octs b) (h : strOfNums a = strOfNums b) : a = b := by
  have hl : a.length = b.length := by rw [← strOfNums_size, ← strOfNums_size, h]
  apply List.ext_getElem hl
  intro i h1 h2
  have e1 := str_get ha i
  have e2 := str_get hb i
  rw [h, e2] at e1
  simpa [List.getD_eq_getElem?_getD, List.getElem?_eq_getElem h1, List.getElem?_eq_getElem h2] using e1.symm

theorem str_append (a b : List Int) : strOfNums (a ++ b) = strOfNums a ++ strOfNums b := by
  simp only [strOfNums, List.map_append]
  rw [ByteArray.mk_append_mk]
end Go.Proofs.YtijokbgpbpfclaaDoor
