/- Plain words of LDH labels (stage 11): octets as lists, kinds, small letters, hyphens. -/
namespace Go.Proofs.Ytohhkogjphgimaa

/-- a small letter for a large one -/
def lowO (c : UInt8) : UInt8 := if 65 ≤ c ∧ c ≤ 90 then c + 32 else c
/-- an octet that a label of small letters may have -/
def ldhO (c : UInt8) : Bool := c == 45 || (48 ≤ c && c ≤ 57) || (97 ≤ c && c ≤ 122)
/-- is it an LDH label (of small letters)? -/
def isL (l : List UInt8) : Bool := decide (1 ≤ l.length) && decide (l.length ≤ 63) && l.getD 0 0 != 45 && l.getD (l.length - 1) 0 != 45 && l.all ldhO
/-- are the third and the fourth octet hyphens? -/
def resv (l : List UInt8) : Bool := decide (4 ≤ l.length) && l.getD 2 0 == 45 && l.getD 3 0 == 45
/-- is it an A-label in form (of an LDH label that is reserved)? -/
def aceL (l : List UInt8) : Bool := decide (4 < l.length) && l.getD 0 0 == 120 && l.getD 1 0 == 110
/-- the kind of a label of small letters -/
def kindL (l : List UInt8) : Int := if isL l then (if resv l then (if aceL l then 3 else 2) else 1) else 0
def kindO (l : List UInt8) : Int := kindL (l.map lowO)

theorem all_u8 {p : UInt8 → Prop} (h : ∀ i : Fin 256, p (UInt8.ofNat i.1)) (c : UInt8) : p c := by
  have := h ⟨c.toNat, c.toNat_lt⟩
  simpa using this
set_option maxRecDepth 4000 in
theorem low_low : ∀ c : UInt8, lowO (lowO c) = lowO c := all_u8 (by decide)
set_option maxRecDepth 4000 in
theorem low_hyp : ∀ c : UInt8, (lowO c = 45) = (c = 45) := all_u8 (by decide)
theorem map_low (l : List UInt8) : (l.map lowO).map lowO = l.map lowO := by
  rw [List.map_map]; exact List.map_congr_left fun c _ => low_low c
theorem kind_low (l : List UInt8) : kindO (l.map lowO) = kindO l := by unfold kindO; rw [map_low]
theorem kind_pos (l : List UInt8) : (0 < kindO l) ↔ isL (l.map lowO) = true := by
  unfold kindO kindL; split
  · rename_i h; simp only [h, iff_true]; split
    · split <;> decide
    · decide
  · rename_i h; simp [h]
theorem kind_zero (l : List UInt8) : (kindO l = 0) ↔ isL (l.map lowO) = false := by
  unfold kindO kindL; split
  · rename_i h; simp only [h, reduceCtorEq, iff_false]; split
    · split <;> decide
    · decide
  · rename_i h; simp [h]
theorem kind_one (l : List UInt8) (h : kindO l ≠ 0) : (kindO l = 1) ↔ resv (l.map lowO) = false := by
  have hi : isL (l.map lowO) = true := by
    rcases hh : isL (l.map lowO) with _ | _
    · exact absurd ((kind_zero l).2 hh) h
    · rfl
  unfold kindO kindL; rw [if_pos hi]; split
  · rename_i h2; simp only [h2, reduceCtorEq, iff_false]; split <;> decide
  · rename_i h2; simp [h2]

theorem low_at (l : List UInt8) (k : Nat) : (l.map lowO).getD k 0 = lowO (l.getD k 0) := by
  rw [List.getD_eq_getElem?_getD, List.getD_eq_getElem?_getD, List.getElem?_map]
  cases l[k]? <;> rfl

/-- of numbers: may they be a label's, by their hyphens? -/
def hypO (s : List Int) : Bool :=
  if s.length = 0 then true
  else if s.getD 0 0 = 45 ∨ s.getD (s.length - 1) 0 = 45 then false
  else decide (s.length < 4) || decide (s.getD 2 0 ≠ 45) || decide (s.getD 3 0 ≠ 45)
def intsO (l : List UInt8) : List Int := l.map fun c => (c.toNat : Int)
theorem ints_at (l : List UInt8) (k : Nat) : (intsO l).getD k 0 = ((l.getD k 0).toNat : Int) := by
  rw [List.getD_eq_getElem?_getD, List.getD_eq_getElem?_getD, intsO, List.getElem?_map]
  cases l[k]? <;> rfl
theorem int_hyp : ∀ c : UInt8, (((c.toNat : Nat) : Int) = 45) = (c = 45) := fun c => by
  refine propext ⟨fun h => ?_, fun h => by rw [h]; rfl⟩
  have h1 : c.toNat = 45 := by omega
  rw [← UInt8.toNat_inj, h1]; rfl
/-- in a plain label hyphens are where they may be; in a reserved one they aren't -/
theorem hyp_kind (l : List UInt8) (h : kindO l ≠ 0) : hypO (intsO l) = decide (kindO l = 1) := by
  have hi : isL (l.map lowO) = true := by
    rcases hh : isL (l.map lowO) with _ | _
    · exact absurd ((kind_zero l).2 hh) h
    · rfl
  have h1 := kind_one l h
  unfold isL at hi
  simp only [Bool.and_eq_true, bne_iff_ne, ne_eq, decide_eq_true_eq, low_at, List.length_map, low_hyp] at hi
  obtain ⟨⟨⟨⟨a, b⟩, c⟩, d⟩, e⟩ := hi
  unfold hypO
  rw [if_neg (by rw [intsO, List.length_map]; omega), if_neg (by rw [ints_at, ints_at, int_hyp, int_hyp]; simp only [intsO, List.length_map]; exact fun hh => hh.elim c d)]
  rw [ints_at, ints_at]
  rw [Bool.eq_iff_iff]
  simp only [decide_eq_true_eq, h1, Bool.or_eq_true, ne_eq, int_hyp]
  unfold resv
  rw [low_at, low_at]
  simp only [intsO, List.length_map, Bool.and_eq_false_imp, decide_eq_true_eq, Bool.and_eq_true, beq_iff_eq, beq_eq_false_iff_ne, ne_eq, low_hyp]
  constructor
  · rintro ((h | h) | h)
    · rintro ⟨p, -⟩; omega
    · rintro ⟨-, p⟩; exact absurd p h
    · exact fun _ => h
  · intro hh
    by_cases p : l.length < 4
    · exact .inl (.inl p)
    by_cases q : l.getD 2 0 = 45
    · exact .inr (hh ⟨by omega, q⟩)
    · exact .inl (.inr q)

theorem take_at (l : List UInt8) (k j : Nat) (h : j < k) : (l.take k).getD j 0 = l.getD j 0 := by
  rw [List.getD_eq_getElem?_getD, List.getD_eq_getElem?_getD, List.getElem?_take]; simp [h]
theorem drop_at (l : List UInt8) (k j : Nat) : (l.drop k).getD j 0 = l.getD (k + j) 0 := by
  rw [List.getD_eq_getElem?_getD, List.getD_eq_getElem?_getD, List.getElem?_drop]
/-- what begins an LDH label, and doesn't end with a hyphen, is one -/
theorem is_take (l : List UInt8) (k : Nat) (hk : k ≤ l.length) (h0 : 0 < k) (h : isL (l.map lowO) = true) : isL ((l.take k).map lowO) = true ↔ (l.take k).getD (k - 1) 0 ≠ 45 := by
  unfold isL at h ⊢
  simp only [Bool.and_eq_true, bne_iff_ne, ne_eq, decide_eq_true_eq, low_at, List.length_map, low_hyp, List.length_take, Nat.min_eq_left hk, List.all_map, List.all_eq_true, Function.comp] at h ⊢
  obtain ⟨⟨⟨⟨a, b⟩, c⟩, d⟩, e⟩ := h
  constructor
  · exact fun hh => hh.1.2
  · exact fun hh => ⟨⟨⟨⟨h0, by omega⟩, by rw [take_at l k 0 h0]; exact c⟩, hh⟩, fun x hx => e x (List.mem_of_mem_take hx)⟩
/-- what ends an LDH label, and doesn't begin with a hyphen, is one -/
theorem is_drop (l : List UInt8) (k : Nat) (hk : k < l.length) (h : isL (l.map lowO) = true) : isL ((l.drop k).map lowO) = true ↔ (l.drop k).getD 0 0 ≠ 45 := by
  unfold isL at h ⊢
  simp only [Bool.and_eq_true, bne_iff_ne, ne_eq, decide_eq_true_eq, low_at, List.length_map, low_hyp, List.length_drop, List.all_map, List.all_eq_true, Function.comp] at h ⊢
  obtain ⟨⟨⟨⟨a, b⟩, c⟩, d⟩, e⟩ := h
  constructor
  · exact fun hh => hh.1.1.2
  · exact fun hh => ⟨⟨⟨⟨by omega, by omega⟩, hh⟩, by rw [drop_at, show k + (l.length - k - 1) = l.length - 1 by omega]; exact d⟩, fun x hx => e x (List.mem_of_mem_drop hx)⟩
end Go.Proofs.Ytohhkogjphgimaa
