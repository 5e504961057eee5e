/- Variables in blocks of their own, and what a loop over a function has gathered so far; no program is spoken of. -/
/- The program's checkFull: what stands between two rows; no walk. -/
/- The program's checkFull: one more row; no walk. -/
import Derived.Test.YtfakohoamgogoaaGreatDoorQt05
import Derived.Test.YtfakohoamgogoaaGreatDoorQt15
import Derived.Test.YtfakohoamgogoaaGreatDoorQt16
import Derived.Test.YtfakohoamgogoaaGreatDoorQt22
namespace Go.Proofs.YtfakohoamgogoaaGreatDoor.Pq
open Go.RowKit

theorem frozen_new (w : World) (C : Array Value) (e : TypeId) (j : Nat) : (w.alloc (.cells C e)).frozen? ⟨w.heap.size, j, none⟩ = false := by
  have h := World.alloc_heap_new w (.cells C e)
  simp only [World.frozen?]
  rw [h]
  simp
theorem box_new (W : World) (v : Value) (t : TypeId) : (W.alloc (.cells #[v] t)).cell? ⟨W.heap.size, 0, none⟩ = some v ∧ (W.alloc (.cells #[v] t)).frozen? ⟨W.heap.size, 0, none⟩ = false := ⟨by simp, frozen_new W _ _ _⟩
theorem box_cell {W : World} {a : Addr} {v : Value} (o : Obj) (h : W.cell? a = some v) : (W.alloc o).cell? a = some v := (World.cell?_alloc_lt _ _ _ (World.block_lt_of_cell? W a h)).trans h
theorem box_frozen {W : World} {a : Addr} {v : Value} (o : Obj) (h : W.cell? a = some v) (hf : W.frozen? a = false) : (W.alloc o).frozen? a = false := (World.frozen?_alloc_past _ _ _ (World.block_lt_of_cell? W a h)).trans hf
theorem cell_abide {β : Type} {B : Nat} (a : Addr) (v : Value) : Abide 0 0 B (fun (_ : β) W => W.cell? a = some v) := by
  intro _ W W' row hs hg hr
  refine cell_kept hs hg (fun r e => ?_)
  rcases hr r e with h | ⟨_, h⟩
  · omega
  · exact h
theorem own_abide {β : Type} {B base : Nat} {v : Value} {n size : Nat} {xs : List Value} {e : TypeId} : Abide 0 0 B (fun (_ : β) W => W.ownsRow base e size v n xs) := by
  intro _ W W' row hs hg hr
  refine ⟨hs.1, ?_⟩
  rcases hs.2 with hn | ⟨g, cap, cur, rfl, hbg, hgg, rest⟩
  · exact .inl hn
  · refine .inr ⟨g, cap, cur, rfl, hbg, ?_, rest⟩
    rw [hg.block g (Array.getElem?_eq_some_iff.1 hgg).1 (fun e => ?_)]
    · exact hgg
    · rcases hr g e.symm with h | ⟨_, o, ho, hc⟩
      · omega
      · rw [hgg] at ho; cases ho; cases hc
/-- What has been gathered: the variable in block bo holds a row of the call's own, from base on. -/
def GotI (w : World) (bo base : Nat) (e : TypeId) (size n : Nat) (xs : List Value) (W : World) : Prop :=
  (∃ v, (W.cell? ⟨bo, 0, none⟩ = some v ∧ W.frozen? ⟨bo, 0, none⟩ = false) ∧ W.ownsRow base e size v n xs) ∧ Below w.heap.size w W
theorem got_abide {β : Type} (w : World) (bo base : Nat) (e : TypeId) (size B : Nat) (n : β → Nat) (xs : β → List Value) (hB : w.heap.size ≤ B) : Abide 0 0 B (fun s W => GotI w bo base e size (n s) (xs s) W) := by
  intro s W W' row hs hg hr
  obtain ⟨⟨v, h2, h3⟩, h4⟩ := hs
  exact ⟨⟨v, abide_cell (β := Unit) (fun _ => ⟨bo, 0, none⟩) (fun _ => v) (fun _ => by omega) () W W' row h2 hg hr, own_abide (β := Unit) () W W' row h3 hg hr⟩, abide_below (β := Unit) w (.inr (by omega)) hB (Nat.le_refl _) () W W' row h4 hg hr⟩
/-- One more has been gathered. -/
theorem got_next {w W w2 : World} {bo base : Nat} {e : TypeId} {size n : Nat} {xs us : List Value} {v v' : Value} {o : Obj}
    (hv : W.cell? ⟨bo, 0, none⟩ = some v) (hf : W.frozen? ⟨bo, 0, none⟩ = false) (hown : W.ownsRow base e size v n xs) (hb : Below w.heap.size w W)
    (ho' : w2.ownsRow base e size v' (n + 1) (xs ++ us)) (hg : (W.alloc o).grownBy w2 v.ownBlock) (h1 : w.heap.size ≤ bo) (h2 : bo < base) :
    Kept (fun k => k ≠ bo ∧ k < base) W (w2.setCell ⟨bo, 0, none⟩ v') ∧ GotI w bo base e size (n + 1) (xs ++ us) (w2.setCell ⟨bo, 0, none⟩ v') ∧ w2.cell? ⟨bo, 0, none⟩ = some v ∧ w2.frozen? ⟨bo, 0, none⟩ = false := by
  have hgb : ∀ g, v.ownBlock = some g → base ≤ g := fun g e => (hown.lt g e).1
  have hW2 : bo < W.heap.size := World.block_lt_of_cell? W _ hv
  have e0 : w2.heap[bo]? = W.heap[bo]? := by
    rw [hg.block bo (by simp; omega) (fun e => by have := hgb bo e.symm; omega)]
    exact Below.heap_alloc W o bo hW2
  have c0 : w2.cell? ⟨bo, 0, none⟩ = some v := (World.cell?_of_block e0).trans hv
  have f0 : w2.frozen? ⟨bo, 0, none⟩ = false := by
    unfold World.frozen? at hf ⊢
    rw [e0]
    exact hf
  have hb2 : Below w.heap.size w w2 := (hb.alloc (by omega) o).grown hg (by simp; omega) (fun g e => by have := hgb g e; omega)
  have k1 : Kept (fun k => k ≠ bo ∧ k < base) W w2 := (Kept.alloc W o).trans (Kept.grown hg (fun r e => by have := hgb r e; omega))
  refine ⟨k1.trans (Kept.setCell _ _ _ (by omega)), ⟨⟨v', ⟨?_, ?_⟩, ?_⟩, hb2.setCell (p := ⟨bo, 0, none⟩) h1 _⟩, c0, f0⟩
  · exact World.cell?_setCell_same' _ _ _ (by rw [c0]; rfl)
  · rw [World.frozen?_setCell]; exact f0
  · refine ⟨ho'.1, ?_⟩
    rcases ho'.2 with hn | ⟨g, cap, cur, rfl, hbg, hgg, rest⟩
    · exact .inl hn
    · refine .inr ⟨g, cap, cur, rfl, hbg, ?_, rest⟩
      rw [(grownBy_setCell' w2 bo _).block g (Array.getElem?_eq_some_iff.1 hgg).1 (fun e => by cases e; omega)]
      exact hgg
theorem own_shape {w : World} {base n size : Nat} {e : TypeId} {v : Value} {xs : List Value} (h : w.ownsRow base e size v n xs) : ∃ A c, v = .slice A n c ∧ (A = none → c = 0) := by
  rcases h.2 with ⟨rfl, h0⟩ | ⟨g, cap, cur, rfl, -⟩
  · exact ⟨none, 0, by rw [h0], fun _ => rfl⟩
  · exact ⟨_, cap, rfl, fun h => by cases h⟩
end Go.Proofs.YtfakohoamgogoaaGreatDoor.Pq

namespace Go.Proofs.YtfakohoamgogoaaGreatDoor
open Go.RowKit Go.Shelf

/-! Plain. -/
def intsN (l : List Nat) : List Int := l.map fun n : Nat => (n : Int)
def keysL (l : List Uc.Pr) : List Int := (l.filter fun r => decide (r.dec ≠ [])).map fun r => r.a
def stepU (us : Int → List Int) (r : Uc.Pr) : Int → List Int := if r.dec = [] then us else addU us r.a (intsN r.dec)
def usL (l : List Uc.Pr) : Int → List Int := l.foldl stepU (fun _ => [])
theorem keys_yes {l : List Uc.Pr} {p : Uc.Pr} (h : p.dec ≠ []) : keysL (l ++ [p]) = keysL l ++ [p.a] := by unfold keysL; rw [List.filter_append, List.map_append, List.filter_cons_of_pos (by simpa using h)]; rfl
theorem keys_no {l : List Uc.Pr} {p : Uc.Pr} (h : p.dec = []) : keysL (l ++ [p]) = keysL l := by unfold keysL; rw [List.filter_append, List.filter_cons_of_neg (by simpa using h)]; simp
theorem us_yes {l : List Uc.Pr} {p : Uc.Pr} (h : p.dec ≠ []) : usL (l ++ [p]) = addU (usL l) p.a (intsN p.dec) := by unfold usL; rw [List.foldl_append]; show stepU _ p = _; unfold stepU; rw [if_neg h]
theorem us_no {l : List Uc.Pr} {p : Uc.Pr} (h : p.dec = []) : usL (l ++ [p]) = usL l := by unfold usL; rw [List.foldl_append]; show stepU _ p = _; unfold stepU; rw [if_pos h]
theorem keys_mem {l : List Uc.Pr} {c : Int} : c ∈ keysL l ↔ ∃ r ∈ l, r.dec ≠ [] ∧ r.a = c := by
  unfold keysL
  rw [List.mem_map]
  constructor
  · rintro ⟨r, hr, e⟩
    rw [List.mem_filter] at hr
    exact ⟨r, hr.1, of_decide_eq_true hr.2, e⟩
  · rintro ⟨r, hr, hd, e⟩
    exact ⟨r, List.mem_filter.2 ⟨hr, decide_eq_true hd⟩, e⟩
theorem keys_len (l : List Uc.Pr) : (keysL l).length ≤ l.length := by unfold keysL; rw [List.length_map]; exact List.length_filter_le _ _
theorem addU_mono {us : Int → List Int} {c x d : Int} : ∀ {ps : List Int}, x ∈ us d → x ∈ addU us c ps d := by
  intro ps
  induction ps generalizing us with
  | nil => exact id
  | cons p ps ih =>
    intro h
    show x ∈ addU (putV us p (us p ++ [c])) c ps d
    refine ih ?_
    by_cases e : d = p
    · subst e; rw [putV_same]; exact List.mem_append_left _ h
    · rw [putV_other _ _ e]; exact h
theorem addU_mem {us : Int → List Int} {c d : Int} : ∀ {ps : List Int}, d ∈ ps → c ∈ addU us c ps d := by
  intro ps
  induction ps generalizing us with
  | nil => intro h; cases h
  | cons p ps ih =>
    intro h
    show c ∈ addU (putV us p (us p ++ [c])) c ps d
    rcases List.mem_cons.1 h with rfl | h
    · exact addU_mono (by rw [putV_same]; simp)
    · exact ih h
theorem us_mem : ∀ {l : List Uc.Pr} {us : Int → List Int} {r : Uc.Pr} {d : Int}, r ∈ l → d ∈ intsN r.dec → r.a ∈ l.foldl stepU us d := by
  have mono : ∀ (l : List Uc.Pr) (us : Int → List Int) (x d : Int), x ∈ us d → x ∈ l.foldl stepU us d := by
    intro l
    induction l with
    | nil => exact fun us x d h => h
    | cons q l ih =>
      intro us x d h
      rw [List.foldl_cons]
      refine ih _ _ _ ?_
      unfold stepU
      split
      · exact h
      · exact addU_mono h
  intro l
  induction l with
  | nil => intro us r d h; cases h
  | cons q l ih =>
    intro us r d h hd
    rw [List.foldl_cons]
    rcases List.mem_cons.1 h with rfl | h
    · refine mono _ _ _ _ ?_
      unfold stepU
      rw [if_neg (fun e => by rw [e] at hd; cases hd)]
      exact addU_mem hd
    · exact ih h hd
theorem us_len : ∀ {l : List Uc.Pr} {us : Int → List Int} {N : Nat}, (∀ r ∈ l, r.dec.length ≤ 2) → (∀ d, (us d).length ≤ N) → ∀ d, (l.foldl stepU us d).length ≤ N + 2 * l.length := by
  intro l
  induction l with
  | nil => intro us N _ h d; exact h d
  | cons q l ih =>
    intro us N h2 h d
    rw [List.foldl_cons]
    have hq := h2 q (List.mem_cons_self ..)
    have h3 := ih (us := stepU us q) (N := N + 2) (fun r hr => h2 r (List.mem_cons_of_mem _ hr)) (fun x => by
      unfold stepU
      split
      · have := h x; omega
      · have := addU_len us q.a h (intsN q.dec) x
        have e : (intsN q.dec).length = q.dec.length := List.length_map _
        omega) d
    rw [List.length_cons]
    omega

/-! What stays where these blocks stay. -/
theorem map_k {H : Type} {A : Nat → Prop} {w w' : World} {P : Program} {k : TypeId} {R : Value → Option (DataW H × List MemPlace)} {M n : Nat} {D : DataW H} (h : w.ownsMap P k R M n D) (hk : Kept A w w') (hA : A M) : w'.ownsMap P k R M n D := by
  have hl := h.lt
  obtain ⟨es, clock, hb, F⟩ := h
  exact ⟨es, clock, (hk.2 M hA hl).trans hb, F⟩
theorem f1_k {A : Nat → Prop} {w w' : World} {M n : Nat} {D : DataW Value} {O : List Int} (h : F1 w M n D O) (hk : Kept A w w') (hA : A M) : F1 w' M n D O := ⟨map_k h.1 hk hA, h.2⟩
theorem f3_k {A : Nat → Prop} {w w' : World} {M n : Nat} {D : DataW Value} {sz : Int → Nat} (h : F3 w M n D sz) (hk : Kept A w w') (hA : A M) : F3 w' M n D sz := ⟨map_k h.1 hk hA, h.2⟩
theorem row_k {A : Nat → Prop} {w w' : World} {base : Nat} {e : TypeId} {s n : Nat} {v : Value} {xs : List Value} (h : w.ownsRow base e s v n xs) (hk : Kept A w w') (hA : ∀ g, v.ownBlock = some g → A g) : w'.ownsRow base e s v n xs := by
  refine ⟨h.1, ?_⟩
  rcases h.2 with hn | ⟨g, cap, cur, rfl, hb, hg, rest⟩
  · exact .inl hn
  · exact .inr ⟨g, cap, cur, rfl, hb, (hk.2 g (hA g rfl) (Array.getElem?_eq_some_iff.1 hg).1).trans hg, rest⟩
theorem vals_k {S : Nat → Prop} {w w' : World} {A : Option Addr} {n : Nat} {vs : List Value} (h : Vals w A n vs) (hk : Kept S w w') (hA : 0 < n → ∀ a, A = some a → S a.block) : Vals w' A n vs := by
  refine ⟨h.1, fun hn => ?_⟩
  obtain ⟨b, off, rfl, hlt, hc⟩ := h.2 hn
  exact ⟨b, off, rfl, Nat.lt_of_lt_of_le hlt hk.1, fun j v hj => hk.cell (a := ⟨b, off + j, none⟩) (show S b from hA hn ⟨b, off, none⟩ rfl) (hc j v hj)⟩
theorem f2_k {A : Nat → Prop} {w w' : World} {M n base : Nat} {D : DataW Value} {us : Int → List Int} {val : Int → Value} (h : F2 w M n base D us val) (hk : Kept A w w') (hM : A M) (hr : ∀ c g, (val c).ownBlock = some g → A g) : F2 w' M n base D us val :=
  ⟨map_k h.own hk hM, h.at2, fun c => ⟨row_k (h.row c).1 hk (hr c), (h.row c).2⟩, h.apt⟩
/-- A block of cells that are numbers is no map's. -/
theorem vals_ne {W : World} {A : Option Addr} {n : Nat} {zs : List Int} {M : Nat} {o : Obj} (hn : 0 < n) (hv : Vals W A n (nums .i64 zs)) (hM : W.heap[M]? = some o) (hc : o.isCells = false) : ∀ a, A = some a → a.block ≠ M := by
  intro a ha e
  obtain ⟨b', off, e', -, hcc⟩ := hv.2 hn
  rw [ha] at e'
  cases e'
  obtain ⟨z, hz⟩ : ∃ z, (nums .i64 zs)[0]? = some z := ⟨_, List.getElem?_eq_getElem (by have := hv.1; omega)⟩
  obtain ⟨o', ho', hc'⟩ := cells_of_cell (hcc 0 z hz)
  have e : b' = M := e
  rw [e, hM] at ho'
  cases ho'
  rw [hc] at hc'
  cases hc'
theorem map_obj {H : Type} {W : World} {P : Program} {k : TypeId} {R : Value → Option (DataW H × List MemPlace)} {M n : Nat} {D : DataW H} (h : W.ownsMap P k R M n D) : ∃ o : Obj, W.heap[M]? = some o ∧ o.isCells = false := by
  obtain ⟨es, clock, hb, -⟩ := h
  exact ⟨_, hb, rfl⟩
theorem vals_abide {β : Type} {B : Nat} {A : Option Addr} {n : Nat} {vs : List Value} : Abide 0 0 B (fun (_ : β) W => Vals W A n vs) := by
  intro s W W' row h hg hr
  refine ⟨h.1, fun hn => ?_⟩
  obtain ⟨b, off, rfl, hlt, hc⟩ := h.2 hn
  exact ⟨b, off, rfl, Nat.lt_of_lt_of_le hlt hg.size, fun j v hj => Pq.cell_abide (β := Unit) (B := B) _ _ () W W' row (hc j v hj) hg hr⟩

/-! Between two rows. -/
def NoB (base : Nat) (val : Int → Value) (wv : Value) (k : Nat) : Prop := k < base ∨ wv.ownBlock = some k ∨ ∃ x, (val x).ownBlock = some k
structure CkS (H base : Nat) (dec : Int → List Int) (l : List Uc.Pr) (W : World) (n1 n2 : Nat) (D1 D2 : DataW Value) (val : Int → Value) (wv : Value) : Prop where
  f1 : F1 W H n1 D1 (keysL l)
  a1 : A1 W D1 dec (keysL l) (NoB base val wv)
  f2 : F2 W (H + 1) n2 base D2 (usL l) val
  f3 : F3 W (H + 2) 0 (.map []) (fun _ => 0)
  row : W.ownsRow base 3 1 wv (keysL l).length (nums .i64 (keysL l))
  sep : ∀ c, (val c).ownBlock = none ∨ (val c).ownBlock ≠ wv.ownBlock
  cel : W.cell? ⟨H + 3, 0, none⟩ = some (.map (some H)) ∧ W.cell? ⟨H + 3, 1, none⟩ = some (.map (some (H + 1))) ∧ W.cell? ⟨H + 3, 2, none⟩ = some (.map (some (H + 2)))
  wbx : W.cell? ⟨H + 4, 0, none⟩ = some wv ∧ W.frozen? ⟨H + 4, 0, none⟩ = false
  few : n1 ≤ l.length ∧ n2 ≤ 2 * l.length
theorem cks_abide {H base B : Nat} {dec : Int → List Int} {l : List Uc.Pr} {n1 n2 : Nat} {D1 D2 : DataW Value} {val : Int → Value} {wv : Value} (hB : H + 5 ≤ B) : Abide 0 0 B (fun (_ : Unit) W => CkS H base dec l W n1 n2 D1 D2 val wv) := by
  intro _ W W' row h hg hr
  have hM : ∀ M, M < H + 5 → some M ≠ row := fun M hM e => by rcases hr M e.symm with h | h <;> omega
  refine ⟨h.f1.kept hg (hM _ (by omega)), fun c hc => ?_, ⟨h.f2.own.kept hg (hM _ (by omega)), h.f2.at2, fun c => ⟨Pq.own_abide (β := Unit) (B := B) () W W' row (h.f2.row c).1 hg hr, (h.f2.row c).2⟩, h.f2.apt⟩, h.f3.kept hg (hM _ (by omega)), Pq.own_abide (β := Unit) (B := B) () W W' row h.row hg hr, h.sep, ⟨?_, ?_, ?_⟩, ?_, h.few⟩
  · obtain ⟨A, k, h1, h2, h3⟩ := h.a1 c hc
    exact ⟨A, k, h1, vals_abide (β := Unit) (B := B) () W W' row h2 hg hr, fun a e => ⟨Nat.lt_of_lt_of_le (h3 a e).1 hg.size, (h3 a e).2⟩⟩
  · exact Pq.cell_abide (β := Unit) (B := B) _ _ () W W' row h.cel.1 hg hr
  · exact Pq.cell_abide (β := Unit) (B := B) _ _ () W W' row h.cel.2.1 hg hr
  · exact Pq.cell_abide (β := Unit) (B := B) _ _ () W W' row h.cel.2.2 hg hr
  · exact abide_cell (β := Unit) (n₀ := 0) (n₁ := 0) (B := B) (fun _ => ⟨H + 4, 0, none⟩) (fun _ => wv) (fun _ => by omega) () W W' row h.wbx hg hr
def CkI (w : World) (base : Nat) (dec : Int → List Int) (pre : List Uc.RwP) (W : World) : Prop :=
  ∃ (n1 n2 : Nat) (D1 D2 : DataW Value) (val : Int → Value) (wv : Value), CkS w.heap.size base dec (pre.map Prod.snd) W n1 n2 D1 D2 val wv ∧ Below w.heap.size w W
def CkY (w : World) (base : Nat) (dec : Int → List Int) (pre : List Uc.RwP) (x : Uc.RwP) (W : World) : Prop :=
  ∃ (n1 n2 : Nat) (D1 D2 : DataW Value) (val : Int → Value) (wv : Value), (CkS w.heap.size base dec (pre.map Prod.snd) W n1 n2 D1 D2 val wv ∧ Below w.heap.size w W) ∧ (Uc.Is W x.1 x.2 ∧ base ≤ W.heap.size) ∧ ∀ a, x.1.dp = some a → ¬ NoB base val wv a.block
theorem cki_abide (w : World) (base B : Nat) (dec : Int → List Int) (hB : w.heap.size + 5 ≤ B) : Abide 0 0 B (CkI w base dec) := by
  intro pre W W' row ⟨n1, n2, D1, D2, val, wv, h1, h2⟩ hg hr
  exact ⟨n1, n2, D1, D2, val, wv, cks_abide hB () W W' row h1 hg hr, abide_below (β := Unit) w (.inr (by omega)) (by omega) (Nat.le_refl _) () W W' row h2 hg hr⟩
theorem cky_abide (w : World) (base B : Nat) (dec : Int → List Int) (pre : List Uc.RwP) (x : Uc.RwP) (hB : w.heap.size + 5 ≤ B) : Abide 0 0 B (fun (_ : Unit) W => CkY w base dec pre x W) := by
  intro _ W W' row ⟨n1, n2, D1, D2, val, wv, ⟨h1, h2⟩, ⟨h3, h4⟩, h5⟩ hg hr
  exact ⟨n1, n2, D1, D2, val, wv, ⟨cks_abide hB () W W' row h1 hg hr, abide_below (β := Unit) w (.inr (by omega)) (by omega) (Nat.le_refl _) () W W' row h2 hg hr⟩, ⟨⟨h3.1, h3.2.1, h3.2.2.1, h3.2.2.2.1, h3.2.2.2.2.1, h3.2.2.2.2.2.1, vals_abide (β := Unit) (B := B) () W W' row h3.2.2.2.2.2.2 hg hr⟩, Nat.le_trans h4 hg.size⟩, h5⟩
theorem ck_fresh {w : World} {base N0 : Nat} {dec : Int → List Int} {pre : List Uc.RwP} {x : Uc.RwP} {W0 W : World} (hN : N0 = base) (h : CkI w base dec pre W0) (hb : Below W0.heap.size W0 W) (hx : Uc.RwRf N0 W0 x W) : CkY w base dec pre x W := by
  obtain ⟨n1, n2, D1, D2, val, wv, h1, h2⟩ := h
  have hs : w.heap.size + 5 ≤ W0.heap.size := World.block_lt_of_cell? W0 _ h1.wbx.1
  refine ⟨n1, n2, D1, D2, val, wv, ⟨(cks_abide hs).below (s := ()) h1 hb, h2.trans (hb.mono h2.size)⟩, ⟨hx.1, Nat.le_trans (hN ▸ hx.2.1) hb.size⟩, fun a e hno => ?_⟩
  have hge := hx.2.2 a e
  have hge2 : base ≤ W0.heap.size := hN ▸ hx.2.1
  rcases hno with h | h | ⟨y, h⟩
  · omega
  · have := (h1.row.lt _ h).2; omega
  · have := ((h1.f2.row y).1.lt _ h).2; omega
/-- The blocks that a round keeps. -/
def CkA (H base k : Nat) : Prop := k < base ∧ k ≠ H ∧ k ≠ H + 1 ∧ k ≠ H + 4
end Go.Proofs.YtfakohoamgogoaaGreatDoor

namespace Go.Proofs.YtfakohoamgogoaaGreatDoor
open Go.RowKit Go.Shelf

/-- A row in a box of its own. -/
def RwBt (x : Uc.RwP) (b : Nat) (W : World) : Prop :=
  (∃ cs fr, W.heap[b]? = some (.cells cs 59 fr)) ∧ (W.cell? ⟨b, 0, none⟩ = some (.int .i64 x.1.a) ∧ W.cell? ⟨b, 1, none⟩ = some (.int .i64 x.1.b) ∧ W.cell? ⟨b, 2, none⟩ = some (.string (bs x.1.gc)) ∧ W.cell? ⟨b, 3, none⟩ = some (.int .i64 x.1.ccc) ∧ W.cell? ⟨b, 4, none⟩ = some (.string (bs x.1.bd)) ∧ W.cell? ⟨b, 5, none⟩ = some (.slice x.1.dp x.1.dm x.1.dc))
theorem rwBt_abide (x : Uc.RwP) (b B : Nat) : Abide 0 0 B (fun (_ : Unit) W => RwBt x b W) := by
  intro _ W W' row ⟨⟨cs, fr, h⟩, h0, h1, h2, h3, h4, h5⟩ hg hr
  refine ⟨⟨cs, fr, ?_⟩, Pq.cell_abide (β := Unit) (B := B) _ _ () W W' row h0 hg hr, Pq.cell_abide (β := Unit) (B := B) _ _ () W W' row h1 hg hr, Pq.cell_abide (β := Unit) (B := B) _ _ () W W' row h2 hg hr, Pq.cell_abide (β := Unit) (B := B) _ _ () W W' row h3 hg hr, Pq.cell_abide (β := Unit) (B := B) _ _ () W W' row h4 hg hr, Pq.cell_abide (β := Unit) (B := B) _ _ () W W' row h5 hg hr⟩
  refine (hg.block b (Array.getElem?_eq_some_iff.1 h).1 (fun e => ?_)).trans h
  rcases hr b e.symm with h' | ⟨-, o, ho, hc⟩
  · omega
  · rw [h] at ho; cases ho; cases hc
theorem rwBt_new (x : Uc.RwP) (W : World) : RwBt x W.heap.size (W.alloc (.cells #[.int .i64 x.1.a, .int .i64 x.1.b, .string (bs x.1.gc), .int .i64 x.1.ccc, .string (bs x.1.bd), .slice x.1.dp x.1.dm x.1.dc] 59)) :=
  ⟨⟨_, _, World.alloc_heap_new _ _⟩, by simp, by simp, by simp, by simp, by simp, by simp⟩
/-- Such a box is no row of numbers. -/
theorem box_ne {W : World} {b base : Nat} {cs : Array Value} {fr : Nat × Nat} {n : Nat} {v : Value} {xs : List Value} (hb : W.heap[b]? = some (.cells cs 59 fr)) (h : W.ownsRow base 3 1 v n xs) : v.ownBlock ≠ some b := by
  intro e
  rcases h.2 with ⟨rfl, -⟩ | ⟨g, cap, cur, rfl, -, hg, -⟩
  · cases e
  · have e : g = b := by injection e
    rw [e, hb] at hg
    cases hg
theorem ck_no {H base : Nat} {dec : Int → List Int} {l : List Uc.Pr} {p : Uc.Pr} {W : World} {n1 n2 : Nat} {D1 D2 : DataW Value} {val : Int → Value} {wv : Value} (h : CkS H base dec l W n1 n2 D1 D2 val wv) (hp : p.dec = []) : CkS H base dec (l ++ [p]) W n1 n2 D1 D2 val wv := by
  refine ⟨by rw [keys_no hp]; exact h.f1, by rw [keys_no hp]; exact h.a1, by rw [us_no hp]; exact h.f2, h.f3, by rw [keys_no hp]; exact h.row, h.sep, h.cel, h.wbx, ?_, ?_⟩
  · have := h.few.1; simp; omega
  · have := h.few.2; simp; omega
section
variable {w W W1 : World} {base : Nat} {dec : Int → List Int} {l : List Uc.Pr} {s : Uc.Rw} {p : Uc.Pr} {n1 n2 : Nat} {D1 D2 : DataW Value} {val : Int → Value} {wv : Value} {e : Ending}
/-- Behind add. -/
theorem ck_mid {b' : Nat} (hbase : base = w.heap.size + 8) (h : CkS w.heap.size base dec l W n1 n2 D1 D2 val wv) (hbw : base ≤ W.heap.size) (hbx : RwBt (s, p) b' W)
    (ha : AddPost W w.heap.size (w.heap.size + 1) (n1 + 1) n2 base w.heap.size s.dm (D1.put (key p.a) (.held (.slice s.dp s.dm s.dc))) (usL l) val p.a (intsN p.dec) e W1) :
    (W1.ownsRow base 3 1 wv (keysL l).length (nums .i64 (keysL l)) ∧ W1.cell? ⟨w.heap.size + 4, 0, none⟩ = some wv ∧ W1.frozen? ⟨w.heap.size + 4, 0, none⟩ = false) ∧ (W1.cell? ⟨b', 0, none⟩ = some (.int .i64 s.a) ∧ base ≤ W1.heap.size) := by
  obtain ⟨-, m, D, v, ⟨hf, hm⟩, ho, hmv, hk, hbe⟩ := ha
  obtain ⟨⟨cs, fr, hbh⟩, q0, -⟩ := hbx
  obtain ⟨o1, ho1, hc1⟩ := map_obj h.f1.1
  obtain ⟨o2, ho2, hc2⟩ := map_obj h.f2.own
  have hob : Ofs w.heap.size (w.heap.size + 1) val b' := ⟨(fun e => by rw [e, ho1] at hbh; cases hbh; cases hc1), (fun e => by rw [e, ho2] at hbh; cases hbh; cases hc2), fun x => box_ne hbh (h.f2.row x).1⟩
  have hlow : ∀ j, j < base → j ≠ w.heap.size → j ≠ w.heap.size + 1 → Ofs w.heap.size (w.heap.size + 1) val j := fun j hj h1 h2 => ⟨h1, h2, fun x e => by have := ((h.f2.row x).1.lt j e).1; omega⟩
  have hwv : ∀ g, wv.ownBlock = some g → Ofs w.heap.size (w.heap.size + 1) val g := fun g e => by
    have := (h.row.lt g e).1
    exact ⟨by omega, by omega, fun x e2 => by rcases h.sep x with e3 | e3 <;> simp_all⟩
  have hl4 := World.block_lt_of_cell? W _ h.wbx.1
  have h4 := hlow (w.heap.size + 4) (by omega) (by omega) (by omega)
  exact ⟨⟨row_k h.row hk hwv, hk.cell (a := ⟨w.heap.size + 4, 0, none⟩) h4 h.wbx.1, (World.frozen?_of_block (a := ⟨w.heap.size + 4, 0, none⟩) (hk.2 _ h4 hl4)).trans h.wbx.2⟩, hk.cell (a := ⟨b', 0, none⟩) hob q0, Nat.le_trans hbw hk.1⟩
/-- One more row that has a decomposition. -/
theorem ck_yes {W2 : World} {v' : Value} (hbase : base = w.heap.size + 8) (h : CkS w.heap.size base dec l W n1 n2 D1 D2 val wv) (hbe : Below w.heap.size w W) (hbw : base ≤ W.heap.size) (hp : p.dec ≠ []) (hc : p.a ∉ keysL l) (hi : Uc.Is W s p) (hdec : dec p.a = intsN p.dec) (hd2 : p.dec.length ≤ 2) (hds : ∀ c ∈ keysL l, dec c ≠ [])
    (hx : ∀ a, s.dp = some a → ¬ NoB base val wv a.block)
    (ha : AddPost W w.heap.size (w.heap.size + 1) (n1 + 1) n2 base w.heap.size s.dm (D1.put (key p.a) (.held (.slice s.dp s.dm s.dc))) (usL l) val p.a (intsN p.dec) e W1)
    (hr2 : W2.ownsRow base 3 1 v' ((keysL l).length + 1) (nums .i64 (keysL l) ++ [.int .i64 p.a])) (hg2 : W1.grownBy W2 wv.ownBlock) (hnew : ∀ k, k < W1.heap.size → v'.ownBlock = some k → wv.ownBlock = some k) :
    (W2.cell? ⟨w.heap.size + 4, 0, none⟩ = some wv ∧ W2.frozen? ⟨w.heap.size + 4, 0, none⟩ = false) ∧
    Kept (CkA w.heap.size base) W (W2.setCell ⟨w.heap.size + 4, 0, none⟩ v') ∧ ∃ (m1 m2 : Nat) (E1 E2 : DataW Value) (val' : Int → Value), CkS w.heap.size base dec (l ++ [p]) (W2.setCell ⟨w.heap.size + 4, 0, none⟩ v') m1 m2 E1 E2 val' v' ∧ Below w.heap.size w (W2.setCell ⟨w.heap.size + 4, 0, none⟩ v') := by
  obtain ⟨-, m, D, v, ⟨hf, hm⟩, ho, hmv, hk, hb1⟩ := ha
  obtain ⟨o1, ho1, hc1⟩ := map_obj h.f1.1
  obtain ⟨o2, ho2, hc2⟩ := map_obj h.f2.own
  have hdm : s.dm = p.dec.length := hi.2.2.2.2.2.1
  have hpos : 0 < p.dec.length := List.length_pos_iff.2 hp
  have hlow : ∀ j, j < base → j ≠ w.heap.size → j ≠ w.heap.size + 1 → Ofs w.heap.size (w.heap.size + 1) val j := fun j hj h1 h2 => ⟨h1, h2, fun x e => by have := ((h.f2.row x).1.lt j e).1; omega⟩
  have hwv : ∀ g, wv.ownBlock = some g → Ofs w.heap.size (w.heap.size + 1) val g := fun g e => by
    have := (h.row.lt g e).1
    exact ⟨by omega, by omega, fun x e2 => by rcases h.sep x with e3 | e3 <;> simp_all⟩
  have hrow1 := row_k h.row hk hwv
  have hrow4 : ∀ j, j < base → some j ≠ wv.ownBlock := fun j hj e => by have := (h.row.lt j e.symm).1; omega
  have hl4 := World.block_lt_of_cell? W _ h.wbx.1
  have h4 := hlow (w.heap.size + 4) (by omega) (by omega) (by omega)
  have c41 : W1.cell? ⟨w.heap.size + 4, 0, none⟩ = some wv := hk.cell (a := ⟨w.heap.size + 4, 0, none⟩) h4 h.wbx.1
  have f41 : W1.frozen? ⟨w.heap.size + 4, 0, none⟩ = false := (World.frozen?_of_block (a := ⟨w.heap.size + 4, 0, none⟩) (hk.2 _ h4 hl4)).trans h.wbx.2
  have hl41 := World.block_lt_of_cell? W1 _ c41
  have c42 : W2.cell? ⟨w.heap.size + 4, 0, none⟩ = some wv := hg2.cell (a := ⟨w.heap.size + 4, 0, none⟩) c41 (hrow4 (w.heap.size + 4) (by omega))
  have f42 : W2.frozen? ⟨w.heap.size + 4, 0, none⟩ = false := (World.frozen?_of_block (a := ⟨w.heap.size + 4, 0, none⟩) (hg2.block _ hl41 (hrow4 (w.heap.size + 4) (by omega)))).trans f41
  -- from W1 on: all but wv's row and the box
  have k13 : Kept (fun k => some k ≠ wv.ownBlock ∧ k ≠ w.heap.size + 4) W1 (W2.setCell ⟨w.heap.size + 4, 0, none⟩ v') := by
    refine ⟨by rw [World.size_setCell]; exact hg2.size, fun k ⟨ha, hb⟩ hkl => ?_⟩
    rw [heap_setCell_other _ ⟨w.heap.size + 4, 0, none⟩ k _ (fun e => hb (by simpa using e))]
    exact hg2.block k hkl ha
  have mv : ∀ x, (v x).ownBlock ≠ wv.ownBlock ∨ (v x).ownBlock = none := fun x => by
    rcases hmv x with e | ⟨g, e, hg⟩
    · rcases h.sep x with e2 | e2
      · exact .inr (e.trans e2)
      · exact .inl (by rw [e]; exact e2)
    · exact .inl (fun e2 => by rw [e] at e2; have := (h.row.lt g e2.symm).2; omega)
  have hs1 := hk.1
  have hvl : ∀ x g, (v x).ownBlock = some g → base ≤ g ∧ g < W1.heap.size := fun x g e => (hf.row x).1.lt g e
  have hNb : ∀ k, k < W.heap.size → ¬ NoB base val wv k → ¬ NoB base v v' k := fun k hkl hno hn => by
    rcases hn with e | e | ⟨x, e⟩
    · exact hno (.inl e)
    · exact hno (.inr (.inl (hnew k (Nat.lt_of_lt_of_le hkl hs1) e)))
    · rcases hmv x with e2 | ⟨g, e2, hg⟩
      · exact hno (.inr (.inr ⟨x, e2.symm.trans e⟩))
      · rw [e2] at e; injection e with e; omega
  have valsK : ∀ {A : Option Addr} {zs : List Int} {n : Nat}, 0 < n → Vals W A n (nums .i64 zs) → (∀ a, A = some a → a.block < W.heap.size ∧ ¬ NoB base val wv a.block) → Vals (W2.setCell ⟨w.heap.size + 4, 0, none⟩ v') A n (nums .i64 zs) := fun {A zs n} hn hv hA => by
    have e1 := vals_ne hn hv ho1 hc1
    have e2 := vals_ne hn hv ho2 hc2
    refine vals_k (vals_k hv hk (fun _ a e => ⟨e1 a e, e2 a e, fun x e3 => (hA a e).2 (.inr (.inr ⟨x, e3⟩))⟩)) k13 (fun _ a e => ⟨fun e3 => (hA a e).2 (.inr (.inl e3.symm)), fun e3 => (hA a e).2 (.inl (by omega))⟩)
  have kall : Kept (fun k => Ofs w.heap.size (w.heap.size + 1) val k ∧ some k ≠ wv.ownBlock ∧ k ≠ w.heap.size + 4) W (W2.setCell ⟨w.heap.size + 4, 0, none⟩ v') := (hk.mono (fun _ h => h.1)).trans (k13.mono (fun _ h => h.2))
  have klow : ∀ j, j < base → j ≠ w.heap.size → j ≠ w.heap.size + 1 → j ≠ w.heap.size + 4 → Ofs w.heap.size (w.heap.size + 1) val j ∧ some j ≠ wv.ownBlock ∧ j ≠ w.heap.size + 4 := fun j hj h1 h2 h3 => ⟨hlow j hj h1 h2, hrow4 j hj, h3⟩
  have b1 := klow (w.heap.size + 3) (by omega) (by omega) (by omega) (by omega)
  have b2 := klow (w.heap.size + 2) (by omega) (by omega) (by omega) (by omega)
  refine ⟨⟨c42, f42⟩, kall.mono (fun k hk => klow k hk.1 hk.2.1 hk.2.2.1 hk.2.2.2), n1 + 1, m, D1.put (key p.a) (.held (.slice s.dp s.dm s.dc)), D, v, ⟨?_, ?_, ?_, f3_k h.f3 kall b2, ?_, ?_, ⟨?_, ?_, ?_⟩, ⟨?_, ?_⟩, ?_, ?_⟩, ?_⟩
  · rw [keys_yes hp]
    have hf1 : F1 W1 w.heap.size (n1 + 1) (D1.put (key p.a) (.held (.slice s.dp s.dm s.dc))) (keysL l ++ [p.a]) := f1_put (W := W) (n := n1) h.f1 hc ho
    exact f1_k hf1 k13 ⟨hrow4 _ (by omega), by omega⟩
  · rw [keys_yes hp]
    intro x hx'
    have hiv : Vals W s.dp s.dm (nums .i64 (intsN p.dec)) := hi.2.2.2.2.2.2
    have hold : A1 (W2.setCell ⟨w.heap.size + 4, 0, none⟩ v') D1 dec (keysL l) (NoB base v v') := fun c hc' => by
      obtain ⟨A, k, q1, q2, q3⟩ := h.a1 c hc'
      exact ⟨A, k, q1, valsK (List.length_pos_iff.2 (hds c hc')) q2 q3, fun a e => ⟨Nat.lt_of_lt_of_le (q3 a e).1 kall.1, hNb _ (q3 a e).1 (q3 a e).2⟩⟩
    have hlb : ∀ a, s.dp = some a → a.block < W.heap.size := fun a e => by
      obtain ⟨b', off, e', hlt, -⟩ := hiv.2 (by omega)
      rw [e] at e'; cases e'; exact hlt
    have hlen : s.dm = (dec p.a).length := by rw [hdec, hdm]; exact (List.length_map _).symm
    have hnv := valsK (by omega) hiv (fun a e => ⟨hlb a e, hx a e⟩)
    rw [← hdec, hlen] at hnv
    have := a1_put (A := s.dp) (k := s.dc) (f1_tidy h.f1) hold hc hnv (fun a e => ⟨Nat.lt_of_lt_of_le (hlb a e) kall.1, hNb _ (hlb a e) (hx a e)⟩)
    rw [← hlen] at this
    exact this x hx'
  · rw [us_yes hp]
    exact f2_k hf k13 ⟨hrow4 _ (by omega), by omega⟩ (fun x g e => ⟨fun e2 => (mv x).elim (fun e3 => e3 (e.trans e2)) (fun e3 => by rw [e] at e3; cases e3), by have := (hvl x g e).1; omega⟩)
  · rw [keys_yes hp]
    have e : nums .i64 (keysL l ++ [p.a]) = nums .i64 (keysL l) ++ [.int .i64 p.a] := by unfold nums; rw [List.map_append]; rfl
    rw [e, List.length_append]
    exact row_k (A := fun k => k ≠ w.heap.size + 4) hr2 (Kept.setCell _ _ _ (by simp)) (fun g eg => by have := (hr2.lt g eg).1; omega)
  · intro x
    cases hx2 : (v x).ownBlock with
    | none => exact .inl rfl
    | some g =>
      refine .inr (fun e2 => ?_)
      have h1 := hnew g (hvl x g hx2).2 e2.symm
      rcases mv x with e3 | e3
      · exact e3 (hx2.trans h1.symm)
      · rw [hx2] at e3; cases e3
  · exact kall.cell (a := ⟨w.heap.size + 3, 0, none⟩) b1 h.cel.1
  · exact kall.cell (a := ⟨w.heap.size + 3, 1, none⟩) b1 h.cel.2.1
  · exact kall.cell (a := ⟨w.heap.size + 3, 2, none⟩) b1 h.cel.2.2
  · exact World.cell?_setCell_same' _ _ _ (by rw [c42]; rfl)
  · rw [World.frozen?_setCell]; exact f42
  · have := h.few.1; simp; omega
  · have := h.few.2; simp; omega
  · exact ((hbe.trans (hb1.mono (Nat.le_refl _))).grown hg2 (by have := hbe.size; omega) (fun g e => by have := (h.row.lt g e).1; omega)).setCell (p := ⟨w.heap.size + 4, 0, none⟩) (by show w.heap.size ≤ w.heap.size + 4; omega) _
end
end Go.Proofs.YtfakohoamgogoaaGreatDoor
