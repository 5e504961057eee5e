/- What stands between two lines of the program's Parse of property files; no walk. -/
import Derived.Test.YtfakohoamgogoaaGreatDoorQt31
import Derived.Test.YtfakohoamgogoaaGreatDoorQt32
import Derived.Test.YtfakohoamgogoaaGreatDoorQt19
import Derived.Test.YtfakohoamgogoaaGreatDoorQt06
namespace Go.Proofs.YtfakohoamgogoaaGreatDoor.Pq
open Go.RowKit Go.Shelf

theorem came_list : ∀ (l acc r : List Sp), came acc l = .ok r → r = acc ++ l
  | [], acc, r, h => by rw [came] at h; injection h with h; simp [h]
  | s :: l, acc, r, h => by
    rw [came] at h
    split at h
    · rw [came_list l _ r h]; simp
    · cases h
/-! The lines, one by one. -/
inductive St where
  | at (out : List Sp)
  | bad (e n : Int)
def step (vs : List (List UInt8)) : St → Ln → St
  | .bad e n, _ => .bad e n
  | .at out, x => if ¬ lineErr x.2 = 0 then .bad (lineErr x.2) x.1 else if amongB vs (pfld x.2 1) = false then .at out else if ¬ check out (spOf x.2) = 0 then .bad (check out (spOf x.2)) x.1 else .at (out ++ [spOf x.2])
def fin : St → PRes
  | .at out => ⟨out, 0, 0⟩
  | .bad e n => ⟨[], e, n⟩
theorem step_err {vs : List (List UInt8)} {out : List Sp} {x : Ln} (h : ¬ lineErr x.2 = 0) : step vs (.at out) x = .bad (lineErr x.2) x.1 := by rw [step, if_pos h]
theorem step_skip {vs : List (List UInt8)} {out : List Sp} {x : Ln} (h : lineErr x.2 = 0) (ha : amongB vs (pfld x.2 1) = false) : step vs (.at out) x = .at out := by rw [step, if_neg (by simpa using h), if_pos ha]
theorem step_bad {vs : List (List UInt8)} {out : List Sp} {x : Ln} (h : lineErr x.2 = 0) (ha : amongB vs (pfld x.2 1) = true) (hc : ¬ check out (spOf x.2) = 0) : step vs (.at out) x = .bad (check out (spOf x.2)) x.1 := by rw [step, if_neg (by simpa using h), if_neg (by rw [ha]; simp), if_pos hc]
theorem step_add {vs : List (List UInt8)} {out : List Sp} {x : Ln} (h : lineErr x.2 = 0) (ha : amongB vs (pfld x.2 1) = true) (hc : check out (spOf x.2) = 0) : step vs (.at out) x = .at (out ++ [spOf x.2]) := by rw [step, if_neg (by simpa using h), if_neg (by rw [ha]; simp), if_neg (by simpa using hc)]
theorem fold_bad (vs : List (List UInt8)) (e n : Int) : ∀ L : List Ln, L.foldl (step vs) (.bad e n) = .bad e n
  | [] => rfl
  | x :: L => by rw [List.foldl_cons]; exact fold_bad vs e n L
theorem fold_prop (vs : List (List UInt8)) : ∀ (L : List Ln) (out : List Sp), fin (L.foldl (step vs) (.at out)) = propP vs out L
  | [], out => rfl
  | x :: L, out => by
    rw [List.foldl_cons]
    by_cases hx : lineErr x.2 = 0
    · cases ha : amongB vs (pfld x.2 1) with
      | false => rw [step_skip hx ha, prp_skip hx ha]; exact fold_prop vs L out
      | true =>
        by_cases hc : check out (spOf x.2) = 0
        · rw [step_add hx ha hc, prp_add hx ha hc]; exact fold_prop vs L _
        · rw [step_bad hx ha hc, prp_bad hx ha hc, fold_bad]; rfl
    · rw [step_err hx, prp_err hx, fold_bad]; rfl
def stOf (vs : List (List UInt8)) (xs : List LnV) : St := (xs.map view).foldl (step vs) (.at [])
theorem st_snoc (vs : List (List UInt8)) (xs : List LnV) (x : LnV) : stOf vs (xs ++ [x]) = step vs (stOf vs xs) (view x) := by unfold stOf; rw [List.map_append, List.foldl_append]; rfl
theorem st_bad {vs : List (List UInt8)} {xs : List LnV} {l : List Ln} {e n : Int} (h : stOf vs xs = .bad e n) (hp : xs.map view <+: l) : propOf vs l = ⟨[], e, n⟩ := by
  obtain ⟨r, rfl⟩ := hp
  unfold propOf
  rw [← fold_prop, List.foldl_append]
  unfold stOf at h
  rw [h, fold_bad]
  rfl
theorem st_all {vs : List (List UInt8)} {xs : List LnV} {l : List Ln} {s : St} (h : stOf vs xs = s) (hp : xs.map view = l) : propOf vs l = fin s := by
  unfold propOf
  rw [← fold_prop, ← h, ← hp]
  rfl
theorem came_at {vs : List (List UInt8)} {xs : List LnV} {out : List Sp} (h : stOf vs xs = .at out) : addAll [] out = .ok (sorted out) := by
  have h1 : propOf vs (xs.map view) = ⟨out, 0, 0⟩ := st_all h rfl
  obtain ⟨-, h2, -⟩ := prp_inv vs (xs.map view) [] (by show (propOf vs (xs.map view)).err = 0; rw [h1])
  have h3 : (propP vs [] (xs.map view)).rows = out := by show (propOf vs (xs.map view)).rows = out; rw [h1]
  rw [h3] at h2
  have h4 := addAll_came (selS vs (xs.map view)) []
  rw [h2] at h4
  have e : selS vs (xs.map view) = out := by
    have := came_list _ [] _ h2
    simpa using this.symm
  rw [e] at h4
  exact h4

/-! The variables. -/
theorem own_same {W W' : World} {base n size : Nat} {e : TypeId} {v : Value} {xs : List Value} (h : W.ownsRow base e size v n xs) (hk : ∀ k, v.ownBlock = some k → W'.heap[k]? = W.heap[k]?) : W'.ownsRow base e size v n xs := by
  refine ⟨h.1, ?_⟩
  rcases h.2 with hn | ⟨g, cap, cur, rfl, hbg, hgg, rest⟩
  · exact .inl hn
  · exact .inr ⟨g, cap, cur, rfl, hbg, by rw [hk g rfl]; exact hgg, rest⟩
/-- The set of code points and the spans, in two blocks of their own; their rows are apart. -/
def Two (tb sb base : Nat) (ws : List Nat) (out : List Sp) (W : World) : Prop :=
  ∃ vt vp, ((W.cell? ⟨tb, 0, none⟩ = some vt ∧ W.frozen? ⟨tb, 0, none⟩ = false) ∧ W.ownsRow base 219 1 vt ws.length (words ws)) ∧ ((W.cell? ⟨sb, 0, none⟩ = some vp ∧ W.frozen? ⟨sb, 0, none⟩ = false) ∧ W.ownsRow base 168 3 vp out.length (spvs out)) ∧ ∀ k, vt.ownBlock = some k → vp.ownBlock ≠ some k
theorem Two.set {tb sb base : Nat} {ws : List Nat} {out : List Sp} {W : World} (h : Two tb sb base ws out W) : RowAt tb base 219 1 ws.length (words ws) W := by
  obtain ⟨vt, vp, h1, -, -⟩ := h
  exact ⟨vt, h1⟩
theorem Two.row {tb sb base : Nat} {ws : List Nat} {out : List Sp} {W : World} (h : Two tb sb base ws out W) : RowAt sb base 168 3 out.length (spvs out) W := by
  obtain ⟨vt, vp, -, h1, -⟩ := h
  exact ⟨vp, h1⟩
theorem two_add {tb sb base : Nat} {ws ws' : List Nat} {out : List Sp} {W W' : World} (h : Two tb sb base ws out W) (hts : tb ≠ sb) (htb : tb < base) (hsb : sb < base) (hr : RowAt tb base 219 1 ws'.length (words ws') W') (hh : Hold (GA tb) W W') :
    Two tb sb base ws' out W' ∧ Hold (fun W k => GA tb W k ∧ GA sb W k) W W' := by
  obtain ⟨vt, vp, ⟨⟨c1, f1⟩, o1⟩, ⟨⟨c2, f2⟩, o2⟩, hap⟩ := h
  obtain ⟨vt', ⟨c1', f1'⟩, o1'⟩ := hr
  have hsl : sb < W.heap.size := World.block_lt_of_cell? W _ c2
  have hs := hh.2 sb ⟨vt, c1, (Ne.symm hts), fun e => by have := (o1.lt sb e).1; omega⟩ hsl
  have c2' : W'.cell? ⟨sb, 0, none⟩ = some vp := (World.cell?_of_block (a := ⟨sb, 0, none⟩) hs.1).trans c2
  have hrow : ∀ k, vp.ownBlock = some k → W'.heap[k]? = W.heap[k]? ∧ GA tb W' k := fun k e => hh.2 k ⟨vt, c1, fun e' => by have := (o2.lt k e).1; omega, fun e' => hap k e' e⟩ (o2.lt k e).2
  refine ⟨⟨vt', vp, ⟨⟨c1', f1'⟩, o1'⟩, ⟨⟨c2', (World.frozen?_of_block (a := ⟨sb, 0, none⟩) hs.1).trans f2⟩, own_same o2 fun k e => (hrow k e).1⟩, fun k e e' => ?_⟩, hh.1, fun k ha hk => ?_⟩
  · obtain ⟨u, hu, -, hne⟩ := (hrow k e').2
    rw [c1'] at hu
    cases hu
    exact hne e
  · obtain ⟨u, hu, h2, h3⟩ := ha.2
    rw [c2] at hu
    cases hu
    have q := hh.2 k ha.1 hk
    exact ⟨q.1, q.2, vp, c2', h2, h3⟩
theorem two_app {tb sb base : Nat} {ws : List Nat} {out out' : List Sp} {W W' : World} (h : Two tb sb base ws out W) (hts : tb ≠ sb) (htb : tb < base) (hsb : sb < base) (hr : RowAt sb base 168 3 out'.length (spvs out') W') (hh : Hold (GA sb) W W') :
    Two tb sb base ws out' W' ∧ Hold (fun W k => GA tb W k ∧ GA sb W k) W W' := by
  obtain ⟨vt, vp, ⟨⟨c1, f1⟩, o1⟩, ⟨⟨c2, f2⟩, o2⟩, hap⟩ := h
  obtain ⟨vp', ⟨c2', f2'⟩, o2'⟩ := hr
  have htl : tb < W.heap.size := World.block_lt_of_cell? W _ c1
  have hs := hh.2 tb ⟨vp, c2, hts, fun e => by have := (o2.lt tb e).1; omega⟩ htl
  have c1' : W'.cell? ⟨tb, 0, none⟩ = some vt := (World.cell?_of_block (a := ⟨tb, 0, none⟩) hs.1).trans c1
  have hrow : ∀ k, vt.ownBlock = some k → W'.heap[k]? = W.heap[k]? ∧ GA sb W' k := fun k e => hh.2 k ⟨vp, c2, fun e' => by have := (o1.lt k e).1; omega, fun e' => hap k e e'⟩ (o1.lt k e).2
  refine ⟨⟨vt, vp', ⟨⟨c1', (World.frozen?_of_block (a := ⟨tb, 0, none⟩) hs.1).trans f1⟩, own_same o1 fun k e => (hrow k e).1⟩, ⟨⟨c2', f2'⟩, o2'⟩, fun k e e' => ?_⟩, hh.1, fun k ha hk => ?_⟩
  · obtain ⟨u, hu, -, hne⟩ := (hrow k e).2
    rw [c2'] at hu
    cases hu
    exact hne e'
  · obtain ⟨u, hu, h2, h3⟩ := ha.1
    rw [c1] at hu
    cases hu
    have q := hh.2 k ha.2 hk
    exact ⟨q.1, ⟨vt, c1', h2, h3⟩, q.2⟩
theorem two_abide {β : Type} {B tb sb base : Nat} (ws : β → List Nat) (out : β → List Sp) : Abide 0 0 B (fun s W => Two tb sb base (ws s) (out s) W) := by
  intro s W W' row ⟨vt, vp, ⟨h1, h2⟩, ⟨h3, h4⟩, h5⟩ hg hr
  exact ⟨vt, vp, ⟨abide_cell (β := Unit) (B := B) (fun _ => ⟨tb, 0, none⟩) (fun _ => vt) (fun _ => by omega) () W W' row h1 hg hr, own_abide (β := Unit) (B := B) () W W' row h2 hg hr⟩, ⟨abide_cell (β := Unit) (B := B) (fun _ => ⟨sb, 0, none⟩) (fun _ => vp) (fun _ => by omega) () W W' row h3 hg hr, own_abide (β := Unit) (B := B) () W W' row h4 hg hr⟩, h5⟩
theorem Two.below {tb sb base : Nat} {ws : List Nat} {out : List Sp} {W W' : World} (h : Two tb sb base ws out W) (hb : Below W.heap.size W W') : Two tb sb base ws out W' := (two_abide (β := Unit) (B := W.heap.size) (fun _ => ws) (fun _ => out)).below (s := ()) h hb
/-- The results' three boxes. -/
def RB3 (H : Nat) (p : Option Addr) (e n : Int) (W : World) : Prop :=
  (W.cell? ⟨H, 0, none⟩ = some (.pointer p) ∧ W.frozen? ⟨H, 0, none⟩ = false) ∧ ((W.cell? ⟨H + 1, 0, none⟩ = some (.int .i64 e) ∧ W.frozen? ⟨H + 1, 0, none⟩ = false) ∧ (W.cell? ⟨H + 2, 0, none⟩ = some (.int .i64 n) ∧ W.frozen? ⟨H + 2, 0, none⟩ = false))
theorem rb3_abide {β : Type} {B : Nat} (H : Nat) (p : β → Option Addr) (e n : β → Int) : Abide 0 0 B (fun s W => RB3 H (p s) (e s) (n s) W) :=
  Abide.and (abide_cell (fun _ => ⟨H, 0, none⟩) (fun s => .pointer (p s)) (fun _ => by omega)) (Abide.and (abide_cell (fun _ => ⟨H + 1, 0, none⟩) (fun s => .int .i64 (e s)) (fun _ => by omega)) (abide_cell (fun _ => ⟨H + 2, 0, none⟩) (fun s => .int .i64 (n s)) (fun _ => by omega)))
theorem RB3.below {H : Nat} {p : Option Addr} {e n : Int} {W W' : World} (h : RB3 H p e n W) {B : Nat} (hl : H + 2 < B) (hb : Below B W W') : RB3 H p e n W' :=
  ⟨⟨(hb.cell (p := ⟨H, 0, none⟩) (by show H < B; omega)).trans h.1.1, (hb.frozen (p := ⟨H, 0, none⟩) (by show H < B; omega)).trans h.1.2⟩, ⟨(hb.cell (p := ⟨H + 1, 0, none⟩) (by show H + 1 < B; omega)).trans h.2.1.1, (hb.frozen (p := ⟨H + 1, 0, none⟩) (by show H + 1 < B; omega)).trans h.2.1.2⟩, (hb.cell (p := ⟨H + 2, 0, none⟩) (by show H + 2 < B; omega)).trans h.2.2.1, (hb.frozen (p := ⟨H + 2, 0, none⟩) (by show H + 2 < B; omega)).trans h.2.2.2⟩
theorem rb3_lt {H : Nat} {p : Option Addr} {e n : Int} {W : World} (h : RB3 H p e n W) : H + 2 < W.heap.size := World.block_lt_of_cell? W _ h.2.2.1
def rb3_set (H : Nat) (p : Option Addr) (e n : Int) (W : World) : World := ((W.setCell ⟨H, 0, none⟩ (.pointer p)).setCell ⟨H + 1, 0, none⟩ (.int .i64 e)).setCell ⟨H + 2, 0, none⟩ (.int .i64 n)
theorem rb3_new {H : Nat} {p p' : Option Addr} {e n e' n' : Int} {W : World} (h : RB3 H p e n W) : RB3 H p' e' n' (rb3_set H p' e' n' W) := by
  obtain ⟨⟨h1, h2⟩, ⟨h3, h4⟩, h5, h6⟩ := h
  unfold rb3_set
  refine ⟨⟨by simp [go_sem, h1], ?_⟩, ⟨by simp [go_sem, h3], ?_⟩, by simp [go_sem, h5], ?_⟩ <;> simp only [World.frozen?_setCell] <;> assumption
theorem rb3_other {H k : Nat} {p : Option Addr} {e n : Int} {W : World} (h : k ≠ H ∧ k ≠ H + 1 ∧ k ≠ H + 2) : (rb3_set H p e n W).heap[k]? = W.heap[k]? := by
  unfold rb3_set
  rw [heap_setCell_other _ ⟨H + 2, 0, none⟩ k _ (fun e => h.2.2 (by simpa using e)), heap_setCell_other _ ⟨H + 1, 0, none⟩ k _ (fun e => h.2.1 (by simpa using e)), heap_setCell_other _ ⟨H, 0, none⟩ k _ (fun e => h.1 (by simpa using e))]
theorem rb3_size {H : Nat} {p : Option Addr} {e n : Int} {W : World} : (rb3_set H p e n W).heap.size = W.heap.size := by unfold rb3_set; simp only [World.size_setCell]
theorem rb3_below {w : World} {p : Option Addr} {e n : Int} {W : World} (h : Below w.heap.size w W) : Below w.heap.size w (rb3_set w.heap.size p e n W) := by
  unfold rb3_set
  exact ((h.setCell (p := ⟨w.heap.size, 0, none⟩) (Nat.le_refl _) _).setCell (p := ⟨w.heap.size + 1, 0, none⟩) (by show w.heap.size ≤ w.heap.size + 1; omega) _).setCell (p := ⟨w.heap.size + 2, 0, none⟩) (by show w.heap.size ≤ w.heap.size + 2; omega) _
/-- What the loop's body does not own. -/
def PA (H tb sb : Nat) (W : World) (k : Nat) : Prop := (GA tb W k ∧ GA sb W k) ∧ (k ≠ H ∧ k ≠ H + 1 ∧ k ≠ H + 2)
theorem both_lets (tb sb : Nat) : Lets (fun W k => GA tb W k ∧ GA sb W k) := fun W W' row k ha hg hr => ⟨ga_lets tb W W' row k ha.1 hg hr, ga_lets sb W W' row k ha.2 hg hr⟩
theorem pa_lets (H tb sb : Nat) : Lets (PA H tb sb) := (both_lets tb sb).and _
theorem pa_hold {H tb sb : Nat} {W W' : World} (h : Hold (fun W k => GA tb W k ∧ GA sb W k) W W') : Hold (PA H tb sb) W W' := ⟨h.1, fun k ha hk => have q := h.2 k ha.1 hk; ⟨q.1, q.2, ha.2⟩⟩
theorem rb3_hold {H tb sb : Nat} {p : Option Addr} {e n : Int} {W : World} (ht : tb ≠ H ∧ tb ≠ H + 1 ∧ tb ≠ H + 2) (hs : sb ≠ H ∧ sb ≠ H + 1 ∧ sb ≠ H + 2) : Hold (PA H tb sb) W (rb3_set H p e n W) :=
  ⟨by rw [rb3_size]; exact Nat.le_refl _, fun k ha _ => ⟨rb3_other ha.2, (by
    obtain ⟨⟨⟨v, h1, h2⟩, u, h3, h4⟩, h5⟩ := ha
    exact ⟨⟨⟨v, (World.cell?_of_block (a := ⟨tb, 0, none⟩) (rb3_other ht)).trans h1, h2⟩, u, (World.cell?_of_block (a := ⟨sb, 0, none⟩) (rb3_other hs)).trans h3, h4⟩, h5⟩)⟩⟩
/-- The values that are asked for. -/
def AskW (qb : Nat) (Aq : Option Addr) (nq cq : Nat) (ss : List (List UInt8)) (W : World) : Prop := W.cell? ⟨qb, 0, none⟩ = some (.slice Aq nq cq) ∧ Vals W Aq nq (strs ss)
theorem vals_abide {β : Type} {B : Nat} {A : Option Addr} {n : Nat} {vs : List Value} : Abide 0 0 B (fun (_ : β) W => Vals W A n vs) := by
  intro s W W' row h hg hr
  refine ⟨h.1, fun hn => ?_⟩
  obtain ⟨b, off, rfl, hlt, hc⟩ := h.2 hn
  exact ⟨b, off, rfl, Nat.lt_of_lt_of_le hlt hg.size, fun j v hj => cell_abide (β := Unit) (B := B) _ _ () W W' row (hc j v hj) hg hr⟩
theorem ask_abide {β : Type} {B qb nq cq : Nat} {Aq : Option Addr} {ss : List (List UInt8)} : Abide 0 0 B (fun (_ : β) W => AskW qb Aq nq cq ss W) := Abide.and (cell_abide _ _) vals_abide
theorem vals_under {W W' : World} {A : Option Addr} {n B : Nat} {vs : List Value} (h : Vals W A n vs) (hA : ∀ a, A = some a → a.block < B) (hb : Below B W W') (hs : W.heap.size ≤ W'.heap.size) : Vals W' A n vs := by
  refine ⟨h.1, fun hn => ?_⟩
  obtain ⟨b, off, rfl, hlt, hc⟩ := h.2 hn
  exact ⟨b, off, rfl, Nat.lt_of_lt_of_le hlt hs, fun j v hj => (hb.cell (p := ⟨b, off + j, none⟩) (hA ⟨b, off, none⟩ rfl)).trans (hc j v hj)⟩
theorem AskW.under {qb nq cq B : Nat} {Aq : Option Addr} {ss : List (List UInt8)} {W W' : World} (h : AskW qb Aq nq cq ss W) (hq : qb < B) (hA : ∀ a, Aq = some a → a.block < B) (hb : Below B W W') (hs : W.heap.size ≤ W'.heap.size) : AskW qb Aq nq cq ss W' :=
  ⟨(hb.cell (p := ⟨qb, 0, none⟩) hq).trans h.1, vals_under h.2 hA hb hs⟩
/-- Between two lines: what is plain of it. -/
def Pl (vs : List (List UInt8)) (pre : List LnV) (ws : List Nat) (out : List Sp) : Prop := (stOf vs pre = .at out ∧ out.length ≤ pre.length) ∧ (Tells ws out ∧ ws.length ≤ 17408) ∧ ∀ t ∈ out, Fit t
/-- Between two lines. -/
def PqI (w : World) (qb base : Nat) (Aq : Option Addr) (nq cq : Nat) (vs : List (List UInt8)) (pre : List LnV) (W : World) : Prop :=
  ∃ s : List Nat × List Sp, Pl vs pre s.1 s.2 ∧ (Two (qb + 1) (qb + 2) base s.1 s.2 W ∧ (RB3 w.heap.size none 0 0 W ∧ (AskW qb Aq nq cq (ascOf vs) W ∧ (ML W ∧ Below w.heap.size w W))))
/-- A line has left: it is wrong. -/
def PpX (w : World) (vs : List (List UInt8)) (c : Code) (pre : List LnV) (W : World) : Prop :=
  ∃ s : Int × Int, (c = .ret ∧ stOf vs pre = .bad s.1 s.2 ∧ ¬ s.1 = 0) ∧ (RB3 w.heap.size none s.1 s.2 W ∧ Below w.heap.size w W)
theorem pqi_abide (w : World) (qb base : Nat) (Aq : Option Addr) (nq cq : Nat) (vs : List (List UInt8)) (B : Nat) (hB : w.heap.size ≤ B) : Abide 0 0 B (PqI w qb base Aq nq cq vs) := by
  intro pre W W' row ⟨s, h1, h2, h3, h4, h5, h6⟩ hg hr
  exact ⟨s, h1, two_abide (β := Unit) (B := B) (fun _ => s.1) (fun _ => s.2) () W W' row h2 hg hr, rb3_abide (β := Unit) (B := B) _ (fun _ => none) (fun _ => 0) (fun _ => 0) () W W' row h3 hg hr, ask_abide (β := Unit) (B := B) () W W' row h4 hg hr, ml_abide (β := Unit) (B := B) () W W' row h5 hg hr, abide_below (β := Unit) w (.inr (by omega)) hB (Nat.le_refl _) () W W' row h6 hg hr⟩
theorem ppx_abide (w : World) (vs : List (List UInt8)) (B : Nat) (hB : w.heap.size ≤ B) (c : Code) : Abide 0 0 B (PpX w vs c) := by
  intro pre W W' row ⟨s, h1, h3, h5⟩ hg hr
  exact ⟨s, h1, rb3_abide (β := Unit) (B := B) _ (fun _ => none) (fun _ => s.1) (fun _ => s.2) () W W' row h3 hg hr, abide_below (β := Unit) w (.inr (by omega)) hB (Nat.le_refl _) () W W' row h5 hg hr⟩
theorem two_free {tb sb base : Nat} {ws : List Nat} {out : List Sp} {W : World} (h : Two tb sb base ws out W) : ∀ k, W.heap.size ≤ k → GA tb W k ∧ GA sb W k := fun k hk => ⟨row_free h.set k hk, row_free h.row k hk⟩
theorem point_le {l : List UInt8} {c : Nat} (h : point l = some c) : c ≤ 1114111 := by
  unfold point at h
  cases hx : hexv 0 l with
  | none => rw [hx] at h; cases h
  | some d =>
    rw [hx] at h
    simp only [Option.bind_some] at h
    split at h
    · injection h with h
      rename_i h2
      omega
    · cases h
theorem range_ok {l : List UInt8} (h : (rangeOf l).2.2 = 0) : ∃ a b : Nat, ((rangeOf l).1 = a ∧ (rangeOf l).2.1 = b) ∧ a ≤ b ∧ b ≤ 1114111 := by
  unfold rangeOf at h ⊢
  split at h
  · rename_i hd
    rw [if_pos hd]
    cases hx : point (l.take (Lib.index l [46, 46]).toNat) with
    | none => rw [hx] at h; cases h
    | some a =>
      cases hy : point (l.drop ((Lib.index l [46, 46]).toNat + 2)) with
      | none => rw [hx, hy] at h; cases h
      | some b =>
        rw [hx, hy] at h
        simp only at h ⊢
        split at h
        · cases h
        · rename_i hab
          rw [if_neg hab]
          exact ⟨a, b, ⟨rfl, rfl⟩, by omega, point_le hy⟩
  · rename_i hd
    rw [if_neg hd]
    cases hx : point l with
    | none => rw [hx] at h; cases h
    | some a => exact ⟨a, a, ⟨rfl, rfl⟩, Nat.le_refl _, point_le hx⟩
/-- The ranges' numbers. -/
theorem range_fit {f : List (List UInt8)} (h : lineErr f = 0) : Fit (spOf f) ∧ ∃ a b : Nat, (spOf f).a = a ∧ (spOf f).b = b ∧ a ≤ b ∧ b ≤ 1114111 := by
  unfold lineErr at h
  split at h
  · cases h
  split at h
  · rename_i h2
    exact absurd h h2
  rename_i h2
  split at h
  · cases h
  rename_i h3
  have hr : (rangeOf (pfld f 0)).2.2 = 0 := by simpa using h2
  obtain ⟨a, b, h4, h5, h6⟩ := range_ok hr
  have e1 : (spOf f).a = a := h4.1
  have e2 : (spOf f).b = b := h4.2
  exact ⟨⟨by omega, by omega, by omega, h3⟩, a, b, e1, e2, h5, h6⟩
end Go.Proofs.YtfakohoamgogoaaGreatDoor.Pq
