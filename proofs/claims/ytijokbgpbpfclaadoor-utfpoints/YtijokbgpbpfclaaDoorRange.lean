/- Going through Points: what a loop's own cells hold between two rounds, and behind the loop. -/
import Derived.Test.YtijokbgpbpfclaaDoorIter
namespace Go.Proofs.YtijokbgpbpfclaaDoor
open Go.RowKit Go.Shelf

theorem seq28 (m B n₀ n ca : Nat) (A : Option Addr) (bs s : List Int) (k0 : Nat) (w : World) (hm : 1 ≤ m) (hn : n ≤ 1000000) (hca : n ≤ ca) (ho : Octs bs) (hst : Stop bs s k0)
    (hB : B < n₀) (hn₀ : n₀ ≤ w.heap.size) (hBs : w.cell? ⟨B, 0, none⟩ = some (.slice A n ca)) (hN : ∀ W', Below n₀ w W' → Nums .u8 W' A n bs) (hT : ∀ W', Below n₀ w W' → Lib.Utf8Tabs 0 1 W') :
    SeqStopsK Fence.wide m Tryd.prog 28 #[.pointer (some ⟨B, 0, none⟩)] (fun x : Int × Int => #[Value.int .i64 x.1, Value.int .i64 x.2]) (Below n₀) (fun ys => ys = pts 0 s) (fun pre => pre <+: pts 0 s) 1000001 w := fun l J Jx W hW hJ _ hY h0 =>
  have hb : Below n₀ w W := hW.mono hn₀
  iter28 m l B n₀ n ca A bs s k0 hm hn hca ho hst J Jx hY W hJ hB (Nat.le_trans hn₀ hW.size) ((hb.cell (p := ⟨B, 0, none⟩) hB).trans hBs) (fun W' h => hN W' (hb.trans h)) (fun W' h => hT W' (hb.trans h)) h0

def PI (s : List Int) (most n₀ Bn Ba : Nat) (w : World) (pre : List (Int × Int)) (W : World) : Prop :=
  (pre <+: pts 0 s ∧ pre.length ≤ most ∧ W.cell? ⟨Bn, 0, none⟩ = some (.int .i64 (pre.length : Nat)) ∧ W.frozen? ⟨Bn, 0, none⟩ = false ∧
    W.cell? ⟨Ba, 0, none⟩ = some (.int .i64 ((encs (s.take pre.length)).length : Nat)) ∧ W.frozen? ⟨Ba, 0, none⟩ = false) ∧ Below n₀ w W
def PX (s : List Int) (most n₀ Bn : Nat) (w : World) (c : Code) (pre : List (Int × Int)) (W : World) : Prop :=
  ((c = .exit 2 ∧ pre.length = most + 1 ∧ W.cell? ⟨Bn, 0, none⟩ = some (.int .i64 most)) ∧ Below n₀ w W) ∨ (c = .ret ∧ ¬ pre <+: pts 0 s)

theorem pi_own (s : List Int) (most n₀ Bn Ba : Nat) (w : World) (N : Nat) (h1 : n₀ ≤ w.heap.size) (h2 : n₀ ≤ N) : OwnFrom N (PI s most n₀ Bn Ba w) :=
  OwnFrom.and (Own.from (fun _ _ _ _ hs hg hr => ⟨hs.1, hs.2.1, cell_kept hs.2.2.1 hg hr, (frozen_kept hs.2.2.1 hg hr).trans hs.2.2.2.1, cell_kept hs.2.2.2.2.1 hg hr, (frozen_kept hs.2.2.2.2.1 hg hr).trans hs.2.2.2.2.2⟩) _) (ownFrom_below h1 h2)
theorem px_own (s : List Int) (most n₀ Bn : Nat) (w : World) (N : Nat) (h1 : n₀ ≤ w.heap.size) (h2 : n₀ ≤ N) (c : Code) : OwnFrom N (PX s most n₀ Bn w c) := by
  intro pre W W' row hs hg hr
  rcases hs with ⟨hs, hb⟩ | hs
  · refine .inl ⟨⟨hs.1, hs.2.1, cell_kept hs.2.2 hg (fun r e => (hr r e).2)⟩, ?_⟩
    exact ownFrom_below (β := Unit) h1 h2 () W W' row hb hg hr
  · exact .inr hs

set_option maxHeartbeats 1000000 in
theorem pts_range {g : Operand} {ps : Array Tmp} {assign body : Code} {Q : Exit → Act → World → Prop} {a : Act} {w : World} (m B n₀ n ca most Bn Ba : Nat) (A : Option Addr) (bs s : List Int) (k0 : Nat) (hm : 3 ≤ m)
    (hg : a.eval g = .func (.func 28) #[] #[.pointer (some ⟨B, 0, none⟩)]) (hps : ps.size = 2) (hn : n ≤ 1000000) (hca : n ≤ ca) (ho : Octs bs) (hst : Stop bs s k0)
    (hB : B < n₀) (hn₀ : n₀ ≤ w.heap.size) (hBs : w.cell? ⟨B, 0, none⟩ = some (.slice A n ca)) (hN : ∀ W', Below n₀ w W' → Nums .u8 W' A n bs) (hT : ∀ W', Below n₀ w W' → Lib.Utf8Tabs 0 1 W')
    (h0 : PI s most n₀ Bn Ba w [] w) (a₁ : Int × Int → Act)
    (hassign : ∀ (l : Nat) (x : Int × Int) (W : World) (K : Act → World → Prop), K (a₁ x) W →
      assign.wpIn (Fence.wide.inRound l) (m - 1 - 1) Tryd.prog (Exit.then K (fun _ _ _ => False)) { tmps := (ps.zip #[Value.int .i64 x.1, Value.int .i64 x.2]).foldl (fun t (p, v) => t.setIfInBounds p v) a.tmps, defers := [] } W)
    (hbody : ∀ (l : Nat) (pre : List (Int × Int)) (x : Int × Int) (W : World), PI s most n₀ Bn Ba w pre W → pre.length < 1000001 → body.wpIn (Fence.wide.inRound l) (m - 1 - 1) Tryd.prog (ownPostK (Below n₀) (PI s most n₀ Bn Ba w) (PX s most n₀ Bn w) (pre ++ [x]) W) (a₁ x) W)
    (hexit : ∀ (b : Act) (W : World), Q .normal b W → (Code.exit 2).wpIn Fence.wide m Tryd.prog Q b W)
    (hcont : ∀ (D : Nat) (W : World), w.heap.size ≤ D → W.cell? ⟨Bn, 0, none⟩ = some (.int .i64 ((min most s.length : Nat) : Int)) → Below n₀ w W → W.heap[D]? = some (.deferred (some [])) → Q .normal { a with defers := { target := .collected D, args := #[] } :: a.defers } W) :
    (Code.rangeFunc g ps assign body).wpIn Fence.wide m Tryd.prog Q a w := by
  refine wpIn_rangeFunc_ownF rfl (by omega) (gf := 28) (lb := #[.pointer (some ⟨B, 0, none⟩)]) hg trivial (enters_of Tryd.func28 (by kernel_rfl) rfl)
    (seq28 (m - 1) B n₀ n ca A bs s k0 w (by omega) hn hca ho hst hB hn₀ hBs hN hT) belowK_t (belowK_b hn₀) (Below.refl _ _) (fun _ => hps.symm)
    (PI s most n₀ Bn Ba w) (PX s most n₀ Bn w) (pi_own s most n₀ Bn Ba w _ hn₀ hn₀) (px_own s most n₀ Bn w _ hn₀ hn₀) h0 a₁ hassign hbody ?done ?stop
  case done =>
    rintro D xs W hD rfl ⟨⟨_, hl, hc, _⟩, hb⟩ hK
    rw [pts_length] at hl hc
    exact hcont D W hD (by rw [Nat.min_eq_right hl]; exact hc) hb hK
  case stop =>
    rintro D c pre W hD hpre (⟨⟨rfl, hl, hc⟩, hb⟩ | ⟨_, hn⟩) hK
    · have h2 := hpre.length_le
      rw [pts_length] at h2
      exact hexit _ _ (hcont D W hD (by rw [Nat.min_eq_left (by omega)]; exact hc) hb hK)
    · exact absurd hpre hn

theorem keeps_below {W W' : World} (h : Below W.heap.size W W') : KeepsOthers W W' := ⟨h.size, fun k o hk _ => by
  rw [h.block k (Array.getElem?_eq_some_iff.1 hk).1]
  exact hk⟩

/-- What a round's tests tell. -/
theorem pts_get : ∀ (k : Nat) (s : List Int) (j : Nat), j < s.length → (pts k s)[j]? = some (((k + (encs (s.take j)).length : Nat) : Int), s.getD j 0)
  | k, [], j, h => by simp at h
  | k, c :: s, 0, _ => by simp [pts, encs]
  | k, c :: s, j + 1, h => by
    rw [pts, List.getElem?_cons_succ, pts_get (k + (oct c).length) s j (by simpa using h), List.take_succ_cons, encs_cons, List.length_append, List.getD_cons_succ, Nat.add_assoc]
theorem pre_snoc {α : Type} {pre l : List α} {x : α} (h : pre ++ [x] <+: l) : l[pre.length]? = some x := by
  obtain ⟨r, rfl⟩ := h
  simp
theorem snoc_pre {α : Type} {pre l : List α} {x : α} (h : pre <+: l) (hx : l[pre.length]? = some x) : pre ++ [x] <+: l := by
  obtain ⟨r, rfl⟩ := h
  cases r with
  | nil => simp at hx
  | cons y r =>
    simp at hx
    subst hx
    exact ⟨r, by simp⟩
end Go.Proofs.YtijokbgpbpfclaaDoor
