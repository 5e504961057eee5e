/- What the laws' list of a table's spans is. -/
import Derived.Test.YtfggoegofbghhaaIter
import Derived.Test.YtfggoegofbghhaaBox
import Derived.Test.YtfggoegofbghhaaRsort
namespace Go.Proofs.Ytfggoegofbghhaa
open Go.RowKit Go.Shelf
attribute [local go_sem] Oper.semAt_some

def LstPost (ls : List Sp) (w : World) (e : Ending) (w' : World) : Prop :=
  Below w.heap.size w w' ∧ ∃ A ca, e = .returned (.slice A ls.length ca) ∧ (A = none → ca = 0) ∧ SAt w' A ls.length ls
theorem leave15 {R : Ending → World → Prop} {Wf : World} {D m : Nat} {tmps : Array Value} {v : Value} (ht : tmps[2]?.getD undef = v) (hk : Wf.heap[D]? = some (.deferred (some []))) (h : R (.returned v) (Wf.putObj D (.deferred none))) :
    LeavesInM Fence.wide m Try.prog Try.f15 tmps R [{ target := .collected D, args := #[] }] .returning Wf := by
  refine ⟨by simp, .inl ⟨_, _, rfl, run_takeDeferred hk, ?_⟩⟩
  refine ⟨v, ?_, h⟩
  simp [results, Try.results15, go_sem, ht]
theorem spvs_snoc' (ls : List Sp) (s : Sp) (T : ByteArray) (hT : bs s.v = T) : spvs ls ++ [.int .i64 s.a, .int .i64 s.b, .string T] = spvs (ls ++ [s]) := by rw [← hT, spvs_snoc]

set_option maxRecDepth 100000 in
set_option maxHeartbeats 4000000 in
theorem listed15 (p A : Option Addr) (c : Nat) (ls : List Sp) (w : World) (hT : TIn w p A c ls) (hn : ls.length ≤ 100000) : Calls Try.prog 15 #[.pointer p] w (LstPost ls w) := by
  obtain ⟨i0, hi, hz0, hz1, hz2⟩ := info_parts info44
  have hb0 : Below w.heap.size w (w.alloc (.cells #[.slice none 0 0] 29)) := (Below.refl _ _).alloc (Nat.le_refl _) _
  have c32 := callsIn_wide (n := 7) |>.2 (all32 p A c ls (w.alloc (.cells #[.slice none 0 0] 29)) (hT.below hb0))
  have n0 := box_new w (.slice none 0 0) 29
  have s0 : (w.alloc (.cells #[.slice none 0 0] 29)).heap.size = w.heap.size + 1 := by simp
  have HT := Lib.hid hT
  clear hT
  refine (callsIn_wide (n := 8)).1 ?_
  refine callsIn_of_wp_marks Try.func15 rfl trivial ?_ rfl
  simp only [Try.ntmps15, List.size_toArray, List.length_cons, List.length_nil, Nat.reduceAdd, Nat.reduceSub, Array.replicate_succ, Array.replicate_zero, List.push_toArray, List.append_toArray, List.nil_append, List.cons_append]
  have N0 := Lib.hid n0
  have HB0 := Lib.hid hb0
  have HS0 := Lib.hid s0
  clear n0 hb0 s0
  gi_wp2_with (refine ⟨trivial, ?_⟩; gi_at_call 32; (with_reducible refine c32.mono ?_); rintro e W4 ⟨hb4, b, rfl, hB1, hB2, hBc, hS1⟩; have h1 := Lib.hid hS1; clear hS1)
  clear c32
  have hs0 := HS0.out
  have hs4 := hb4.size
  have hsw := HT.out.sat
  have hq := seq55 7 b ls.length c A ls (fun k => k ≠ w.heap.size ∧ k < W4.heap.size + 2) W4 (by omega) hn hB2 hBc h1.out (fun h a e => by
    have h3 := hsw.lt h a e
    omega)
  have hB4 : Below w.heap.size w W4 := HB0.out.trans (hb4.mono HB0.out.size)
  have h0 : GotI w w.heap.size (W4.heap.size + 2) 44 3 0 [] W4 := ⟨⟨_, ⟨(hb4.cell (p := ⟨w.heap.size, 0, none⟩) (by show w.heap.size < _; omega)).trans N0.out.1, (hb4.frozen (p := ⟨w.heap.size, 0, none⟩) (by show w.heap.size < _; omega)).trans N0.out.2⟩, World.ownsRow_nil _ _ _ _⟩, hB4⟩
  have HQ := Lib.hid hq
  have H0 := Lib.hid h0
  have HL : Hid (w.heap.size < W4.heap.size) := Lib.hid (by omega)
  clear hq h0 hs0 hs4 hBc hb4 hB4 hsw
  refine range_own2 rfl (by omega) rfl trivial (enters_of Try.func55 (by kernel_rfl) rfl) HQ.out (Nat.zero_le _) ⟨by have := HL.out; omega, by omega⟩ ⟨by have := HL.out; omega, by omega⟩ (fun _ => rfl) (fun x _ W1 W2 row hs hg hr => ⟨hs.1, Nat.le_trans hs.2 hg.size⟩)
    (fun pre W => GotI w w.heap.size (W4.heap.size + 2) 44 3 pre.length (spvs pre) W) (fun _ _ _ => False) (got_abide _ _ _ _ _ _ _ _ (by have := HL.out; omega)) (fun _ => Abide.pure _ _ _ _) H0.out SpBox (fun x b => spBox_abide x b _) ?a1 ?assign ?body ?done ?stop
  case assign =>
    rintro l pre x W K hi' hr hK
    simp only [spArr, spV]
    gi_wp2
    obtain ⟨b, hb⟩ : ∃ b, W.heap.size = b := ⟨_, rfl⟩
    rw [hb]
    refine hK b _ (Kept.alloc _ _) ((got_abide w _ _ _ _ w.heap.size (fun _ : Unit => _) (fun _ => _) (Nat.le_refl _)).alloc (s := ()) _ hi') ⟨hr.1, Nat.le_trans hr.2 (by simp)⟩ ?_
    rw [← hb]
    exact spBox_new x W _
  case body =>
    rintro l pre x b W ⟨⟨v, ⟨hv, hf⟩, hown⟩, hbW⟩ hr ⟨k1, k2, k3⟩ hlen
    obtain ⟨T, hT⟩ : ∃ T, bs x.v = T := ⟨_, rfl⟩
    have hsn := spvs_snoc' pre x T hT
    rw [hT] at k3
    have n2 : pre.length + 1 ≤ 200000 := by omega
    have m3 := mx n2
    have m4 := my n2
    have hend := fun (w2 : World) (v' : Value) (o : Obj) ho' hg => @got_next w W w2 w.heap.size (W4.heap.size + 2) 44 3 pre.length (spvs pre) [.int .i64 x.a, .int .i64 x.b, .string T] v v' o hv hf hown hbW ho' hg (Nat.le_refl _) (by have := HL.out; omega)
    have hbase : W4.heap.size + 2 ≤ W.heap.size := hr.2
    have HE := Lib.hid hend
    have HSN := Lib.hid hsn
    have HOW := Lib.hid hown
    obtain ⟨Av, cv, rfl, -⟩ := own_shape hown
    clear hend hsn hr hT hbW hown
    gi_wp2_with (gi_at_builtin; refine append_lit_in rfl _ _ 29 rfl (W4.heap.size + 2) 44 i0 (.agg #[.int .i64 0, .int .i64 0, .string ⟨#[]⟩]) 3 32 Try.underlying29 hi hz0 hz1 hz2 rfl (by decide) _ _ _ rfl HOW.out [.int .i64 x.a, .int .i64 x.b, .string T] rfl (by simp [Value.oneCell']) rfl m3 m4 hbase ?_; intro v' w2 hown' hg' hgr'; obtain ⟨R1, R2, kc1, kc2⟩ := HE.out w2 v' _ hown' hg'; have HR := Lib.hid (And.intro R1 R2); obtain ⟨Av2, cv2, rfl, -⟩ := own_shape hown'; clear hown' hg' hgr' R1 R2)
    rw [HSN.out] at HR
    exact ⟨HR.out.1, by show GotI w w.heap.size (W4.heap.size + 2) 44 3 (pre ++ [x]).length (spvs (pre ++ [x])) _; rw [List.length_append]; exact HR.out.2⟩
  case done =>
    rintro D xs W hD rfl ⟨⟨v, ⟨hv, hf⟩, hown⟩, hbW⟩ hKD
    obtain ⟨Av, cv, rfl, -, hS, hA⟩ := own_sat hown
    have hfin : LstPost xs w (.returned (.slice Av xs.length cv)) (W.putObj D (.deferred none)) :=
      ⟨hbW.trans (belowK_b (w := w) (Nat.le_refl _) W D _ _ (by have := HL.out; omega) hKD rfl rfl), Av, cv, rfl, hA, hS.far (A' := fun k => k ≠ D) (Kept.putObj _ _ _ (by simp)) hKD (fun _ h => h)⟩
    have HFN := Lib.hid hfin
    clear hfin hS hA hown hbW
    gi_wp2
    exact leave15 rfl hKD HFN.out
  case stop =>
    rintro D c pre W _ _ h _
    exact h.elim
end Go.Proofs.Ytfggoegofbghhaa
