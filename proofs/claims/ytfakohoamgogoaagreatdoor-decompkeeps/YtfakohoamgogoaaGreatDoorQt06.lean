/- What the program's Point and Range hand back. -/
/- Whether two lists of texts are the same, as the document's own Same tells. -/
/- Going through strings.SplitSeq at one blank: the texts between blanks, one by one. -/
/- The fields of a body, as the program makes them. -/
/- The program's going through the bodies of a file's lines. -/
import Derived.Test.YtfakohoamgogoaaGreatDoorQt04
import Derived.Test.YtfakohoamgogoaaGreatDoorQt01
import Derived.Test.YtfakohoamgogoaaGreatDoorQt02
import Derived.Test.YtfakohoamgogoaaGreatDoorQt05
import Derived.BigQuiet
import Derived.Test.YtfakohoamgogoaaGreatDoorProg
import Derived.Lib.Strings
import Derived.Shelf.Abstract
import Derived.Shelf.RegionOpen
import Derived.OwnWalkIn
import Derived.TacticsInMore
import Derived.LoopNIn
import Derived.LoopIn
import Derived.Test.YtfakohoamgogoaaGreatDoorQt03
namespace Go.Proofs.YtfakohoamgogoaaGreatDoor
open Go.RowKit

set_option maxHeartbeats 1000000 in
theorem width27 (c : Nat) (w : World) : Calls Tryz.prog 172 #[.int .i64 c] w fun e w' => e = .returned (.int .i64 (wid c)) ∧ w = w' := by
  by_cases h : 1048575 < c
  · have e : wid c = 6 := by simp [wid, h]
    rw [e]
    clear e
    go_enter Tryz.func172, Tryz.ntmps172
    go_wp2
    go_ret
    exact ⟨rfl, rfl⟩
  · by_cases h' : 65535 < c
    · have e : wid c = 5 := by simp [wid, h, h']
      rw [e]
      clear e
      go_enter Tryz.func172, Tryz.ntmps172
      go_wp2
      go_ret
      exact ⟨rfl, rfl⟩
    · have e : wid c = 4 := by simp [wid, h, h']
      rw [e]
      clear e
      go_enter Tryz.func172, Tryz.ntmps172
      go_wp2
      go_ret
      exact ⟨rfl, rfl⟩
theorem idx28 (c : UInt8) (x : Int) (hx : (c.toNat : Int) = x) (w : World) : Calls Tryz.prog 173 #[.string ⟨#[48, 49, 50, 51, 52, 53, 54, 55, 56, 57, 65, 66, 67, 68, 69, 70]⟩, .int .u8 x] w fun e w' => e = .returned (.int .i64 (val c)) ∧ w = w' := by
  have h := Tryz.strings_IndexByte ⟨#[48, 49, 50, 51, 52, 53, 54, 55, 56, 57, 65, 66, 67, 68, 69, 70]⟩ x w
  refine h.mono ?_
  rintro e w' ⟨rfl, rfl⟩
  subst hx
  refine ⟨?_, rfl⟩
  simp [val, digs]

def ptVal : Option Nat → Value
  | some c => .tuple #[.int .i64 c, .int .i64 0]
  | none => .tuple #[.int .i64 0, .int .i64 13]

theorem hexv_drop {l : List UInt8} {k a : Nat} (hk : k < l.length) : hexv a (l.drop k) = if val (l.getD k 0) < 0 then none else hexv (a * 16 + (val (l.getD k 0)).toNat) (l.drop (k + 1)) := by
  rw [List.drop_eq_getElem_cons hk, hexv, List.getD_eq_getElem?_getD, List.getElem?_eq_getElem hk]
  rfl

set_option maxRecDepth 100000 in
set_option maxHeartbeats 1000000 in
theorem point11 (l : List UInt8) (w : World) (hl : l.length ≤ 1000000) : Calls Tryz.prog 135 #[.string (bs l)] w fun e w' => e = .returned (ptVal (point l)) ∧ w = w' := by
  have c27 : ∀ w, Calls Tryz.prog 172 #[.int .i64 1114111] w fun e w' => e = .returned (.int .i64 6) ∧ w = w' := fun w => width27 1114111 w
  have hsz := bs_size l
  obtain ⟨n, hn⟩ : ∃ n, l.length = n := ⟨_, rfl⟩
  rw [hn] at hl hsz
  have HN := Lib.hid hn
  clear hn
  by_cases hlong : 6 < n
  · have hp : point l = none := by
      unfold point
      cases hexv 0 l with
      | none => rfl
      | some c => simp; intro h; have := HN.out; omega
    rw [hp]
    clear hp
    go_enter Tryz.func135, Tryz.ntmps135
    go_wp2_with (go_at_call 172; (with_reducible refine (c27 _).mono ?_); rintro e w' ⟨rfl, rfl⟩)
    go_ret2
    exact ⟨rfl, rfl⟩
  · go_enter Tryz.func135, Tryz.ntmps135
    go_wp2_with (go_at_call 172; (with_reducible refine (c27 _).mono ?_); rintro e w' ⟨rfl, rfl⟩)
    clear c27
    go_loop [4, 13] (fun c i => ∃ (k a : Nat), c = .int .i64 a ∧ i = .int .i64 k ∧ k ≤ n ∧ a < 16 ^ k ∧ hexv 0 l = hexv a (l.drop k)) (fun _ i => n - (intOf i).toNat)
    case atStart => exact ⟨0, 0, rfl, rfl, Nat.zero_le _, by decide, rfl⟩
    case round =>
      obtain ⟨k, a, rfl, rfl, hkn, ha, hv⟩ := hrel
      have ha6 : a < 16777216 := Nat.lt_of_lt_of_le ha (by have : (16 : Nat) ^ k ≤ 16 ^ 6 := Nat.pow_le_pow_right (by decide) (by omega); exact this)
      by_cases hlt : k < n
      · have hlt' : k < l.length := by rw [HN.out]; exact hlt
        have hx := bs_oct l k
        have c28 := fun w => idx28 (l.getD k 0) (oct l k) rfl w
        rw [hexv_drop hlt'] at hv
        have hr := val_range (l.getD k 0)
        obtain ⟨V, hV⟩ : ∃ V, val (l.getD k 0) = V := ⟨_, rfl⟩
        rw [hV] at hv hr
        simp only [hV] at c28
        obtain ⟨X, hX⟩ : ∃ X, oct l k = X := ⟨_, rfl⟩
        rw [hX] at hx
        simp only [hX] at c28
        have HV := Lib.hid hv
        have HA := Lib.hid ha
        clear hV hX hv ha hlt'
        by_cases hneg : V < 0
        · have hp : Hid (point l = none) := by
            unfold point
            rw [HV.out, if_pos hneg]
            exact Lib.hid rfl
          go_wp2_with (go_at_call 173; (with_reducible refine (c28 _).mono ?_); rintro e w' ⟨rfl, rfl⟩)
          go_ret2
          exact ⟨by rw [hp.out]; rfl, rfl⟩
        · obtain ⟨v, rfl⟩ : ∃ v : Nat, V = v := ⟨V.toNat, by omega⟩
          go_wp2_with (go_at_call 173; (with_reducible refine (c28 _).mono ?_); rintro e w' ⟨rfl, rfl⟩)
          go_round
          case rel =>
            refine ⟨k + 1, a * 16 + v, by rw [or16 a v ha6 (by omega)], by go_num, by omega, ?_, ?_⟩
            · have := HA.out
              rw [Nat.pow_succ]
              omega
            · rw [HV.out, if_neg (by omega)]
              rfl
          case measure => simp [intOf]; omega
      · have hke : k = n := by omega
        subst hke
        rw [List.drop_of_length_le (by rw [HN.out]; exact Nat.le_refl _)] at hv
        have HV := Lib.hid hv
        clear hv ha
        by_cases hbig : 1114111 < a
        · have hp : Hid (point l = none) := by
            unfold point
            rw [HV.out]
            simp [hexv]
            intro _ h
            omega
          go_wp2
          go_ret2
          exact ⟨by rw [hp.out]; rfl, rfl⟩
        · have c27 := fun w => width27 a w
          obtain ⟨d, hd⟩ : ∃ d, wid a = d := ⟨_, rfl⟩
          simp only [hd] at c27
          have HD := Lib.hid hd
          have hd6 := (wid_range a).2
          rw [hd] at hd6
          clear hd
          by_cases heq : k = d
          · have hp0 : point l = some a := by
              unfold point
              rw [HV.out, hexv, Option.bind_some, if_pos ⟨by rw [HN.out]; omega, by omega, by rw [HN.out, HD.out]; exact heq⟩]
            have hp := Lib.hid hp0
            clear hp0
            subst heq
            go_wp2_with (go_at_call 172; (with_reducible refine (c27 _).mono ?_); rintro e w' ⟨rfl, rfl⟩)
            go_ret2
            exact ⟨by rw [hp.out]; rfl, rfl⟩
          · have hp0 : point l = none := by
              unfold point
              rw [HV.out, hexv, Option.bind_some, if_neg (by rw [HN.out, HD.out]; rintro ⟨_, _, h⟩; exact heq h)]
            have hp := Lib.hid hp0
            clear hp0
            have hne : ((k : Int) == (d : Int)) = false := beq_false_of_ne (by omega)
            have hne2 : ((k : Int) != (d : Int)) = true := by simp [bne, hne]
            go_wp2_with (go_at_call 172; (with_reducible refine (c27 _).mono ?_); rintro e w' ⟨rfl, rfl⟩)
            go_ret2
            exact ⟨by rw [hp.out]; rfl, rfl⟩

/-- What Range hands back. -/
def rgVal (r : Int × Int × Int) : Value := .tuple #[.int .i64 r.1, .int .i64 r.2.1, .int .i64 r.2.2]
theorem cut_dots (l : List UInt8) (m : Int) (w : World) (hl : l.length ≤ 1000000) (hm : w.cell? ⟨1, 0, none⟩ = some (.int .i64 m)) : Calls Tryz.prog 166 #[.string (bs l), .string ⟨#[46, 46]⟩] w fun e w' =>
    e = .returned (.tuple #[.string (bs (Lib.cut l [46, 46]).1), .string (bs (Lib.cut l [46, 46]).2.1), .bool (Lib.cut l [46, 46]).2.2]) ∧ ∃ n, w' = w.drewN n := by
  have c := Tryz.strings_Cut (bs l) ⟨#[46, 46]⟩ m w (by rw [bs_size]; omega) hm
  rw [bs_data] at c
  exact c
theorem cut_fst (l : List UInt8) : (Lib.cut l [46, 46]).1.length ≤ l.length ∧ (Lib.cut l [46, 46]).2.1.length ≤ l.length := by
  unfold Lib.cut
  split
  · simp
    omega
  · simp

set_option maxRecDepth 100000 in
set_option maxHeartbeats 1000000 in
theorem range13 (l : List UInt8) (m : Int) (w : World) (hl : l.length ≤ 1000000) (hm : w.cell? ⟨1, 0, none⟩ = some (.int .i64 m)) : Calls Tryz.prog 126 #[.string (bs l)] w fun e w' => e = .returned (rgVal (rangeOf l)) ∧ ∃ q, w' = w.drewN q := by
  have c30 := cut_dots l m w hl hm
  have hcl := cut_fst l
  have hr : Hid (rangeOf l = if (Lib.cut l [46, 46]).2.2 then (match point (Lib.cut l [46, 46]).1, point (Lib.cut l [46, 46]).2.1 with | some a, some b => if b ≤ a then (0, 0, 14) else ((a : Int), (b : Int), 0) | _, _ => (0, 0, 13)) else (match point (Lib.cut l [46, 46]).1 with | some a => ((a : Int), (a : Int), 0) | none => (0, 0, 13))) := by
    unfold rangeOf Lib.cut
    split
    · exact Lib.hid rfl
    · exact Lib.hid rfl
  have c11 := fun w => point11 (Lib.cut l [46, 46]).1 w (by omega)
  have d11 := fun w => point11 (Lib.cut l [46, 46]).2.1 w (by omega)
  obtain ⟨X, hX⟩ : ∃ X, (Lib.cut l [46, 46]).1 = X := ⟨_, rfl⟩
  obtain ⟨Y, hY⟩ : ∃ Y, (Lib.cut l [46, 46]).2.1 = Y := ⟨_, rfl⟩
  obtain ⟨f, hf⟩ : ∃ f, (Lib.cut l [46, 46]).2.2 = f := ⟨_, rfl⟩
  rw [hX, hY, hf] at c30 hr
  simp only [hX] at c11
  simp only [hY] at d11
  clear hX hY hf hm hcl
  cases hx : point X with
  | none =>
    rw [hx] at hr
    simp only [hx, ptVal] at c11
    have hr2 : Hid (rangeOf l = (0, 0, 13)) := by
      rw [hr.out]
      cases f <;> exact Lib.hid rfl
    clear hr hx d11
    go_enter Tryz.func126, Tryz.ntmps126
    go_wp2_with (first
      | (go_at_call 166; (with_reducible refine c30.mono ?_); rintro e w' ⟨rfl, q, rfl⟩)
      | (go_at_call 135; (with_reducible refine (c11 _).mono ?_); rintro e w' ⟨rfl, rfl⟩))
    go_ret3
    exact ⟨by rw [hr2.out]; rfl, q, rfl⟩
  | some a =>
    rw [hx] at hr
    simp only [hx, ptVal] at c11
    clear hx
    cases f with
    | false =>
      have hr2 : Hid (rangeOf l = ((a : Int), (a : Int), 0)) := by
        rw [hr.out]
        exact Lib.hid rfl
      clear hr d11
      go_enter Tryz.func126, Tryz.ntmps126
      go_wp2_with (first
        | (go_at_call 166; (with_reducible refine c30.mono ?_); rintro e w' ⟨rfl, q, rfl⟩)
        | (go_at_call 135; (with_reducible refine (c11 _).mono ?_); rintro e w' ⟨rfl, rfl⟩))
      go_ret3
      exact ⟨by rw [hr2.out]; rfl, q, rfl⟩
    | true =>
      cases hy : point Y with
      | none =>
        rw [hy] at hr
        simp only [hy, ptVal] at d11
        have hr2 : Hid (rangeOf l = (0, 0, 13)) := by
          rw [hr.out]
          exact Lib.hid rfl
        clear hr hy
        go_enter Tryz.func126, Tryz.ntmps126
        go_wp2_with (go_at_call 166; (with_reducible refine c30.mono ?_); rintro e w' ⟨rfl, q, rfl⟩)
        go_wp2_with (go_at_call 135; (with_reducible refine (c11 _).mono ?_); clear c11; rintro e w' ⟨rfl, rfl⟩)
        go_wp2_with (go_at_call 135; (with_reducible refine (d11 _).mono ?_); rintro e w' ⟨rfl, rfl⟩)
        go_ret3
        exact ⟨by rw [hr2.out]; rfl, q, rfl⟩
      | some b =>
        rw [hy] at hr
        simp only [hy, ptVal] at d11
        clear hy
        by_cases hba : b ≤ a
        · have hr2 : Hid (rangeOf l = (0, 0, 14)) := by
            rw [hr.out]
            simp [hba]
            trivial
          clear hr
          go_enter Tryz.func126, Tryz.ntmps126
          go_wp2_with (go_at_call 166; (with_reducible refine c30.mono ?_); rintro e w' ⟨rfl, q, rfl⟩)
          go_wp2_with (go_at_call 135; (with_reducible refine (c11 _).mono ?_); clear c11; rintro e w' ⟨rfl, rfl⟩)
          go_wp2_with (go_at_call 135; (with_reducible refine (d11 _).mono ?_); rintro e w' ⟨rfl, rfl⟩)
          go_ret3
          exact ⟨by rw [hr2.out]; rfl, q, rfl⟩
        · have hr2 : Hid (rangeOf l = ((a : Int), (b : Int), 0)) := by
            rw [hr.out]
            simp [hba]
            trivial
          clear hr
          go_enter Tryz.func126, Tryz.ntmps126
          go_wp2_with (go_at_call 166; (with_reducible refine c30.mono ?_); rintro e w' ⟨rfl, q, rfl⟩)
          go_wp2_with (go_at_call 135; (with_reducible refine (c11 _).mono ?_); clear c11; rintro e w' ⟨rfl, rfl⟩)
          go_wp2_with (go_at_call 135; (with_reducible refine (d11 _).mono ?_); rintro e w' ⟨rfl, rfl⟩)
          go_ret3
          exact ⟨by rw [hr2.out]; rfl, q, rfl⟩
end Go.Proofs.YtfakohoamgogoaaGreatDoor

namespace Go.Proofs.YtfakohoamgogoaaGreatDoor
open Go.RowKit

theorem bs_toList' (l : List UInt8) : (bs l).toList = l := by rw [Lib.toList_data, bs_data]

end Go.Proofs.YtfakohoamgogoaaGreatDoor

namespace Go.Proofs.YtfakohoamgogoaaGreatDoor
open Go.RowKit Go.Shelf
attribute [local go_sem] Oper.semAt_some

set_option maxHeartbeats 1000000 in
theorem splitSeq47 (l : List UInt8) (w : World) : Calls Tryz.prog 210 #[.string (bs l), .string ⟨#[32]⟩, .int .i64 0] w fun e w' =>
    e = .returned (.func (.func 243) #[] #[.pointer (some ⟨w.heap.size + 1, 0, none⟩), .pointer (some ⟨w.heap.size, 0, none⟩), .pointer (some ⟨w.heap.size + 2, 0, none⟩)]) ∧ w' = ((w.alloc (.cells #[.string (bs l)] 9)).alloc (.cells #[.string ⟨#[32]⟩] 9)).alloc (.cells #[.int .i64 0] 3) := by
  go_enter Tryz.func210, Tryz.ntmps210
  go_wp2
  go_ret
  exact ⟨rfl, rfl⟩
set_option maxHeartbeats 1000000 in
theorem splitSeq31 (l : List UInt8) (w : World) : Calls Tryz.prog 174 #[.string (bs l), .string ⟨#[32]⟩] w fun e w' =>
    e = .returned (.func (.func 243) #[] #[.pointer (some ⟨w.heap.size + 1, 0, none⟩), .pointer (some ⟨w.heap.size, 0, none⟩), .pointer (some ⟨w.heap.size + 2, 0, none⟩)]) ∧ w' = ((w.alloc (.cells #[.string (bs l)] 9)).alloc (.cells #[.string ⟨#[32]⟩] 9)).alloc (.cells #[.int .i64 0] 3) := by
  have c := splitSeq47 l w
  go_enter Tryz.func174, Tryz.ntmps174
  go_wp2_with (go_at_call 210; (with_reducible refine c.mono ?_); rintro e w' ⟨rfl, rfl⟩)
  go_ret
  exact ⟨rfl, rfl⟩

def strAt (wr : World) (b : Nat) : Nat := match wr.cell? ⟨b, 0, none⟩ with | some (.string s) => s.size | _ => 0
theorem strAt_eq {wr : World} {b : Nat} {l : List UInt8} (h : wr.cell? ⟨b, 0, none⟩ = some (.string (bs l))) : strAt wr b = l.length := by
  unfold strAt
  rw [h]
  exact bs_size l

/-- Where the going through stands. -/
def SsRel (L : List UInt8) (b N0 : Nat) (J : List (List UInt8) → World → Prop) (wr : World) : Prop :=
  ∃ (pre : List (List UInt8)) (rest : List UInt8), wr.cell? ⟨b, 0, none⟩ = some (.string (bs rest)) ∧ wr.frozen? ⟨b, 0, none⟩ = false ∧ wr.cell? ⟨b + 1, 0, none⟩ = some (.string ⟨#[32]⟩) ∧ wr.cell? ⟨b + 2, 0, none⟩ = some (.int .i64 0) ∧ ML wr ∧
    cutAll 32 L = pre ++ cutAll 32 rest ∧ pre.length + rest.length ≤ L.length ∧ J pre wr ∧ N0 ≤ wr.heap.size
theorem ss_kept {A : Nat → Prop} {b : Nat} {W W' : World} {v : Value} (hk : Kept A W W') (hA : A b) (h : W.cell? ⟨b, 0, none⟩ = some v) (hf : W.frozen? ⟨b, 0, none⟩ = false) : W'.cell? ⟨b, 0, none⟩ = some v ∧ W'.frozen? ⟨b, 0, none⟩ = false := by
  obtain ⟨o, ho, _⟩ := cells_of_cell h
  have e := hk.2 b hA (Array.getElem?_eq_some_iff.1 ho).1
  refine ⟨hk.cell (a := ⟨b, 0, none⟩) hA h, ?_⟩
  unfold World.frozen? at hf ⊢
  rw [e]
  exact hf

set_option maxRecDepth 100000 in
set_option maxHeartbeats 4000000 in
theorem iter57 (m l b N0 : Nat) (L : List UInt8) (A : Nat → Prop) (hm : 1 ≤ m) (hL : L.length ≤ 4000) (hb : 1 < b) (J Jx : List (List UInt8) → World → Prop) (hJs : ∀ s W v, J s W → J s (W.setCell ⟨b, 0, none⟩ v))
    (hY : ∀ pre x W, J pre W → x.length ≤ 4000 ∧ N0 ≤ W.heap.size → pre.length < 9000 → YieldAt Fence.wide (m - 1) Tryz.prog l #[.string (bs x)] W fun e W' =>
      ((e = .returned (.bool true) ∧ J (pre ++ [x]) W') ∨ (e = .returned (.bool false) ∧ Jx (pre ++ [x]) W')) ∧ Kept A W W')
    (W : World) (hA0 : A 1) (hAb : A b) (hAb1 : A (b + 1)) (hAb2 : A (b + 2)) (h0 : SsRel L b N0 J W) :
    CallsIn Fence.wide m Tryz.prog 243 #[.func (.yield l) #[] #[], .pointer (some ⟨b + 1, 0, none⟩), .pointer (some ⟨b, 0, none⟩), .pointer (some ⟨b + 2, 0, none⟩)] W fun e W' => (∃ v, e = .returned v) ∧
      ((∃ ys, ys = cutAll 32 L ∧ J ys W') ∨ (∃ pre, pre <+: cutAll 32 L ∧ Jx pre W')) := by
  refine callsIn_of_wp Tryz.func243 rfl trivial ?_ rfl
  simp only [Tryz.ntmps243, List.size_toArray, List.length_cons, List.length_nil, Nat.reduceAdd, Nat.reduceSub, Array.replicate_succ, Array.replicate_zero, List.push_toArray, List.append_toArray, List.nil_append, List.cons_append]
  have hsep : W.cell? ⟨b + 1, 0, none⟩ = some (.string ⟨#[32]⟩) := by obtain ⟨_, _, _, _, h, _⟩ := h0; exact h
  have H0 := Lib.hid h0
  have HYY := Lib.hid hY
  have HJS := Lib.hid hJs
  clear h0 hY hJs
  gi_wp2
  gi_loopw [7] (fun (_ : Value) wr => SsRel L b N0 J wr) (fun _ wr => strAt wr b)
  case atStart => exact H0.out
  case round =>
    clear hsep
    obtain ⟨pre, rest, h1, h2, h3, h4, ⟨mm, hmm⟩, hcut, hlen, hJr, hN0⟩ := hrel
    have c58 := callsIn_wide (n := m - 1) |>.2 (Tryz.strings_Index (bs rest) ⟨#[32]⟩ mm wr (by rw [bs_size]; omega) hmm)
    rw [bs_data] at c58
    have hst := strAt_eq h1
    by_cases h : (32 : UInt8) ∈ rest
    · obtain ⟨a, t, rfl, ha⟩ := split_at 32 rest h
      have hidx : Lib.index (a ++ 32 :: t) ([32] : List UInt8) = a.length := index_one 32 a t ha
      have c58 : CallsIn Fence.wide (m - 1) Tryz.prog 232 #[.string (bs (a ++ 32 :: t)), .string ⟨#[32]⟩] wr fun e w' => e = .returned (.int .i64 (a.length : Int)) ∧ w' = wr := by rw [← hidx]; exact c58
      have hx1 : (bs (a ++ 32 :: t)).extract 0 a.length = bs a := by rw [bs_ext]; simp
      have hsz : (bs (a ++ 32 :: t)).size = a.length + t.length + 1 := by rw [bs_size]; simp; omega
      have hx2 : (bs (a ++ 32 :: t)).extract (a.length + 1) (a.length + t.length + 1) = bs t := by
        rw [bs_ext, List.drop_append, List.drop_of_length_le (by omega)]
        congr 1
        rw [List.nil_append, show a.length + 1 - a.length = 1 by omega]
        simp
      have hal : a.length ≤ 4000 := by simp at hlen; omega
      have hY2 := HYY.out pre a wr hJr ⟨hal, hN0⟩ (by omega)
      rw [cutAll_some 32 a t ha] at hcut
      have hlt : (a ++ 32 :: t).length = a.length + t.length + 1 := by simp; omega
      rw [hlt] at hlen hst
      have hend : ∀ W3, Kept A wr W3 → J (pre ++ [a]) W3 → SsRel L b N0 J (W3.setCell ⟨b, 0, none⟩ (.string (bs t))) ∧ strAt (W3.setCell ⟨b, 0, none⟩ (.string (bs t))) b = t.length := by
        intro W3 hk hj
        obtain ⟨k1, k2⟩ := ss_kept hk hAb h1 h2
        have e0 : (W3.setCell ⟨b, 0, none⟩ (.string (bs t))).cell? ⟨b, 0, none⟩ = some (.string (bs t)) := World.cell?_setCell_same' _ _ _ (by rw [k1]; rfl)
        refine ⟨⟨pre ++ [a], t, e0, by rw [World.frozen?_setCell]; exact k2, ?_, ?_, ⟨mm, ?_⟩, by rw [hcut]; simp, by simp; omega, HJS.out _ _ _ hj, by rw [World.size_setCell]; exact Nat.le_trans hN0 hk.1⟩, strAt_eq e0⟩
        · rw [World.cell?_setCell_other _ _ _ _ (by simp)]
          exact hk.cell (a := ⟨b + 1, 0, none⟩) hAb1 h3
        · rw [World.cell?_setCell_other _ _ _ _ (by simp)]
          exact hk.cell (a := ⟨b + 2, 0, none⟩) hAb2 h4
        · rw [World.cell?_setCell_other _ _ _ _ (by simp)]
          exact hk.cell (a := ⟨1, 0, none⟩) hA0 hmm
      have hstop : Hid (pre ++ [a] <+: cutAll 32 L) := Lib.hid ⟨cutAll 32 t, by rw [hcut]; simp⟩
      have hafter : ∀ W3, Kept A wr W3 → W3.cell? ⟨b, 0, none⟩ = some (.string (bs (a ++ 32 :: t))) ∧ W3.frozen? ⟨b, 0, none⟩ = false ∧ W3.cell? ⟨b + 1, 0, none⟩ = some (.string ⟨#[32]⟩) := fun W3 hk =>
        ⟨(ss_kept hk hAb h1 h2).1, (ss_kept hk hAb h1 h2).2, hk.cell (a := ⟨b + 1, 0, none⟩) hAb1 h3⟩
      obtain ⟨N, hN⟩ : ∃ N, a.length = N := ⟨_, rfl⟩
      rw [hN] at c58 hx1 hsz hx2 hal hlen hst
      have HE := Lib.hid hend
      have HAF := Lib.hid hafter
      clear hend hafter hidx hcut hJr hlt hN h ha H0 hmm
      obtain ⟨S, hS⟩ : ∃ S, bs (a ++ 32 :: t) = S := ⟨_, rfl⟩
      rw [hS] at c58 hx1 hsz hx2 h1 HAF
      clear hS
      obtain ⟨fn, tmps, assign, body, hy, hR⟩ := hY2
      gi_wp2_with (refine ⟨trivial, ?_⟩; gi_at_call 232; (with_reducible refine c58.mono ?_); rintro e w' ⟨rfl, rfl⟩)
      refine hR.mono ?_
      rintro e W3 ⟨⟨rfl, hJ3⟩ | ⟨rfl, hJx3⟩, hk3⟩
      · obtain ⟨g1, g2, g3⟩ := HAF.out W3 hk3
        have R := Lib.hid (HE.out W3 hk3 hJ3)
        clear HE HAF
        gi_wp2
        go_roundw
        case rel => exact R.out.1
        case measure =>
          rw [R.out.2, hst]
          omega
      · gi_wp2
        refine bodyPost_ret (results_none rfl _ _ _) rfl ?_
        exact ⟨⟨_, rfl⟩, .inr ⟨_, hstop.out, hJx3⟩⟩
    · have hidx : Lib.index rest ([32] : List UInt8) = -1 := index_no 32 rest h
      have c58 : CallsIn Fence.wide (m - 1) Tryz.prog 232 #[.string (bs rest), .string ⟨#[32]⟩] wr fun e w' => e = .returned (.int .i64 (-1)) ∧ w' = wr := by rw [← hidx]; exact c58
      rw [cutAll_none 32 rest h] at hcut
      have hY2 := HYY.out pre rest wr hJr ⟨by omega, hN0⟩ (by omega)
      have HC := Lib.hid hcut
      clear hidx hcut hJr h H0 hmm
      obtain ⟨S, hS⟩ : ∃ S, bs rest = S := ⟨_, rfl⟩
      rw [hS] at c58 h1 hY2
      clear hS
      obtain ⟨fn, tmps, assign, body, hy, hR⟩ := hY2
      gi_wp2_with (refine ⟨trivial, ?_⟩; gi_at_call 232; (with_reducible refine c58.mono ?_); rintro e w' ⟨rfl, rfl⟩)
      refine hR.mono ?_
      rintro e W3 ⟨⟨rfl, hJ3⟩ | ⟨rfl, hJx3⟩, hk3⟩
      · gi_wp2
        go_end0
        exact ⟨⟨_, rfl⟩, .inl ⟨_, HC.out.symm, hJ3⟩⟩
      · gi_wp2
        go_end0
        exact ⟨⟨_, rfl⟩, .inr ⟨_, by rw [HC.out]; exact List.prefix_refl _, hJx3⟩⟩

theorem seq57 (m b : Nat) (L : List UInt8) (w : World) (hm : 1 ≤ m) (hL : L.length ≤ 4000) (hb : 1 < b) (hlt : b + 2 < w.heap.size) (h1 : w.cell? ⟨b, 0, none⟩ = some (.string (bs L))) (h2 : w.frozen? ⟨b, 0, none⟩ = false) (h3 : w.cell? ⟨b + 1, 0, none⟩ = some (.string ⟨#[32]⟩)) (h4 : w.cell? ⟨b + 2, 0, none⟩ = some (.int .i64 0)) (hM : ML w) :
    SeqOwn Fence.wide m Tryz.prog 243 #[.pointer (some ⟨b + 1, 0, none⟩), .pointer (some ⟨b, 0, none⟩), .pointer (some ⟨b + 2, 0, none⟩)] (fun x : List UInt8 => #[.string (bs x)]) (fun x W => x.length ≤ 4000 ∧ w.heap.size + 2 ≤ W.heap.size)
      (fun k => k = 1 ∨ (b ≤ k ∧ k < w.heap.size + 2)) b (b + 1) (fun ys => ys = cutAll 32 L) (fun pre => pre <+: cutAll 32 L) 9000 w := by
  intro l J Jx W hW hsz hJ _ hY h0
  refine iter57 m l b (w.heap.size + 2) L _ hm hL hb J Jx (fun s W v h => hJ s W _ (some b) h (grownBy_setCell' W b v) (fun r e => by cases e; exact .inl ⟨Nat.le_refl _, Nat.lt_succ_self _⟩)) (fun pre x W1 hj hx hl => hY pre x W1 hj hx hl) W
    ⟨.inl rfl, by first | omega | (have := hM.lt; omega), by first | omega | (have := hM.lt; omega)⟩ ⟨.inr ⟨by omega, by omega⟩, by omega, by omega⟩ ⟨.inr ⟨by omega, by omega⟩, by omega, by omega⟩ ⟨.inr ⟨by omega, by omega⟩, by omega, by omega⟩ ?_
  exact ⟨[], L, (hW.cell (p := ⟨b, 0, none⟩) (by show b < _; omega)).trans h1, (hW.frozen (p := ⟨b, 0, none⟩) (by show b < _; omega)).trans h2, (hW.cell (p := ⟨b + 1, 0, none⟩) (by show b + 1 < _; omega)).trans h3, (hW.cell (p := ⟨b + 2, 0, none⟩) (by show b + 2 < _; omega)).trans h4, hM.below hW, by simp, by simp, h0, by omega⟩
end Go.Proofs.YtfakohoamgogoaaGreatDoor

namespace Go.Proofs.YtfakohoamgogoaaGreatDoor
open Go.RowKit

theorem trim25 (l : List UInt8) (w : World) (hl : l.length ≤ 1000000) : Calls Tryz.prog 118 #[.string (bs l), .string ⟨#[32, 9]⟩] w fun e w' => e = .returned (.string (bs (trim l))) ∧ Below w.heap.size w w' := by
  have c := Tryz.strings_Trim (bs l) ⟨#[32, 9]⟩ w (by rw [bs_size]; omega) (by decide) (ascii_of_all (by decide))
  refine c.mono fun e w' ⟨h1, h2⟩ => ⟨h1.trans ?_, h2⟩
  rw [bs_data, ← trimS_eq]
  rfl

theorem splitB_cut (c : UInt8) : ∀ (n : Nat) (b : List UInt8), b.length ≤ n → Lib.splitB (bs [c]) 0 (Lib.countB (bs b) (bs [c])) (bs b) = (cutAll c b).map bs
  | n, b, hn => by
    have hsz : (bs [c]).size = 1 := by rw [bs_size]; rfl
    by_cases h : c ∈ b
    · obtain ⟨a, t, rfl, ha⟩ := split_at c b h
      have hidx : Lib.indexB (bs (a ++ c :: t)) (bs [c]) = a.length := by
        show Lib.index _ _ = _
        rw [bs_data, bs_data, index_one c a t ha]
      have hext : (bs (a ++ c :: t)).extract (a.length + (bs [c]).size) (bs (a ++ c :: t)).size = bs t := by
        rw [bs_ext, hsz, bs_size]
        congr 1
        rw [List.drop_append]
        simp
        rw [List.drop_of_length_le (by omega), List.nil_append, List.take_of_length_le (by omega)]
      rw [Lib.countB_hit _ _ a.length (by rw [hsz]; exact Nat.le_refl _) hidx, hext, Nat.add_comm, Lib.splitB_hit _ _ _ _ a.length hidx, hext, cutAll_some c a t ha, List.map_cons]
      cases n with
      | zero => simp at hn
      | succ n =>
        rw [splitB_cut c n t (by simp at hn; omega)]
        congr 1
        rw [bs_ext]
        simp
    · have hidx : Lib.indexB (bs b) (bs [c]) = -1 := by
        show Lib.index _ _ = _
        rw [bs_data, bs_data, index_no c b h]
      rw [Lib.splitB_miss _ _ _ _ hidx, cutAll_none c b h]
      rfl
theorem countB_cut (c : UInt8) (b : List UInt8) : Lib.countB (bs b) (bs [c]) + 1 = (cutAll c b).length := by
  have h := Lib.splitB_all (bs [c]) (by rw [bs_size]; exact Nat.le_refl _) 0 _ (bs b) rfl
  rw [splitB_cut c _ b (Nat.le_refl _), List.length_map] at h
  exact h.symm
theorem split44 (b : List UInt8) (w : World) (hb : b.length ≤ 1000000) (hm : ML w) : Calls Tryz.prog 155 #[.string (bs b), .string ⟨#[59]⟩] w fun e w' =>
    e = .returned (.slice (some ⟨w.heap.size, 0, none⟩) (cutAll 59 b).length (cutAll 59 b).length) ∧ w' = w.alloc (.cells (strs (cutAll 59 b)).toArray 9) := by
  obtain ⟨m, hm⟩ := hm
  have c := Tryz.strings_Split (bs b) (bs [59]) m w (by rw [bs_size]; omega) hm (by rw [bs_size]; exact Nat.le_refl _)
  rw [countB_cut 59 b, splitB_cut 59 _ b (Nat.le_refl _), List.map_map] at c
  exact c

def SplRel (P : List (List UInt8)) (w : World) (i : Value) (wr : World) : Prop :=
  Below w.heap.size w wr ∧ w.heap.size < wr.heap.size ∧ ∃ k : Nat, i = .int .i64 k ∧ k ≤ P.length ∧ ∀ j, j < P.length → wr.cell? ⟨w.heap.size, j, none⟩ = some (.string (bs (if j < k then trim (P.getD j []) else P.getD j []))) ∧ wr.frozen? ⟨w.heap.size, j, none⟩ = false
theorem spl_start (P : List (List UInt8)) (w : World) : SplRel P w (.int .i64 0) (w.alloc (.cells (strs P).toArray 9)) := by
  refine ⟨(Below.refl _ _).alloc (Nat.le_refl _) _, by simp, 0, rfl, Nat.zero_le _, fun j hj => ⟨?_, ?_⟩⟩
  · have := lit_cells w (strs P) 9 j _ (strs_get hj)
    rw [add_at, Nat.zero_add] at this
    simpa using this
  · have h := World.alloc_heap_new w (.cells (strs P).toArray 9)
    simp only [World.frozen?]
    rw [h]
    simp
theorem spl_step {P : List (List UInt8)} {w wr w1 : World} {k : Nat} (hk : k < P.length) (hb : Below w.heap.size w wr) (hlt : w.heap.size < wr.heap.size)
    (hc : ∀ j, j < P.length → wr.cell? ⟨w.heap.size, j, none⟩ = some (.string (bs (if j < k then trim (P.getD j []) else P.getD j []))) ∧ wr.frozen? ⟨w.heap.size, j, none⟩ = false)
    (h1 : Below wr.heap.size wr w1) : SplRel P w (.int .i64 ((k : Int) + 1)) (w1.setCell ⟨w.heap.size, k, none⟩ (.string (bs (trim (P.getD k []))))) := by
  have hb1 := hb.trans (h1.mono hb.size)
  have hcell : ∀ j, w1.cell? ⟨w.heap.size, j, none⟩ = wr.cell? ⟨w.heap.size, j, none⟩ := fun j => h1.cell (p := ⟨w.heap.size, j, none⟩) hlt
  have hfz : ∀ j, w1.frozen? ⟨w.heap.size, j, none⟩ = wr.frozen? ⟨w.heap.size, j, none⟩ := fun j => by
    unfold World.frozen?
    rw [h1.block _ hlt]
  refine ⟨hb1.setCell (p := ⟨w.heap.size, k, none⟩) (Nat.le_refl _) _, ?_, k + 1, by go_num, hk, fun j hj => ⟨?_, ?_⟩⟩
  · rw [World.size_setCell]; exact Nat.lt_of_lt_of_le hlt h1.size
  · by_cases e : j = k
    · subst e
      rw [World.cell?_setCell_same' _ _ _ (by rw [hcell, (hc j hj).1]; rfl), if_pos (by omega)]
    · rw [World.cell?_setCell_other _ _ _ _ (by simp), hcell, (hc j hj).1]
      by_cases h : j < k
      · rw [if_pos h, if_pos (by omega)]
      · rw [if_neg h, if_neg (by omega)]
  · rw [World.frozen?_setCell, hfz]; exact (hc j hj).2

def FieldsPost (b : List UInt8) (w : World) (e : Ending) (w' : World) : Prop :=
  Below w.heap.size w w' ∧ ∃ A, e = .returned (.slice A (fieldsOf b).length (fieldsOf b).length) ∧ Vals w' A (fieldsOf b).length (strs (fieldsOf b))

set_option maxRecDepth 100000 in
set_option maxHeartbeats 1000000 in
theorem split26 (b : List UInt8) (w : World) (hb : b.length ≤ 100000) (hm : ML w) : Calls Tryz.prog 119 #[.string (bs b)] w (FieldsPost b w) := by
  have c44 := split44 b w (by omega) hm
  have hPl := cutAll_length 59 b
  have hPp := fun k (h : k < (cutAll 59 b).length) => cutAll_mem_length 59 b _ (getD_mem (d := []) h)
  have hfin : Hid ((cutAll 59 b).map trim = fieldsOf b) := Lib.hid rfl
  obtain ⟨P, hP⟩ : ∃ P, cutAll 59 b = P := ⟨_, rfl⟩
  rw [hP] at c44 hPl hPp hfin
  obtain ⟨n, hn⟩ : ∃ n, P.length = n := ⟨_, rfl⟩
  rw [hn] at c44 hPl
  have HN := Lib.hid hn
  have HPP := Lib.hid hPp
  have hst := Lib.hid (spl_start P w)
  clear hP hn hPp hm
  obtain ⟨W, hW⟩ : ∃ W, w.alloc (.cells (strs P).toArray 9) = W := ⟨_, rfl⟩
  rw [hW] at c44 hst
  clear hW
  go_enter Tryz.func119, Tryz.ntmps119
  go_wp2_with (go_at_call 155; (with_reducible refine c44.mono ?_); rintro e w' ⟨rfl, rfl⟩)
  go_loopw [10] (fun i wr => SplRel P w i wr) (fun i _ => n - (intOf i).toNat)
  case atStart => exact hst.out
  case round =>
    obtain ⟨hbel, hlt, k, rfl, hkP, hc⟩ := hrel
    by_cases hk : k < n
    · have hk' : k < P.length := by rw [HN.out]; exact hk
      have hck := (hc k hk').1
      rw [if_neg (Nat.lt_irrefl k)] at hck
      have hfk := (hc k hk').2
      have c25 := trim25 (P.getD k []) wr (by have := HPP.out k hk'; omega)
      have hstep := fun w1 h1 => @spl_step P w wr w1 k hk' hbel hlt hc h1
      obtain ⟨p, hp⟩ : ∃ p, P.getD k [] = p := ⟨_, rfl⟩
      rw [hp] at hck c25 hstep
      have HST := Lib.hid hstep
      clear hc hstep hp hk' hkP
      have hfr : ∀ w1, Below wr.heap.size wr w1 → w1.frozen? ⟨w.heap.size, k, none⟩ = false ∧ w1.cell? ⟨w.heap.size, k, none⟩ = some (.string (bs p)) := fun w1 h1 => by
        refine ⟨?_, (h1.cell (p := ⟨w.heap.size, k, none⟩) hlt).trans hck⟩
        have := hfk
        unfold World.frozen? at this ⊢
        rw [h1.block _ hlt]
        exact this
      have HFR := Lib.hid hfr
      clear hfr
      go_wp2_with (go_at_call 118; (with_reducible refine c25.mono ?_); rintro e w1 ⟨rfl, hb1⟩; obtain ⟨hf1, hc1⟩ := HFR.out w1 hb1)
      go_roundw
      case rel => exact HST.out w1 hb1
      case measure => simp [intOf]; omega
    · have hke : k = n := by have := HN.out; omega
      subst hke
      have hres : Hid (Vals wr (some ⟨w.heap.size, 0, none⟩) (fieldsOf b).length (strs (fieldsOf b))) := by
        refine ⟨strs_length _, fun _ => ⟨_, _, rfl, hlt, fun j v hj => ?_⟩⟩
        rw [← hfin.out] at hj
        have hj' : j < P.length := by
          have := (List.getElem?_eq_some_iff.1 hj).1
          rwa [strs_length, List.length_map] at this
        rw [strs_get (by rw [List.length_map]; exact hj')] at hj
        cases hj
        rw [Nat.zero_add, (hc j hj').1, if_pos (by rw [← HN.out]; exact hj')]
        simp [List.getD_eq_getElem?_getD, List.getElem?_eq_getElem hj']
      have hle : Hid ((fieldsOf b).length = k) := by rw [← hfin.out, List.length_map, HN.out]; exact Lib.hid rfl
      clear hc hkP
      go_wp2
      go_ret
      have H := hres.out
      exact ⟨hbel, some ⟨w.heap.size, 0, none⟩, by rw [hle.out]; rfl, H⟩
end Go.Proofs.YtfakohoamgogoaaGreatDoor

namespace Go.Proofs.YtfakohoamgogoaaGreatDoor
open Go.RowKit Go.Shelf
attribute [local go_sem] Oper.semAt_some

def lenOf : Value → Nat
  | .slice _ n _ => n
  | _ => 0
theorem lenOf_slice (A : Option Addr) (n c : Nat) : lenOf (.slice A n c) = n := rfl

set_option maxHeartbeats 1000000 in
theorem bodies24 (A : Option Addr) (n c : Nat) (w : World) : Calls Tryz.prog 117 #[.slice A n c] w fun e w' => e = .returned (.func (.func 145) #[] #[.pointer (some ⟨w.heap.size, 0, none⟩)]) ∧ w' = w.alloc (.cells #[.slice A n c] 22) := by
  go_enter Tryz.func117, Tryz.ntmps117
  go_wp2
  go_ret
  exact ⟨rfl, rfl⟩

theorem rest_none {l : List UInt8} {n : Nat} (h : l.length = n) (h0 : 0 < n) (hn : (10 : UInt8) ∉ l) : pieces l = [l] := pieces_none hn (by rintro rfl; simp at h; omega)
/-- What bytes.Cut of 0A hands back for what is left: the first line, and what is left behind it. -/
theorem line_cut {P : Option Addr} {n c : Nat} {rest : List UInt8} {w : World} (hO : Octs w P n rest) (h0 : 0 < n) (hc : n ≤ c) :
    ∃ (k : Nat) (Q : Option Addr) (n2 c2 : Nat) (f : Bool) (t : List UInt8), Lib.cutV P n c 1 (Lib.index (Lib.bytesOf (ints rest)) (Lib.bytesOf (ints [10]))) = .tuple #[.slice P k c, .slice Q n2 c2, .bool f] ∧ k ≤ n ∧ n2 < n ∧ n2 ≤ c2 ∧ (Q = none → c2 = 0) ∧
      (∀ a, Q = some a → ∃ a', P = some a' ∧ a.block = a'.block) ∧ Octs w Q n2 t ∧ pieces rest = rest.take k :: pieces t := by
  have hl := hO.len
  rw [ints_bytes, ints_bytes]
  obtain ⟨b, off, rfl, -, -⟩ := hO.2 h0
  by_cases h : (10 : UInt8) ∈ rest
  · obtain ⟨a, t, rfl, ha⟩ := split_at 10 rest h
    rw [index_one 10 a t ha]
    have hlen : a.length + 1 ≤ n := by simp at hl; omega
    refine ⟨_, _, _, _, _, t, cutV_hit _ n c a.length, by omega, by omega, by omega, ?_, ?_, ?_, ?_⟩
    · intro h
      split at h
      · cases h
      · simp at h
    · intro x hx
      split at hx
      · exact ⟨x, hx, rfl⟩
      · simp at hx
        subst hx
        exact ⟨_, rfl, by simp [Addr.add]⟩
    · have := octs_from hO (a.length + 1) hlen hc
      rw [List.drop_append, List.drop_of_length_le (by omega)] at this
      simpa using this
    · rw [pieces_some ha]
      simp
  · rw [index_no 10 rest h]
    exact ⟨_, _, _, _, _, [], cutV_miss _ n c, Nat.le_refl _, h0, Nat.le_refl _, fun _ => rfl, fun a e => (by cases e), Vals.nil _ _, by rw [rest_none hl h0 h, pieces_nil, List.take_of_length_le (by omega)]⟩

end Go.Proofs.YtfakohoamgogoaaGreatDoor
