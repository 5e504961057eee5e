/- The document's example holds; which inputs are small. -/
import Derived.Test.YtfggoegofbghhaaNew
import Derived.Test.YtfggoegofbghhaaHas
namespace Go.Proofs.Ytfggoegofbghhaa
open Go.RowKit Go.Sort Go.Shelf

theorem new_some (A : Option Addr) (n c : Nat) (ls r : List Sp) (w : World) (hS : SAt w A n ls) (hA : Flat A) (hA0 : A = none → c = 0) (hc : n ≤ c) (hn : n ≤ 100000) (hr : addAll [] ls = .ok r) :
    Calls Try.prog 9 #[.slice A n c] w fun e w' => ∃ b A2 c2, e = .returned (.tuple #[.pointer (some ⟨b, 0, none⟩), .int .i64 0]) ∧ Below w.heap.size w w' ∧ Hid (TIn w' (some ⟨b, 0, none⟩) A2 c2 r) := by
  refine (new9 A n c ls w hS hA hA0 hc hn).mono ?_
  rintro e w' ⟨hb, ⟨r', b, A2, c2, h1, rfl, hT, -⟩ | ⟨x, h1, -⟩⟩
  · rw [hr] at h1
    cases h1
    exact ⟨b, A2, c2, rfl, hb, Lib.hid hT⟩
  · rw [hr] at h1
    cases h1
theorem new_flat (A : Option Addr) (n c : Nat) (ls r : List Sp) (w : World) (hS : SAt w A n ls) (hA : Flat A) (hA0 : A = none → c = 0) (hc : n ≤ c) (hn : n ≤ 100000) (hr : addAll [] ls = .ok r) :
    Calls Try.prog 9 #[.slice A n c] w fun e w' => ∃ b A2 c2, e = .returned (.tuple #[.pointer (some ⟨b, 0, none⟩), .int .i64 0]) ∧ Below w.heap.size w w' ∧ Hid (TIn w' (some ⟨b, 0, none⟩) A2 c2 r ∧ Flat A2) := by
  refine (new9 A n c ls w hS hA hA0 hc hn).mono ?_
  rintro e w' ⟨hb, ⟨r', b, A2, c2, h1, rfl, hT⟩ | ⟨x, h1, -⟩⟩
  · rw [hr] at h1
    cases h1
    exact ⟨b, A2, c2, rfl, hb, Lib.hid hT⟩
  · rw [hr] at h1
    cases h1
theorem new_none (A : Option Addr) (n c : Nat) (ls : List Sp) (x : Int) (w : World) (hS : SAt w A n ls) (hA : Flat A) (hA0 : A = none → c = 0) (hc : n ≤ c) (hn : n ≤ 100000) (hr : addAll [] ls = .error x) :
    Calls Try.prog 9 #[.slice A n c] w fun e w' => e = .returned (.tuple #[.pointer none, .int .i64 x]) ∧ Below w.heap.size w w' := by
  refine (new9 A n c ls w hS hA hA0 hc hn).mono ?_
  rintro e w' ⟨hb, ⟨r', b, A2, c2, h1, rfl, hT⟩ | ⟨y, h1, h2, rfl⟩⟩
  · rw [hr] at h1
    cases h1
  · rw [hr] at h1
    cases h1
    exact ⟨rfl, hb⟩
theorem err_ne {ls : List Sp} {x : Int} : ∀ {acc : List Sp}, addAll acc ls = .error x → x ≠ 0 := by
  induction ls with
  | nil => intro acc h; rw [addAll] at h; cases h
  | cons s l ih =>
    intro acc h
    rw [addAll] at h
    split at h
    · exact ih h
    · rename_i hc
      cases h
      exact hc

def exSp : Sp := ⟨65, 90, [76]⟩
theorem ex_good : Good [exSp] := ⟨List.pairwise_singleton _ _, fun s hs => by rw [List.mem_singleton.1 hs]; exact ⟨by decide, by decide, by decide, by decide⟩⟩
theorem good_fit {ls : List Sp} (h : Good ls) : ∀ s ∈ ls, s.a ≤ s.b := fun s hs => (h.2 s hs).2.2.1
theorem exSat (w : World) : SAt (w.alloc (.cells #[.int .i64 65, .int .i64 90, .string ⟨#[76]⟩] 41)) (some ⟨w.heap.size, 0, none⟩) 1 [exSp] := by
  refine ⟨rfl, fun _ => ⟨_, _, rfl, by simp, fun j s hj => ?_⟩⟩
  match j, hj with
  | 0, hj =>
    cases hj
    refine ⟨by simp [exSp], by simp [exSp], ?_⟩
    rw [show bs exSp.v = ⟨#[76]⟩ from rfl]
    simp
theorem ex66 : bs (valueOf [exSp] 66) = ⟨#[76]⟩ := by decide
theorem ex91 : bs (valueOf [exSp] 91) = ⟨#[]⟩ := by decide
set_option maxRecDepth 100000 in
set_option maxHeartbeats 2000000 in
theorem awake7 (w : World) : Calls Try.prog 7 #[] w fun e w' => e = .returned (.bool true) ∧ Below w.heap.size w w' := by
  have hb0 : Below w.heap.size w (w.alloc (.cells #[.int .i64 65, .int .i64 90, .string ⟨#[76]⟩] 41)) := (Below.refl _ _).alloc (Nat.le_refl _) _
  have c9 := new_some (some ⟨w.heap.size, 0, none⟩) 1 1 [exSp] [exSp] _ (exSat w) (.inr ⟨_, _, rfl⟩) (fun h => by cases h) (Nat.le_refl _) (by decide) (by rfl)
  have c16 := fun (W : World) b A2 c2 (hT : TIn W (some ⟨b, 0, none⟩) A2 c2 [exSp]) (z : Int) => value16 (some ⟨b, 0, none⟩) A2 c2 [exSp] z W hT (by decide) ex_good.1 (good_fit ex_good)
  have c13 := fun (W : World) b A2 c2 (hT : TIn W (some ⟨b, 0, none⟩) A2 c2 [exSp]) => len13 (some ⟨b, 0, none⟩) A2 c2 [exSp] W hT
  have C16 := Lib.hid c16
  have C13 := Lib.hid c13
  have HB0 := Lib.hid hb0
  clear c16 c13 hb0
  go_enter Try.func7, Try.ntmps7
  go_wp2_with (go_at_call 9; (with_reducible refine c9.mono ?_); rintro e w1 ⟨b, A2, c2, rfl, hb1, hT⟩; have HT := Lib.hid hT; clear hT)
  have k16 := C16.out w1 b A2 c2 HT.out.out 66
  rw [ex66] at k16
  refine k16.mono ?_
  rintro e w2 ⟨rfl, hb2⟩
  go_wp2_with (fail)
  have k16 := C16.out w2 b A2 c2 (HT.out.out.below hb2) 91
  rw [ex91] at k16
  refine k16.mono ?_
  rintro e w3 ⟨rfl, hb3⟩
  go_wp2_with (fail)
  have k13 := C13.out w3 b A2 c2 ((HT.out.out.below hb2).below hb3)
  refine k13.mono ?_
  rintro e w4 ⟨rfl, hb4⟩
  go_wp2
  go_ret
  exact ⟨rfl, HB0.out.trans ((hb1.trans ((hb2.trans ((hb3.trans (hb4.mono hb3.size)).mono hb2.size)).mono hb1.size)).mono HB0.out.size)⟩

def isSmall (ls : List Sp) : Bool := decide (ls.length ≤ 30) && ls.all fun s => decide (s.v.length ≤ 30)
theorem small_yes {ls : List Sp} (h : ls.length ≤ 30) (h2 : ∀ s ∈ ls, s.v.length ≤ 30) : isSmall ls = true := by
  unfold isSmall
  rw [decide_eq_true h, Bool.true_and, List.all_eq_true]
  exact fun s hs => decide_eq_true (h2 s hs)
theorem small_no {ls : List Sp} {k : Nat} {s : Sp} (hs : ls[k]? = some s) (h : ¬ s.v.length ≤ 30) : isSmall ls = false := by
  unfold isSmall
  rw [Bool.and_eq_false_iff]
  right
  rw [List.all_eq_false]
  exact ⟨s, List.mem_of_getElem? hs, by simpa using h⟩
theorem small_long {ls : List Sp} (h : ¬ ls.length ≤ 30) : isSmall ls = false := by unfold isSmall; rw [decide_eq_false h, Bool.false_and]
set_option maxRecDepth 100000 in
set_option maxHeartbeats 2000000 in
theorem small8 (A : Option Addr) (n ca : Nat) (ls : List Sp) (w : World) (hV : SAt w A n ls) :
    Calls Try.prog 8 #[.slice A n ca] w fun e w' => e = .returned (.bool (isSmall ls)) ∧ w' = w := by
  have HV := Lib.hid hV
  have HL := Lib.hid hV.1
  clear hV
  by_cases hn : n ≤ 30
  · go_enter Try.func8, Try.ntmps8
    go_wp2
    go_loopw [3] (fun i wr => ∃ k : Nat, i = .int .i64 k ∧ k ≤ n ∧ wr = w ∧ ∀ t ∈ ls.take k, t.v.length ≤ 30) (fun i _ => n - (intOf i).toNat)
    case atStart => exact ⟨0, rfl, Nat.zero_le _, rfl, by simp⟩
    case round =>
      obtain ⟨k, rfl, hkn, rfl, hno⟩ := hrel
      by_cases hlt : k < n
      · obtain ⟨b, off, rfl, -, hc⟩ := HV.out.2 (by omega)
        obtain ⟨s, hs⟩ := getSp (ls := ls) (k := k) (by rw [HL.out]; exact hlt)
        obtain ⟨-, -, h3⟩ := hc k s hs
        have HS := Lib.hid hs
        have HNO := Lib.hid hno
        have hsz : (bs s.v).size = s.v.length := bs_size s.v
        obtain ⟨T, hT⟩ : ∃ T, bs s.v = T := ⟨_, rfl⟩
        rw [hT] at h3 hsz
        have HSZ := Lib.hid hsz
        clear hc hs hno hT hsz
        by_cases g : T.size ≤ 30
        · go_wp2
          go_roundw
          case rel => exact ⟨k + 1, by go_num, by omega, trivial, take_more (P := fun t => t.v.length ≤ 30) HS.out HNO.out (by rw [← HSZ.out]; exact g)⟩
          case measure => simp [intOf]; omega
        · go_wp2
          go_ret
          exact ⟨by rw [small_no HS.out (by rw [← HSZ.out]; exact g)]; rfl, rfl⟩
      · have hke : k = n := by omega
        subst hke
        rw [List.take_of_length_le (by rw [HL.out]; exact Nat.le_refl _)] at hno
        have HR := Lib.hid (small_yes (by rw [HL.out]; exact hn) hno)
        clear hno
        go_wp2
        go_ret
        exact ⟨by rw [HR.out]; rfl, rfl⟩
  · have HR := Lib.hid (small_long (ls := ls) (by rw [HL.out]; exact hn))
    go_enter Try.func8, Try.ntmps8
    go_wp2
    go_ret
    exact ⟨by rw [HR.out]; rfl, rfl⟩
end Go.Proofs.Ytfggoegofbghhaa
