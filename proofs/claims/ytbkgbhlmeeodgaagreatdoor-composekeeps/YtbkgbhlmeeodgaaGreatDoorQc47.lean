/- A part. -/
import Derived.Test.YtbkgbhlmeeodgaaGreatDoorQc46
namespace Go.Proofs.YtbkgbhlmeeodgaaGreatDoor
open Go.RowKit Go.Shelf Go.Sort
theorem ful_pos {dc:Int→List Int}:∀ (n:Nat) (c:Int),0<(ful dc n c).length:=by
 intro n
 induction n with
 | zero=>
  intro c
  by_cases h:sylB c
  · rw [ful_syl h];exact sparts_pos c
  · rw [ful,if_neg h];exact Nat.one_pos
 | succ n ih=>
  intro c
  by_cases h:sylB c
  · rw [ful_syl h];exact sparts_pos c
  · by_cases hd:dc c = []
    · rw [ful_nil h hd];exact Nat.one_pos
    · rw [ful_more h hd]
      obtain⟨x,l,e⟩:=List.exists_cons_of_ne_nil hd
      rw [e,List.flatMap_cons,List.length_append]
      have:=ih x
      omega
theorem Fit.nne {ps:List Uc.Pr} (h:Fit ps) (s:List Int) (hs:s ≠ []):nfd ps s ≠ []:=by
 intro e
 have hl:(nfd ps s).length=0:=by rw [e];rfl
 obtain⟨x,l,e2⟩:=List.exists_cons_of_ne_nil hs
 rw [nfd,nfL,ord_len h.ccc,e2,List.flatMap_cons,List.length_append] at hl
 have:=ful_pos (dc:=dcf ps) ps.length x
 unfold fl at hl
 omega
theorem vals_nums {w:World} {b off n:Nat} {zs:List Int} (h:Vals w (some ⟨b,off,none⟩) n (nums .i64 zs)):∀ j,j<zs.length→w.cell? ⟨b,off+j,none⟩=some (.int .i64 (zs.getD j 0)):=by
 intro j hj
 have hl:zs.length=n:=by have:=h.1;rwa [nlen] at this
 obtain⟨b2,off2,e,-,hc⟩:=h.2 (by omega)
 cases e
 exact hc j _ (nums_get hj)
def IsPost (v:Bool) (w:World) (e:Ending) (w':World):Prop:=e=.returned (.bool v)∧Below w.heap.size w w'
set_option maxRecDepth 100000 in
set_option maxHeartbeats 4000000 in
theorem is19 (b:Nat) (ps:List Uc.Pr) (A:Option Addr) (n c:Nat) (s:List Int) (w:World) (hD:DdR w b ps) (hF:Fit ps) (hs:Vals w A n (nums .i64 s)) (hn:n≤5000):
 Calls Tryz.prog 21 #[.pointer (some ⟨b,0,none⟩),.slice A n c] w (IsPost (decide (s=nfd ps s)) w):=by
 have hl:s.length=n:=by have:=hs.1;rwa [nlen] at this
 have c17:=nfd17 b ps A n c s w hD hF hs hn
 have hN:=hF.nlen s
 have hN0:s ≠ []→nfd ps s ≠ []:=hF.nne s
 obtain⟨Z,hZ⟩:∃ Z,nfd ps s=Z:=⟨_,rfl⟩
 rw [hZ] at c17 hN hN0 ⊢
 have C36:Hid (∀ W A2 c2,ApO w Z (.returned (.slice A2 Z.length c2)) W→Calls Tryz.prog 47 #[.slice A n c,.slice A2 Z.length c2] W (IsPost (decide (s=Z)) w)):=by
  intro W A2 c2 ⟨A',c',e,hb,hv⟩
  cases e
  obtain⟨A',c',e,-,hv,-⟩:=own_vals hv.out
  cases e
  by_cases h0:n=0
  · subst h0
    have hs0:s = []:=List.eq_nil_of_length_eq_zero hl
    subst hs0
    refine (Tryz.slices_Equal_empty A A2 c Z.length c2 W (by have:Z.length≤12*0:=hN;omega)).mono ?_
    rintro e w' ⟨rfl,rfl⟩
    refine⟨?_,hb⟩
    rw [decide_eq_decide.2 (show Z.length=0 ↔ []=Z from ⟨fun h=>(List.eq_nil_of_length_eq_zero h).symm,fun h=>h▸rfl⟩)]
  · have hz:Z.length≠0:=fun h=>hN0 (fun h2=>h0 (by rw [←hl,h2];rfl)) (List.eq_nil_of_length_eq_zero h)
    obtain⟨b1,o1,rfl,-,-⟩:=(hs.below hb).2 (by omega)
    obtain⟨b2,o2,rfl,-,-⟩:=hv.2 (by omega)
    refine (Tryz.slices_Equal b1 o1 n c b2 o2 Z.length c2 s Z W (by omega) (Nat.le_refl _) (by omega) (by omega) (vals_nums (hs.below hb)) (vals_nums hv)).mono ?_
    rintro e w' ⟨rfl,q,rfl⟩
    refine⟨?_,below_drewN hb q⟩
    rw [←hl,List.take_length,List.take_length]
    congr 2
    rw [Bool.eq_iff_iff]
    simp
 have HL:=Lib.hid hl
 have c17':Calls Tryz.prog 19 #[.pointer (some ⟨b,0,none⟩),.slice A n c] w fun e W=>∃ A2 c2,e=.returned (.slice A2 Z.length c2)∧Hid (ApO w Z (.returned (.slice A2 Z.length c2)) W):=c17.mono (by
  rintro e W ⟨A2,c2,rfl,h⟩
  exact⟨A2,c2,rfl,A2,c2,rfl,h⟩)
 obtain⟨z,hz⟩:∃ z,Z.length=z:=⟨_,rfl⟩
 rw [hz] at C36 c17'
 clear hN hN0 hD hF hs hl hZ c17 hz
 go_enter Tryz.func21,Tryz.ntmps21
 go_wp2_with (first
  | (go_at_call 19;(with_reducible refine c17'.mono ?_);rintro e w1 ⟨A2,c2,rfl,h2⟩)
  | (go_at_call 47;(with_reducible refine (C36.out w1 A2 c2 h2.out).mono ?_);rintro e w2 ⟨rfl,h5⟩))
 go_ret
 exact⟨rfl,h5⟩
set_option maxRecDepth 100000 in
set_option maxHeartbeats 1000000 in
theorem equal_len (A B:Option Addr) (n c m d:Nat) (w:World) (h:n≠m):Calls Tryz.prog 47 #[.slice A n c,.slice B m d] w fun e w'=>e=.returned (.bool false)∧w=w':=by
 have hb:((n:Int) != (m:Int))=true:=bne_iff_ne.2 (by omega)
 go_enter Tryz.func47,Tryz.ntmps47
 go_wp2
 go_ret
 exact⟨rfl,rfl⟩
theorem equal47 (A B:Option Addr) (n c m d:Nat) (xs ys:List Int) (w:World) (hA:Vals w A n (nums .i64 xs)) (hB:Vals w B m (nums .i64 ys)) (hn:n≤1000000) (hm:m≤1000000):
 Calls Tryz.prog 47 #[.slice A n c,.slice B m d] w (IsPost (decide (xs=ys)) w):=by
 have hx:xs.length=n:=by have:=hA.1;rwa [nlen] at this
 have hy:ys.length=m:=by have:=hB.1;rwa [nlen] at this
 by_cases h:n=m
 · subst h
   by_cases h0:n=0
   · subst h0
     obtain rfl:xs = []:=List.eq_nil_of_length_eq_zero hx
     obtain rfl:ys = []:=List.eq_nil_of_length_eq_zero hy
     refine (Tryz.slices_Equal_empty A B c 0 d w (by omega)).mono ?_
     rintro e w' ⟨rfl,rfl⟩
     exact⟨rfl,Below.refl _ _⟩
   · obtain⟨b1,o1,rfl,-,-⟩:=hA.2 (by omega)
     obtain⟨b2,o2,rfl,-,-⟩:=hB.2 (by omega)
     refine (Tryz.slices_Equal b1 o1 n c b2 o2 n d xs ys w (by omega) (by omega) (by omega) (by omega) (vals_nums hA) (vals_nums hB)).mono ?_
     rintro e w' ⟨rfl,q,rfl⟩
     refine⟨?_,below_drewN (Below.refl _ _) q⟩
     rw [List.take_of_length_le (by omega),List.take_of_length_le (by omega)]
     congr 2
     rw [Bool.eq_iff_iff]
     simp
 · refine (equal_len A B n c m d w h).mono ?_
   rintro e w' ⟨rfl,rfl⟩
   exact⟨by rw [decide_eq_false (fun e=>h (by rw [←hx,←hy,e]))],Below.refl _ _⟩
def ApV (w:World) (Z:List Int) (A:Option Addr) (c:Nat) (W:World):Prop:=Below w.heap.size w W∧Vals W A Z.length (nums .i64 Z)∧ApO w Z (.returned (.slice A Z.length c)) W
theorem apv_of {w W:World} {Z:List Int} {e:Ending} (h:ApO w Z e W):∃ A c,e=.returned (.slice A Z.length c)∧Hid (ApV w Z A c W):=by
 have h':=h
 obtain⟨A,c,rfl,hb,hv⟩:=h
 obtain⟨A',c',e,-,hv,-⟩:=own_vals hv.out
 cases e
 exact⟨A,c,rfl,hb,hv,h'⟩
theorem is_low {w w1 w':World} {v:Bool} {e:Ending} (h:IsPost v w1 e w') (hb:Below w.heap.size w w1):IsPost v w e w':=⟨h.1,hb.trans (h.2.mono hb.size)⟩
set_option maxRecDepth 100000 in
set_option maxHeartbeats 2000000 in
theorem nfc32 (b:Nat) (ps:List Uc.Pr) (ms:List (Int×Int×Int)) (A:Option Addr) (n c:Nat) (s:List Int) (w:World) (hD:DpR w b ps ms) (hF:Fits ps ms) (hs:Vals w A n (nums .i64 s)) (hw:∀ x∈s,WfI x) (hn:n≤5000):
 Calls Tryz.prog 32 #[.pointer (some ⟨b,0,none⟩),.slice A n c] w (ApO w (nfc ps ms s)):=by
 have hl:s.length=n:=by have:=hs.1;rwa [nlen] at this
 have hN:=hF.fit.nlen s
 have c17:=(nfd17 b ps A n c s w hD.1 hF.fit hs hn).mono (fun e W h=>apv_of h)
 have C30:Hid (∀ W A2 c2,ApV w (nfd ps s) A2 c2 W→Calls Tryz.prog 30 #[.pointer (some ⟨b,0,none⟩),.slice A2 (nfd ps s).length c2] W (ApO w (nfc ps ms s))):=fun W A2 c2 h=>
  (compose30 b ps ms A2 _ c2 (nfd ps s) W (hD.below h.1) hF h.2.1 (nfd_wf hF.fit hF.low hw) (by omega)).mono fun e w' h2=>apO_low h2 h.1
 obtain⟨Z,hZ⟩:∃ Z,nfd ps s=Z:=⟨_,rfl⟩
 obtain⟨Y,hY⟩:∃ Y,nfc ps ms s=Y:=⟨_,rfl⟩
 rw [hZ] at c17 C30
 rw [hY] at C30 ⊢
 obtain⟨z,hz⟩:∃ z,Z.length=z:=⟨_,rfl⟩
 obtain⟨y,hy⟩:∃ y,Y.length=y:=⟨_,rfl⟩
 rw [hz] at c17 C30
 unfold ApO at C30 ⊢
 rw [hy] at C30 ⊢
 clear hD hF hs hw hl hN hZ hY hz hy
 go_enter Tryz.func32,Tryz.ntmps32
 go_wp2_with (first
  | (go_at_call 19;(with_reducible refine c17.mono ?_);rintro e w1 ⟨A2,c2,rfl,h2⟩)
  | (go_at_call 30;(with_reducible refine (C30.out w1 A2 c2 h2.out).mono ?_);rintro e w2 ⟨A3,c3,rfl,h3,h4⟩))
 go_ret
 exact⟨A3,c3,rfl,h3,h4⟩
set_option maxRecDepth 100000 in
set_option maxHeartbeats 2000000 in
theorem isC34 (b:Nat) (ps:List Uc.Pr) (ms:List (Int×Int×Int)) (A:Option Addr) (n c:Nat) (s:List Int) (w:World) (hD:DpR w b ps ms) (hF:Fits ps ms) (hs:Vals w A n (nums .i64 s)) (hw:∀ x∈s,WfI x) (hn:n≤5000):
 Calls Tryz.prog 34 #[.pointer (some ⟨b,0,none⟩),.slice A n c] w (IsPost (decide (s=nfc ps ms s)) w):=by
 have hl:s.length=n:=by have:=hs.1;rwa [nlen] at this
 have hN:=hF.fit.nlen s
 have hN2:=nfc_len (ps:=ps) (ms:=ms) s
 have c32:=(nfc32 b ps ms A n c s w hD hF hs hw hn).mono (fun e W h=>apv_of h)
 have C47:Hid (∀ W A2 c2,ApV w (nfc ps ms s) A2 c2 W→Calls Tryz.prog 47 #[.slice A n c,.slice A2 (nfc ps ms s).length c2] W (IsPost (decide (s=nfc ps ms s)) w)):=fun W A2 c2 h=>
  (equal47 A A2 n c _ c2 s (nfc ps ms s) W (hs.below h.1) h.2.1 (by omega) (by omega)).mono fun e w' h2=>is_low h2 h.1
 obtain⟨v,hv⟩:∃ v,decide (s=nfc ps ms s)=v:=⟨_,rfl⟩
 obtain⟨Z,hZ⟩:∃ Z,nfc ps ms s=Z:=⟨_,rfl⟩
 rw [hv] at C47 ⊢
 rw [hZ] at c32 C47
 obtain⟨z,hz⟩:∃ z,Z.length=z:=⟨_,rfl⟩
 rw [hz] at c32 C47
 clear hD hF hs hw hl hN hN2 hv hZ hz
 go_enter Tryz.func34,Tryz.ntmps34
 go_wp2_with (first
  | (go_at_call 32;(with_reducible refine c32.mono ?_);rintro e w1 ⟨A2,c2,rfl,h2⟩)
  | (go_at_call 47;(with_reducible refine (C47.out w1 A2 c2 h2.out).mono ?_);rintro e w2 ⟨rfl,h5⟩))
 go_ret
 exact⟨rfl,h5⟩
set_option maxRecDepth 100000 in
set_option maxHeartbeats 2000000 in
theorem same36 (b:Nat) (ps:List Uc.Pr) (A B:Option Addr) (n c m d:Nat) (s t:List Int) (w:World) (hD:DdR w b ps) (hF:Fit ps) (hs:Vals w A n (nums .i64 s)) (ht:Vals w B m (nums .i64 t)) (hn:n≤5000) (hm:m≤5000):
 Calls Tryz.prog 36 #[.pointer (some ⟨b,0,none⟩),.slice A n c,.slice B m d] w (IsPost (decide (nfd ps s=nfd ps t)) w):=by
 have hl:s.length=n:=by have:=hs.1;rwa [nlen] at this
 have hl2:t.length=m:=by have:=ht.1;rwa [nlen] at this
 have hN:=hF.nlen s
 have hN2:=hF.nlen t
 have c17:=(nfd17 b ps A n c s w hD hF hs hn).mono (fun e W h=>apv_of h)
 have C17:Hid (∀ W A2 c2,ApV w (nfd ps s) A2 c2 W→Calls Tryz.prog 19 #[.pointer (some ⟨b,0,none⟩),.slice B m d] W fun e W2=>∃ A3 c3,e=.returned (.slice A3 (nfd ps t).length c3)∧Hid (ApV W (nfd ps t) A3 c3 W2)):=fun W A2 c2 h=>
  (nfd17 b ps B m d t W (hD.below h.1) hF (ht.below h.1) hm).mono (fun e W h=>apv_of h)
 have C47:Hid (∀ W A2 c2 W2 A3 c3,ApV w (nfd ps s) A2 c2 W→ApV W (nfd ps t) A3 c3 W2→Calls Tryz.prog 47 #[.slice A2 (nfd ps s).length c2,.slice A3 (nfd ps t).length c3] W2 (IsPost (decide (nfd ps s=nfd ps t)) w)):=fun W A2 c2 W2 A3 c3 h h2=>
  (equal47 A2 A3 _ c2 _ c3 (nfd ps s) (nfd ps t) W2 (h.2.1.below h2.1) h2.2.1 (by omega) (by omega)).mono fun e w' h3=>is_low h3 (h.1.trans (h2.1.mono h.1.size))
 obtain⟨v,hv⟩:∃ v,decide (nfd ps s=nfd ps t)=v:=⟨_,rfl⟩
 obtain⟨Z,hZ⟩:∃ Z,nfd ps s=Z:=⟨_,rfl⟩
 obtain⟨Y,hY⟩:∃ Y,nfd ps t=Y:=⟨_,rfl⟩
 rw [hv] at C47 ⊢
 rw [hZ] at c17 C17 C47
 rw [hY] at C17 C47
 obtain⟨z,hz⟩:∃ z,Z.length=z:=⟨_,rfl⟩
 obtain⟨y,hy⟩:∃ y,Y.length=y:=⟨_,rfl⟩
 rw [hz] at c17 C47
 rw [hy] at C17 C47
 clear hD hF hs ht hl hl2 hN hN2 hv hZ hY hz hy
 go_enter Tryz.func36,Tryz.ntmps36
 go_wp2_with (first
  | (go_at_call 19;(with_reducible refine c17.mono ?_);rintro e w1 ⟨A2,c2,rfl,h2⟩)
  | (go_at_call 19;(with_reducible refine (C17.out w1 A2 c2 h2.out).mono ?_);rintro e w2 ⟨A3,c3,rfl,h3⟩)
  | (go_at_call 47;(with_reducible refine (C47.out w1 A2 c2 w2 A3 c3 h2.out h3.out).mono ?_);rintro e w4 ⟨rfl,h5⟩))
 go_ret
 exact⟨rfl,h5⟩
end Go.Proofs.YtbkgbhlmeeodgaaGreatDoor
namespace Go.Proofs.YtbkgbhlmeeodgaaGreatDoor
open Go.RowKit
attribute [local go_sem] Oper.semAt_some
set_option maxRecDepth 100000 in
set_option maxHeartbeats 2000000 in
theorem small8 (b0 b1 b2 b3 b4 b5 b6:Option Addr) (n0 n1 n2 n3 n4 n5 n6 m0 m1 m2 m3 m4 m5 m6:Nat) (w:World) (h0:n0≤1000000000000000) (h1:n1≤1000000000000000) (h2:n2≤1000000000000000) (h3:n3≤1000000000000000) (h4:n4≤1000000000000000) (h5:n5≤1000000000000000) (h6:n6≤1000000000000000):
 Calls Tryz.prog 10 #[.agg #[.slice b0 n0 m0,.slice b1 n1 m1,.slice b2 n2 m2,.slice b3 n3 m3,.slice b4 n4 m4,.slice b5 n5 m5,.slice b6 n6 m6]] w fun e w'=>e=.returned (.bool (decide (n0+n1+n2+n3+n4+n5+n6≤3000)))∧Below w.heap.size w w':=by
 have hb:∀ o,Below w.heap.size w (w.alloc o):=fun o=>(Below.refl _ _).alloc (Nat.le_refl _) o
 have HB:=Lib.hid hb
 clear hb
 go_enter Tryz.func10,Tryz.ntmps10
 go_wp2
 go_ret
 refine⟨?_,HB.out _⟩
 show Ending.returned (.bool (decide ((n0:Int)+n1+n2+n3+n4+n5+n6≤3000)))=_
 rw [show decide ((n0:Int)+n1+n2+n3+n4+n5+n6≤3000)=decide (n0+n1+n2+n3+n4+n5+n6≤3000) from decide_eq_decide.2 (by omega)]
end Go.Proofs.YtbkgbhlmeeodgaaGreatDoor
namespace Go.Proofs.YtbkgbhlmeeodgaaGreatDoor
open Go.RowKit
def CmpRel (n:Nat) (w:World) (i:Value) (wr:World):Prop:=∃ k q:Nat,i=.int .i64 k∧k≤n∧wr=w.drewN q
set_option maxRecDepth 100000 in
set_option maxHeartbeats 1000000 in
theorem compare32 (A B:Option Addr) (n ca cb:Nat) (zs:List Int) (w:World) (hA:Vals w A n (nums .i64 zs)) (hB:Vals w B n (nums .i64 zs)) (hn:n≤1000000):
 Calls Tryz.prog 38 #[.slice A n ca,.slice B n cb] w fun e w'=>e=.returned (.int .i64 0)∧∃ q,w'=w.drewN q:=by
 have hl:zs.length=n:=by have:=hA.1;unfold nums at this;rwa [List.length_map] at this
 have HA:=Lib.hid hA
 have HB:=Lib.hid hB
 have HZ:=Lib.hid hl
 clear hA hB hl
 go_enter Tryz.func38,Tryz.ntmps38
 go_wp2
 go_loopw [5] (fun i wr=>CmpRel n w i wr) (fun i _=>n-(intOf i).toNat)
 case atStart=>exact⟨0,0,rfl,Nat.zero_le _,rfl⟩
 case round=>
  obtain⟨k,q,rfl,hkn,rfl⟩:=hrel
  by_cases hlt:k<n
  · obtain⟨b,off,rfl,-,hc⟩:=HA.out.2 (by omega)
    obtain⟨b2,off2,rfl,-,hc2⟩:=HB.out.2 (by omega)
    have h1:w.cell? ⟨b,off+k,none⟩=some (.int .i64 (zs.getD k 0)):=hc k _ (nums_get (by rw [HZ.out];exact hlt))
    have h2:w.cell? ⟨b2,off2+k,none⟩=some (.int .i64 (zs.getD k 0)):=hc2 k _ (nums_get (by rw [HZ.out];exact hlt))
    obtain⟨x,hx⟩:∃ x,zs.getD k 0=x:=⟨_,rfl⟩
    rw [hx] at h1 h2
    clear hc hc2 hx
    go_wp2
    go_quiet (fail)
    go_wp2
    go_quiet (fail)
    go_wp2
    go_roundw
    case rel=>exact⟨k+1,_,by go_num,by omega,rfl⟩
    case measure=>simp [intOf];omega
  · have hke:k=n:=by omega
    subst hke
    go_wp2
    go_ret
    exact⟨rfl,q,rfl⟩
set_option maxHeartbeats 1000000 in
theorem same17 (A B:Option Addr) (n ca cb:Nat) (zs:List Int) (w:World) (hA:Vals w A n (nums .i64 zs)) (hB:Vals w B n (nums .i64 zs)) (hn:n≤1000000):
 Calls Tryz.prog 12 #[.slice A n ca,.slice B n cb] w fun e w'=>e=.returned (.bool true)∧∃ q,w'=w.drewN q:=by
 have c:=compare32 A B n ca cb zs w hA hB hn
 clear hA hB
 go_enter Tryz.func12,Tryz.ntmps12
 go_wp2_with (go_at_call 38;(with_reducible refine c.mono ?_);rintro e w' ⟨rfl,q,rfl⟩)
 go_ret
 exact⟨rfl,q,rfl⟩
end Go.Proofs.YtbkgbhlmeeodgaaGreatDoor
namespace Go.Proofs.YtbkgbhlmeeodgaaGreatDoor
open Go.RowKit
attribute [local go_sem] Oper.semAt_some
def ekF:Nat→List UInt8
 | 0=>[48,48,54,49,59,97,59,76,108,59,48,59,76,59,59,59,59,59,78,59,59,59,59,59,10,48,48,69,49,59,98,59,76,108,59,48,59,76,59,48,48,54,49,32,48,51,48,49,59,59,59,59,78,59,59,59,59,59,10,48,51,48,49,59,99,59,77,110,59,50,51,48,59,78,83,77,59,59,59,59,59,78,59,59,59,59,59,10,48,51,50,51,59,100,59,77,110,59,50,50,48,59,78,83,77,59,59,59,59,59,78,59,59,59,59,59,10]
 | _=>[]
def ekD:Dt:=⟨(uF ekF).rows,spF ekF,(cfF ekF).rows,[(225,97,769)]⟩
set_option maxRecDepth 100000 in
theorem ek_load:loadOf ekF=(⟨0,0,0⟩,some ekD):=by kernel_rfl
theorem ek_small (i:Nat):(ekF i).length≤4000:=by
 unfold ekF
 split <;> simp
theorem ek_fit:Fit ekD.ps:=load_fit ek_load (ek_small 0)
set_option maxRecDepth 100000 in
theorem ek_nfd1:nfd ekD.ps [225,803] = [97,803,769]:=by kernel_rfl
set_option maxRecDepth 100000 in
theorem ek_nfd2:nfd ekD.ps [97,769] = [97,769]:=by kernel_rfl
set_option maxRecDepth 100000 in
theorem ek_nfd3:nfd ekD.ps [225] = [97,769]:=by kernel_rfl
set_option maxRecDepth 100000 in
theorem ek_cat1:(({ data:=#[48,48,54,49,59,97,59,76,108,59,48,59,76,59] }:ByteArray)++({ data:=#[59,59,59,59,78,59,59,59,59,59,10] }:ByteArray)) = { data:=#[48,48,54,49,59,97,59,76,108,59,48,59,76,59,59,59,59,59,78,59,59,59,59,59,10] }:=by kernel_rfl
set_option maxRecDepth 100000 in
theorem ek_cat2:(({ data:=#[48,48,54,49,59,97,59,76,108,59,48,59,76,59,59,59,59,59,78,59,59,59,59,59,10] }:ByteArray)++({ data:=#[48,48,69,49,59,98,59,76,108,59,48,59,76,59,48,48,54,49,32,48,51,48,49] }:ByteArray)) = { data:=#[48,48,54,49,59,97,59,76,108,59,48,59,76,59,59,59,59,59,78,59,59,59,59,59,10,48,48,69,49,59,98,59,76,108,59,48,59,76,59,48,48,54,49,32,48,51,48,49] }:=by kernel_rfl
set_option maxRecDepth 100000 in
theorem ek_cat3:(({ data:=#[48,48,54,49,59,97,59,76,108,59,48,59,76,59,59,59,59,59,78,59,59,59,59,59,10,48,48,69,49,59,98,59,76,108,59,48,59,76,59,48,48,54,49,32,48,51,48,49] }:ByteArray)++({ data:=#[59,59,59,59,78,59,59,59,59,59,10] }:ByteArray)) = { data:=#[48,48,54,49,59,97,59,76,108,59,48,59,76,59,59,59,59,59,78,59,59,59,59,59,10,48,48,69,49,59,98,59,76,108,59,48,59,76,59,48,48,54,49,32,48,51,48,49,59,59,59,59,78,59,59,59,59,59,10] }:=by kernel_rfl
set_option maxRecDepth 100000 in
theorem ek_cat4:(({ data:=#[48,48,54,49,59,97,59,76,108,59,48,59,76,59,59,59,59,59,78,59,59,59,59,59,10,48,48,69,49,59,98,59,76,108,59,48,59,76,59,48,48,54,49,32,48,51,48,49,59,59,59,59,78,59,59,59,59,59,10] }:ByteArray)++({ data:=#[48,51,48,49,59,99,59,77,110,59,50,51,48,59,78,83,77,59] }:ByteArray)) = { data:=#[48,48,54,49,59,97,59,76,108,59,48,59,76,59,59,59,59,59,78,59,59,59,59,59,10,48,48,69,49,59,98,59,76,108,59,48,59,76,59,48,48,54,49,32,48,51,48,49,59,59,59,59,78,59,59,59,59,59,10,48,51,48,49,59,99,59,77,110,59,50,51,48,59,78,83,77,59] }:=by kernel_rfl
set_option maxRecDepth 100000 in
theorem ek_cat5:(({ data:=#[48,48,54,49,59,97,59,76,108,59,48,59,76,59,59,59,59,59,78,59,59,59,59,59,10,48,48,69,49,59,98,59,76,108,59,48,59,76,59,48,48,54,49,32,48,51,48,49,59,59,59,59,78,59,59,59,59,59,10,48,51,48,49,59,99,59,77,110,59,50,51,48,59,78,83,77,59] }:ByteArray)++({ data:=#[59,59,59,59,78,59,59,59,59,59,10] }:ByteArray)) = { data:=#[48,48,54,49,59,97,59,76,108,59,48,59,76,59,59,59,59,59,78,59,59,59,59,59,10,48,48,69,49,59,98,59,76,108,59,48,59,76,59,48,48,54,49,32,48,51,48,49,59,59,59,59,78,59,59,59,59,59,10,48,51,48,49,59,99,59,77,110,59,50,51,48,59,78,83,77,59,59,59,59,59,78,59,59,59,59,59,10] }:=by kernel_rfl
set_option maxRecDepth 100000 in
theorem ek_cat6:(({ data:=#[48,48,54,49,59,97,59,76,108,59,48,59,76,59,59,59,59,59,78,59,59,59,59,59,10,48,48,69,49,59,98,59,76,108,59,48,59,76,59,48,48,54,49,32,48,51,48,49,59,59,59,59,78,59,59,59,59,59,10,48,51,48,49,59,99,59,77,110,59,50,51,48,59,78,83,77,59,59,59,59,59,78,59,59,59,59,59,10] }:ByteArray)++({ data:=#[48,51,50,51,59,100,59,77,110,59,50,50,48,59,78,83,77,59] }:ByteArray)) = { data:=#[48,48,54,49,59,97,59,76,108,59,48,59,76,59,59,59,59,59,78,59,59,59,59,59,10,48,48,69,49,59,98,59,76,108,59,48,59,76,59,48,48,54,49,32,48,51,48,49,59,59,59,59,78,59,59,59,59,59,10,48,51,48,49,59,99,59,77,110,59,50,51,48,59,78,83,77,59,59,59,59,59,78,59,59,59,59,59,10,48,51,50,51,59,100,59,77,110,59,50,50,48,59,78,83,77,59] }:=by kernel_rfl
set_option maxRecDepth 100000 in
theorem ek_cat7:(({ data:=#[48,48,54,49,59,97,59,76,108,59,48,59,76,59,59,59,59,59,78,59,59,59,59,59,10,48,48,69,49,59,98,59,76,108,59,48,59,76,59,48,48,54,49,32,48,51,48,49,59,59,59,59,78,59,59,59,59,59,10,48,51,48,49,59,99,59,77,110,59,50,51,48,59,78,83,77,59,59,59,59,59,78,59,59,59,59,59,10,48,51,50,51,59,100,59,77,110,59,50,50,48,59,78,83,77,59] }:ByteArray)++({ data:=#[59,59,59,59,78,59,59,59,59,59,10] }:ByteArray)) = { data:=#[48,48,54,49,59,97,59,76,108,59,48,59,76,59,59,59,59,59,78,59,59,59,59,59,10,48,48,69,49,59,98,59,76,108,59,48,59,76,59,48,48,54,49,32,48,51,48,49,59,59,59,59,78,59,59,59,59,59,10,48,51,48,49,59,99,59,77,110,59,50,51,48,59,78,83,77,59,59,59,59,59,78,59,59,59,59,59,10,48,51,50,51,59,100,59,77,110,59,50,50,48,59,78,83,77,59,59,59,59,59,78,59,59,59,59,59,10] }:=by kernel_rfl
def ekS:ByteArray:={ data:=#[48,48,54,49,59,97,59,76,108,59,48,59,76,59,59,59,59,59,78,59,59,59,59,59,10,48,48,69,49,59,98,59,76,108,59,48,59,76,59,48,48,54,49,32,48,51,48,49,59,59,59,59,78,59,59,59,59,59,10,48,51,48,49,59,99,59,77,110,59,50,51,48,59,78,83,77,59,59,59,59,59,78,59,59,59,59,59,10,48,51,50,51,59,100,59,77,110,59,50,50,48,59,78,83,77,59,59,59,59,59,78,59,59,59,59,59,10] }
theorem ekS_is:ekS=bs (ekF 0):=rfl
theorem ek_len:(ekF 0).length=117:=rfl
theorem bytes_octs (w:World) (l:List UInt8):∃ (c:Nat) (o:Obj),(convert 9 22 (.string (bs l))).run Tryz.prog w=.ok (.slice (some ⟨w.heap.size,0,none⟩) l.length c) ((w.alloc o).drew)∧Octs ((w.alloc o).drew) (some ⟨w.heap.size,0,none⟩) l.length l:=by
 suffices hh:∃ (c:Nat) (o:Obj),(convert 9 22 (.string (bs l))).run Tryz.prog w=.ok (.slice (some ⟨w.heap.size,0,none⟩) l.length c) (w.drew.alloc o)∧Octs (w.drew.alloc o) (some ⟨w.heap.size,0,none⟩) l.length l from hh
 have h:=run_bytes_of_string (P:=Tryz.prog) w 9 22 5 (bs l) Tryz.underlying9 Tryz.underlying22 Tryz.underlying5
 rw [bs_size] at h
 refine⟨_,_,h,?_⟩
 refine⟨by unfold nums;rw [List.length_map,ints_length],fun _=>⟨w.heap.size,0,rfl,by simp,fun j v hj=>?_⟩⟩
 have hjl:j<l.length:=by
  have:=(List.getElem?_eq_some_iff.1 hj).1
  unfold nums at this
  rwa [List.length_map,ints_length] at this
 have hh:=World.alloc_heap_new w.drew (.cells (bytesRow (bs l) (grownCap w l.length 0 5)) 5 ((bytesRow (bs l) (grownCap w l.length 0 5)).size,(bytesRow (bs l) (grownCap w l.length 0 5)).size+1))
 rw [cell_of_row _ w.heap.size _ _ 5 _ hh,Nat.zero_add]
 unfold bytesRow
 rw [Array.getElem?_append_left (by rw [Array.size_map];show j<(bs l).data.size;simp [bs];exact hjl)]
 unfold nums ints at hj
 rw [List.map_map,List.getElem?_map,List.getElem?_eq_getElem hjl] at hj
 rw [Array.getElem?_map]
 have e:(bs l).data[j]? = some l[j]:=by simp [bs,hjl]
 rw [e]
 exact hj
def EkW (w W:World) (b:Nat):Prop:=Below w.heap.size w W∧DdR W b ekD.ps
theorem EkW.on {w W W':World} {b:Nat} (h:EkW w W b) (hb:Below W.heap.size W W'):EkW w W' b:=⟨h.1.trans (hb.mono h.1.size),h.2.below hb⟩
theorem ddr_pf {W:World} {b:Nat} {ps:List Uc.Pr} {sp:Nat→List Pq.Sp} {cf:List Cf.Pp} (h:PF W b ps sp cf):DdR W b ps:=by
 obtain⟨p,A,c,ls,h1,h2,h3⟩:=h.uni
 exact⟨p,h1,A,c,ls,h2,h3⟩
theorem ek_lit (w W:World) (b:Nat) (zs:List Int) (h:EkW w W b):EkW w (W.alloc (.cells (nums .i64 zs).toArray 3)) b∧Vals (W.alloc (.cells (nums .i64 zs).toArray 3)) (some ⟨W.heap.size,0,none⟩) zs.length (nums .i64 zs):=by
 refine⟨h.on ((Below.refl _ _).alloc (Nat.le_refl _) _),?_⟩
 have:=vals_lit W (nums .i64 zs) 3
 rwa [nlen] at this
set_option maxRecDepth 100000 in
set_option maxHeartbeats 8000000 in
theorem awake7 (w:World) (hM:ML w) (hH:HanT w):Calls Tryz.prog 9 #[] w fun e w'=>e=.returned (.bool true)∧Below w.heap.size w w':=by
 obtain⟨c,o,hcv,ho⟩:=bytes_octs w (ekF 0)
 have hb1:Below w.heap.size w ((w.alloc o).drew):=below_drew ((Below.refl _ _).alloc (Nat.le_refl _) _)
 have c21:=load29 (some ⟨w.heap.size,0,none⟩) none none none none none none 117 0 0 0 0 0 0 c 0 0 0 0 0 0 ekF ((w.alloc o).drew) ho (Vals.nil _ _) (Vals.nil _ _) (Vals.nil _ _) (Vals.nil _ _) (Vals.nil _ _) (Vals.nil _ _) (by omega) ek_small (ml_on hM hb1) (hH.below hH.lt hb1)
 have d21:Calls Tryz.prog 23 #[.agg #[.slice (some ⟨w.heap.size,0,none⟩) 117 c,.slice none 0 0,.slice none 0 0,.slice none 0 0,.slice none 0 0,.slice none 0 0,.slice none 0 0]] ((w.alloc o).drew) fun e W=>∃ b,e=.returned (.tuple #[.pointer (some ⟨b,0,none⟩),.agg #[.int .i64 0,.int .i64 0,.int .i64 0]])∧Hid (EkW w W b):=c21.mono (by
  rintro e W ⟨hb,⟨d,b,hl,rfl,h1,h2,h3⟩ | ⟨x,hl,-⟩⟩
  · rw [ek_load] at hl
    injection hl with _ hl
    injection hl with hl
    subst hl
    exact⟨b,rfl,Lib.hid ⟨hb1.trans (hb.mono hb1.size),ddr_pf h1⟩⟩
  · rw [ek_load] at hl
    injection hl with _ hl
    cases hl)
 rw [←ekS_is,ek_len] at hcv
 unfold ekS at hcv
 clear c21 hb1 hM hH ho
 have D17:Hid (∀ W2 b o,EkW w W2 b→Calls Tryz.prog 19 #[.pointer (some ⟨b,0,none⟩),.slice (some ⟨W2.heap.size+1,0,none⟩) 2 2] ((W2.alloc o).alloc (.cells #[.int .i64 225,.int .i64 803] 3)) fun e W=>∃ A c,e=.returned (.slice A 3 c)∧Hid (EkW w W b∧Vals W A 3 (nums .i64 [97,803,769]))):=fun W2 b o h=>by
  obtain⟨h1,h2⟩:=ek_lit w (W2.alloc o) b [225,803] (h.on ((Below.refl _ _).alloc (Nat.le_refl _) _))
  rw [World.size_alloc] at h2
  refine (nfd17 b ekD.ps (some ⟨W2.heap.size+1,0,none⟩) 2 2 [225,803] _ h1.2 ek_fit h2 (by omega)).mono ?_
  rintro e W ⟨A,c,rfl,h4,h5⟩
  rw [ek_nfd1] at h5 ⊢
  refine⟨A,c,rfl,Lib.hid ⟨h1.on h4,?_⟩⟩
  obtain⟨A',c',e,-,hv,-⟩:=own_vals h5.out
  cases e
  exact hv
 have D10:Hid (∀ W b A c,(EkW w W b∧Vals W A 3 (nums .i64 [97,803,769]))→Calls Tryz.prog 12 #[.slice A 3 c,.slice (some ⟨W.heap.size,0,none⟩) 3 3] (W.alloc (.cells #[.int .i64 97,.int .i64 803,.int .i64 769] 3)) fun e W'=>e=.returned (.bool true)∧Hid (EkW w W' b)):=fun W b A c ⟨h,hv⟩=>by
  obtain⟨h1,h2⟩:=ek_lit w W b [97,803,769] h
  refine (same17 A (some ⟨W.heap.size,0,none⟩) 3 c 3 [97,803,769] _ (hv.below ((Below.refl _ _).alloc (Nat.le_refl _) _)) h2 (by omega)).mono ?_
  rintro e W' ⟨rfl,q,rfl⟩
  exact⟨rfl,Lib.hid (h1.on (below_drewN (Below.refl _ _) q))⟩
 have D19:Hid (∀ W b,EkW w W b→Calls Tryz.prog 21 #[.pointer (some ⟨b,0,none⟩),.slice (some ⟨W.heap.size,0,none⟩) 2 2] (W.alloc (.cells #[.int .i64 97,.int .i64 769] 3)) fun e W'=>e=.returned (.bool true)∧Hid (EkW w W' b)):=fun W b h=>by
  obtain⟨h1,h2⟩:=ek_lit w W b [97,769] h
  refine (is19 b ekD.ps (some ⟨W.heap.size,0,none⟩) 2 2 [97,769] _ h1.2 ek_fit h2 (by omega)).mono ?_
  rintro e W' ⟨rfl,h4⟩
  exact⟨by rw [ek_nfd2];rfl,Lib.hid (h1.on h4)⟩
 have D19b:Hid (∀ W b,EkW w W b→Calls Tryz.prog 21 #[.pointer (some ⟨b,0,none⟩),.slice (some ⟨W.heap.size,0,none⟩) 1 1] (W.alloc (.cells #[.int .i64 225] 3)) fun e W'=>e=.returned (.bool false)∧Hid (EkW w W' b)):=fun W b h=>by
  obtain⟨h1,h2⟩:=ek_lit w W b [225] h
  refine (is19 b ekD.ps (some ⟨W.heap.size,0,none⟩) 1 1 [225] _ h1.2 ek_fit h2 (by omega)).mono ?_
  rintro e W' ⟨rfl,h4⟩
  exact⟨by rw [ek_nfd3];rfl,Lib.hid (h1.on h4)⟩
 go_enter Tryz.func9,Tryz.ntmps9
 go_wp2_with (first
  | (rw [ek_cat1]) | (rw [ek_cat2]) | (rw [ek_cat3]) | (rw [ek_cat4]) | (rw [ek_cat5]) | (rw [ek_cat6]) | (rw [ek_cat7])
  | (rw [hcv])
  | (go_at_call 23;(with_reducible refine d21.mono ?_);rintro e W2 ⟨b,rfl,H2⟩)
  | (go_at_call 19;(with_reducible refine (D17.out W2 b _ H2.out).mono ?_);rintro e W3 ⟨A,c3,rfl,H3⟩)
  | (go_at_call 12;(with_reducible refine (D10.out W3 b A c3 H3.out).mono ?_);rintro e W4 ⟨rfl,H4⟩)
  | (go_at_call 21;(with_reducible refine (D19.out W4 b H4.out).mono ?_);rintro e W5 ⟨rfl,H5⟩)
  | (go_at_call 21;(with_reducible refine (D19b.out W5 b H5.out).mono ?_);rintro e W6 ⟨rfl,H6⟩))
 go_ret
 exact⟨rfl,H6.out.1⟩
theorem ek_fits:Fits ekD.ps ekD.ms:=load_fits ek_load (ek_small 0)
set_option maxRecDepth 100000 in
theorem ek_nfc1:nfc ekD.ps ekD.ms [97,803,769] = [225,803]:=by kernel_rfl
set_option maxRecDepth 100000 in
theorem ek_nfc2:nfc ekD.ps ekD.ms [225,803] = [225,803]:=by kernel_rfl
set_option maxRecDepth 100000 in
theorem ek_nfc3:nfc ekD.ps ekD.ms [97,769] = [225]:=by kernel_rfl
def EcW (w W:World) (b:Nat):Prop:=Below w.heap.size w W∧DpR W b ekD.ps ekD.ms
theorem EcW.on {w W W':World} {b:Nat} (h:EcW w W b) (hb:Below W.heap.size W W'):EcW w W' b:=⟨h.1.trans (hb.mono h.1.size),h.2.below hb⟩
theorem ec_lit (w W:World) (b:Nat) (zs:List Int) (h:EcW w W b):EcW w (W.alloc (.cells (nums .i64 zs).toArray 3)) b∧Vals (W.alloc (.cells (nums .i64 zs).toArray 3)) (some ⟨W.heap.size,0,none⟩) zs.length (nums .i64 zs):=by
 refine⟨h.on ((Below.refl _ _).alloc (Nat.le_refl _) _),?_⟩
 have:=vals_lit W (nums .i64 zs) 3
 rwa [nlen] at this
theorem dpr_of {W:World} {b:Nat} {ps:List Uc.Pr} {sp:Nat→List Pq.Sp} {cf:List Cf.Pp} {ms:List (Int×Int×Int)} (h:PF W b ps sp cf) (g:PM W b ms):DpR W b ps ms:=⟨ddr_pf h,g⟩
theorem wf_small {l:List Int} (h:l.all (fun x=>decide (-1000000≤x∧x≤1000000))=true):∀ x∈l,WfI x:=fun x hx=>wfi_of (by have:=of_decide_eq_true (List.all_eq_true.1 h x hx);omega)
def Hdp (w W:World) (b:Nat) (ps:List Uc.Pr) (ms:List (Int×Int×Int)):Prop:=Below w.heap.size w W∧DpR W b ps ms
theorem Hdp.on {w W W':World} {b:Nat} {ps:List Uc.Pr} {ms:List (Int×Int×Int)} (h:Hdp w W b ps ms) (hb:Below W.heap.size W W'):Hdp w W' b ps ms:=⟨h.1.trans (hb.mono h.1.size),h.2.below hb⟩
set_option maxRecDepth 100000 in
set_option maxHeartbeats 8000000 in
theorem awake27 (w:World) (hM:ML w) (hH:HanT w):Calls Tryz.prog 27 #[] w fun e w'=>e=.returned (.bool true)∧Below w.heap.size w w':=by
 obtain⟨c,o,hcv,ho⟩:=bytes_octs w (ekF 0)
 have hb1:Below w.heap.size w ((w.alloc o).drew):=below_drew ((Below.refl _ _).alloc (Nat.le_refl _) _)
 have c21:=load29 (some ⟨w.heap.size,0,none⟩) none none none none none none 117 0 0 0 0 0 0 c 0 0 0 0 0 0 ekF ((w.alloc o).drew) ho (Vals.nil _ _) (Vals.nil _ _) (Vals.nil _ _) (Vals.nil _ _) (Vals.nil _ _) (Vals.nil _ _) (by omega) ek_small (ml_on hM hb1) (hH.below hH.lt hb1)
 have d21:Calls Tryz.prog 23 #[.agg #[.slice (some ⟨w.heap.size,0,none⟩) 117 c,.slice none 0 0,.slice none 0 0,.slice none 0 0,.slice none 0 0,.slice none 0 0,.slice none 0 0]] ((w.alloc o).drew) fun e W=>∃ b,e=.returned (.tuple #[.pointer (some ⟨b,0,none⟩),.agg #[.int .i64 0,.int .i64 0,.int .i64 0]])∧Hid (EcW w W b):=c21.mono (by
  rintro e W ⟨hb,⟨d,b,hl,rfl,h1,h2,h3⟩ | ⟨x,hl,-⟩⟩
  · rw [ek_load] at hl
    injection hl with _ hl
    injection hl with hl
    subst hl
    exact⟨b,rfl,Lib.hid ⟨hb1.trans (hb.mono hb1.size),dpr_of h1 h2⟩⟩
  · rw [ek_load] at hl
    injection hl with _ hl
    cases hl)
 rw [←ekS_is,ek_len] at hcv
 unfold ekS at hcv
 clear c21 hb1 hM hH ho
 have D32:Hid (∀ W2 b o,EcW w W2 b→Calls Tryz.prog 32 #[.pointer (some ⟨b,0,none⟩),.slice (some ⟨W2.heap.size+1,0,none⟩) 3 3] ((W2.alloc o).alloc (.cells #[.int .i64 97,.int .i64 803,.int .i64 769] 3)) fun e W=>∃ A c,e=.returned (.slice A 2 c)∧Hid (EcW w W b∧Vals W A 2 (nums .i64 [225,803]))):=fun W2 b o h=>by
  obtain⟨h1,h2⟩:=ec_lit w (W2.alloc o) b [97,803,769] (h.on ((Below.refl _ _).alloc (Nat.le_refl _) _))
  rw [World.size_alloc] at h2
  refine (nfc32 b ekD.ps ekD.ms (some ⟨W2.heap.size+1,0,none⟩) 3 3 [97,803,769] _ h1.2 ek_fits h2 (wf_small rfl) (by omega)).mono ?_
  rintro e W ⟨A,c,rfl,h4,h5⟩
  rw [ek_nfc1] at h5 ⊢
  refine⟨A,c,rfl,Lib.hid ⟨h1.on h4,?_⟩⟩
  obtain⟨A',c',e,-,hv,-⟩:=own_vals h5.out
  cases e
  exact hv
 have D10:Hid (∀ W b A c,(EcW w W b∧Vals W A 2 (nums .i64 [225,803]))→Calls Tryz.prog 12 #[.slice A 2 c,.slice (some ⟨W.heap.size,0,none⟩) 2 2] (W.alloc (.cells #[.int .i64 225,.int .i64 803] 3)) fun e W'=>e=.returned (.bool true)∧Hid (EcW w W' b)):=fun W b A c ⟨h,hv⟩=>by
  obtain⟨h1,h2⟩:=ec_lit w W b [225,803] h
  refine (same17 A (some ⟨W.heap.size,0,none⟩) 2 c 2 [225,803] _ (hv.below ((Below.refl _ _).alloc (Nat.le_refl _) _)) h2 (by omega)).mono ?_
  rintro e W' ⟨rfl,q,rfl⟩
  exact⟨rfl,Lib.hid (h1.on (below_drewN (Below.refl _ _) q))⟩
 have D34:Hid (∀ W b,EcW w W b→Calls Tryz.prog 34 #[.pointer (some ⟨b,0,none⟩),.slice (some ⟨W.heap.size,0,none⟩) 2 2] (W.alloc (.cells #[.int .i64 225,.int .i64 803] 3)) fun e W'=>e=.returned (.bool true)∧Hid (EcW w W' b)):=fun W b h=>by
  obtain⟨h1,h2⟩:=ec_lit w W b [225,803] h
  refine (isC34 b ekD.ps ekD.ms (some ⟨W.heap.size,0,none⟩) 2 2 [225,803] _ h1.2 ek_fits h2 (wf_small rfl) (by omega)).mono ?_
  rintro e W' ⟨rfl,h4⟩
  exact⟨by rw [ek_nfc2];rfl,Lib.hid (h1.on h4)⟩
 have D34b:Hid (∀ W b,EcW w W b→Calls Tryz.prog 34 #[.pointer (some ⟨b,0,none⟩),.slice (some ⟨W.heap.size,0,none⟩) 2 2] (W.alloc (.cells #[.int .i64 97,.int .i64 769] 3)) fun e W'=>e=.returned (.bool false)∧Hid (EcW w W' b)):=fun W b h=>by
  obtain⟨h1,h2⟩:=ec_lit w W b [97,769] h
  refine (isC34 b ekD.ps ekD.ms (some ⟨W.heap.size,0,none⟩) 2 2 [97,769] _ h1.2 ek_fits h2 (wf_small rfl) (by omega)).mono ?_
  rintro e W' ⟨rfl,h4⟩
  exact⟨by rw [ek_nfc3];rfl,Lib.hid (h1.on h4)⟩
 go_enter Tryz.func27,Tryz.ntmps27
 go_wp2_with (first
  | (rw [ek_cat1]) | (rw [ek_cat2]) | (rw [ek_cat3]) | (rw [ek_cat4]) | (rw [ek_cat5]) | (rw [ek_cat6]) | (rw [ek_cat7])
  | (rw [hcv])
  | (go_at_call 23;(with_reducible refine d21.mono ?_);rintro e W2 ⟨b,rfl,H2⟩)
  | (go_at_call 32;(with_reducible refine (D32.out W2 b _ H2.out).mono ?_);rintro e W3 ⟨A,c3,rfl,H3⟩)
  | (go_at_call 12;(with_reducible refine (D10.out W3 b A c3 H3.out).mono ?_);rintro e W4 ⟨rfl,H4⟩)
  | (go_at_call 34;(with_reducible refine (D34.out W4 b H4.out).mono ?_);rintro e W5 ⟨rfl,H5⟩)
  | (go_at_call 34;(with_reducible refine (D34b.out W5 b H5.out).mono ?_);rintro e W6 ⟨rfl,H6⟩))
 go_ret
 exact⟨rfl,H6.out.1⟩
end Go.Proofs.YtbkgbhlmeeodgaaGreatDoor
namespace Go.Proofs.YtbkgbhlmeeodgaaGreatDoor
open Go.RowKit
def cntL (s:List Int) (x:Int):Nat:=s.countP (fun z=>decide (z=x))
theorem cntL_step {s:List Int} {k:Nat} {y x:Int} (h:s[k]? = some y):cntL (s.take (k+1)) x=cntL (s.take k) x+if y=x then 1 else 0:=by
 unfold cntL
 rw [List.take_add_one,h,List.countP_append]
 by_cases e:y=x <;> simp [e]
set_option maxRecDepth 100000 in
set_option maxHeartbeats 2000000 in
theorem count23 (A:Option Addr) (n c:Nat) (s:List Int) (x:Int) (w:World) (hV:Vals w A n (nums .i64 s)) (hn:n≤100000):
 Calls Tryz.prog 24 #[.slice A n c,.int .i64 x] w fun e w'=>e=.returned (.int .i64 (cntL s x:Nat))∧w=w':=by
 have hl:s.length=n:=by have:=hV.1;rwa [nlen] at this
 obtain⟨r,hr⟩:∃ r,cntL s x=r:=⟨_,rfl⟩
 rw [hr]
 have HR:=Lib.hid hr
 have HL:=Lib.hid hl
 have HV:=Lib.hid hV
 clear hr hl hV
 go_enter Tryz.func24,Tryz.ntmps24
 go_wp2
 go_loop [5,6] (fun t i=>∃ k m:Nat,k≤n∧m≤k∧i=.int .i64 k∧t=.int .i64 m∧Hid (m=cntL (s.take k) x)) (fun _ i=>n-(intOf i).toNat)
 case atStart=>exact⟨0,0,Nat.zero_le _,Nat.le_refl _,rfl,rfl,rfl⟩
 case round=>
  obtain⟨k,m,hk,hm,rfl,rfl,HI⟩:=hrel
  by_cases hlt:k<n
  · obtain⟨y,hy⟩:∃ y,s[k]? = some y:=⟨_,List.getElem?_eq_getElem (by have:=HL.out;omega)⟩
    obtain⟨b,off,rfl,-,hc⟩:=HV.out.2 (by omega)
    have hcx:w.cell? ⟨b,off+k,none⟩=some (.int .i64 y):=hc k _ (by unfold nums;rw [List.getElem?_map,hy];rfl)
    have hst:=cntL_step (x:=x) hy
    rw [←HI.out] at hst
    have hb9:decide (k<n)=true:=decide_eq_true hlt
    by_cases he:y=x
    · rw [if_pos he] at hst
      have HST:=Lib.hid hst
      subst he
      clear hc hy hst HI
      go_wp2
      go_round
      case rel=>exact⟨k+1,m+1,by omega,by omega,by go_num,by go_num,HST.out.symm⟩
      case measure=>simp [intOf];omega
    · rw [if_neg he] at hst
      have HST:=Lib.hid hst
      have hbe:(y==x)=false:=beq_false_of_ne he
      clear hc hy hst HI
      go_wp2
      go_round
      case rel=>exact⟨k+1,m,by omega,by omega,by go_num,rfl,by rw [HST.out];rfl⟩
      case measure=>simp [intOf];omega
  · obtain rfl:k=n:=by omega
    have hm2:m=r:=by rw [HI.out,List.take_of_length_le (by have:=HL.out;omega),HR.out]
    subst hm2
    clear HI HR
    go_wp2
    go_ret
    exact⟨rfl,rfl⟩
end Go.Proofs.YtbkgbhlmeeodgaaGreatDoor
