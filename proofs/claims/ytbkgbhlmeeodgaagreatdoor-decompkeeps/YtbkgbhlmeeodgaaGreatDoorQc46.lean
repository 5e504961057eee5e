/- A part. -/
import Derived.Test.YtbkgbhlmeeodgaaGreatDoorQc45
import Derived.Lib.MinMax
namespace Go.Proofs.YtbkgbhlmeeodgaaGreatDoor
open Go.RowKit Go.Shelf Go.Sort
def DpR (W:World) (b:Nat) (ps:List Uc.Pr) (ms:List (Int×Int×Int)):Prop:=DdR W b ps∧PM W b ms
theorem DpR.below {W W':World} {b:Nat} {ps:List Uc.Pr} {ms:List (Int×Int×Int)} (h:DpR W b ps ms) (hb:Below W.heap.size W W'):DpR W' b ps ms:=⟨h.1.below hb,h.2.below hb⟩
theorem own_put {w:World} {base n g c i:Nat} {xs:List Int} (h:w.ownsRow base 3 1 (.slice (some ⟨g,0,none⟩) n c) n (nums .i64 xs)) (m:Int):
 (w.setCell ⟨g,i,none⟩ (.int .i64 m)).ownsRow base 3 1 (.slice (some ⟨g,0,none⟩) n c) n (nums .i64 (xs.set i m))∧Below base w (w.setCell ⟨g,i,none⟩ (.int .i64 m)):=by
 obtain⟨h1,h2⟩:=h
 rcases h2 with ⟨h,_⟩ | ⟨g',cap,cur,e,hb,hg,h3,h4,h5,h6⟩
 · cases h
 · cases e
   refine⟨⟨by rw [nums_len] at h1 ⊢;rw [List.length_set];exact h1,.inr ⟨g,c,cur.setIfInBounds i (.int .i64 m),rfl,hb,by simp [World.setCell,Array.getElem?_modify,hg],h3,h4,by simpa using h5,?_⟩⟩,(Below.refl _ _).setCell (p:=⟨g,i,none⟩) hb _⟩
   rw [Array.toList_setIfInBounds,List.take_set,h6]
   unfold nums
   rw [List.map_set]
theorem own_at {w:World} {base n c i:Nat} {A:Option Addr} {xs:List Int} {x:Int} (h:w.ownsRow base 3 1 (.slice A n c) n (nums .i64 xs)) (hx:xs[i]? = some x) (hi:i<n):
 ∃ g,A=some ⟨g,0,none⟩∧w.cell? ⟨g,i,none⟩=some (.int .i64 x)∧(∀ j,w.frozen? ⟨g,j,none⟩=false)∧g<w.heap.size∧base≤g:=by
 have ho:=h
 obtain⟨h1,h2⟩:=h
 rcases h2 with ⟨h,h0⟩ | ⟨g,cap,cur,e,hb,hg,h3,h4,h5,h6⟩
 · omega
 · cases e
   refine⟨g,rfl,?_,?_,?_,hb⟩
   · obtain⟨A',c',e,-,hv,-⟩:=own_vals ho
     cases e
     obtain⟨b2,o2,e,-,hc⟩:=hv.2 (by omega)
     cases e
     have:=hc i _ (show (nums .i64 xs)[i]? = some (.int .i64 x) by unfold nums;rw [List.getElem?_map,hx];rfl)
     rwa [Nat.zero_add] at this
   · intro j
     simp only [World.frozen?]
     rw [hg]
     simp
   · exact (Array.getElem?_eq_some_iff.1 hg).1
def CoI (κ:Int→Int) (pr:Int→Int→Option Int) (s:List Int) (w:World) (kx:Nat) (s6 s7 s8 s22:Value) (wr:World):Prop:=
 ∃ (A:Option Addr) (c k L:Nat) (S:St) (st hi:Int),s6=.slice A L c∧s7=.int .i64 st∧s8=.int .i64 hi∧s22=.int .i64 k∧k≤s.length∧s.length-k≤kx∧L≤k ∧
  Hid (CoS κ pr s k L S st hi∧wr.ownsRow w.heap.size 3 1 (.slice A L c) L (nums .i64 S.all)∧Below w.heap.size w wr)
set_option maxRecDepth 100000 in
set_option maxHeartbeats 8000000 in
theorem compose30 (b:Nat) (ps:List Uc.Pr) (ms:List (Int×Int×Int)) (A:Option Addr) (n c:Nat) (s:List Int) (w:World) (hD:DpR w b ps ms) (hF:Fits ps ms) (hs:Vals w A n (nums .i64 s)) (hw:∀ x∈s,WfI x) (hn:n≤100000):
 Calls Tryz.prog 30 #[.pointer (some ⟨b,0,none⟩),.slice A n c] w (ApO w (cmp ps ms s)):=by
 obtain⟨⟨p,h1,h2⟩,h3⟩:=hD
 have hl:s.length=n:=by have:=hs.1;rwa [nlen] at this
 have c24:=uni24 b p w h1
 have C25:Hid (∀ W z,Below w.heap.size w W→Calls Tryz.prog 26 #[.pointer p,.int .i64 z] W fun e w'=>e=.returned (.int .i64 (kc ps z))∧Hid (Below W.heap.size W w')):=fun W z hb=>ccc25 p ps z W (h2.below hb) hF.fit
 have C28:Hid (∀ W x y,Below w.heap.size w W→WfI x→WfI y→Calls Tryz.prog 28 #[.pointer (some ⟨b,0,none⟩),.int .i64 x,.int .i64 y] W fun e w'=>e=.returned (mkV (prM ms x y))∧W=w'):=fun W x y hb hx hy=>pair28 b ms x y W (h3.below hb) hx hy
 have HZ:Hid (∀ q c m,prM ms q c=some m→kc ps m=0):=pr_zero hF.mks
 have HW:Hid (∀ q c m,prM ms q c=some m→WfI m):=fun q c m h=>pr_wf hF.fit hF.mks h
 have HK:=Lib.hid hF.fit.ccc
 have HX:=Lib.hid hw
 have HL:=Lib.hid hl
 have HV:=Lib.hid hs
 unfold cmp
 obtain⟨κ,hκ⟩:∃ κ,kc ps = κ:=⟨_,rfl⟩
 obtain⟨pr,hpr⟩:∃ pr,prM ms=pr:=⟨_,rfl⟩
 rw [hκ] at C25 HZ HK ⊢
 rw [hpr] at C28 HZ HW ⊢
 obtain⟨i0,hi,hz0,hz1,hz2⟩:=infoI'
 have hmf:∀ (fn:Fn) (first cap:Array Value) (w:World),(Instr.makeFunc fn first cap).run Tryz.prog w=.ok (.func fn first cap) w:=fun _ _ _ _=>rfl
 clear h1 h2 h3 hF hs hl hκ hpr hw
 go_enter Tryz.func30,Tryz.ntmps30
 go_wp2_with (first
  | (go_at_call 25;(with_reducible refine c24.mono ?_);rintro e w1 ⟨rfl,rfl⟩)
  | (at_make;refine wpList_make_own _ rfl _ _ 25 rfl w.heap.size 3 i0 _ 1 Tryz.underlying25 hi hz0 hz1 _ _ _ n rfl rfl rfl (by rw [hz2];omega) (by unfold maxLen;omega) (Nat.le_refl _) ?_;intro w1 h1 h2;have H0:Hid (w1.ownsRow w.heap.size 3 1 (.slice (some ⟨w.heap.size,0,none⟩) 0 n) 0 []∧Below w.heap.size w w1):=⟨h1,(Below.refl _ _).grown h2 (Nat.le_refl _) (fun k hk=>by cases hk)⟩;clear h1 h2))
 go_loopg [6,7,8,22] n (fun kx s6 s7 s8 s22 wr=>CoI κ pr s w kx s6 s7 s8 s22 wr)
 case atStart=>exact⟨_,_,0,0,_,-1,-1,rfl,rfl,rfl,rfl,Nat.zero_le _,by have:=HL.out;omega,Nat.le_refl _,coS_zero,by simpa [nums,St.all] using H0.out.1,H0.out.2⟩
 case round=>
  clear H0
  obtain⟨A2,c2,k,L,S,st,hh,rfl,rfl,rfl,rfl,hk,hkx,hLk,HI⟩:=hrel
  rw [HL.out] at hk hkx
  by_cases hlt:k<n
  · obtain⟨hI1,hI2,hI3⟩:=HI.out
    obtain⟨x,hx⟩:∃ x,s[k]? = some x:=⟨_,List.getElem?_eq_getElem (by have:=HL.out;omega)⟩
    have hxw:WfI x:=HX.out x (List.mem_of_getElem? hx)
    obtain⟨b2,off,rfl,hbl,hc⟩:=(HV.out.below hI3).2 (by omega)
    have hcx:wr.cell? ⟨b2,off+k,none⟩=some (.int .i64 x):=hc k _ (by unfold nums;rw [List.getElem?_map,hx];rfl)
    have d:=C25.out wr x hI3
    have hb9:decide (k<n)=true:=decide_eq_true hlt
    -- what is left where c is kept
    have HE:Hid (∀ S' st' hi',CoS κ pr s (k+1) (L+1) S' st' hi'→S.all ++ [x]=S'.all→∀ w2 w3 v',Below wr.heap.size wr w2→Grew w.heap.size w2 w3→w3.ownsRow w.heap.size 3 1 v' (L+1) (nums .i64 S.all ++ [.int .i64 x])→∃ A' c',v'=.slice A' (L+1) c'∧Hid (CoI κ pr s w (n-(k+1)) (.slice A' (L+1) c') (.int .i64 st') (.int .i64 hi') (.int .i64 (k+1:Nat)) w3)):=fun S' st' hi' hS hA w2 w3 v' hb hg ho=>by
     obtain⟨A',c',rfl,-⟩:=own_vals ho
     have hb2:Below w.heap.size w w2:=hI3.trans (hb.mono hI3.size)
     refine⟨A',c',rfl,A',c',k+1,L+1,S',st',hi',rfl,rfl,rfl,rfl,by have:=HL.out;omega,by have:=HL.out;omega,by omega,hS,?_,hg _ _ hb2 (Nat.le_refl _)⟩
     rw [←hA,napp]
     exact ho
    have HN:Hid (∀ w2,Below wr.heap.size wr w2→w2.ownsRow w.heap.size 3 1 (.slice A2 L c2) L (nums .i64 S.all)∧w.heap.size≤w2.heap.size):=fun w2 hb=>⟨own_below hI2 hb (Nat.le_refl _),Nat.le_trans hI3.size hb.size⟩
    have HS0:mdC κ pr S x=none→Hid (∀ w2 w3 v',Below wr.heap.size wr w2→Grew w.heap.size w2 w3→w3.ownsRow w.heap.size 3 1 v' (L+1) (nums .i64 S.all ++ [.int .i64 x])→∃ A' c',v'=.slice A' (L+1) c'∧Hid (CoI κ pr s w (n-(k+1)) (.slice A' (L+1) c') (.int .i64 (if κ x=0 then (L:Int) else st)) (.int .i64 (if κ x=0 then -1 else max hh (κ x))) (.int .i64 (k+1:Nat)) w3)):=fun hm=>by
     by_cases hz:κ x=0
     · rw [if_pos hz,if_pos hz]
       obtain⟨q1,q2⟩:=coS_zeroed HZ.out hI1 hx hm hz hxw
       exact HE.out _ _ _ q1 q2
     · rw [if_neg hz,if_neg hz]
       obtain⟨q1,q2⟩:=coS_kept HZ.out hI1 hx hm hz hxw
       exact HE.out _ _ _ q1 q2
    rcases coS_try HK.out (c:=x) hI1 with ⟨rfl,hm⟩ | ⟨hst,hhi,hm⟩ | ⟨q,hst,hhi,hm,hq,hsi,hil,hqw⟩
    · have HS:=HS0 hm
      generalize κ x=y at d HS
      clear HS0 HE hc hx HI hI1 hI2 hI3 hbl hm hxw
      by_cases hz:y=0
      · subst hz
        rw [if_pos rfl,if_pos rfl] at HS
        go_wp2_with (first
         | (go_at_call 26;(with_reducible refine d.mono ?_);rintro e w2 ⟨rfl,h5⟩)
         | (at_builtin;have ZZ:=HN.out _ h5.out;refine append_lit rfl _ _ 25 rfl w.heap.size 3 i0 _ 1 8 Tryz.underlying25 hi hz0 hz1 hz2 rfl (by decide) _ L _ rfl ZZ.1 _ rfl (fun u hu=>by simp at hu;subst hu;rfl) rfl (by unfold maxLen;omega) (by omega) ZZ.2 ?_;intro v' w3 h6 h7;obtain⟨A',c',rfl,h8⟩:=HS.out _ w3 v' h5.out h7 h6;clear h6 h7))
        go_roundg (n-(k+1))
        case measure=>omega
        case rel=>
         have:=h8.out
         rwa [show ((k+1:Nat):Int)=(k:Int)+1 by omega] at this
      · have hzb:(y==0)=false:=beq_false_of_ne hz
        rw [if_neg hz,if_neg hz] at HS
        go_wp2_with (first
         | (go_at_call 26;(with_reducible refine d.mono ?_);rintro e w2 ⟨rfl,h5⟩)
         | (at_builtin;have ZZ:=HN.out _ h5.out;refine append_lit rfl _ _ 25 rfl w.heap.size 3 i0 _ 1 8 Tryz.underlying25 hi hz0 hz1 hz2 rfl (by decide) _ L _ rfl ZZ.1 _ rfl (fun u hu=>by simp at hu;subst hu;rfl) rfl (by unfold maxLen;omega) (by omega) ZZ.2 ?_;intro v' w3 h6 h7;obtain⟨A',c',rfl,h8⟩:=HS.out _ w3 v' h5.out h7 h6;clear h6 h7))
        go_roundg (n-(k+1))
        case measure=>omega
        case rel=>
         have:=h8.out
         rwa [show ((k+1:Nat):Int)=(k:Int)+1 by omega] at this
    · have HS:=HS0 hm
      have hb1:(st != -1)=true:=bne_iff_ne.2 hst
      have hb2:decide (hh < κ x)=false:=decide_eq_false hhi
      generalize κ x=y at d HS hb2 hhi
      clear HS0 HE hc hx HI hI1 hI2 hI3 hbl hm hxw
      by_cases hz:y=0
      · subst hz
        rw [if_pos rfl,if_pos rfl] at HS
        go_wp2_with (first
         | (go_at_call 26;(with_reducible refine d.mono ?_);rintro e w2 ⟨rfl,h5⟩)
         | (at_builtin;have ZZ:=HN.out _ h5.out;refine append_lit rfl _ _ 25 rfl w.heap.size 3 i0 _ 1 8 Tryz.underlying25 hi hz0 hz1 hz2 rfl (by decide) _ L _ rfl ZZ.1 _ rfl (fun u hu=>by simp at hu;subst hu;rfl) rfl (by unfold maxLen;omega) (by omega) ZZ.2 ?_;intro v' w3 h6 h7;obtain⟨A',c',rfl,h8⟩:=HS.out _ w3 v' h5.out h7 h6;clear h6 h7))
        go_roundg (n-(k+1))
        case measure=>omega
        case rel=>
         have:=h8.out
         rwa [show ((k+1:Nat):Int)=(k:Int)+1 by omega] at this
      · have hzb:(y==0)=false:=beq_false_of_ne hz
        rw [if_neg hz,if_neg hz] at HS
        go_wp2_with (first
         | (go_at_call 26;(with_reducible refine d.mono ?_);rintro e w2 ⟨rfl,h5⟩)
         | (at_builtin;have ZZ:=HN.out _ h5.out;refine append_lit rfl _ _ 25 rfl w.heap.size 3 i0 _ 1 8 Tryz.underlying25 hi hz0 hz1 hz2 rfl (by decide) _ L _ rfl ZZ.1 _ rfl (fun u hu=>by simp at hu;subst hu;rfl) rfl (by unfold maxLen;omega) (by omega) ZZ.2 ?_;intro v' w3 h6 h7;obtain⟨A',c',rfl,h8⟩:=HS.out _ w3 v' h5.out h7 h6;clear h6 h7))
        go_roundg (n-(k+1))
        case measure=>omega
        case rel=>
         have:=h8.out
         rwa [show ((k+1:Nat):Int)=(k:Int)+1 by omega] at this
    · obtain⟨g,rfl,a1,a2,a3,a4⟩:=own_at hI2 hq hil
      obtain⟨i,hib⟩:∃ i,S.B.length=i:=⟨_,rfl⟩
      rw [hib] at hsi hil a1 hq
      have HC:Hid (∀ w2,Below wr.heap.size wr w2→w2.cell? ⟨g,i,none⟩=some (.int .i64 q)∧w2.frozen? ⟨g,i,none⟩=false):=fun w2 hb=>⟨(hb.cell (p:=⟨g,i,none⟩) a3).trans a1,(hb.frozen (p:=⟨g,i,none⟩) a3).trans (a2 i)⟩
      have c28:Hid (∀ w2,Below wr.heap.size wr w2→Calls Tryz.prog 28 #[.pointer (some ⟨b,0,none⟩),.int .i64 q,.int .i64 x] w2 fun e W'=>e=.returned (mkV (pr q x))∧w2=W'):=fun w2 hb=>C28.out w2 q x (hI3.trans (hb.mono hI3.size)) hqw hxw
      have hb1:(st != -1)=true:=bne_iff_ne.2 hst
      have hb2:decide (hh < κ x)=true:=decide_eq_true hhi
      cases hp:pr q x with
      | none=>
       rw [hp] at hm c28
       have HS:=HS0 hm
       unfold mkV at c28
       subst hsi
       generalize κ x=y at d HS hb2 hhi
       clear HS0 HE hc hx HI hI1 hI2 hI3 hbl hm hxw hq hp a1 a2 a3 a4 hib hqw
       by_cases hz:y=0
       · subst hz
         rw [if_pos rfl,if_pos rfl] at HS
         go_wp2_with (first
          | (go_at_call 26;(with_reducible refine d.mono ?_);rintro e w2 ⟨rfl,h5⟩;have hq1:=(HC.out _ h5.out).1;have hq2:=(HC.out _ h5.out).2)
          | (go_at_call 28;(with_reducible refine (c28.out _ h5.out).mono ?_);rintro e w4 ⟨rfl,rfl⟩)
          | (at_builtin;have ZZ:=HN.out _ h5.out;refine append_lit rfl _ _ 25 rfl w.heap.size 3 i0 _ 1 8 Tryz.underlying25 hi hz0 hz1 hz2 rfl (by decide) _ L _ rfl ZZ.1 _ rfl (fun u hu=>by simp at hu;subst hu;rfl) rfl (by unfold maxLen;omega) (by omega) ZZ.2 ?_;intro v' w3 h6 h7;obtain⟨A',c',rfl,h8⟩:=HS.out _ w3 v' h5.out h7 h6;clear h6 h7))
         go_roundg (n-(k+1))
         case measure=>omega
         case rel=>
          have:=h8.out
          rwa [show ((k+1:Nat):Int)=(k:Int)+1 by omega] at this
       · have hzb:(y==0)=false:=beq_false_of_ne hz
         rw [if_neg hz,if_neg hz] at HS
         go_wp2_with (first
          | (go_at_call 26;(with_reducible refine d.mono ?_);rintro e w2 ⟨rfl,h5⟩;have hq1:=(HC.out _ h5.out).1;have hq2:=(HC.out _ h5.out).2)
          | (go_at_call 28;(with_reducible refine (c28.out _ h5.out).mono ?_);rintro e w4 ⟨rfl,rfl⟩)
          | (at_builtin;have ZZ:=HN.out _ h5.out;refine append_lit rfl _ _ 25 rfl w.heap.size 3 i0 _ 1 8 Tryz.underlying25 hi hz0 hz1 hz2 rfl (by decide) _ L _ rfl ZZ.1 _ rfl (fun u hu=>by simp at hu;subst hu;rfl) rfl (by unfold maxLen;omega) (by omega) ZZ.2 ?_;intro v' w3 h6 h7;obtain⟨A',c',rfl,h8⟩:=HS.out _ w3 v' h5.out h7 h6;clear h6 h7))
         go_roundg (n-(k+1))
         case measure=>omega
         case rel=>
          have:=h8.out
          rwa [show ((k+1:Nat):Int)=(k:Int)+1 by omega] at this
      | some m=>
       rw [hp] at hm c28
       unfold mkV at c28
       obtain⟨q1,q2,q3,q4⟩:=coS_made HZ.out hI1 hx hm (HW.out _ _ _ hp)
       have HM:Hid (∀ w2,Below wr.heap.size wr w2→CoI κ pr s w (n-(k+1)) (.slice (some ⟨g,0,none⟩) L c2) (.int .i64 (i:Nat)) (.int .i64 hh) (.int .i64 (k+1:Nat)) (w2.setCell ⟨g,i,none⟩ (.int .i64 m))):=fun w2 hb=>by
        have hb2:Below w.heap.size w w2:=hI3.trans (hb.mono hI3.size)
        obtain⟨r1,r2⟩:=own_put (own_below hI2 hb (Nat.le_refl _)) m
        refine⟨_,c2,k+1,L,_,st,hh,rfl,by rw [hsi],rfl,rfl,by have:=HL.out;omega,by have:=HL.out;omega,by omega,q1,?_,hb2.trans r2⟩
        rw [←q2,hib]
        exact r1
       subst hsi
       generalize κ x=y at d hb2 hhi
       clear HS0 HE hc hx HI hI1 hI2 hI3 hbl hm hxw hq hp a1 a2 a3 a4 hib hqw q1 q2 q3 q4
       go_wp2_with (first
        | (go_at_call 26;(with_reducible refine d.mono ?_);rintro e w2 ⟨rfl,h5⟩;have hq1:=(HC.out _ h5.out).1;have hq2:=(HC.out _ h5.out).2)
        | (go_at_call 28;(with_reducible refine (c28.out _ h5.out).mono ?_);rintro e w4 ⟨rfl,rfl⟩))
       go_roundg (n-(k+1))
       case measure=>omega
       case rel=>
        have:=HM.out _ h5.out
        rwa [show ((k+1:Nat):Int)=(k:Int)+1 by omega] at this
  · obtain rfl:k=n:=by omega
    have HE:Hid (ApO w (cmpL κ pr s) (.returned (.slice A2 L c2)) wr):=by
     obtain⟨h1,h2,h3⟩:=HI.out
     have e:S.all=cmpL κ pr s:=coS_end (by rw [HL.out];exact h1)
     have el:=h1.len
     rw [e] at el h2
     exact⟨A2,c2,by rw [el],h3,by rw [el];exact h2⟩
    have hb9:decide (k<k)=false:=decide_eq_false hlt
    clear HI
    go_wp2
    go_ret
    exact HE.out
end Go.Proofs.YtbkgbhlmeeodgaaGreatDoor
