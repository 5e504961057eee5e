/- A part. -/
import Derived.Test.YtbkgbhlmeeodgaaGreatDoorQc43
namespace Go.Proofs.YtbkgbhlmeeodgaaGreatDoor
open Go.RowKit Go.Sort Go.Shelf Go.Lib
section
variable {k:Int→Int}
theorem blk_two {s:Nat} {l:List Int} (h:Blk k s l) (hl:2*s≤l.length):∃ A B C:List Int,l=A++(B++C)∧A.length=s∧B.length=s∧Srt k A∧Srt k B∧Blk k s C:=by
 have h1:Blk k s (l.drop s):=by have:=blk_drop (q:=1) h;rwa [Nat.one_mul] at this
 have h2:Blk k s ((l.drop s).drop s):=by have:=blk_drop (q:=1) h1;rwa [Nat.one_mul] at this
 exact⟨l.take s,(l.drop s).take s,(l.drop s).drop s,by rw [List.take_append_drop,List.take_append_drop],by rw [List.length_take];omega,by rw [List.length_take,List.length_drop];omega,blk_head h,blk_head h1,h2⟩
theorem blk_last {s:Nat} {l:List Int} (h:Blk k s l) (h1:s<l.length) (h2:l.length<2*s):∃ A B:List Int,l=A++B∧A.length=s∧0<B.length∧Srt k A∧Srt k B:=by
 have h3:Blk k s (l.drop s):=by have:=blk_drop (q:=1) h;rwa [Nat.one_mul] at this
 exact⟨l.take s,l.drop s,(List.take_append_drop _ _).symm,by rw [List.length_take];omega,by rw [List.length_drop];omega,blk_head h,blk_one h3 (by rw [List.length_drop];omega)⟩
theorem cl_mid {L D A R C:List Int} (h:Cl k L (D++(A++C))) (g:Cl k A R):Cl k L (D++R++C):=by
 refine h.trans ?_
 rw [List.append_assoc]
 exact (Cl.refl D).app (g.app (Cl.refl C))
theorem splitLen (l:List Int) (n:Nat) (h:n≤l.length):∃ A B:List Int,l=A++B∧A.length=n:=⟨l.take n,l.drop n,(List.take_append_drop _ _).symm,by rw [List.length_take];omega⟩
end
theorem symMerge114 {κ:Int→Int} {w0:World} {blk off:Nat} {d0:Array Int} (cap:Nat) (R:RowK (mrkV κ) 2 w0 blk off d0) (hC:CmpLays Tryz.prog 74 #[] (mrkV κ) 2 (cfK κ) blk off d0.size w0) (hsz:d0.size<1000000000):∀ (g:Nat) (X U V Y:List Int) (a m b:Nat) (w:World),b-a≤g→(X++U++V++Y).length=d0.size→a=X.length→m=a+U.length→b=m+V.length→0<U.length→0<V.length→Srt κ U→Srt κ V→SWK (mrkV κ) 2 w0 blk off (X++U++V++Y).toArray w →
 Calls Tryz.prog 132 #[.slice (some ⟨blk,off,none⟩) d0.size cap,.int .i64 a,.int .i64 m,.int .i64 b,.func (.func 74) #[] #[]] w fun e w'=>e=.returned (.tuple #[])∧SymPost κ w0 blk off X U V Y w'
 | 0,X,U,V,Y,a,m,b,w,hg,hl,ha,hm,hb,hU,hV,sU,sV,S=>by omega
 | g+1,X,U,V,Y,a,m,b,w,hg,hl,ha,hm,hb,hU,hV,sU,sV,S=>by
  by_cases h1:U.length=1
  · match U,h1 with
    | [x],_=>exact sym_one cap R hC X V Y x a m b w hl ha hm hb hV sV hsz S
  · by_cases h2:V.length=1
    · match V,h2 with
      | [x],_=>exact sym_last cap R hC X U Y x a m b w hl ha hm hb (by omega) sU hsz S
    · exact sym_main cap R hC hsz X U V Y a m b hl ha hm hb (by omega) (by omega) sU sV (fun X U V Y a' m' b' w h=>symMerge114 cap R hC hsz g X U V Y a' m' b' w (by omega)) w S
def MgPost (κ:Int→Int) (w0:World) (blk off:Nat) (X U Y:List Int) (w:World):Prop:=∃ R,Mrg κ U R∧SWK (mrkV κ) 2 w0 blk off (X++R++Y).toArray w
theorem ins113 {κ:Int→Int} {w0:World} {blk off:Nat} {d0:Array Int} (cap:Nat) (R:RowK (mrkV κ) 2 w0 blk off d0) (hC:CmpLays Tryz.prog 74 #[] (mrkV κ) 2 (cfK κ) blk off d0.size w0) (hsz:d0.size<1000000000) (X U Y:List Int) (a b:Nat) (w:World) (hl:(X++U++Y).length=d0.size) (ha:a=X.length) (hb:b=a+U.length) (S:SWK (mrkV κ) 2 w0 blk off (X++U++Y).toArray w):
 Calls Tryz.prog 131 #[.slice (some ⟨blk,off,none⟩) d0.size cap,.int .i64 a,.int .i64 b,.func (.func 74) #[] #[]] w fun e w'=>e=.returned (.tuple #[])∧MgPost κ w0 blk off X U Y w':=by
 have hs:(X++U++Y).toArray.size=d0.size:=lst_size hl
 have hb2:b≤d0.size:=by rw [←hl];simp;omega
 have h:=AnyQ.insertionSortCmpFunc_w Tryz.insMk 2 Tryz.isAgg70 Tryz.sizeOf70 (mrkV κ) (cfK κ) 74 #[] blk off cap a b d0 (X++U++Y).toArray w0 w (enters_of Tryz.func74 (by kernel_rfl) rfl) hC R hs.symm S (by rw [ltOf_cfK];exact swo_k κ) (by omega) (by omega) (by omega)
 rw [hs] at h
 refine h.mono fun e w' ⟨he,hw⟩=>⟨he,?_⟩
 rw [ltOf_cfK] at hw
 obtain⟨Rr,e1,e2,e3,e4⟩:=insSort_list (k:=κ) X U Y a b ha (by omega)
 rw [e1] at hw
 exact⟨Rr,⟨e2,e3,e4⟩,hw⟩
structure StI (κ:Int→Int) (L:List Int) (N s1 s2 A:Nat) (D T:List Int):Prop where
 len:D.length+T.length=N
 at_:D.length=A
 q:∃ q,A=q*s1
 bd:Blk κ s1 D
 bt:s2=0∨Blk κ s2 T
 cl:Cl κ L (D++T)
set_option maxHeartbeats 16000000 in
set_option maxRecDepth 1000000 in
theorem stable90 {κ:Int→Int} {w0:World} {blk off:Nat} {d0:Array Int} (cap:Nat) (R:RowK (mrkV κ) 2 w0 blk off d0) (hC:CmpLays Tryz.prog 74 #[] (mrkV κ) 2 (cfK κ) blk off d0.size w0) (hsz:d0.size<1000000000) (L:List Int) (w:World) (hl:L.length=d0.size) (S:SWK (mrkV κ) 2 w0 blk off L.toArray w):
 Calls Tryz.prog 108 #[.slice (some ⟨blk,off,none⟩) d0.size cap,.int .i64 d0.size,.func (.func 74) #[] #[]] w fun e w'=>e=.returned (.tuple #[])∧MgPost κ w0 blk off [] L [] w':=by
 have CI:Hid (∀ (X U Y:List Int) (a b:Nat) (w:World),(X++U++Y).length=d0.size→a=X.length→b=a+U.length→Aside (SWK (mrkV κ) 2 w0 blk off (X++U++Y).toArray w)→Calls Tryz.prog 131 #[.slice (some ⟨blk,off,none⟩) d0.size cap,.int .i64 a,.int .i64 b,.func (.func 74) #[] #[]] w fun e w'=>e=.returned (.tuple #[])∧∃ R,Hid (Mrg κ U R)∧Aside (SWK (mrkV κ) 2 w0 blk off (X++R++Y).toArray w')):=fun X U Y a b w h1 h2 h3 h4=>(ins113 cap R hC hsz X U Y a b w h1 h2 h3 h4).mono fun e w' ⟨he,Rr,hM,hw⟩=>⟨he,Rr,hM,hw⟩
 have CM:Hid (∀ (X U V Y:List Int) (a m b:Nat) (w:World),(X++U++V++Y).length=d0.size→a=X.length→m=a+U.length→b=m+V.length→0<U.length→0<V.length→Srt κ U→Srt κ V→Aside (SWK (mrkV κ) 2 w0 blk off (X++U++V++Y).toArray w)→Calls Tryz.prog 132 #[.slice (some ⟨blk,off,none⟩) d0.size cap,.int .i64 a,.int .i64 m,.int .i64 b,.func (.func 74) #[] #[]] w fun e w'=>e=.returned (.tuple #[])∧∃ R,Hid (Mrg κ (U++V) R)∧Aside (SWK (mrkV κ) 2 w0 blk off (X++R++Y).toArray w')):=fun X U V Y a m b w h1 h2 h3 h4 h5 h6 h7 h8 h9=>(symMerge114 cap R hC hsz (b-a) X U V Y a m b w (Nat.le_refl _) h1 h2 h3 h4 h5 h6 h7 h8 h9).mono fun e w' ⟨he,Rr,hM,hw⟩=>⟨he,Rr,hM,hw⟩
 have HF:Hid (∀ (M:List Int) w',Srt κ M→Cl κ L M→M.length=d0.size→SWK (mrkV κ) 2 w0 blk off M.toArray w'→MgPost κ w0 blk off [] L [] w'):=fun M w' h1 h2 h3 h4=>⟨M,⟨by omega,h1,h2⟩,by rw [List.nil_append,List.append_nil];exact h4⟩
 have S0:Aside (SWK (mrkV κ) 2 w0 blk off L.toArray w):=S
 obtain⟨N,hN⟩:∃ N,d0.size=N:=⟨_,rfl⟩
 have HN:=Lib.hid hN
 rw [hN] at CI CM HF hsz hl ⊢
 have HL:Hid (StI κ L N 20 0 0 [] L):=⟨by simpa using hl,rfl,⟨0,rfl⟩,blk_nil _,.inl rfl,Cl.refl _⟩
 clear hC S hl R hN
 go_enter Tryz.func108,Tryz.ntmps108
 go_wp2
 go_loopg [7,8] N (fun kx s7 s8 wr=>∃ (A:Nat) (D T:List Int),s7=.int .i64 A∧s8=.int .i64 (A+20:Nat)∧A≤N∧N-A≤kx∧Hid (StI κ L N 20 0 A D T)∧Aside (SWK (mrkV κ) 2 w0 blk off (D++T).toArray wr))
 case atStart=>exact⟨0,[],L,rfl,rfl,Nat.zero_le _,by omega,HL,S0⟩
 case round=>
  clear S0 HL
  obtain⟨A,D,T,rfl,rfl,hAN,hkx,HI,S1⟩:=hrel
  by_cases hlt:A+20≤N
  · have hb:decide (A+20≤N)=true:=decide_eq_true hlt
    have hz:((A+20:Nat):Int)≤(N:Int):=by omega
    obtain⟨T1,T2,hT,hT1⟩:=splitLen T 20 (by have h1:=HI.out.len;have h2:=HI.out.at_;omega)
    have hlen:(D++T1++T2).length=N:=by have h1:=HI.out.len;rw [hT,List.length_append] at h1;simp only [List.length_append];omega
    have c:=CI.out D T1 T2 A (A+20) wr hlen HI.out.at_.symm (by omega) (by rw [List.append_assoc,←hT];exact S1)
    rw [show ((A+20:Nat):Int)=(A:Int)+20 by omega] at c
    have HN2:Hid (∀ R,Mrg κ T1 R→StI κ L N 20 0 (A+20) (D++R) T2):=fun R hM=>by
     obtain⟨i1,i2,⟨q,i3⟩,i4,i5,i6⟩:=HI.out
     rw [hT,List.length_append] at i1
     refine⟨by rw [List.length_append,hM.1];omega,by rw [List.length_append,hM.1];omega,⟨q+1,by omega⟩,blk_snoc i4 (i2.trans i3) hM.2.1 (by rw [hM.1];omega),.inl rfl,?_⟩
     rw [hT] at i6
     exact cl_mid i6 hM.2.2
    clear hT hT1 hlen S1 HI
    go_wp2_with (go_at_call 131;(with_reducible refine c.mono ?_);rintro e w2 ⟨rfl,Rr,HM,S2⟩)
    go_roundg (N-(A+20))
    case measure=>omega
    case rel=>exact⟨A+20,D++Rr,T2,rfl,by go_num,hlt,Nat.le_refl _,HN2.out Rr HM.out,S2⟩
  · have hb:decide (A+20≤N)=false:=decide_eq_false hlt
    have hz:¬((A+20:Nat):Int)≤(N:Int):=by omega
    have hlen:(D++T ++ []).length=N:=by have h1:=HI.out.len;simp only [List.length_append,List.length_nil];omega
    have c:=CI.out D T [] A N wr hlen HI.out.at_.symm (by have h1:=HI.out.len;have h2:=HI.out.at_;omega) (by rw [List.append_nil];exact S1)
    have HN2:Hid (∀ R,Mrg κ T R→(D++R ++ []).length=N∧Blk κ 20 (D++R ++ [])∧Cl κ L (D++R ++ [])):=fun R hM=>by
     obtain⟨i1,i2,⟨q,i3⟩,i4,i5,i6⟩:=HI.out
     rw [List.append_nil]
     refine⟨by rw [List.length_append,hM.1];omega,blk_snoc i4 (i2.trans i3) hM.2.1 (by rw [hM.1];omega),?_⟩
     have:=cl_mid (C:=[]) (by rw [List.append_nil];exact i6) hM.2.2
     rwa [List.append_nil] at this
    clear hlen S1 HI
    go_wp2_with (go_at_call 131;(with_reducible refine c.mono ?_);rintro e w2 ⟨rfl,Rr,HM,S2⟩)
    have HQ:=Lib.hid (HN2.out Rr HM.out)
    obtain⟨M,hM⟩:∃ M,D++Rr ++ []=M:=⟨_,rfl⟩
    rw [hM] at HQ S2
    clear hM HN2 HM c CI hkx hlt hb hz
    go_loopg [6] N (fun kx s6 wr=>∃ (s:Nat) (M:List Int),s6=.int .i64 s∧20≤s∧s≤2*N+20∧N-s≤kx∧Hid (M.length=N∧Blk κ s M∧Cl κ L M)∧Aside (SWK (mrkV κ) 2 w0 blk off M.toArray wr))
    case atStart=>exact⟨20,M,rfl,Nat.le_refl _,by omega,by omega,HQ,S2⟩
    case round=>
     clear S2 HQ
     obtain⟨s,M,rfl,hs20,hsN,hkx,HQ,S2⟩:=hrel
     by_cases hlt:s<N
     · have hb:decide (s<N)=true:=decide_eq_true hlt
       have hz:(s:Int)<(N:Int):=by omega
       have HI0:Hid (StI κ L N (2*s) s 0 [] M):=⟨by simpa using HQ.out.1,rfl,⟨0,by omega⟩,blk_nil _,.inr HQ.out.2.1,HQ.out.2.2⟩
       clear HQ
       go_wp2
       go_loopg [7,8] N (fun ky s7 s8 wr=>∃ (A:Nat) (D T:List Int),s7=.int .i64 A∧s8=.int .i64 (A+2*s:Nat)∧A≤N∧N-A≤ky∧Hid (StI κ L N (2*s) s A D T)∧Aside (SWK (mrkV κ) 2 w0 blk off (D++T).toArray wr))
       case atStart=>exact⟨0,[],M,rfl,by go_num,Nat.zero_le _,by omega,HI0,S2⟩
       case round=>
        clear S2 HI0
        obtain⟨A,D,T,rfl,rfl,hAN,hky,HI,S1⟩:=hrel
        by_cases hlt2:A+2*s≤N
        · have hb2:decide (A+2*s≤N)=true:=decide_eq_true hlt2
          have hz2:((A+2*s:Nat):Int)≤(N:Int):=by omega
          obtain⟨T1,T2,T3,hT,hT1,hT2,q1,q2,q3⟩:=blk_two (HI.out.bt.resolve_left (by omega)) (by have h1:=HI.out.len;have h2:=HI.out.at_;omega)
          have hlen:(D++T1++T2++T3).length=N:=by have h1:=HI.out.len;rw [hT,List.length_append,List.length_append] at h1;simp only [List.length_append];omega
          have c:=CM.out D T1 T2 T3 A (A+s) (A+2*s) wr hlen HI.out.at_.symm (by omega) (by omega) (by omega) (by omega) q1 q2 (by rw [show D++T1++T2++T3=D++T by rw [hT];simp only [List.append_assoc]];exact S1)
          rw [show ((A+2*s:Nat):Int)=(A:Int)+2*(s:Int) by omega,show ((A+s:Nat):Int)=(A:Int)+(s:Int) by omega] at c
          have HN2:Hid (∀ R,Mrg κ (T1++T2) R→StI κ L N (2*s) s (A+2*s) (D++R) T3):=fun R hM=>by
           obtain⟨i1,i2,⟨q,i3⟩,i4,i5,i6⟩:=HI.out
           have hR:=hM.1
           rw [hT,List.length_append,List.length_append] at i1
           rw [List.length_append] at hR
           refine⟨by rw [List.length_append];omega,by rw [List.length_append];omega,⟨q+1,by rw [Nat.add_mul,Nat.one_mul];omega⟩,blk_snoc i4 (i2.trans i3) hM.2.1 (by omega),.inr q3,?_⟩
           rw [hT,←List.append_assoc T1] at i6
           exact cl_mid i6 hM.2.2
          clear hT hT1 hT2 hlen S1 HI q1 q2 q3
          go_wp2_with (go_at_call 132;(with_reducible refine c.mono ?_);rintro e w2 ⟨rfl,Rr,HM,S3⟩)
          go_roundg (N-(A+2*s))
          case measure=>omega
          case rel=>exact⟨A+2*s,D++Rr,T3,by go_num,by go_num,hlt2,Nat.le_refl _,HN2.out Rr HM.out,S3⟩
        · have hb2:decide (A+2*s≤N)=false:=decide_eq_false hlt2
          have hz2:¬((A+2*s:Nat):Int)≤(N:Int):=by omega
          by_cases hlt3:A+s<N
          · have hb3:decide (A+s<N)=true:=decide_eq_true hlt3
            have hz3:(A:Int)+(s:Int)<(N:Int):=by omega
            obtain⟨T1,T2,hT,hT1,hT2,q1,q2⟩:=blk_last (HI.out.bt.resolve_left (by omega)) (by have h1:=HI.out.len;have h2:=HI.out.at_;omega) (by have h1:=HI.out.len;have h2:=HI.out.at_;omega)
            have hlen:(D++T1++T2 ++ []).length=N:=by have h1:=HI.out.len;rw [hT,List.length_append] at h1;simp only [List.length_append,List.length_nil];omega
            have c:=CM.out D T1 T2 [] A (A+s) N wr hlen HI.out.at_.symm (by omega) (by have h1:=HI.out.len;have h2:=HI.out.at_;rw [hT,List.length_append] at h1;omega) (by omega) (by omega) q1 q2 (by rw [show D++T1++T2 ++ []=D++T by rw [hT];simp only [List.append_assoc,List.append_nil]];exact S1)
            rw [show ((A+s:Nat):Int)=(A:Int)+(s:Int) by omega] at c
            have HN2:Hid (∀ R,Mrg κ (T1++T2) R→(D++R ++ []).length=N∧Blk κ (s*2) (D++R ++ [])∧Cl κ L (D++R ++ [])):=fun R hM=>by
             obtain⟨i1,i2,⟨q,i3⟩,i4,i5,i6⟩:=HI.out
             have hR:=hM.1
             rw [hT,List.length_append] at i1
             rw [List.length_append] at hR
             rw [List.append_nil,Nat.mul_comm s 2]
             refine⟨by rw [List.length_append];omega,blk_snoc i4 (i2.trans i3) hM.2.1 (by omega),?_⟩
             have:=cl_mid (C:=[]) (by rw [List.append_nil,←hT];exact i6) hM.2.2
             rwa [List.append_nil] at this
            clear hT hT1 hT2 hlen S1 HI q1 q2
            go_wp2_with (go_at_call 132;(with_reducible refine c.mono ?_);rintro e w2 ⟨rfl,Rr,HM,S3⟩)
            go_roundg (N-s*2)
            case measure=>omega
            case rel=>exact⟨s*2,_,by go_num,by omega,by omega,Nat.le_refl _,HN2.out Rr HM.out,S3⟩
          · have hb3:decide (A+s<N)=false:=decide_eq_false hlt3
            have hz3:¬(A:Int)+(s:Int)<(N:Int):=by omega
            have HN2:Hid ((D++T).length=N∧Blk κ (s*2) (D++T)∧Cl κ L (D++T)):=by
             obtain⟨i1,i2,⟨q,i3⟩,i4,i5,i6⟩:=HI.out
             show _∧_∧_
             rw [Nat.mul_comm s 2]
             exact⟨by rw [List.length_append];exact i1,blk_snoc i4 (i2.trans i3) (blk_one (i5.resolve_left (by omega)) (by omega)) (by omega),i6⟩
            clear HI
            go_wp2
            go_roundg (N-s*2)
            case measure=>omega
            case rel=>exact⟨s*2,D++T,by go_num,by omega,by omega,Nat.le_refl _,HN2,S1⟩
     · have hb:decide (s<N)=false:=decide_eq_false hlt
       have hz:¬(s:Int)<(N:Int):=by omega
       go_wp2
       go_end0
       exact⟨rfl,HF.out M _ (blk_one HQ.out.2.1 (by have:=HQ.out.1;omega)) HQ.out.2.2 HQ.out.1 S2.out⟩
set_option maxHeartbeats 4000000 in
theorem sortStable59 {κ:Int→Int} {w0:World} {blk off:Nat} {d0:Array Int} (cap:Nat) (R:RowK (mrkV κ) 2 w0 blk off d0) (hC:CmpLays Tryz.prog 74 #[] (mrkV κ) 2 (cfK κ) blk off d0.size w0) (hsz:d0.size<1000000000) (L:List Int) (w:World) (hl:L.length=d0.size) (S:SWK (mrkV κ) 2 w0 blk off L.toArray w):
 Calls Tryz.prog 73 #[.slice (some ⟨blk,off,none⟩) d0.size cap,.func (.func 74) #[] #[]] w fun e w'=>e=.returned (.tuple #[])∧MgPost κ w0 blk off [] L [] w':=by
 have c:=stable90 cap R hC hsz L w hl S
 obtain⟨N,hN⟩:∃ N,d0.size=N:=⟨_,rfl⟩
 rw [hN] at c ⊢
 clear hC S hl R hN hsz
 go_enter Tryz.func73,Tryz.ntmps73
 go_wp2_with (go_at_call 108;(with_reducible refine c.mono ?_);rintro e w2 ⟨rfl,h2⟩)
 go_end0
 exact⟨rfl,h2⟩
end Go.Proofs.YtbkgbhlmeeodgaaGreatDoor
namespace Go.Proofs.YtbkgbhlmeeodgaaGreatDoor
open Go.RowKit Go.Shelf Go.Sort
def DdR (w:World) (b:Nat) (ps:List Uc.Pr):Prop:=∃ p,w.cell? ⟨b,0,none⟩=some (.pointer p)∧TbR w p ps
theorem DdR.below {w w':World} {b:Nat} {ps:List Uc.Pr} (h:DdR w b ps) (hb:Below w.heap.size w w'):DdR w' b ps:=by
 obtain⟨p,h1,h2⟩:=h
 exact⟨p,(hb.cell (p:=⟨b,0,none⟩) (World.block_lt_of_cell? w _ h1)).trans h1,h2.below hb⟩
def mks (κ:Int→Int) (s:List Int):List Value:=s.flatMap (mrkV κ)
theorem mks_app (κ:Int→Int) (a b:List Int):mks κ (a++b)=mks κ a++mks κ b:=List.flatMap_append
theorem mks_at (κ:Int→Int):∀ (s:List Int) (i:Nat) (x:Int),s[i]? = some x→(mks κ s)[i*2]? = some (.int .i64 x)∧(mks κ s)[i*2+1]? = some (.int .i64 (κ x))
 | y::s,0,x,h=>by cases h;exact⟨rfl,rfl⟩
 | y::s,i+1,x,h=>by
  have:=mks_at κ s i x h
  have e:mks κ (y::s)=.int .i64 y :: .int .i64 (κ y)::mks κ s:=rfl
  rw [e,show (i+1)*2=i*2+1+1 by omega,show i*2+1+1+1=(i*2+1)+1+1 by omega]
  exact this
theorem infoM:(Tryz.prog.info? 70).map (fun i=>(i.zero,i.size,i.bytes))=some (some (.agg #[.int .i64 0,.int .i64 0]),2,16):=by kernel_rfl
theorem infoM':∃ i,Tryz.prog.info? 70=some i∧i.zero=some (.agg #[.int .i64 0,.int .i64 0])∧i.size=2∧i.bytes=16:=by
 cases h:Tryz.prog.info? 70 with
 | none=>have:=infoM;rw [h] at this;cases this
 | some i=>
  have:=infoM
  rw [h] at this
  injection this with this
  injection this with h1 h2
  injection h2 with h2 h3
  exact⟨i,rfl,h1,h2,h3⟩
def MkO (w:World) (κ:Int→Int) (s:List Int) (e:Ending) (w':World):Prop:=∃ g c,e=.returned (.slice (some ⟨g,0,none⟩) s.length c)∧Hid (Below w.heap.size w w'∧w'.ownsRow w.heap.size 70 2 (.slice (some ⟨g,0,none⟩) s.length c) s.length (mks κ s))
theorem own_valsM {w:World} {base n:Nat} {v:Value} {vs:List Value} (h:w.ownsRow base 70 2 v (n+1) vs):∃ g c,v=.slice (some ⟨g,0,none⟩) (n+1) c:=by
 rcases h.2 with ⟨_,h⟩ | ⟨g,cap,cur,rfl,-⟩
 · omega
 · exact⟨_,cap,rfl⟩
def MksI (κ:Int→Int) (s:List Int) (w:World) (kx:Nat) (s5 s13:Value) (wr:World):Prop:=
 ∃ (g c k:Nat),s5=.slice (some ⟨g,0,none⟩) k c∧s13=.int .i64 k∧k≤s.length∧s.length-k≤kx∧Hid (Below w.heap.size w wr∧wr.ownsRow w.heap.size 70 2 (.slice (some ⟨g,0,none⟩) k c) k (mks κ (s.take k)))
set_option maxRecDepth 100000 in
set_option maxHeartbeats 4000000 in
theorem marksOf32 (p:Option Addr) (ps:List Uc.Pr) (A:Option Addr) (n c:Nat) (s:List Int) (w:World) (hT:TbR w p ps) (hF:Fit ps) (hs:Vals w A n (nums .i64 s)) (hn:n≤100000):
 Calls Tryz.prog 43 #[.slice A n c,.func (.func 26) #[.pointer p] #[]] w (MkO w (kc ps) s):=by
 have hl:s.length=n:=by have:=hs.1;rwa [nlen] at this
 have C25:Hid (∀ W z,Below w.heap.size w W→Calls Tryz.prog 26 #[.pointer p,.int .i64 z] W fun e w'=>e=.returned (.int .i64 (kc ps z))∧Hid (Below W.heap.size W w')):=fun W z hb=>ccc25 p ps z W (hT.below hb) hF
 have HV:=Lib.hid hs
 obtain⟨κ,hκ⟩:∃ κ,kc ps = κ:=⟨_,rfl⟩
 rw [hκ] at C25 ⊢
 have HL:=Lib.hid hl
 obtain⟨i0,hi,hz0,hz1,hz2⟩:=infoM'
 clear hT hF hs hκ hl
 go_enter Tryz.func43,Tryz.ntmps43
 go_wp2_with (at_make;refine wpList_make_own _ rfl _ _ 67 rfl w.heap.size 70 i0 _ 2 Tryz.underlying67 hi hz0 hz1 _ _ _ n rfl rfl rfl (by rw [hz2];omega) (by unfold maxLen;omega) (Nat.le_refl _) ?_;intro w1 h1 h2;have H0:Hid (w1.ownsRow w.heap.size 70 2 (.slice (some ⟨w.heap.size,0,none⟩) 0 n) 0 []∧Below w.heap.size w w1):=⟨h1,(Below.refl _ _).grown h2 (Nat.le_refl _) (fun k hk=>by cases hk)⟩;clear h1 h2)
 go_loopg [5,13] n (fun kx s5 s13 wr=>MksI κ s w kx s5 s13 wr)
 case atStart=>exact⟨_,_,0,rfl,rfl,Nat.zero_le _,by have:=HL.out;omega,H0.out.2,by simpa [mks] using H0.out.1⟩
 case round=>
  clear H0
  obtain⟨A2,c2,k,rfl,rfl,hk,hkx,HI⟩:=hrel
  rw [HL.out] at hk hkx
  by_cases hlt:k<n
  · obtain⟨hI1,hI2⟩:=HI.out
    obtain⟨x,hx⟩:∃ x,s[k]? = some x:=⟨_,List.getElem?_eq_getElem (by have:=HL.out;omega)⟩
    obtain⟨b,off,rfl,hbl,hc⟩:=(HV.out.below hI1).2 (by omega)
    have hcx:wr.cell? ⟨b,off+k,none⟩=some (.int .i64 x):=hc k _ (by unfold nums;rw [List.getElem?_map,hx];rfl)
    have d:=C25.out wr x hI1
    have HN:Hid (∀ w2,Below wr.heap.size wr w2→w2.ownsRow w.heap.size 70 2 (.slice (some ⟨A2,0,none⟩) k c2) k (mks κ (s.take k))):=fun w2 hb=>own_below hI2 hb (Nat.le_refl _)
    have HE:Hid (∀ w2 w3 v',Below wr.heap.size wr w2→Grew w.heap.size w2 w3→w3.ownsRow w.heap.size 70 2 v' (k+1) (mks κ (s.take k) ++ [.int .i64 x,.int .i64 (κ x)])→∃ A' c',v'=.slice (some ⟨A',0,none⟩) (k+1) c'∧Hid (MksI κ s w (n-(k+1)) (.slice (some ⟨A',0,none⟩) (k+1) c') (.int .i64 (k+1:Nat)) w3)):=fun w2 w3 v' hb hg ho=>by
     obtain⟨A',c',rfl⟩:=own_valsM ho
     refine⟨A',c',rfl,A',c',k+1,rfl,rfl,by have:=HL.out;omega,by have:=HL.out;omega,hg _ _ (hI1.trans (hb.mono hI1.size)) (Nat.le_refl _),?_⟩
     rw [List.take_add_one,hx,mks_app]
     exact ho
    have hbs:Hid (w.heap.size≤wr.heap.size):=hI1.size
    have hb9:decide (k<n)=true:=decide_eq_true hlt
    generalize κ x=y at d HE
    clear hc hx HI hI1 hI2 hbl
    go_wp2_with (first
     | (go_at_call 26;(with_reducible refine d.mono ?_);rintro e w2 ⟨rfl,h5⟩)
     | (at_builtin;refine append_lit rfl _ _ 67 rfl w.heap.size 70 i0 _ 2 16 Tryz.underlying67 hi hz0 hz1 hz2 rfl (by decide) _ k _ rfl (HN.out _ h5.out) _ rfl (fun u hu=>by simp at hu;rcases hu with rfl | rfl <;> rfl) rfl (by unfold maxLen;omega) (by omega) (Nat.le_trans hbs.out h5.out.size) ?_;intro v' w3 h6 h7;obtain⟨A',c',rfl,h8⟩:=HE.out _ w3 v' h5.out h7 h6;clear h6 h7))
    go_roundg (n-(k+1))
    case measure=>omega
    case rel=>
     have:=h8.out
     rwa [show ((k+1:Nat):Int)=(k:Int)+1 by omega] at this
  · obtain rfl:k=n:=by omega
    have HE:Hid (MkO w κ s (.returned (.slice (some ⟨A2,0,none⟩) k c2)) wr):=by
     obtain⟨h1,h2⟩:=HI.out
     rw [List.take_of_length_le (by have:=HL.out;omega)] at h2
     exact⟨A2,c2,by rw [HL.out],h1,by rw [HL.out];exact h2⟩
    have hb9:decide (k<k)=false:=decide_eq_false hlt
    clear HI
    go_wp2
    go_ret
    exact HE.out
def MAt (w:World) (κ:Int→Int) (A:Option Addr) (s:List Int):Prop:=0<s.length→∃ b off,A=some ⟨b,off,none⟩∧b<w.heap.size∧∀ j x,s[j]? = some x→w.cell? ⟨b,off+j*2,none⟩=some (.int .i64 x)∧w.cell? ⟨b,off+j*2+1,none⟩=some (.int .i64 (κ x))
def PoI (s:List Int) (w:World) (kx:Nat) (s3 s11:Value) (wr:World):Prop:=
 ∃ (A:Option Addr) (c k:Nat),s3=.slice A k c∧s11=.int .i64 k∧k≤s.length∧s.length-k≤kx∧Hid (Below w.heap.size w wr∧wr.ownsRow w.heap.size 3 1 (.slice A k c) k (nums .i64 (s.take k)))
set_option maxRecDepth 100000 in
set_option maxHeartbeats 4000000 in
theorem pointsOf34 (κ:Int→Int) (A:Option Addr) (c:Nat) (s:List Int) (w:World) (hs:MAt w κ A s) (hn:s.length≤100000):Calls Tryz.prog 45 #[.slice A s.length c] w (ApO w s):=by
 have HS:=Lib.hid hs
 obtain⟨n,hl⟩:∃ n,s.length=n:=⟨_,rfl⟩
 have HL:=Lib.hid hl
 rw [hl] at hn ⊢
 obtain⟨i0,hi,hz0,hz1,hz2⟩:=infoI'
 clear hs hl
 go_enter Tryz.func45,Tryz.ntmps45
 go_wp2_with (at_make;refine wpList_make_own _ rfl _ _ 25 rfl w.heap.size 3 i0 _ 1 Tryz.underlying25 hi hz0 hz1 _ _ _ n rfl rfl rfl (by rw [hz2];omega) (by unfold maxLen;omega) (Nat.le_refl _) ?_;intro w1 h1 h2;have H0:Hid (w1.ownsRow w.heap.size 3 1 (.slice (some ⟨w.heap.size,0,none⟩) 0 n) 0 []∧Below w.heap.size w w1):=⟨h1,(Below.refl _ _).grown h2 (Nat.le_refl _) (fun k hk=>by cases hk)⟩;clear h1 h2)
 go_loopg [3,11] n (fun kx s3 s11 wr=>PoI s w kx s3 s11 wr)
 case atStart=>exact⟨_,_,0,rfl,rfl,Nat.zero_le _,by have:=HL.out;omega,H0.out.2,by simpa [nums] using H0.out.1⟩
 case round=>
  clear H0
  obtain⟨A2,c2,k,rfl,rfl,hk,hkx,HI⟩:=hrel
  rw [HL.out] at hk hkx
  by_cases hlt:k<n
  · obtain⟨hI1,hI2⟩:=HI.out
    obtain⟨x,hx⟩:∃ x,s[k]? = some x:=⟨_,List.getElem?_eq_getElem (by have:=HL.out;omega)⟩
    obtain⟨b,off,rfl,hbl,hc⟩:=HS.out (by have:=HL.out;omega)
    obtain⟨q1,q2⟩:=hc k x hx
    have q1:wr.cell? ⟨b,off+k*2,none⟩=some (.int .i64 x):=(hI1.cell (p:=⟨b,off+k*2,none⟩) hbl).trans q1
    have q2:wr.cell? ⟨b,off+k*2+1,none⟩=some (.int .i64 (κ x)):=(hI1.cell (p:=⟨b,off+k*2+1,none⟩) hbl).trans q2
    have hbs:Hid (w.heap.size≤wr.heap.size):=hI1.size
    have HN:Hid (∀ o,(wr.alloc o).ownsRow w.heap.size 3 1 (.slice A2 k c2) k (nums .i64 (s.take k))):=fun o=>own_below hI2 ((Below.refl _ _).alloc (Nat.le_refl _) o) (Nat.le_refl _)
    have HE:Hid (∀ w2 w3 v',Below wr.heap.size wr w2→Grew w.heap.size w2 w3→w3.ownsRow w.heap.size 3 1 v' (k+1) (nums .i64 (s.take k) ++ [.int .i64 x])→∃ A' c',v'=.slice A' (k+1) c'∧Hid (PoI s w (n-(k+1)) (.slice A' (k+1) c') (.int .i64 (k+1:Nat)) w3)):=fun w2 w3 v' hb hg ho=>by
     obtain⟨A',c',rfl,-⟩:=own_vals ho
     refine⟨A',c',rfl,A',c',k+1,rfl,rfl,by have:=HL.out;omega,by have:=HL.out;omega,hg _ _ (hI1.trans (hb.mono hI1.size)) (Nat.le_refl _),?_⟩
     rw [List.take_add_one,hx,napp]
     exact ho
    have hb9:decide (k<n)=true:=decide_eq_true hlt
    generalize κ x=y at q2
    have HB:Hid (∀ o,Below wr.heap.size wr (wr.alloc o)):=fun o=>(Below.refl _ _).alloc (Nat.le_refl _) o
    clear hc hx HI hI1 hI2 hbl
    go_wp2_with (at_builtin;refine append_lit rfl _ _ 25 rfl w.heap.size 3 i0 _ 1 8 Tryz.underlying25 hi hz0 hz1 hz2 rfl (by decide) _ k _ rfl (HN.out _) _ rfl (fun u hu=>by simp at hu;subst hu;rfl) (by rw [World.size_alloc];rfl) (by unfold maxLen;omega) (by omega) (by rw [World.size_alloc];exact Nat.le_succ_of_le hbs.out) ?_;intro v' w3 h6 h7;obtain⟨A',c',rfl,h8⟩:=HE.out _ w3 v' (HB.out _) h7 h6;clear h6 h7)
    go_roundg (n-(k+1))
    case measure=>omega
    case rel=>
     have:=h8.out
     rwa [show ((k+1:Nat):Int)=(k:Int)+1 by omega] at this
  · obtain rfl:k=n:=by omega
    have HE:Hid (ApO w s (.returned (.slice A2 k c2)) wr):=by
     obtain⟨h1,h2⟩:=HI.out
     rw [List.take_of_length_le (by have:=HL.out;omega)] at h2
     exact⟨A2,c2,by rw [HL.out],h1,by rw [HL.out];exact h2⟩
    have hb9:decide (k<k)=false:=decide_eq_false hlt
    clear HI
    go_wp2
    go_ret
    exact HE.out
theorem own_holds {w:World} {κ:Int→Int} {base g n c:Nat} {s:List Int} (ho:w.ownsRow base 70 2 (.slice (some ⟨g,0,none⟩) n c) n (mks κ s)):HoldsK (mrkV κ) 2 w g 0 s.toArray:=by
 have hfz:∀ j,w.frozen? ⟨g,j,none⟩=false:=by
  intro j
  rcases ho.2 with ⟨h,_⟩ | ⟨g',cap,cur,h,_,hg,_⟩
  · cases h
  · cases h
    simp only [World.frozen?]
    rw [hg]
    simp
 intro j hj
 refine⟨?_,hfz _⟩
 rw [size_flatK,List.size_toArray] at hj
 have hq:j/2<s.length:=by omega
 have hx:s[j/2]? = some s[j/2]:=List.getElem?_eq_getElem hq
 have hm:=mks_at κ s (j/2) _ hx
 rw [get_flatK _ _ _ _ (by simpa using hj),arr_get s (j/2) _ hx]
 rcases (by omega:j%2=0∨j%2=1) with h | h
 · have hc:=ho.cells (g:=g) rfl (j/2*2) _ hm.1
   rw [add_at,show 0+j/2*2=0+j by omega] at hc
   rw [hc,h];rfl
 · have hc:=ho.cells (g:=g) rfl (j/2*2+1) _ hm.2
   rw [add_at,show 0+(j/2*2+1)=0+j by omega] at hc
   rw [hc,h];rfl
theorem holds_part {w:World} {κ:Int→Int} {g off:Nat} {A B C:List Int} (h:HoldsK (mrkV κ) 2 w g off (A++B++C).toArray):HoldsK (mrkV κ) 2 w g (off+A.length*2) B.toArray:=by
 intro j hj
 rw [size_flatK,List.size_toArray] at hj
 have h1:=h (A.length*2+j) (by rw [size_flatK,List.size_toArray,List.length_append,List.length_append];omega)
 rw [show off+(A.length*2+j)=off+A.length*2+j by omega] at h1
 refine⟨h1.1.trans ?_,h1.2⟩
 have hq:j/2<B.length:=by omega
 rw [get_flatK _ _ _ _ (by simp;omega),get_flatK _ _ _ _ (by simpa using hj),show (A.length*2+j)/2=A.length+j/2 by omega,show (A.length*2+j)%2=j%2 by omega,
  arr_get B (j/2) _ (List.getElem?_eq_getElem hq),arr_get (A++B++C) (A.length+j/2) B[j/2] (by rw [List.append_assoc,List.getElem?_append_right (by omega),List.getElem?_append_left (by omega),show A.length+j/2-A.length=j/2 by omega];exact List.getElem?_eq_getElem hq)]
theorem mat_of {w:World} {κ:Int→Int} {g off:Nat} {s:List Int} (h:HoldsK (mrkV κ) 2 w g off s.toArray) (hg:g<w.heap.size):MAt w κ (some ⟨g,off,none⟩) s:=fun _=>⟨g,off,rfl,hg,fun j x hj=>by
 have:=mk_cells h (i:=j) (by simpa using (List.getElem?_eq_some_iff.1 hj).1)
 rw [arr_get s j x hj] at this
 exact this⟩
theorem rowK_m {w:World} {κ:Int→Int} {blk off:Nat} {d:Array Int} (h:HoldsK (mrkV κ) 2 w blk off d) (hb:blk<w.heap.size):RowK (mrkV κ) 2 w blk off d:=⟨fun _=>rfl,mkV_one κ,h,hb⟩
theorem below_sortM {w:World} {κ:Int→Int} {B g off n:Nat} {d:Array Int} {os:Array Obj} (hg:g<w.heap.size) (hB:B≤g):Below B w (sortWorldK (mrkV κ) 2 w g off n d os):=by
 refine⟨rfl,rfl,rfl,size_sortWorldK_c (mrkV κ) 2 w g off n d os,fun k hk=>?_⟩
 unfold sortWorldK putRowK putRow
 rw [heap_grow_old _ _ (by simp [mapBlock];omega)]
 simp [mapBlock,Array.getElem?_modify,show ¬g=k by omega]
theorem sorted_rest {w w':World} {κ:Int→Int} {g off:Nat} {A B B' C:List Int} (h:HoldsK (mrkV κ) 2 w g off (A++B++C).toArray) (hl:B'.length=B.length) (hg:g<w.heap.size) (S:SWK (mrkV κ) 2 w g (off+A.length*2) B'.toArray w'):
 HoldsK (mrkV κ) 2 w' g off (A++B'++C).toArray∧g<w'.heap.size∧∀ K,K≤g→Below K w w':=by
 have hp:=holds_part h
 have hB:=S.holds hg hp (by simpa using hl)
 obtain⟨n,os,rfl⟩:=S
 have hsz:=size_sortWorldK_c (mrkV κ) 2 w g (off+A.length*2) n B'.toArray os
 refine⟨fun j hj=>?_,Nat.lt_of_lt_of_le hg hsz,fun K hK=>below_sortM hg hK⟩
 rw [size_flatK,List.size_toArray,List.length_append,List.length_append] at hj
 have hlt:g<(putRowK (mrkV κ) 2 (Sort.ahead w n) g (off+A.length*2) B'.toArray).heap.size:=by rw [size_putRowK];exact hg
 by_cases hin:A.length*2≤j∧j<A.length*2+B.length*2
 · have h1:=hB (j-A.length*2) (by rw [size_flatK,List.size_toArray];omega)
   rw [show off+A.length*2+(j-A.length*2)=off+j by omega] at h1
   refine⟨h1.1.trans ?_,h1.2⟩
   have hq:(j-A.length*2)/2<B'.length:=by omega
   rw [get_flatK _ _ _ _ (by simp;omega),get_flatK _ _ _ _ (by simp;omega),show (j-A.length*2)%2=j%2 by omega,arr_get B' _ _ (List.getElem?_eq_getElem hq),
    arr_get (A++B'++C) (j/2) B'[(j-A.length*2)/2] (by rw [List.append_assoc,List.getElem?_append_right (by omega),List.getElem?_append_left (by omega),show j/2-A.length=(j-A.length*2)/2 by omega];exact List.getElem?_eq_getElem hq)]
 · have h1:=h j (by rw [size_flatK,List.size_toArray,List.length_append,List.length_append];omega)
   have e1:(sortWorldK (mrkV κ) 2 w g (off+A.length*2) n B'.toArray os).cell? ⟨g,off+j,none⟩=w.cell? ⟨g,off+j,none⟩:=by
    unfold sortWorldK
    rw [cell?_grow _ _ _ hlt]
    unfold putRowK
    rw [cell?_putRow_other id _ g _ _ _ (.inr (by rw [size_flatK,List.size_toArray];show off+j<_∨_≤off+j;omega))]
    rfl
   have e2:(sortWorldK (mrkV κ) 2 w g (off+A.length*2) n B'.toArray os).frozen? ⟨g,off+j,none⟩=w.frozen? ⟨g,off+j,none⟩:=by
    unfold sortWorldK
    rw [frozen?_grow _ _ _ hlt]
    unfold putRowK
    rw [frozen?_putRow]
    rfl
   rw [e1,e2]
   refine⟨h1.1.trans ?_,h1.2⟩
   have hq:∃ x,(A++B++C)[j/2]? = some x∧(A++B'++C)[j/2]? = some x:=by
    rcases Nat.lt_or_ge (j/2) A.length with h2 | h2
    · exact⟨A[j/2],by rw [List.append_assoc,List.getElem?_append_left h2];exact List.getElem?_eq_getElem h2,by rw [List.append_assoc,List.getElem?_append_left h2];exact List.getElem?_eq_getElem h2⟩
    · have h3:j/2-(A.length+B.length)<C.length:=by omega
      exact⟨C[j/2-(A.length+B.length)],by rw [List.getElem?_append_right (by rw [List.length_append];omega),List.length_append];exact List.getElem?_eq_getElem h3,by rw [List.getElem?_append_right (by rw [List.length_append];omega),List.length_append,hl];exact List.getElem?_eq_getElem h3⟩
   obtain⟨x,q1,q2⟩:=hq
   rw [get_flatK _ _ _ _ (by simp;omega),get_flatK _ _ _ _ (by simp;omega),arr_get _ _ _ q1,arr_get _ _ _ q2]
set_option maxHeartbeats 2000000 in
theorem orderRun33 (κ:Int→Int) (g off n c:Nat) (B:List Int) (w:World) (h:HoldsK (mrkV κ) 2 w g off B.toArray) (hg:g<w.heap.size) (hl:B.length=n) (hn:n≤100000):
 Calls Tryz.prog 44 #[.slice (some ⟨g,off,none⟩) n c] w fun e w'=>e=.returned (.tuple #[])∧∃ R,Hid (R.length=B.length∧Srt κ R∧Cl κ B R∧SWK (mrkV κ) 2 w g off R.toArray w'):=by
 have hd:B.toArray.size=n:=lst_size hl
 have c59:=sortStable59 (κ:=κ) c (rowK_m h hg) (cmpLays60 κ g off _ w) (by omega) B w (by rw [hd];exact hl) (SWK.start h)
 rw [hd] at c59
 have C59:Calls Tryz.prog 73 #[.slice (some ⟨g,off,none⟩) n c,.func (.func 74) #[] #[]] w fun e w'=>e=.returned (.tuple #[])∧∃ R,Hid (R.length=B.length∧Srt κ R∧Cl κ B R∧SWK (mrkV κ) 2 w g off R.toArray w'):=c59.mono (by
  rintro e w' ⟨rfl,R,⟨m1,m2,m3⟩,hS⟩
  rw [List.nil_append,List.append_nil] at hS
  exact⟨rfl,R,m1,m2,m3,hS⟩)
 clear h hg c59
 go_enter Tryz.func44,Tryz.ntmps44
 go_wp2_with (go_at_call 73;(with_reducible refine C59.mono ?_);rintro e w1 ⟨rfl,R,hR⟩)
 go_end0
 exact⟨rfl,R,hR⟩
end Go.Proofs.YtbkgbhlmeeodgaaGreatDoor
