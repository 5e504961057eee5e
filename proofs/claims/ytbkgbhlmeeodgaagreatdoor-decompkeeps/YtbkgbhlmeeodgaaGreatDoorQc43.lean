/- A part. -/
import Derived.Test.YtbkgbhlmeeodgaaGreatDoorQc42
namespace Go.Proofs.YtbkgbhlmeeodgaaGreatDoor
open Go.RowKit Go.Sort Go.Shelf Go.Lib
theorem mrg_self {κ:Int→Int} {A B:List Int} (h:A.length=0∨B.length=0) (hA:Srt κ A) (hB:Srt κ B):Mrg κ (A++B) (A++B):=by
 refine⟨rfl,?_,Cl.refl _⟩
 rcases h with h | h
 · rw [List.eq_nil_of_length_eq_zero h];exact hB
 · rw [List.eq_nil_of_length_eq_zero h,List.append_nil];exact hA
set_option maxHeartbeats 16000000 in
set_option maxRecDepth 1000000 in
theorem sym_main {κ:Int→Int} {w0:World} {blk off:Nat} {d0:Array Int} (cap:Nat) (R:RowK (mrkV κ) 2 w0 blk off d0) (hC:CmpLays Tryz.prog 74 #[] (mrkV κ) 2 (cfK κ) blk off d0.size w0) (hsz:d0.size<1000000000) (X U V Y:List Int) (a m b:Nat)
 (hl:(X++U++V++Y).length=d0.size) (ha:a=X.length) (hm:m=a+U.length) (hb:b=m+V.length) (hU:1<U.length) (hV:1<V.length) (hsU:Srt κ U) (hsV:Srt κ V)
 (IH:∀ (X U V Y:List Int) (a' m' b':Nat) (w:World),b'-a'<b-a→(X++U++V++Y).length=d0.size→a'=X.length→m'=a'+U.length→b'=m'+V.length→0<U.length→0<V.length→Srt κ U→Srt κ V→SWK (mrkV κ) 2 w0 blk off (X++U++V++Y).toArray w →
  Calls Tryz.prog 132 #[.slice (some ⟨blk,off,none⟩) d0.size cap,.int .i64 a',.int .i64 m',.int .i64 b',.func (.func 74) #[] #[]] w fun e w'=>e=.returned (.tuple #[])∧SymPost κ w0 blk off X U V Y w')
 (w:World) (S:SWK (mrkV κ) 2 w0 blk off (X++U++V++Y).toArray w):
 Calls Tryz.prog 132 #[.slice (some ⟨blk,off,none⟩) d0.size cap,.int .i64 a,.int .i64 m,.int .i64 b,.func (.func 74) #[] #[]] w fun e w'=>e=.returned (.tuple #[])∧SymPost κ w0 blk off X U V Y w':=by
 have mixed:=Tryz.insMk.mixed
 have HC:=Lib.hid hC
 have hn:b≤d0.size:=by rw [←hl];simp;omega
 have am:a+1<m:=by omega
 have mb:m+1<b:=by omega
 obtain⟨mid,hmid⟩:∃ mid,mid=(a+b)/2:=⟨_,rfl⟩
 have hmi:((a:Int)+(b:Int))/2=(mid:Int):=by omega
 obtain⟨s0,r0,h0⟩:∃ s0 r0:Nat,(mid<m∧s0=mid+m-b∧r0=mid)∨(m≤mid∧s0=a∧r0=m):=by
  by_cases h:mid<m
  · exact⟨_,_,.inl ⟨h,rfl,rfl⟩⟩
  · exact⟨_,_,.inr ⟨by omega,rfl,rfl⟩⟩
 have hY:Sym κ X U V Y a m b mid s0 r0:=⟨ha,hm,hb,by omega,by omega,hmid,h0⟩
 obtain⟨y1,y2,y3,y4,y5,y6,y7,y8,y9⟩:=hY.bnd
 have HY:=Lib.hid hY
 obtain⟨D,hD⟩:∃ D,(X++U++V++Y).toArray=D:=⟨_,rfl⟩
 have HDs:Hid (D.size=d0.size):=by show D.size=_;rw [←hD,←hl];simp
 have S0:Aside (SWK (mrkV κ) 2 w0 blk off D w):=hD▸S
 have g5:((b:Int)-(m:Int)==1)=false:=beq_false_of_ne (by omega)
 have g6:((m:Int)-(a:Int)==1)=false:=beq_false_of_ne (by omega)
 -- what comes behind the search
 have HE:Hid (∀ s,SymAt κ D (mid+m) s0 r0 s s→∃ U1 U2 V1 V2:List Int,(U1.length=s-a∧U2.length=m-s∧V1.length=mid-s∧V2.length=b-(mid+m-s)) ∧
  (∀ w',s<m→m<mid+m-s→Aside (SWK (mrkV κ) 2 w0 blk off D w')→Calls Tryz.prog 162 #[.slice (some ⟨blk,off,none⟩) d0.size cap,.int .i64 s,.int .i64 m,.int .i64 (mid+m-s:Nat),.func (.func 74) #[] #[]] w' fun e w2=>e=.returned (.tuple #[])∧Aside (SWK (mrkV κ) 2 w0 blk off (X++(U1++V1)++(U2++V2)++Y).toArray w2)) ∧
  (∀ w',¬(s<m∧m<mid+m-s)→Aside (SWK (mrkV κ) 2 w0 blk off D w')→Aside (SWK (mrkV κ) 2 w0 blk off (X++(U1++V1)++(U2++V2)++Y).toArray w')) ∧
  (∀ w',a<s→s<mid→Aside (SWK (mrkV κ) 2 w0 blk off (X++(U1++V1)++(U2++V2)++Y).toArray w')→Calls Tryz.prog 132 #[.slice (some ⟨blk,off,none⟩) d0.size cap,.int .i64 a,.int .i64 s,.int .i64 mid,.func (.func 74) #[] #[]] w' fun e w2=>e=.returned (.tuple #[])∧∃ R1,Hid (Mrg κ (U1++V1) R1)∧Aside (SWK (mrkV κ) 2 w0 blk off (X++R1++(U2++V2)++Y).toArray w2)) ∧
  (¬(a<s∧s<mid)→Mrg κ (U1++V1) (U1++V1)) ∧
  (∀ R1 w',Mrg κ (U1++V1) R1→mid<mid+m-s→mid+m-s<b→Aside (SWK (mrkV κ) 2 w0 blk off (X++R1++(U2++V2)++Y).toArray w')→Calls Tryz.prog 132 #[.slice (some ⟨blk,off,none⟩) d0.size cap,.int .i64 mid,.int .i64 (mid+m-s:Nat),.int .i64 b,.func (.func 74) #[] #[]] w' fun e w2=>e=.returned (.tuple #[])∧∃ R2,Hid (Mrg κ (U2++V2) R2)∧Aside (SWK (mrkV κ) 2 w0 blk off (X++R1++R2++Y).toArray w2)) ∧
  (¬(mid<mid+m-s∧mid+m-s<b)→Mrg κ (U2++V2) (U2++V2)) ∧
  (∀ R1 R2 w',Mrg κ (U1++V1) R1→Mrg κ (U2++V2) R2→Aside (SWK (mrkV κ) 2 w0 blk off (X++R1++R2++Y).toArray w')→SymPost κ w0 blk off X U V Y w')):=fun s g=>by
  rw [←hD] at g
  obtain⟨c1,c2,c3,c4⟩:=hY.cut hsU hsV g
  have gl:=g.lo
  have gh:=g.hi
  have hUe:U=U.take (s-a)++U.drop (s-a):=(List.take_append_drop _ _).symm
  have hVe:V=V.take (mid-s)++V.drop (mid-s):=(List.take_append_drop _ _).symm
  have l1:(U.take (s-a)).length=s-a:=by rw [List.length_take];omega
  have l2:(U.drop (s-a)).length=m-s:=by rw [List.length_drop];omega
  have l3:(V.take (mid-s)).length=mid-s:=by rw [List.length_take];omega
  have l4:(V.drop (mid-s)).length=b-(mid+m-s):=by rw [List.length_drop];omega
  have t1:=hsU.take (s-a)
  have t2:=hsU.drop (s-a)
  have t3:=hsV.take (mid-s)
  have t4:=hsV.drop (mid-s)
  have hcut:(∀ x∈U.drop (s-a),∀ y∈V.take (mid-s),κ y < κ x)∧(∀ x∈U.take (s-a)++V.take (mid-s),∀ y∈U.drop (s-a)++V.drop (mid-s),κ x ≤ κ y):=⟨c3,c4⟩
  have hfin:=fun (R1 R2:List Int)=>sym_end (U:=U) (V:=V) (R1:=R1) (R2:=R2) hcut
  have hL:X.length+U.length+V.length+Y.length=d0.size:=by rw [←hl];simp;omega
  have lU:(U.take (s-a)).length+(U.drop (s-a)).length=U.length:=by rw [←List.length_append,List.take_append_drop]
  have lV:(V.take (mid-s)).length+(V.drop (mid-s)).length=V.length:=by rw [←List.length_append,List.take_append_drop]
  clear hcut c3 c4 g c1 c2
  generalize U.take (s-a)=U1 at *
  generalize U.drop (s-a)=U2 at *
  generalize V.take (mid-s)=V1 at *
  generalize V.drop (mid-s)=V2 at *
  refine⟨U1,U2,V1,V2,⟨l1,l2,l3,l4⟩,fun w' h1 h2 hw=>?_,fun w' hn hw=>?_,fun w' h1 h2 hw=>?_,fun hn=>?_,fun R1 w' hM h1 h2 hw=>?_,fun hn=>?_,fun R1 R2 w' hM1 hM2 hw=>?_⟩
  · have hD2:D=(X++U1++U2++V1++(V2++Y)).toArray:=by rw [←hD,hUe,hVe];simp only [List.append_assoc]
    have c:=rotate144 cap R (X++U1) U2 V1 (V2++Y) s m (mid+m-s) w' (.func (.func 74) #[] #[]) (by simp only [List.length_append];omega) (by rw [List.length_append];omega) (by omega) (by omega) (by omega) (by omega) hsz (hD2▸hw.out)
    refine c.mono fun e w2 ⟨he,h⟩=>⟨he,?_⟩
    rw [show X++U1++V1++U2++(V2++Y)=X++(U1++V1)++(U2++V2)++Y by simp only [List.append_assoc]] at h
    exact h
  · have e:U2++V1=V1++U2:=by
     by_cases h:s<m
     · rw [List.eq_nil_of_length_eq_zero (l:=V1) (by omega),List.append_nil,List.nil_append]
     · rw [List.eq_nil_of_length_eq_zero (l:=U2) (by omega),List.append_nil,List.nil_append]
    have hD2:D=(X++(U1++V1)++(U2++V2)++Y).toArray:=by
     rw [←hD,hUe,hVe]
     congr 1
     rw [show X++(U1++U2)++(V1++V2)++Y=X++U1++(U2++V1)++V2++Y by simp only [List.append_assoc],e]
     simp only [List.append_assoc]
    exact hD2▸hw
  · have c:=IH X U1 V1 (U2++V2++Y) a s mid w' (by omega) (by simp only [List.length_append];omega) ha (by omega) (by omega) (by omega) (by omega) t1 t3 (by
     rw [show X++U1++V1++(U2++V2++Y)=X++(U1++V1)++(U2++V2)++Y by simp only [List.append_assoc]]
     exact hw)
    refine c.mono fun e w2 ⟨he,R1,hM,h⟩=>⟨he,R1,hM,?_⟩
    rw [show X++R1++(U2++V2++Y)=X++R1++(U2++V2)++Y by simp only [List.append_assoc]] at h
    exact h
  · exact mrg_self (by omega) t1 t3
  · have hR:=hM.1
    rw [List.length_append] at hR
    have c:=IH (X++R1) U2 V2 Y mid (mid+m-s) b w' (by omega) (by simp only [List.length_append];omega) (by rw [List.length_append];omega) (by omega) (by omega) (by omega) (by omega) t2 t4 (by
     rw [show X++R1++U2++V2++Y=X++R1++(U2++V2)++Y by simp only [List.append_assoc]]
     exact hw)
    exact c.mono fun e w2 ⟨he,R2,hM,h⟩=>⟨he,R2,hM,h⟩
  · exact mrg_self (by omega) t2 t4
  · obtain⟨q1,q2,q3⟩:=hM1
    obtain⟨r1,r2,r3⟩:=hM2
    obtain⟨f1,f2⟩:=hfin R1 R2 q2 r2 q3 r3
    refine⟨R1++R2,⟨by simp only [List.length_append] at *;omega,f1,f2⟩,?_⟩
    rw [show X++(R1++R2)++Y=X++R1++R2++Y by simp only [List.append_assoc]]
    exact hw
 have hmi2:((mid:Nat):Int)<(m:Int)∨¬((mid:Nat):Int)<(m:Int):=by omega
 have HIN:Hid (∀ n:Nat,True):=fun _=>trivial
 have HS0:Hid (SymAt κ D (mid+m) s0 r0 s0 r0):=symAt_start (by omega)
 have HDU:Hid (D=(X++U++V++Y).toArray):=hD.symm
 have hcase:(mid<m∧Hid (s0=mid+m-b∧r0=mid)∧(s0:Int)≤r0)∨(m≤mid∧Hid (s0=a∧r0=m)∧(s0:Int)≤r0):=by
  rcases h0 with ⟨h,h1,h2⟩ | ⟨h,h1,h2⟩
  · exact .inl ⟨h,⟨h1,h2⟩,by omega⟩
  · exact .inr ⟨h,⟨h1,h2⟩,by omega⟩
 clear S hl ha hb hm hU hV hsU hsV IH hmid h0 hY hD hC HIN hmi2
 go_enter Tryz.func132,Tryz.ntmps132
 rcases hcase with ⟨hq,HQ0,hsr⟩ | ⟨hq,HQ0,hsr⟩
 all_goals
  first
   | (have hbt:decide (mid<m)=true:=decide_eq_true hq)
   | (have hbt:decide (mid<m)=false:=decide_eq_false (by omega))
  go_wp2
  go_loopg [20,21] (b-a) (fun kx s20 s21 wr=>∃ s r:Nat,s20=.int .i64 s∧s21=.int .i64 r∧s0≤s∧s≤r∧r≤r0∧r-s≤kx∧Hid (SymAt κ D (mid+m) s0 r0 s r)∧Aside (SWK (mrkV κ) 2 w0 blk off D wr))
  case atStart=>
   have hq2:=HQ0.out
   exact⟨s0,r0,by first | go_num | (congr 1;omega) | (rw [hq2.1];congr 1;omega),by first | go_num | (congr 1;omega) | (rw [hq2.2]),Nat.le_refl _,by omega,Nat.le_refl _,by omega,HS0,S0⟩
  case round=>
   clear S0 HS0 HQ0
   obtain⟨s,r,rfl,rfl,hs0,hsr2,hr0,hkx,HQ,S1⟩:=hrel
   by_cases hlt:s<r
   · have hltz:(s:Int)<(r:Int):=by omega
     obtain⟨c,hc,hc1,hc2⟩:=half hlt
     have HC2:=Lib.hid hc
     clear hc
     by_cases hk:κ D[mid+m-1-c]! < κ D[c]!
     · have HK:=Lib.hid hk
       clear hk
       go_wp2_with fail
       rw [HC2.out]
       have ea31:((mid:Int)+(m:Int)-1-(c:Int)).toNat=mid+m-1-c:=by omega
       have pa31:(0:Int)≤(mid:Int)+(m:Int)-1-(c:Int):=by omega
       have ba31:(mid:Int)+(m:Int)-1-(c:Int)<(d0.size:Int):=by omega
       have ra31:IntKind.i64.wrap ((mid:Int)+(m:Int)-1-(c:Int))=(mid:Int)+(m:Int)-1-(c:Int):=by rw [IntKind.wrap_i64];omega
       have ec31:((c:Int)).toNat=c:=by omega
       have pc31:(0:Int)≤(c:Int):=by omega
       have bc31:(c:Int)<(d0.size:Int):=by omega
       have rc31:IntKind.i64.wrap ((c:Int))=(c:Int):=by rw [IntKind.wrap_i64];omega
       have pe31:(c:Int)≤(mid:Int)+(m:Int)-1:=by omega
       obtain⟨u31,hu31⟩:∃ p,off+(mid+m-1-c)*2=p:=⟨_,rfl⟩
       obtain⟨v31,hv31⟩:∃ p,off+(c)*2=p:=⟨_,rfl⟩
       obtain⟨x31,hx31⟩:∃ x,x=D[mid+m-1-c]!:=⟨_,rfl⟩
       obtain⟨y31,hy31⟩:∃ x,x=D[c]!:=⟨_,rfl⟩
       have kk31:∀ i9,i9<d0.size→∀ n9 os9,(grow (wr.drewN n9) os9).cell? ⟨blk,off+i9*2,none⟩=some (.int .i64 D[i9]!)∧(grow (wr.drewN n9) os9).cell? ⟨blk,off+i9*2+1,none⟩=some (.int .i64 (κ D[i9]!)):=fun i9 hi9 n9 os9=>mk_cells ((S1.out.grown n9 os9).holds R.hblk R.hH HDs.out) (by have:=HDs.out;omega)
       have ka31:∀ n os,(grow (wr.drewN n) os).cell? ⟨blk,u31,none⟩=some (.int .i64 x31):=fun n os=>by rw [←hu31,hx31];exact (kk31 (mid+m-1-c) (by omega) n os).1
       have kb31:∀ n os,(grow (wr.drewN n) os).cell? ⟨blk,u31+1,none⟩=some (.int .i64 (κ x31)):=fun n os=>by rw [←hu31,hx31];exact (kk31 (mid+m-1-c) (by omega) n os).2
       have kc31:∀ n os,(grow (wr.drewN n) os).cell? ⟨blk,v31,none⟩=some (.int .i64 y31):=fun n os=>by rw [←hv31,hy31];exact (kk31 (c) (by omega) n os).1
       have kd31:∀ n os,(grow (wr.drewN n) os).cell? ⟨blk,v31+1,none⟩=some (.int .i64 (κ y31)):=fun n os=>by rw [←hv31,hy31];exact (kk31 (c) (by omega) n os).2
       have hc31:∀ n os,Calls Tryz.prog 74 #[.agg #[.int .i64 x31,.int .i64 (κ x31)],.agg #[.int .i64 y31,.int .i64 (κ y31)]] (grow (wr.drewN n) os) fun e w'=>e=.returned (.int .i64 (cfK κ x31 y31))∧∃ q os',w'=grow ((grow (wr.drewN n) os).drewN q) os':=fun n os=>S1.out.cmp HC.out HDs.out x31 y31 n os
       have hz31:cfK κ x31 y31<0:=by rw [hx31,hy31];exact (cfK_lt _ _ _).2 (by have h2:=HK.out;omega)
       clear kk31 hx31 hy31
       generalize cfK κ x31 y31=z31 at hc31 hz31
       generalize κ x31=kx31 at hc31 kb31
       generalize κ y31=ky31 at hc31 kd31
       have hj31:decide (z31<0)=true:=decide_eq_true hz31
       have hw31:(!decide (z31<0))=false:=by rw [hj31];rfl
       go_wp2_with fail
       go_quiet_grown (first | (go_at_call 74;refine Calls.grown_of (hc31 _ _)) | (go_at_fn 60;refine Calls.grown_of (hc31 _ _)))
       have S2:Aside (SWK (mrkV κ) 2 w0 blk off D (grow (wr.drewN nq) osq)):=S1.out.grown nq osq
       clear ka31 kb31 kc31 kd31 hc31 S1 hu31 hv31
       generalize grow (wr.drewN nq) osq=w2 at S2 ⊢
       clear nq osq
       go_wp2
       go_roundg (c-s)
       case measure=>omega
       case rel=>exact⟨s,c,rfl,rfl,hs0,by omega,by omega,Nat.le_refl _,HQ.out.down (by omega) hc2 HK.out,S2⟩
     · have HK:=Lib.hid hk
       clear hk
       go_wp2_with fail
       rw [HC2.out]
       have ea32:((mid:Int)+(m:Int)-1-(c:Int)).toNat=mid+m-1-c:=by omega
       have pa32:(0:Int)≤(mid:Int)+(m:Int)-1-(c:Int):=by omega
       have ba32:(mid:Int)+(m:Int)-1-(c:Int)<(d0.size:Int):=by omega
       have ra32:IntKind.i64.wrap ((mid:Int)+(m:Int)-1-(c:Int))=(mid:Int)+(m:Int)-1-(c:Int):=by rw [IntKind.wrap_i64];omega
       have ec32:((c:Int)).toNat=c:=by omega
       have pc32:(0:Int)≤(c:Int):=by omega
       have bc32:(c:Int)<(d0.size:Int):=by omega
       have rc32:IntKind.i64.wrap ((c:Int))=(c:Int):=by rw [IntKind.wrap_i64];omega
       have pe32:(c:Int)≤(mid:Int)+(m:Int)-1:=by omega
       obtain⟨u32,hu32⟩:∃ p,off+(mid+m-1-c)*2=p:=⟨_,rfl⟩
       obtain⟨v32,hv32⟩:∃ p,off+(c)*2=p:=⟨_,rfl⟩
       obtain⟨x32,hx32⟩:∃ x,x=D[mid+m-1-c]!:=⟨_,rfl⟩
       obtain⟨y32,hy32⟩:∃ x,x=D[c]!:=⟨_,rfl⟩
       have kk32:∀ i9,i9<d0.size→∀ n9 os9,(grow (wr.drewN n9) os9).cell? ⟨blk,off+i9*2,none⟩=some (.int .i64 D[i9]!)∧(grow (wr.drewN n9) os9).cell? ⟨blk,off+i9*2+1,none⟩=some (.int .i64 (κ D[i9]!)):=fun i9 hi9 n9 os9=>mk_cells ((S1.out.grown n9 os9).holds R.hblk R.hH HDs.out) (by have:=HDs.out;omega)
       have ka32:∀ n os,(grow (wr.drewN n) os).cell? ⟨blk,u32,none⟩=some (.int .i64 x32):=fun n os=>by rw [←hu32,hx32];exact (kk32 (mid+m-1-c) (by omega) n os).1
       have kb32:∀ n os,(grow (wr.drewN n) os).cell? ⟨blk,u32+1,none⟩=some (.int .i64 (κ x32)):=fun n os=>by rw [←hu32,hx32];exact (kk32 (mid+m-1-c) (by omega) n os).2
       have kc32:∀ n os,(grow (wr.drewN n) os).cell? ⟨blk,v32,none⟩=some (.int .i64 y32):=fun n os=>by rw [←hv32,hy32];exact (kk32 (c) (by omega) n os).1
       have kd32:∀ n os,(grow (wr.drewN n) os).cell? ⟨blk,v32+1,none⟩=some (.int .i64 (κ y32)):=fun n os=>by rw [←hv32,hy32];exact (kk32 (c) (by omega) n os).2
       have hc32:∀ n os,Calls Tryz.prog 74 #[.agg #[.int .i64 x32,.int .i64 (κ x32)],.agg #[.int .i64 y32,.int .i64 (κ y32)]] (grow (wr.drewN n) os) fun e w'=>e=.returned (.int .i64 (cfK κ x32 y32))∧∃ q os',w'=grow ((grow (wr.drewN n) os).drewN q) os':=fun n os=>S1.out.cmp HC.out HDs.out x32 y32 n os
       have hz32:¬cfK κ x32 y32<0:=by rw [hx32,hy32];exact fun h=>by have h1:=(cfK_lt _ _ _).1 h;have h2:=HK.out;omega
       clear kk32 hx32 hy32
       generalize cfK κ x32 y32=z32 at hc32 hz32
       generalize κ x32=kx32 at hc32 kb32
       generalize κ y32=ky32 at hc32 kd32
       have hj32:decide (z32<0)=false:=decide_eq_false hz32
       have hw32:(!decide (z32<0))=true:=by rw [hj32];rfl
       go_wp2_with fail
       go_quiet_grown (first | (go_at_call 74;refine Calls.grown_of (hc32 _ _)) | (go_at_fn 60;refine Calls.grown_of (hc32 _ _)))
       have S2:Aside (SWK (mrkV κ) 2 w0 blk off D (grow (wr.drewN nq) osq)):=S1.out.grown nq osq
       clear ka32 kb32 kc32 kd32 hc32 S1 hu32 hv32
       generalize grow (wr.drewN nq) osq=w2 at S2 ⊢
       clear nq osq
       go_wp2
       go_roundg (r-(c+1))
       case measure=>omega
       case rel=>exact⟨c+1,r,by go_num,rfl,by omega,by omega,hr0,Nat.le_refl _,HQ.out.up (by omega) hc2 (by have:=HK.out;omega),S2⟩
   · obtain rfl:s=r:=by omega
     have hltz:¬(s:Int)<(s:Int):=by omega
     obtain⟨U1,U2,V1,V2,-,E1,E2,E3,E4,E5,E6,E7⟩:=HE.out s HQ.out
     rw [show ((mid+m-s:Nat):Int)=(mid:Int)+(m:Int)-(s:Int) by omega] at E1 E5
     have H1:=Lib.hid E1
     have H2:=Lib.hid E2
     have H3:=Lib.hid E3
     have H4:=Lib.hid E4
     have H5:=Lib.hid E5
     have H6:=Lib.hid E6
     have H7:=Lib.hid E7
     clear HQ HE hkx E1 E2 E3 E4 E5 E6 E7
     by_cases p1:s<m
     · skip
       by_cases p2:s<mid
       · skip
         by_cases p3:a<s
         · skip
           by_cases p4:mid+m<b+s
           · skip
             have b1:decide (s<m)=true:=decide_eq_true (by omega)
             have b2:decide ((m:Int)<(mid:Int)+(m:Int)-(s:Int))=true:=decide_eq_true (by omega)
             have b3:decide (a<s)=true:=decide_eq_true (by omega)
             have b4:decide (s<mid)=true:=decide_eq_true (by omega)
             have b5:decide ((mid:Int)<(mid:Int)+(m:Int)-(s:Int))=true:=decide_eq_true (by omega)
             have b6:decide ((mid:Int)+(m:Int)-(s:Int)<(b:Int))=true:=decide_eq_true (by omega)
             have c1:=H1.out wr (by omega) (by omega) S1
             go_wp2_with (go_at_call 162;(with_reducible refine c1.mono ?_);rintro e w2 ⟨rfl,S2⟩)
             have c2:=H3.out w2 (by omega) (by omega) S2
             go_wp2_with (go_at_call 132;(with_reducible refine c2.mono ?_);rintro e w3 ⟨rfl,R1,M1,S3⟩)
             have c3:=H5.out _ w3 M1.out (by omega) (by omega) S3
             go_wp2_with (go_at_call 132;(with_reducible refine c3.mono ?_);rintro e w4 ⟨rfl,R2,M2,S4⟩)
             first | go_end0 | refine bodyPost_ret (results_none rfl _ _ _) rfl ?_
             exact⟨rfl,H7.out _ _ _ M1.out M2.out S4⟩
           · skip
             have b1:decide (s<m)=true:=decide_eq_true (by omega)
             have b2:decide ((m:Int)<(mid:Int)+(m:Int)-(s:Int))=true:=decide_eq_true (by omega)
             have b3:decide (a<s)=true:=decide_eq_true (by omega)
             have b4:decide (s<mid)=true:=decide_eq_true (by omega)
             have b5:decide ((mid:Int)<(mid:Int)+(m:Int)-(s:Int))=true:=decide_eq_true (by omega)
             have b6:decide ((mid:Int)+(m:Int)-(s:Int)<(b:Int))=false:=decide_eq_false (by omega)
             have c1:=H1.out wr (by omega) (by omega) S1
             go_wp2_with (go_at_call 162;(with_reducible refine c1.mono ?_);rintro e w2 ⟨rfl,S2⟩)
             have c2:=H3.out w2 (by omega) (by omega) S2
             go_wp2_with (go_at_call 132;(with_reducible refine c2.mono ?_);rintro e w3 ⟨rfl,R1,M1,S3⟩)
             have M2:=Lib.hid (H6.out (by omega))
             have S4:=S3
             go_wp2
             first | go_end0 | refine bodyPost_ret (results_none rfl _ _ _) rfl ?_
             exact⟨rfl,H7.out _ _ _ M1.out M2.out S4⟩
         · skip
           by_cases p4:mid+m<b+s
           · skip
             have b1:decide (s<m)=true:=decide_eq_true (by omega)
             have b2:decide ((m:Int)<(mid:Int)+(m:Int)-(s:Int))=true:=decide_eq_true (by omega)
             have b3:decide (a<s)=false:=decide_eq_false (by omega)
             have b4:decide (s<mid)=true:=decide_eq_true (by omega)
             have b5:decide ((mid:Int)<(mid:Int)+(m:Int)-(s:Int))=true:=decide_eq_true (by omega)
             have b6:decide ((mid:Int)+(m:Int)-(s:Int)<(b:Int))=true:=decide_eq_true (by omega)
             have c1:=H1.out wr (by omega) (by omega) S1
             go_wp2_with (go_at_call 162;(with_reducible refine c1.mono ?_);rintro e w2 ⟨rfl,S2⟩)
             have M1:=Lib.hid (H4.out (by omega))
             have S3:=S2
             have c3:=H5.out _ w2 M1.out (by omega) (by omega) S3
             go_wp2_with (go_at_call 132;(with_reducible refine c3.mono ?_);rintro e w4 ⟨rfl,R2,M2,S4⟩)
             first | go_end0 | refine bodyPost_ret (results_none rfl _ _ _) rfl ?_
             exact⟨rfl,H7.out _ _ _ M1.out M2.out S4⟩
           · skip
             have b1:decide (s<m)=true:=decide_eq_true (by omega)
             have b2:decide ((m:Int)<(mid:Int)+(m:Int)-(s:Int))=true:=decide_eq_true (by omega)
             have b3:decide (a<s)=false:=decide_eq_false (by omega)
             have b4:decide (s<mid)=true:=decide_eq_true (by omega)
             have b5:decide ((mid:Int)<(mid:Int)+(m:Int)-(s:Int))=true:=decide_eq_true (by omega)
             have b6:decide ((mid:Int)+(m:Int)-(s:Int)<(b:Int))=false:=decide_eq_false (by omega)
             have c1:=H1.out wr (by omega) (by omega) S1
             go_wp2_with (go_at_call 162;(with_reducible refine c1.mono ?_);rintro e w2 ⟨rfl,S2⟩)
             have M1:=Lib.hid (H4.out (by omega))
             have S3:=S2
             have M2:=Lib.hid (H6.out (by omega))
             have S4:=S3
             go_wp2
             first | go_end0 | refine bodyPost_ret (results_none rfl _ _ _) rfl ?_
             exact⟨rfl,H7.out _ _ _ M1.out M2.out S4⟩
       · skip
         by_cases p3:a<s
         · skip
           by_cases p4:mid+m<b+s
           · skip
             have b1:decide (s<m)=true:=decide_eq_true (by omega)
             have b2:decide ((m:Int)<(mid:Int)+(m:Int)-(s:Int))=false:=decide_eq_false (by omega)
             have b3:decide (a<s)=true:=decide_eq_true (by omega)
             have b4:decide (s<mid)=false:=decide_eq_false (by omega)
             have b5:decide ((mid:Int)<(mid:Int)+(m:Int)-(s:Int))=true:=decide_eq_true (by omega)
             have b6:decide ((mid:Int)+(m:Int)-(s:Int)<(b:Int))=true:=decide_eq_true (by omega)
             have S2:=H2.out wr (by omega) S1
             have M1:=Lib.hid (H4.out (by omega))
             have S3:=S2
             have c3:=H5.out _ wr M1.out (by omega) (by omega) S3
             go_wp2_with (go_at_call 132;(with_reducible refine c3.mono ?_);rintro e w4 ⟨rfl,R2,M2,S4⟩)
             first | go_end0 | refine bodyPost_ret (results_none rfl _ _ _) rfl ?_
             exact⟨rfl,H7.out _ _ _ M1.out M2.out S4⟩
           · skip
             have b1:decide (s<m)=true:=decide_eq_true (by omega)
             have b2:decide ((m:Int)<(mid:Int)+(m:Int)-(s:Int))=false:=decide_eq_false (by omega)
             have b3:decide (a<s)=true:=decide_eq_true (by omega)
             have b4:decide (s<mid)=false:=decide_eq_false (by omega)
             have b5:decide ((mid:Int)<(mid:Int)+(m:Int)-(s:Int))=true:=decide_eq_true (by omega)
             have b6:decide ((mid:Int)+(m:Int)-(s:Int)<(b:Int))=false:=decide_eq_false (by omega)
             have S2:=H2.out wr (by omega) S1
             have M1:=Lib.hid (H4.out (by omega))
             have S3:=S2
             have M2:=Lib.hid (H6.out (by omega))
             have S4:=S3
             go_wp2
             first | go_end0 | refine bodyPost_ret (results_none rfl _ _ _) rfl ?_
             exact⟨rfl,H7.out _ _ _ M1.out M2.out S4⟩
         · skip
           by_cases p4:mid+m<b+s
           · skip
             have b1:decide (s<m)=true:=decide_eq_true (by omega)
             have b2:decide ((m:Int)<(mid:Int)+(m:Int)-(s:Int))=false:=decide_eq_false (by omega)
             have b3:decide (a<s)=false:=decide_eq_false (by omega)
             have b4:decide (s<mid)=false:=decide_eq_false (by omega)
             have b5:decide ((mid:Int)<(mid:Int)+(m:Int)-(s:Int))=true:=decide_eq_true (by omega)
             have b6:decide ((mid:Int)+(m:Int)-(s:Int)<(b:Int))=true:=decide_eq_true (by omega)
             have S2:=H2.out wr (by omega) S1
             have M1:=Lib.hid (H4.out (by omega))
             have S3:=S2
             have c3:=H5.out _ wr M1.out (by omega) (by omega) S3
             go_wp2_with (go_at_call 132;(with_reducible refine c3.mono ?_);rintro e w4 ⟨rfl,R2,M2,S4⟩)
             first | go_end0 | refine bodyPost_ret (results_none rfl _ _ _) rfl ?_
             exact⟨rfl,H7.out _ _ _ M1.out M2.out S4⟩
           · skip
             have b1:decide (s<m)=true:=decide_eq_true (by omega)
             have b2:decide ((m:Int)<(mid:Int)+(m:Int)-(s:Int))=false:=decide_eq_false (by omega)
             have b3:decide (a<s)=false:=decide_eq_false (by omega)
             have b4:decide (s<mid)=false:=decide_eq_false (by omega)
             have b5:decide ((mid:Int)<(mid:Int)+(m:Int)-(s:Int))=true:=decide_eq_true (by omega)
             have b6:decide ((mid:Int)+(m:Int)-(s:Int)<(b:Int))=false:=decide_eq_false (by omega)
             have S2:=H2.out wr (by omega) S1
             have M1:=Lib.hid (H4.out (by omega))
             have S3:=S2
             have M2:=Lib.hid (H6.out (by omega))
             have S4:=S3
             go_wp2
             first | go_end0 | refine bodyPost_ret (results_none rfl _ _ _) rfl ?_
             exact⟨rfl,H7.out _ _ _ M1.out M2.out S4⟩
     · skip
       by_cases p2:s<mid
       · skip
         by_cases p3:a<s
         · skip
           by_cases p4:mid+m<b+s
           · skip
             have b1:decide (s<m)=false:=decide_eq_false (by omega)
             have b2:decide ((m:Int)<(mid:Int)+(m:Int)-(s:Int))=true:=decide_eq_true (by omega)
             have b3:decide (a<s)=true:=decide_eq_true (by omega)
             have b4:decide (s<mid)=true:=decide_eq_true (by omega)
             have b5:decide ((mid:Int)<(mid:Int)+(m:Int)-(s:Int))=false:=decide_eq_false (by omega)
             have b6:decide ((mid:Int)+(m:Int)-(s:Int)<(b:Int))=true:=decide_eq_true (by omega)
             have S2:=H2.out wr (by omega) S1
             have c2:=H3.out wr (by omega) (by omega) S2
             go_wp2_with (go_at_call 132;(with_reducible refine c2.mono ?_);rintro e w3 ⟨rfl,R1,M1,S3⟩)
             have M2:=Lib.hid (H6.out (by omega))
             have S4:=S3
             go_wp2
             first | go_end0 | refine bodyPost_ret (results_none rfl _ _ _) rfl ?_
             exact⟨rfl,H7.out _ _ _ M1.out M2.out S4⟩
           · skip
             have b1:decide (s<m)=false:=decide_eq_false (by omega)
             have b2:decide ((m:Int)<(mid:Int)+(m:Int)-(s:Int))=true:=decide_eq_true (by omega)
             have b3:decide (a<s)=true:=decide_eq_true (by omega)
             have b4:decide (s<mid)=true:=decide_eq_true (by omega)
             have b5:decide ((mid:Int)<(mid:Int)+(m:Int)-(s:Int))=false:=decide_eq_false (by omega)
             have b6:decide ((mid:Int)+(m:Int)-(s:Int)<(b:Int))=false:=decide_eq_false (by omega)
             have S2:=H2.out wr (by omega) S1
             have c2:=H3.out wr (by omega) (by omega) S2
             go_wp2_with (go_at_call 132;(with_reducible refine c2.mono ?_);rintro e w3 ⟨rfl,R1,M1,S3⟩)
             have M2:=Lib.hid (H6.out (by omega))
             have S4:=S3
             go_wp2
             first | go_end0 | refine bodyPost_ret (results_none rfl _ _ _) rfl ?_
             exact⟨rfl,H7.out _ _ _ M1.out M2.out S4⟩
         · skip
           by_cases p4:mid+m<b+s
           · skip
             have b1:decide (s<m)=false:=decide_eq_false (by omega)
             have b2:decide ((m:Int)<(mid:Int)+(m:Int)-(s:Int))=true:=decide_eq_true (by omega)
             have b3:decide (a<s)=false:=decide_eq_false (by omega)
             have b4:decide (s<mid)=true:=decide_eq_true (by omega)
             have b5:decide ((mid:Int)<(mid:Int)+(m:Int)-(s:Int))=false:=decide_eq_false (by omega)
             have b6:decide ((mid:Int)+(m:Int)-(s:Int)<(b:Int))=true:=decide_eq_true (by omega)
             have S2:=H2.out wr (by omega) S1
             have M1:=Lib.hid (H4.out (by omega))
             have S3:=S2
             have M2:=Lib.hid (H6.out (by omega))
             have S4:=S3
             go_wp2
             first | go_end0 | refine bodyPost_ret (results_none rfl _ _ _) rfl ?_
             exact⟨rfl,H7.out _ _ _ M1.out M2.out S4⟩
           · skip
             have b1:decide (s<m)=false:=decide_eq_false (by omega)
             have b2:decide ((m:Int)<(mid:Int)+(m:Int)-(s:Int))=true:=decide_eq_true (by omega)
             have b3:decide (a<s)=false:=decide_eq_false (by omega)
             have b4:decide (s<mid)=true:=decide_eq_true (by omega)
             have b5:decide ((mid:Int)<(mid:Int)+(m:Int)-(s:Int))=false:=decide_eq_false (by omega)
             have b6:decide ((mid:Int)+(m:Int)-(s:Int)<(b:Int))=false:=decide_eq_false (by omega)
             have S2:=H2.out wr (by omega) S1
             have M1:=Lib.hid (H4.out (by omega))
             have S3:=S2
             have M2:=Lib.hid (H6.out (by omega))
             have S4:=S3
             go_wp2
             first | go_end0 | refine bodyPost_ret (results_none rfl _ _ _) rfl ?_
             exact⟨rfl,H7.out _ _ _ M1.out M2.out S4⟩
       · skip
         by_cases p3:a<s
         · skip
           by_cases p4:mid+m<b+s
           · skip
             have b1:decide (s<m)=false:=decide_eq_false (by omega)
             have b2:decide ((m:Int)<(mid:Int)+(m:Int)-(s:Int))=false:=decide_eq_false (by omega)
             have b3:decide (a<s)=true:=decide_eq_true (by omega)
             have b4:decide (s<mid)=false:=decide_eq_false (by omega)
             have b5:decide ((mid:Int)<(mid:Int)+(m:Int)-(s:Int))=false:=decide_eq_false (by omega)
             have b6:decide ((mid:Int)+(m:Int)-(s:Int)<(b:Int))=true:=decide_eq_true (by omega)
             have S2:=H2.out wr (by omega) S1
             have M1:=Lib.hid (H4.out (by omega))
             have S3:=S2
             have M2:=Lib.hid (H6.out (by omega))
             have S4:=S3
             go_wp2
             first | go_end0 | refine bodyPost_ret (results_none rfl _ _ _) rfl ?_
             exact⟨rfl,H7.out _ _ _ M1.out M2.out S4⟩
           · skip
             have b1:decide (s<m)=false:=decide_eq_false (by omega)
             have b2:decide ((m:Int)<(mid:Int)+(m:Int)-(s:Int))=false:=decide_eq_false (by omega)
             have b3:decide (a<s)=true:=decide_eq_true (by omega)
             have b4:decide (s<mid)=false:=decide_eq_false (by omega)
             have b5:decide ((mid:Int)<(mid:Int)+(m:Int)-(s:Int))=false:=decide_eq_false (by omega)
             have b6:decide ((mid:Int)+(m:Int)-(s:Int)<(b:Int))=false:=decide_eq_false (by omega)
             have S2:=H2.out wr (by omega) S1
             have M1:=Lib.hid (H4.out (by omega))
             have S3:=S2
             have M2:=Lib.hid (H6.out (by omega))
             have S4:=S3
             go_wp2
             first | go_end0 | refine bodyPost_ret (results_none rfl _ _ _) rfl ?_
             exact⟨rfl,H7.out _ _ _ M1.out M2.out S4⟩
         · skip
           by_cases p4:mid+m<b+s
           · skip
             have b1:decide (s<m)=false:=decide_eq_false (by omega)
             have b2:decide ((m:Int)<(mid:Int)+(m:Int)-(s:Int))=false:=decide_eq_false (by omega)
             have b3:decide (a<s)=false:=decide_eq_false (by omega)
             have b4:decide (s<mid)=false:=decide_eq_false (by omega)
             have b5:decide ((mid:Int)<(mid:Int)+(m:Int)-(s:Int))=false:=decide_eq_false (by omega)
             have b6:decide ((mid:Int)+(m:Int)-(s:Int)<(b:Int))=true:=decide_eq_true (by omega)
             have S2:=H2.out wr (by omega) S1
             have M1:=Lib.hid (H4.out (by omega))
             have S3:=S2
             have M2:=Lib.hid (H6.out (by omega))
             have S4:=S3
             go_wp2
             first | go_end0 | refine bodyPost_ret (results_none rfl _ _ _) rfl ?_
             exact⟨rfl,H7.out _ _ _ M1.out M2.out S4⟩
           · skip
             have b1:decide (s<m)=false:=decide_eq_false (by omega)
             have b2:decide ((m:Int)<(mid:Int)+(m:Int)-(s:Int))=false:=decide_eq_false (by omega)
             have b3:decide (a<s)=false:=decide_eq_false (by omega)
             have b4:decide (s<mid)=false:=decide_eq_false (by omega)
             have b5:decide ((mid:Int)<(mid:Int)+(m:Int)-(s:Int))=false:=decide_eq_false (by omega)
             have b6:decide ((mid:Int)+(m:Int)-(s:Int)<(b:Int))=false:=decide_eq_false (by omega)
             have S2:=H2.out wr (by omega) S1
             have M1:=Lib.hid (H4.out (by omega))
             have S3:=S2
             have M2:=Lib.hid (H6.out (by omega))
             have S4:=S3
             go_wp2
             first | go_end0 | refine bodyPost_ret (results_none rfl _ _ _) rfl ?_
             exact⟨rfl,H7.out _ _ _ M1.out M2.out S4⟩
end Go.Proofs.YtbkgbhlmeeodgaaGreatDoor
