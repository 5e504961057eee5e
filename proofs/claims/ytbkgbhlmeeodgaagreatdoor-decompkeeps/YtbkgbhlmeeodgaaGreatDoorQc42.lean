/- A part. -/
import Derived.Test.YtbkgbhlmeeodgaaGreatDoorQc41
namespace Go.Proofs.YtbkgbhlmeeodgaaGreatDoor
open Go.RowKit Go.Sort Go.Shelf Go.Lib
set_option maxHeartbeats 8000000 in
set_option maxRecDepth 1000000 in
theorem sym_last {κ:Int→Int} {w0:World} {blk off:Nat} {d0:Array Int} (cap:Nat) (R:RowK (mrkV κ) 2 w0 blk off d0) (hC:CmpLays Tryz.prog 74 #[] (mrkV κ) 2 (cfK κ) blk off d0.size w0) (X U Y:List Int) (x:Int) (a m b:Nat) (w:World)
 (hl:(X++U ++ [x]++Y).length=d0.size) (ha:a=X.length) (hm:m=a+U.length) (hb:b=m+1) (hU:1<U.length) (hs:Srt κ U) (hsz:d0.size<1000000000) (S:SWK (mrkV κ) 2 w0 blk off (X++U ++ [x]++Y).toArray w):
 Calls Tryz.prog 132 #[.slice (some ⟨blk,off,none⟩) d0.size cap,.int .i64 a,.int .i64 m,.int .i64 b,.func (.func 74) #[] #[]] w fun e w'=>e=.returned (.tuple #[])∧SymPost κ w0 blk off X U [x] Y w':=by
 have mixed:=Tryz.insMk.mixed
 have HC:=Lib.hid hC
 have hn:b≤d0.size:=by rw [←hl];simp;omega
 obtain⟨N,hN⟩:∃ N,U.length=N:=⟨_,rfl⟩
 rw [hN] at hU hm
 have HV:Hid (U.length=N):=hN
 have HZ:Hid (∀ i,(wayL X U Y x i).size=d0.size):=fun i=>by rw [←hl];simp [wayL];omega
 have HST:Hid (∀ i,i<N→swp (wayL X U Y x (i+1)) (a+i+1) (a+i)=wayL X U Y x i):=fun i hi=>wayL_step X U Y x i _ (by omega) (by rw [ha])
 have HA:Hid ((wayL X U Y x N)[m]! = x):=by show _=x;rw [wayL_all X U Y x N hN];exact arr_get _ _ _ (by subst hm ha;rw [←hN];simp)
 have HB:Hid (∀ i z,U[i]? = some z→(wayL X U Y x N)[a+i]! = z):=fun i z hz=>by
  rw [wayL_all X U Y x N hN]
  refine arr_get _ _ _ ?_
  rw [ha,at_X (V:=[x]) (Y:=Y) (List.getElem?_eq_some_iff.1 hz).1]
  exact hz
 have HF:Hid (∀ p w',p≤N→SrB κ x U p p→SWK (mrkV κ) 2 w0 blk off (wayL X U Y x p) w'→SymPost κ w0 blk off X U [x] Y w'):=fun p w' hp hq hw=>by
  obtain⟨g1,g2⟩:=one_left hs (by omega) hq.1 hq.2
  exact⟨_,⟨by simp;omega,g1,g2⟩,hw⟩
 have S0:Aside (SWK (mrkV κ) 2 w0 blk off (wayL X U Y x N) w):=by rw [wayL_all X U Y x N hN];exact S
 have HS0:Hid (SrB κ x U 0 N):=⟨fun y h=>absurd h (Nat.lt_irrefl _),fun y hy=>by have:=(List.getElem?_eq_some_iff.1 hy).1;omega⟩
 obtain⟨D,hD⟩:∃ D,D=wayL X U Y x:=⟨_,rfl⟩
 rw [←hD] at HZ HST HA HB HF S0
 have g1:a+N≤m:=by omega
 have g2:m≤a+N:=by omega
 have g3:m+1≤b:=by omega
 have g4:b≤m+1:=by omega
 have g5:((b:Int)-(m:Int)==1)=true:=by rw [show (b:Int)-(m:Int)=1 by omega];rfl
 have g6:((m:Int)-(a:Int)==1)=false:=beq_false_of_ne (by omega)
 clear S hl ha hs hD hC hN hb hm
 go_enter Tryz.func132,Tryz.ntmps132
 go_wp2
 go_loopg [14,15] N (fun kx s10 s11 wr=>∃ i j:Nat,s10=.int .i64 i∧s11=.int .i64 j∧a≤i∧i≤j∧j≤m∧j-i≤kx∧Hid (SrB κ x U (i-a) (j-a))∧Aside (SWK (mrkV κ) 2 w0 blk off (D N) wr))
 case atStart=>exact⟨a,m,rfl,rfl,Nat.le_refl _,by omega,Nat.le_refl _,by omega,by rw [show a-a=0 by omega,show m-a=N by omega];exact HS0,S0⟩
 case round=>
  clear S0 HS0
  obtain⟨i,j,rfl,rfl,hai,hij,hjN,hkx,HQ,S1⟩:=hrel
  have HS:=Lib.hid (HZ.out N)
  by_cases hlt:i<j
  · have hltz:(i:Int)<(j:Int):=by omega
    obtain⟨c,hc,hc1,hc2⟩:=half hlt
    obtain⟨z,hz⟩:∃ z,U[c-a]? = some z:=⟨_,List.getElem?_eq_getElem (by have:=HV.out;omega)⟩
    have hDz:(D N)[c]! = z:=by have:=HB.out (c-a) z hz;rwa [show a+(c-a)=c by omega] at this
    have HZ2:=Lib.hid (And.intro hDz hz)
    have HC2:=Lib.hid hc
    clear hDz hz hc
    by_cases hk:κ x < κ z
    · have HK:=Lib.hid hk
      have hk2:κ (D N)[m]! < κ (D N)[c]!:=by rw [HZ2.out.1,HA.out];exact HK.out
      have HK2:=Lib.hid hk2
      clear hk hk2
      go_wp2_with fail
      rw [HC2.out]
      have ea31:((m:Int)).toNat=m:=by omega
      have pa31:(0:Int)≤(m:Int):=by omega
      have ba31:(m:Int)<(d0.size:Int):=by omega
      have ra31:IntKind.i64.wrap ((m:Int))=(m:Int):=by rw [IntKind.wrap_i64];omega
      have ec31:((c:Int)).toNat=c:=by omega
      have pc31:(0:Int)≤(c:Int):=by omega
      have bc31:(c:Int)<(d0.size:Int):=by omega
      have rc31:IntKind.i64.wrap ((c:Int))=(c:Int):=by rw [IntKind.wrap_i64];omega
      obtain⟨u31,hu31⟩:∃ p,off+(m)*2=p:=⟨_,rfl⟩
      obtain⟨v31,hv31⟩:∃ p,off+(c)*2=p:=⟨_,rfl⟩
      obtain⟨x31,hx31⟩:∃ x,x=(D N)[m]!:=⟨_,rfl⟩
      obtain⟨y31,hy31⟩:∃ x,x=(D N)[c]!:=⟨_,rfl⟩
      have kk31:∀ i9,i9<d0.size→∀ n9 os9,(grow (wr.drewN n9) os9).cell? ⟨blk,off+i9*2,none⟩=some (.int .i64 (D N)[i9]!)∧(grow (wr.drewN n9) os9).cell? ⟨blk,off+i9*2+1,none⟩=some (.int .i64 (κ (D N)[i9]!)):=fun i9 hi9 n9 os9=>mk_cells ((S1.out.grown n9 os9).holds R.hblk R.hH HS.out) (by have:=HS.out;omega)
      have ka31:∀ n os,(grow (wr.drewN n) os).cell? ⟨blk,u31,none⟩=some (.int .i64 x31):=fun n os=>by rw [←hu31,hx31];exact (kk31 (m) (by omega) n os).1
      have kb31:∀ n os,(grow (wr.drewN n) os).cell? ⟨blk,u31+1,none⟩=some (.int .i64 (κ x31)):=fun n os=>by rw [←hu31,hx31];exact (kk31 (m) (by omega) n os).2
      have kc31:∀ n os,(grow (wr.drewN n) os).cell? ⟨blk,v31,none⟩=some (.int .i64 y31):=fun n os=>by rw [←hv31,hy31];exact (kk31 (c) (by omega) n os).1
      have kd31:∀ n os,(grow (wr.drewN n) os).cell? ⟨blk,v31+1,none⟩=some (.int .i64 (κ y31)):=fun n os=>by rw [←hv31,hy31];exact (kk31 (c) (by omega) n os).2
      have hc31:∀ n os,Calls Tryz.prog 74 #[.agg #[.int .i64 x31,.int .i64 (κ x31)],.agg #[.int .i64 y31,.int .i64 (κ y31)]] (grow (wr.drewN n) os) fun e w'=>e=.returned (.int .i64 (cfK κ x31 y31))∧∃ q os',w'=grow ((grow (wr.drewN n) os).drewN q) os':=fun n os=>S1.out.cmp HC.out HS.out x31 y31 n os
      have hz31:cfK κ x31 y31<0:=by rw [hx31,hy31];exact (cfK_lt _ _ _).2 (by have h2:=HK2.out;omega)
      clear kk31 hx31 hy31
      generalize cfK κ x31 y31=z31 at hc31 hz31
      generalize κ x31=kx31 at hc31 kb31
      generalize κ y31=ky31 at hc31 kd31
      have hj31:decide (z31<0)=true:=decide_eq_true hz31
      have hw31:(!decide (z31<0))=false:=by rw [hj31];rfl
      go_wp2_with fail
      go_quiet_grown (first | (go_at_call 74;refine Calls.grown_of (hc31 _ _)) | (go_at_fn 60;refine Calls.grown_of (hc31 _ _)))
      have S2:Aside (SWK (mrkV κ) 2 w0 blk off (D N) (grow (wr.drewN nq) osq)):=S1.out.grown nq osq
      clear ka31 kb31 kc31 kd31 hc31 S1 hu31 hv31
      generalize grow (wr.drewN nq) osq=w2 at S2 ⊢
      clear nq osq
      go_wp2
      go_roundg (c-i)
      case measure=>omega
      case rel=>exact⟨i,c,rfl,rfl,hai,by omega,by omega,Nat.le_refl _,srB_down HQ.out HZ2.out.2 HK.out,S2⟩
    · have HK:=Lib.hid hk
      have hk2:¬κ (D N)[m]! < κ (D N)[c]!:=by rw [HZ2.out.1,HA.out];have:=HK.out;omega
      have HK2:=Lib.hid hk2
      clear hk hk2
      go_wp2_with fail
      rw [HC2.out]
      have ea32:((m:Int)).toNat=m:=by omega
      have pa32:(0:Int)≤(m:Int):=by omega
      have ba32:(m:Int)<(d0.size:Int):=by omega
      have ra32:IntKind.i64.wrap ((m:Int))=(m:Int):=by rw [IntKind.wrap_i64];omega
      have ec32:((c:Int)).toNat=c:=by omega
      have pc32:(0:Int)≤(c:Int):=by omega
      have bc32:(c:Int)<(d0.size:Int):=by omega
      have rc32:IntKind.i64.wrap ((c:Int))=(c:Int):=by rw [IntKind.wrap_i64];omega
      obtain⟨u32,hu32⟩:∃ p,off+(m)*2=p:=⟨_,rfl⟩
      obtain⟨v32,hv32⟩:∃ p,off+(c)*2=p:=⟨_,rfl⟩
      obtain⟨x32,hx32⟩:∃ x,x=(D N)[m]!:=⟨_,rfl⟩
      obtain⟨y32,hy32⟩:∃ x,x=(D N)[c]!:=⟨_,rfl⟩
      have kk32:∀ i9,i9<d0.size→∀ n9 os9,(grow (wr.drewN n9) os9).cell? ⟨blk,off+i9*2,none⟩=some (.int .i64 (D N)[i9]!)∧(grow (wr.drewN n9) os9).cell? ⟨blk,off+i9*2+1,none⟩=some (.int .i64 (κ (D N)[i9]!)):=fun i9 hi9 n9 os9=>mk_cells ((S1.out.grown n9 os9).holds R.hblk R.hH HS.out) (by have:=HS.out;omega)
      have ka32:∀ n os,(grow (wr.drewN n) os).cell? ⟨blk,u32,none⟩=some (.int .i64 x32):=fun n os=>by rw [←hu32,hx32];exact (kk32 (m) (by omega) n os).1
      have kb32:∀ n os,(grow (wr.drewN n) os).cell? ⟨blk,u32+1,none⟩=some (.int .i64 (κ x32)):=fun n os=>by rw [←hu32,hx32];exact (kk32 (m) (by omega) n os).2
      have kc32:∀ n os,(grow (wr.drewN n) os).cell? ⟨blk,v32,none⟩=some (.int .i64 y32):=fun n os=>by rw [←hv32,hy32];exact (kk32 (c) (by omega) n os).1
      have kd32:∀ n os,(grow (wr.drewN n) os).cell? ⟨blk,v32+1,none⟩=some (.int .i64 (κ y32)):=fun n os=>by rw [←hv32,hy32];exact (kk32 (c) (by omega) n os).2
      have hc32:∀ n os,Calls Tryz.prog 74 #[.agg #[.int .i64 x32,.int .i64 (κ x32)],.agg #[.int .i64 y32,.int .i64 (κ y32)]] (grow (wr.drewN n) os) fun e w'=>e=.returned (.int .i64 (cfK κ x32 y32))∧∃ q os',w'=grow ((grow (wr.drewN n) os).drewN q) os':=fun n os=>S1.out.cmp HC.out HS.out x32 y32 n os
      have hz32:¬cfK κ x32 y32<0:=by rw [hx32,hy32];exact fun h=>by have h1:=(cfK_lt _ _ _).1 h;have h2:=HK2.out;omega
      clear kk32 hx32 hy32
      generalize cfK κ x32 y32=z32 at hc32 hz32
      generalize κ x32=kx32 at hc32 kb32
      generalize κ y32=ky32 at hc32 kd32
      have hj32:decide (z32<0)=false:=decide_eq_false hz32
      have hw32:(!decide (z32<0))=true:=by rw [hj32];rfl
      go_wp2_with fail
      go_quiet_grown (first | (go_at_call 74;refine Calls.grown_of (hc32 _ _)) | (go_at_fn 60;refine Calls.grown_of (hc32 _ _)))
      have S2:Aside (SWK (mrkV κ) 2 w0 blk off (D N) (grow (wr.drewN nq) osq)):=S1.out.grown nq osq
      clear ka32 kb32 kc32 kd32 hc32 S1 hu32 hv32
      generalize grow (wr.drewN nq) osq=w2 at S2 ⊢
      clear nq osq
      go_wp2
      go_roundg (j-(c+1))
      case measure=>omega
      case rel=>exact⟨c+1,j,by go_num,rfl,by omega,by omega,hjN,Nat.le_refl _,by rw [show c+1-a=c-a+1 by omega];exact srB_up HQ.out HZ2.out.2 (by have:=HK.out;omega),S2⟩
  · obtain rfl:i=j:=by omega
    have hltz:¬(i:Int)<(i:Int):=by omega
    clear hkx
    go_wp2
    go_loopg [17] N (fun kx s13 wr=>∃ q:Nat,s13=.int .i64 q∧i≤q∧q≤m∧q-i≤kx∧Aside (SWK (mrkV κ) 2 w0 blk off (D (q-a)) wr))
    case atStart=>exact⟨m,rfl,by omega,Nat.le_refl _,by omega,by rw [show m-a=N by omega];exact S1⟩
    case round=>
     clear S1 HS
     obtain⟨q,rfl,haq,hqi,hkx,S1⟩:=hrel
     by_cases hlt:i<q
     · have hltz:(i:Int)<(q:Int):=by omega
       have HS:=Lib.hid (HZ.out (q-a))
       have hst:=HST.out (q-1-a) (by omega)
       rw [show a+(q-1-a)+1=q by omega,show a+(q-1-a)=q-1 by omega,show q-1-a+1=q-a by omega] at hst
       have HT:=Lib.hid hst
       clear hst
       obtain⟨E,hE⟩:∃ E,D (q-a)=E:=⟨_,rfl⟩
       rw [hE] at S1 HS HT
       clear hE
       go_wp2_with fail
       have ea61:((q:Int)).toNat=q:=by omega
       have pa61:(0:Int)≤(q:Int):=by omega
       have ba61:(q:Int)<(d0.size:Int):=by omega
       have ra61:IntKind.i64.wrap ((q:Int))=(q:Int):=by rw [IntKind.wrap_i64];omega
       have ec61:((q:Int)-1).toNat=q-1:=by omega
       have pc61:(0:Int)≤(q:Int)-1:=by omega
       have bc61:(q:Int)-1<(d0.size:Int):=by omega
       have rc61:IntKind.i64.wrap ((q:Int)-1)=(q:Int)-1:=by rw [IntKind.wrap_i64];omega
       obtain⟨u61,hu61⟩:∃ p,off+(q)*2=p:=⟨_,rfl⟩
       obtain⟨v61,hv61⟩:∃ p,off+(q-1)*2=p:=⟨_,rfl⟩
       obtain⟨x61,hx61⟩:∃ x,x=E[q]!:=⟨_,rfl⟩
       obtain⟨y61,hy61⟩:∃ x,x=E[q-1]!:=⟨_,rfl⟩
       have hd61:¬(q)=(q-1):=by omega
       have S2:Aside (SWK (mrkV κ) 2 w0 blk off (swp E (q) (q-1)) ((((wr.setCell ⟨blk,u61,none⟩ (.int .i64 y61)).setCell ⟨blk,u61+1,none⟩ (.int .i64 (κ y61))).setCell ⟨blk,v61,none⟩ (.int .i64 x61)).setCell ⟨blk,v61+1,none⟩ (.int .i64 (κ x61))).drew):=by
        rw [←hu61,←hv61,hx61,hy61]
        exact S1.out.swapped R (q) (q-1) (by have:=HS.out;omega) (by have:=HS.out;omega)
       have kk61:∀ i9,i9<d0.size→wr.cell? ⟨blk,off+i9*2,none⟩=some (.int .i64 E[i9]!)∧wr.cell? ⟨blk,off+i9*2+1,none⟩=some (.int .i64 (κ E[i9]!)):=fun i9 hi9=>mk_cells (S1.out.holds R.hblk R.hH HS.out) (by have:=HS.out;omega)
       have ka61:wr.drew.cell? ⟨blk,u61,none⟩=some (.int .i64 x61):=by rw [←hu61,hx61];exact (kk61 (q) (by omega)).1
       have kb61:wr.drew.cell? ⟨blk,u61+1,none⟩=some (.int .i64 (κ x61)):=by rw [←hu61,hx61];exact (kk61 (q) (by omega)).2
       have kc61:wr.drew.cell? ⟨blk,v61,none⟩=some (.int .i64 y61):=by rw [←hv61,hy61];exact (kk61 (q-1) (by omega)).1
       have kd61:wr.drew.cell? ⟨blk,v61+1,none⟩=some (.int .i64 (κ y61)):=by rw [←hv61,hy61];exact (kk61 (q-1) (by omega)).2
       have kf61:∀ i9,i9<d0.size→wr.frozen? ⟨blk,off+i9*2,none⟩=false∧wr.frozen? ⟨blk,off+i9*2+1,none⟩=false:=fun i9 hi9=>mk_frozen (S1.out.holds R.hblk R.hH HS.out) (by have:=HS.out;omega)
       have fa61:wr.drew.frozen? ⟨blk,u61,none⟩=false:=by rw [←hu61];exact (kf61 (q) (by omega)).1
       have fb61:wr.drew.frozen? ⟨blk,u61+1,none⟩=false:=by rw [←hu61];exact (kf61 (q) (by omega)).2
       have fc61:wr.drew.frozen? ⟨blk,v61,none⟩=false:=by rw [←hv61];exact (kf61 (q-1) (by omega)).1
       have fd61:wr.drew.frozen? ⟨blk,v61+1,none⟩=false:=by rw [←hv61];exact (kf61 (q-1) (by omega)).2
       have m161:¬u61=v61:=by omega
       have m261:¬v61=u61:=by omega
       have m361:¬u61+1=v61:=by omega
       have m461:¬v61=u61+1:=by omega
       have m561:¬v61+1=u61:=by omega
       have m661:¬u61=v61+1:=by omega
       have qa61:wr.cell? ⟨blk,u61,none⟩=some (.int .i64 x61):=ka61
       have qb61:wr.cell? ⟨blk,u61+1,none⟩=some (.int .i64 (κ x61)):=kb61
       have qc61:wr.cell? ⟨blk,v61,none⟩=some (.int .i64 y61):=kc61
       have qd61:wr.cell? ⟨blk,v61+1,none⟩=some (.int .i64 (κ y61)):=kd61
       have ga61:wr.frozen? ⟨blk,u61,none⟩=false:=fa61
       have gb61:wr.frozen? ⟨blk,u61+1,none⟩=false:=fb61
       have gc61:wr.frozen? ⟨blk,v61,none⟩=false:=fc61
       have gd61:wr.frozen? ⟨blk,v61+1,none⟩=false:=fd61
       clear kf61
       clear kk61 hx61 hy61 S1
       generalize κ x61=kx61 at S2 kb61 qb61
       generalize κ y61=ky61 at S2 kd61 qd61
       go_wp2_with fail
       go_big_region_o
       clear ka61 kb61 kc61 kd61 fa61 fb61 fc61 fd61 qa61 qb61 qc61 qd61 ga61 gb61 gc61 gd61 m161 m261 m361 m461 m561 m661
       generalize ((((wr.setCell ⟨blk,u61,none⟩ (.int .i64 y61)).setCell ⟨blk,u61+1,none⟩ (.int .i64 ky61)).setCell ⟨blk,v61,none⟩ (.int .i64 x61)).setCell ⟨blk,v61+1,none⟩ (.int .i64 kx61)).drew=w2 at S2 ⊢
       clear hu61 hv61
       go_wp2
       go_roundg (q-1-i)
       case measure=>omega
       case rel=>exact⟨q-1,by first | go_num | (congr 1;omega),by omega,by omega,Nat.le_refl _,by rw [←HT.out];exact S2⟩
     · obtain rfl:i=q:=by omega
       have hltz:¬(i:Int)<(i:Int):=by omega
       go_wp2
       first | go_end0 | refine bodyPost_ret (results_none rfl _ _ _) rfl ?_
       exact⟨rfl,HF.out (i-a) _ (by omega) HQ.out S1.out⟩
end Go.Proofs.YtbkgbhlmeeodgaaGreatDoor
