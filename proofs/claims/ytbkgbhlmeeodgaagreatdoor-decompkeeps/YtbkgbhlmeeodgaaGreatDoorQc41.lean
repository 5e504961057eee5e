/- A part. -/
import Derived.Test.YtbkgbhlmeeodgaaGreatDoorQc40
namespace Go.Proofs.YtbkgbhlmeeodgaaGreatDoor
open Go.RowKit Go.Sort Go.Shelf Go.Lib
set_option maxHeartbeats 4000000 in
set_option maxRecDepth 1000000 in
theorem swapRange178 {κ:Int→Int} {w0:World} {blk off:Nat} {d0:Array Int} (cap:Nat) (R:RowK (mrkV κ) 2 w0 blk off d0) (X U M V Y:List Int) (n a b:Nat) (w:World) (fv:Value)
 (hl:(X++U++M++V++Y).length=d0.size) (hU:U.length=n) (hV:V.length=n) (ha:a=X.length) (hb:b=X.length+n+M.length) (hsz:d0.size<1000000000) (S:SWK (mrkV κ) 2 w0 blk off (X++U++M++V++Y).toArray w):
 Calls Tryz.prog 196 #[.slice (some ⟨blk,off,none⟩) d0.size cap,.int .i64 a,.int .i64 b,.int .i64 n,fv] w fun e w'=>e=.returned (.tuple #[])∧SWK (mrkV κ) 2 w0 blk off (X++V++M++U++Y).toArray w':=by
 have mixed:=Tryz.insMk.mixed
 have hn:X.length+n+M.length+n≤d0.size:=by rw [←hl];simp;omega
 have HZ:Hid (∀ i,(swr X U M V Y i).size=d0.size):=fun i=>by rw [swr_size _ _ _ _ _ _ (hU.trans hV.symm)];exact hl
 have HST:Hid (∀ i,i<n→swp (swr X U M V Y i) (a+i) (b+i)=swr X U M V Y (i+1)):=fun i hi=>swr_step X U M V Y i _ _ n hU hV hi (by rw [ha]) (by rw [hb])
 have HE:Hid (swr X U M V Y n=(X++V++M++U++Y).toArray):=swr_all X U M V Y n hU hV
 have S0:Aside (SWK (mrkV κ) 2 w0 blk off (swr X U M V Y 0) w):=by rw [swr_zero];exact S
 have hab:a+n≤b∧b+n≤d0.size:=⟨by omega,by omega⟩
 clear S hl hU hV ha hb hn
 obtain⟨hA,hB⟩:=hab
 obtain⟨E,hE⟩:∃ E,(X++V++M++U++Y).toArray=E:=⟨_,rfl⟩
 rw [hE] at HE ⊢
 clear hE
 obtain⟨D,hD⟩:∃ D,D=swr X U M V Y:=⟨_,rfl⟩
 rw [←hD] at HZ HST HE S0
 clear hD
 go_enter Tryz.func196,Tryz.ntmps196
 go_wp2
 go_loopg [10] n (fun kx s10 wr=>∃ i:Nat,s10=.int .i64 i∧i≤n∧n-i≤kx∧Aside (SWK (mrkV κ) 2 w0 blk off (D i) wr))
 case atStart=>exact⟨0,by go_num,by omega,by omega,S0⟩
 case round=>
  clear S0
  obtain⟨i,rfl,hin,hkx,S1⟩:=hrel
  by_cases hlt:i<n
  · have hltz:(i:Int)<(n:Int):=by omega
    have hs:=HZ.out i
    have HS:=Lib.hid hs
    clear hs
    go_wp2_with fail
    have ea44:((a:Int)+(i:Int)).toNat=a+i:=by omega
    have pa44:(0:Int)≤(a:Int)+(i:Int):=by omega
    have ba44:(a:Int)+(i:Int)<(d0.size:Int):=by omega
    have ra44:IntKind.i64.wrap ((a:Int)+(i:Int))=(a:Int)+(i:Int):=by rw [IntKind.wrap_i64];omega
    have ec44:((b:Int)+(i:Int)).toNat=b+i:=by omega
    have pc44:(0:Int)≤(b:Int)+(i:Int):=by omega
    have bc44:(b:Int)+(i:Int)<(d0.size:Int):=by omega
    have rc44:IntKind.i64.wrap ((b:Int)+(i:Int))=(b:Int)+(i:Int):=by rw [IntKind.wrap_i64];omega
    obtain⟨u44,hu44⟩:∃ p,off+(a+i)*2=p:=⟨_,rfl⟩
    obtain⟨v44,hv44⟩:∃ p,off+(b+i)*2=p:=⟨_,rfl⟩
    obtain⟨x44,hx44⟩:∃ x,x=(D i)[a+i]!:=⟨_,rfl⟩
    obtain⟨y44,hy44⟩:∃ x,x=(D i)[b+i]!:=⟨_,rfl⟩
    have hd44:¬(a+i)=(b+i):=by omega
    have S2:Aside (SWK (mrkV κ) 2 w0 blk off (swp (D i) (a+i) (b+i)) ((((wr.setCell ⟨blk,u44,none⟩ (.int .i64 y44)).setCell ⟨blk,u44+1,none⟩ (.int .i64 (κ y44))).setCell ⟨blk,v44,none⟩ (.int .i64 x44)).setCell ⟨blk,v44+1,none⟩ (.int .i64 (κ x44))).drew):=by
     rw [←hu44,←hv44,hx44,hy44]
     exact S1.out.swapped R (a+i) (b+i) (by have:=HS.out;omega) (by have:=HS.out;omega)
    have kk44:∀ i9,i9<d0.size→wr.cell? ⟨blk,off+i9*2,none⟩=some (.int .i64 (D i)[i9]!)∧wr.cell? ⟨blk,off+i9*2+1,none⟩=some (.int .i64 (κ (D i)[i9]!)):=fun i9 hi9=>mk_cells (S1.out.holds R.hblk R.hH HS.out) (by have:=HS.out;omega)
    have ka44:wr.drew.cell? ⟨blk,u44,none⟩=some (.int .i64 x44):=by rw [←hu44,hx44];exact (kk44 (a+i) (by omega)).1
    have kb44:wr.drew.cell? ⟨blk,u44+1,none⟩=some (.int .i64 (κ x44)):=by rw [←hu44,hx44];exact (kk44 (a+i) (by omega)).2
    have kc44:wr.drew.cell? ⟨blk,v44,none⟩=some (.int .i64 y44):=by rw [←hv44,hy44];exact (kk44 (b+i) (by omega)).1
    have kd44:wr.drew.cell? ⟨blk,v44+1,none⟩=some (.int .i64 (κ y44)):=by rw [←hv44,hy44];exact (kk44 (b+i) (by omega)).2
    have kf44:∀ i9,i9<d0.size→wr.frozen? ⟨blk,off+i9*2,none⟩=false∧wr.frozen? ⟨blk,off+i9*2+1,none⟩=false:=fun i9 hi9=>mk_frozen (S1.out.holds R.hblk R.hH HS.out) (by have:=HS.out;omega)
    have fa44:wr.drew.frozen? ⟨blk,u44,none⟩=false:=by rw [←hu44];exact (kf44 (a+i) (by omega)).1
    have fb44:wr.drew.frozen? ⟨blk,u44+1,none⟩=false:=by rw [←hu44];exact (kf44 (a+i) (by omega)).2
    have fc44:wr.drew.frozen? ⟨blk,v44,none⟩=false:=by rw [←hv44];exact (kf44 (b+i) (by omega)).1
    have fd44:wr.drew.frozen? ⟨blk,v44+1,none⟩=false:=by rw [←hv44];exact (kf44 (b+i) (by omega)).2
    have m144:¬u44=v44:=by omega
    have m244:¬v44=u44:=by omega
    have m344:¬u44+1=v44:=by omega
    have m444:¬v44=u44+1:=by omega
    have m544:¬v44+1=u44:=by omega
    have m644:¬u44=v44+1:=by omega
    have qa44:wr.cell? ⟨blk,u44,none⟩=some (.int .i64 x44):=ka44
    have qb44:wr.cell? ⟨blk,u44+1,none⟩=some (.int .i64 (κ x44)):=kb44
    have qc44:wr.cell? ⟨blk,v44,none⟩=some (.int .i64 y44):=kc44
    have qd44:wr.cell? ⟨blk,v44+1,none⟩=some (.int .i64 (κ y44)):=kd44
    have ga44:wr.frozen? ⟨blk,u44,none⟩=false:=fa44
    have gb44:wr.frozen? ⟨blk,u44+1,none⟩=false:=fb44
    have gc44:wr.frozen? ⟨blk,v44,none⟩=false:=fc44
    have gd44:wr.frozen? ⟨blk,v44+1,none⟩=false:=fd44
    clear kf44
    clear kk44 hx44 hy44 S1
    generalize κ x44=kx44 at S2 kb44 qb44
    generalize κ y44=ky44 at S2 kd44 qd44
    go_wp2_with fail
    go_big_region_o
    clear ka44 kb44 kc44 kd44 fa44 fb44 fc44 fd44 qa44 qb44 qc44 qd44 ga44 gb44 gc44 gd44 m144 m244 m344 m444 m544 m644
    generalize ((((wr.setCell ⟨blk,u44,none⟩ (.int .i64 y44)).setCell ⟨blk,u44+1,none⟩ (.int .i64 ky44)).setCell ⟨blk,v44,none⟩ (.int .i64 x44)).setCell ⟨blk,v44+1,none⟩ (.int .i64 kx44)).drew=w2 at S2 ⊢
    clear hu44 hv44
    go_wp2
    go_roundg (n-(i+1))
    case measure=>omega
    case rel=>exact⟨i+1,by go_num,by omega,Nat.le_refl _,by rw [←HST.out i hlt];exact S2⟩
  · have hltz:¬(i:Int)<(n:Int):=by omega
    obtain rfl:i=n:=by omega
    go_wp2
    go_end0
    exact⟨rfl,by rw [←HE.out];exact S1.out⟩
set_option maxHeartbeats 4000000 in
set_option maxRecDepth 1000000 in
theorem rotate144 {κ:Int→Int} {w0:World} {blk off:Nat} {d0:Array Int} (cap:Nat) (R:RowK (mrkV κ) 2 w0 blk off d0) (X U V Y:List Int) (a m b:Nat) (w:World) (fv:Value)
 (hl:(X++U++V++Y).length=d0.size) (ha:a=X.length) (hm:m=a+U.length) (hb:b=m+V.length) (hU:0<U.length) (hV:0<V.length) (hsz:d0.size<1000000000) (S:SWK (mrkV κ) 2 w0 blk off (X++U++V++Y).toArray w):
 Calls Tryz.prog 162 #[.slice (some ⟨blk,off,none⟩) d0.size cap,.int .i64 a,.int .i64 m,.int .i64 b,fv] w fun e w'=>e=.returned (.tuple #[])∧SWK (mrkV κ) 2 w0 blk off (X++V++U++Y).toArray w':=by
 have hn:b≤d0.size:=by rw [←hl];simp;omega
 have CS:Hid (∀ (X U M V Y:List Int) (n a b:Nat) (w:World),(X++U++M++V++Y).length=d0.size→U.length=n→V.length=n→a=X.length→b=X.length+n+M.length→SWK (mrkV κ) 2 w0 blk off (X++U++M++V++Y).toArray w→Calls Tryz.prog 196 #[.slice (some ⟨blk,off,none⟩) d0.size cap,.int .i64 a,.int .i64 b,.int .i64 n,fv] w fun e w'=>e=.returned (.tuple #[])∧Aside (SWK (mrkV κ) 2 w0 blk off (X++V++M++U++Y).toArray w')):=fun X U M V Y n a b w h1 h2 h3 h4 h5 h6=>swapRange178 cap R X U M V Y n a b w fv h1 h2 h3 h4 h5 hsz h6
 obtain⟨G,hG⟩:∃ G,X++V++U++Y=G:=⟨_,rfl⟩
 have HGl:Hid (G.length=d0.size):=by show G.length=_;rw [←hG,←hl];simp;omega
 have HR:Hid (Rot G m (m-a) (b-m) (X++U++V++Y).toArray):=⟨X,U,V,Y,rfl,hG,by omega,by omega,by omega,by omega,by omega⟩
 have S0:Aside (SWK (mrkV κ) 2 w0 blk off (X++U++V++Y).toArray w):=S
 have h1:a<m:=by omega
 have h2:m<b:=by omega
 rw [hG]
 obtain⟨D0,hD⟩:∃ D,(X++U++V++Y).toArray=D:=⟨_,rfl⟩
 rw [hD] at HR S0
 clear S hl ha hm hb hU hV hG hD
 have z1:IntKind.i64.wrap ((m:Int)-(a:Int))=(m:Int)-(a:Int):=by rw [IntKind.wrap_i64];omega
 have z2:IntKind.i64.wrap ((b:Int)-(m:Int))=(b:Int)-(m:Int):=by rw [IntKind.wrap_i64];omega
 go_enter Tryz.func162,Tryz.ntmps162
 go_wp2
 go_loopg [10,11] (b-a) (fun kx s10 s11 wr=>∃ (i j:Nat) (D:Array Int),s10=.int .i64 i∧s11=.int .i64 j∧i+j≤kx∧i≤m-a∧j≤b-m∧Hid (Rot G m i j D)∧Aside (SWK (mrkV κ) 2 w0 blk off D wr))
 case atStart=>exact⟨m-a,b-m,D0,by go_num,by go_num,by omega,Nat.le_refl _,Nat.le_refl _,HR,S0⟩
 case round=>
  clear S0 HR z1 z2
  obtain⟨i,j,D,rfl,rfl,hkx,hia,hjb,HR,S1⟩:=hrel
  obtain⟨X1,U1,V1,Y1,rfl,hG,hu,hv,hX,h0i,h0j⟩:=HR.out.out
  have hlen:(X1++U1++V1++Y1).length=d0.size:=by rw [←HGl.out,←hG];simp;omega
  by_cases hlt:j<i
  · obtain⟨A,B,rfl,hA,hB,HR2⟩:=rot_more hG hu hv hX hlt h0j
    have c:=CS.out X1 A B V1 Y1 j (m-i) m wr (by rw [←hlen];simp <;> omega) hA hv (by omega) (by omega) (by rw [←List.append_assoc] at S1;exact S1.out)
    have HQ:=Lib.hid HR2
    have q1:¬((i:Int)=(j:Int)):=by omega
    have q2:(j:Int)<(i:Int):=by omega
    have q3:IntKind.i64.wrap ((m:Int)-(i:Int))=(m:Int)-(i:Int):=by rw [IntKind.wrap_i64];omega
    have q4:IntKind.i64.wrap ((i:Int)-(j:Int))=(i:Int)-(j:Int):=by rw [IntKind.wrap_i64];omega
    rw [show ((m-i:Nat):Int)=(m:Int)-(i:Int) by omega] at c
    clear HR S1 hG hu hv hX hA hB HR2 hlen
    generalize (X1++V1++B++A++Y1).toArray=D2 at c HQ
    go_wp2_with (go_at_call 196;(with_reducible refine c.mono ?_);rintro e w2 ⟨rfl,S2⟩)
    go_roundg (i-j+j)
    case measure=>omega
    case rel=>exact⟨i-j,j,D2,by go_num,rfl,Nat.le_refl _,by omega,hjb,HQ,S2⟩
  · by_cases hlt2:i<j
    · obtain⟨A,B,rfl,hA,hB,HR2⟩:=rot_less hG hv hX hlt2 h0i
      have c:=CS.out X1 U1 A B Y1 i (m-i) (m+j-i) wr (by rw [←hlen];simp <;> omega) hu hB (by omega) (by omega) (by rw [←List.append_assoc] at S1;exact S1.out)
      have HQ:=Lib.hid HR2
      have q1:¬((i:Int)=(j:Int)):=by omega
      have q2:¬(j:Int)<(i:Int):=by omega
      have q3:IntKind.i64.wrap ((m:Int)-(i:Int))=(m:Int)-(i:Int):=by rw [IntKind.wrap_i64];omega
      have q4:IntKind.i64.wrap ((j:Int)-(i:Int))=(j:Int)-(i:Int):=by rw [IntKind.wrap_i64];omega
      have q5:IntKind.i64.wrap ((m:Int)+(j:Int)-(i:Int))=(m:Int)+(j:Int)-(i:Int):=by rw [IntKind.wrap_i64];omega
      rw [show ((m-i:Nat):Int)=(m:Int)-(i:Int) by omega,show ((m+j-i:Nat):Int)=(m:Int)+(j:Int)-(i:Int) by omega] at c
      clear HR S1 hG hu hv hX hA hB HR2 hlen
      generalize (X1++B++A++U1++Y1).toArray=D2 at c HQ
      go_wp2_with (go_at_call 196;(with_reducible refine c.mono ?_);rintro e w2 ⟨rfl,S2⟩)
      go_roundg (i+(j-i))
      case measure=>omega
      case rel=>exact⟨i,j-i,D2,rfl,by go_num,Nat.le_refl _,hia,by omega,HQ,S2⟩
    · obtain rfl:i=j:=by omega
      have c:=CS.out X1 U1 [] V1 Y1 i (m-i) m wr (by rw [←hlen];simp) hu hv (by omega) (by simp;omega) (by rw [List.append_nil];exact S1.out)
      rw [List.append_nil,hG] at c
      have q3:IntKind.i64.wrap ((m:Int)-(i:Int))=(m:Int)-(i:Int):=by rw [IntKind.wrap_i64];omega
      rw [show ((m-i:Nat):Int)=(m:Int)-(i:Int) by omega] at c
      clear HR S1 hG hu hv hX hlen
      go_wp2_with (go_at_call 196;(with_reducible refine c.mono ?_);rintro e w2 ⟨rfl,S2⟩)
      go_end0
      exact⟨rfl,S2.out⟩
def Mrg (κ:Int→Int) (A R:List Int):Prop:=R.length=A.length∧Srt κ R∧Cl κ A R
def SymPost (κ:Int→Int) (w0:World) (blk off:Nat) (X U V Y:List Int) (w:World):Prop:=∃ R,Mrg κ (U++V) R∧SWK (mrkV κ) 2 w0 blk off (X++R++Y).toArray w
def SrA (κ:Int→Int) (x:Int) (V:List Int) (p q:Nat):Prop:=(∀ y,0<p→V[p-1]? = some y → κ y < κ x)∧(∀ y,V[q]? = some y→¬κ y < κ x)
def SrB (κ:Int→Int) (x:Int) (U:List Int) (p q:Nat):Prop:=(∀ y,0<p→U[p-1]? = some y→¬κ x < κ y)∧(∀ y,U[q]? = some y → κ x < κ y)
theorem half {i j:Nat} (h:i<j):∃ c:Nat,((i:Int)+(j:Int))/2=(c:Int)∧i≤c∧c<j:=⟨(i+j)/2,by omega,by omega,by omega⟩
theorem srA_up {κ:Int→Int} {x:Int} {V:List Int} {p q c:Nat} {z:Int} (h:SrA κ x V p q) (hz:V[c]? = some z) (hk:κ z < κ x):SrA κ x V (c+1) q:=⟨fun y _ hy=>by rw [show c+1-1=c from rfl,hz] at hy;cases hy;exact hk,h.2⟩
theorem srA_down {κ:Int→Int} {x:Int} {V:List Int} {p q c:Nat} {z:Int} (h:SrA κ x V p q) (hz:V[c]? = some z) (hk:¬κ z < κ x):SrA κ x V p c:=⟨h.1,fun y hy=>by rw [hz] at hy;cases hy;exact hk⟩
theorem srB_up {κ:Int→Int} {x:Int} {V:List Int} {p q c:Nat} {z:Int} (h:SrB κ x V p q) (hz:V[c]? = some z) (hk:¬κ x < κ z):SrB κ x V (c+1) q:=⟨fun y _ hy=>by rw [show c+1-1=c from rfl,hz] at hy;cases hy;exact hk,h.2⟩
theorem srB_down {κ:Int→Int} {x:Int} {V:List Int} {p q c:Nat} {z:Int} (h:SrB κ x V p q) (hz:V[c]? = some z) (hk:κ x < κ z):SrB κ x V p c:=⟨h.1,fun y hy=>by rw [hz] at hy;cases hy;exact hk⟩
set_option maxHeartbeats 8000000 in
set_option maxRecDepth 1000000 in
theorem sym_one {κ:Int→Int} {w0:World} {blk off:Nat} {d0:Array Int} (cap:Nat) (R:RowK (mrkV κ) 2 w0 blk off d0) (hC:CmpLays Tryz.prog 74 #[] (mrkV κ) 2 (cfK κ) blk off d0.size w0) (X V Y:List Int) (x:Int) (a m b:Nat) (w:World)
 (hl:(X ++ [x]++V++Y).length=d0.size) (ha:a=X.length) (hm:m=a+1) (hb:b=m+V.length) (hV:0<V.length) (hs:Srt κ V) (hsz:d0.size<1000000000) (S:SWK (mrkV κ) 2 w0 blk off (X ++ [x]++V++Y).toArray w):
 Calls Tryz.prog 132 #[.slice (some ⟨blk,off,none⟩) d0.size cap,.int .i64 a,.int .i64 m,.int .i64 b,.func (.func 74) #[] #[]] w fun e w'=>e=.returned (.tuple #[])∧SymPost κ w0 blk off X [x] V Y w':=by
 have mixed:=Tryz.insMk.mixed
 have HC:=Lib.hid hC
 have hn:b≤d0.size:=by rw [←hl];simp;omega
 have HZ:Hid (∀ i,(wayR X V Y x i).size=d0.size):=fun i=>by rw [←hl];simp [wayR];omega
 have HST:Hid (∀ i,i<V.length→swp (wayR X V Y x i) (a+i) (a+i+1)=wayR X V Y x (i+1)):=fun i hi=>wayR_step X V Y x i _ hi (by rw [ha])
 have HA:Hid ((wayR X V Y x 0)[a]! = x):=by show _=x;rw [wayR_zero];exact arr_get _ _ _ (by subst ha;simp)
 have HB:Hid (∀ i z,V[i]? = some z→(wayR X V Y x 0)[m+i]! = z):=fun i z hz=>by
  rw [wayR_zero]
  refine arr_get _ _ _ ?_
  have:=at_V (X:=X) (U:=[x]) (V:=V) (Y:=Y) (List.getElem?_eq_some_iff.1 hz).1
  rw [←hz,←this]
  subst hm ha
  simp
 have HF:Hid (∀ p w',p≤V.length→SrA κ x V p p→SWK (mrkV κ) 2 w0 blk off (wayR X V Y x p) w'→SymPost κ w0 blk off X [x] V Y w'):=fun p w' hp hq hw=>by
  obtain⟨g1,g2⟩:=one_right hs hp hq.1 hq.2
  exact⟨_,⟨by simp;omega,g1,g2⟩,hw⟩
 have S0:Aside (SWK (mrkV κ) 2 w0 blk off (wayR X V Y x 0) w):=by rw [wayR_zero];exact S
 obtain⟨N,hN⟩:∃ N,N=V.length:=⟨_,rfl⟩
 have HV:Hid (V.length=N):=hN.symm
 rw [←hN] at hV hb HST HF
 have g1:a+1≤m:=by omega
 have g2:m≤a+1:=by omega
 have g3:m+N≤b:=by omega
 have g4:b≤m+N:=by omega
 have g5:((m:Int)-(a:Int)==1)=true:=by rw [show (m:Int)-(a:Int)=1 by omega];rfl
 have HS0:Hid (SrA κ x V 0 N):=⟨fun y h=>absurd h (Nat.lt_irrefl _),fun y hy=>by have:=(List.getElem?_eq_some_iff.1 hy).1;omega⟩
 obtain⟨D,hD⟩:∃ D,D=wayR X V Y x:=⟨_,rfl⟩
 rw [←hD] at HZ HST HA HB HF S0
 clear S hl ha hs hD hC hN hb hm
 go_enter Tryz.func132,Tryz.ntmps132
 go_wp2
 go_loopg [10,11] N (fun kx s10 s11 wr=>∃ i j:Nat,s10=.int .i64 i∧s11=.int .i64 j∧m≤i∧i≤j∧j≤b∧j-i≤kx∧Hid (SrA κ x V (i-m) (j-m))∧Aside (SWK (mrkV κ) 2 w0 blk off (D 0) wr))
 case atStart=>exact⟨m,b,rfl,rfl,Nat.le_refl _,by omega,Nat.le_refl _,by omega,by rw [show m-m=0 by omega,show b-m=N by omega];exact HS0,S0⟩
 case round=>
  clear S0 HS0
  obtain⟨i,j,rfl,rfl,hai,hij,hjN,hkx,HQ,S1⟩:=hrel
  have HS:=Lib.hid (HZ.out 0)
  by_cases hlt:i<j
  · have hltz:(i:Int)<(j:Int):=by omega
    obtain⟨c,hc,hc1,hc2⟩:=half hlt
    obtain⟨z,hz⟩:∃ z,V[c-m]? = some z:=⟨_,List.getElem?_eq_getElem (by have:=HV.out;omega)⟩
    have hDz:(D 0)[c]! = z:=by have:=HB.out (c-m) z hz;rwa [show m+(c-m)=c by omega] at this
    have HZ2:=Lib.hid (And.intro hDz hz)
    have HC2:=Lib.hid hc
    clear hDz hz hc
    by_cases hk:κ z < κ x
    · have HK:=Lib.hid hk
      have hk2:κ (D 0)[c]! < κ (D 0)[a]!:=by rw [HZ2.out.1,HA.out];exact HK.out
      have HK2:=Lib.hid hk2
      clear hk hk2
      go_wp2_with fail
      rw [HC2.out]
      have ea31:((c:Int)).toNat=c:=by omega
      have pa31:(0:Int)≤(c:Int):=by omega
      have ba31:(c:Int)<(d0.size:Int):=by omega
      have ra31:IntKind.i64.wrap ((c:Int))=(c:Int):=by rw [IntKind.wrap_i64];omega
      have ec31:((a:Int)).toNat=a:=by omega
      have pc31:(0:Int)≤(a:Int):=by omega
      have bc31:(a:Int)<(d0.size:Int):=by omega
      have rc31:IntKind.i64.wrap ((a:Int))=(a:Int):=by rw [IntKind.wrap_i64];omega
      obtain⟨u31,hu31⟩:∃ p,off+(c)*2=p:=⟨_,rfl⟩
      obtain⟨v31,hv31⟩:∃ p,off+(a)*2=p:=⟨_,rfl⟩
      obtain⟨x31,hx31⟩:∃ x,x=(D 0)[c]!:=⟨_,rfl⟩
      obtain⟨y31,hy31⟩:∃ x,x=(D 0)[a]!:=⟨_,rfl⟩
      have kk31:∀ i9,i9<d0.size→∀ n9 os9,(grow (wr.drewN n9) os9).cell? ⟨blk,off+i9*2,none⟩=some (.int .i64 (D 0)[i9]!)∧(grow (wr.drewN n9) os9).cell? ⟨blk,off+i9*2+1,none⟩=some (.int .i64 (κ (D 0)[i9]!)):=fun i9 hi9 n9 os9=>mk_cells ((S1.out.grown n9 os9).holds R.hblk R.hH HS.out) (by have:=HS.out;omega)
      have ka31:∀ n os,(grow (wr.drewN n) os).cell? ⟨blk,u31,none⟩=some (.int .i64 x31):=fun n os=>by rw [←hu31,hx31];exact (kk31 (c) (by omega) n os).1
      have kb31:∀ n os,(grow (wr.drewN n) os).cell? ⟨blk,u31+1,none⟩=some (.int .i64 (κ x31)):=fun n os=>by rw [←hu31,hx31];exact (kk31 (c) (by omega) n os).2
      have kc31:∀ n os,(grow (wr.drewN n) os).cell? ⟨blk,v31,none⟩=some (.int .i64 y31):=fun n os=>by rw [←hv31,hy31];exact (kk31 (a) (by omega) n os).1
      have kd31:∀ n os,(grow (wr.drewN n) os).cell? ⟨blk,v31+1,none⟩=some (.int .i64 (κ y31)):=fun n os=>by rw [←hv31,hy31];exact (kk31 (a) (by omega) n os).2
      have hc31:∀ n os,Calls Tryz.prog 74 #[.agg #[.int .i64 x31,.int .i64 (κ x31)],.agg #[.int .i64 y31,.int .i64 (κ y31)]] (grow (wr.drewN n) os) fun e w'=>e=.returned (.int .i64 (cfK κ x31 y31))∧∃ q os',w'=grow ((grow (wr.drewN n) os).drewN q) os':=fun n os=>S1.out.cmp HC.out HS.out x31 y31 n os
      have hz31:cfK κ x31 y31<0:=by rw [hx31,hy31];exact (cfK_lt _ _ _).2 (by have h2:=HK2.out;omega)
      clear kk31 hx31 hy31
      generalize cfK κ x31 y31=z31 at hc31 hz31
      generalize κ x31=kx31 at hc31 kb31
      generalize κ y31=ky31 at hc31 kd31
      have hj31:decide (z31<0)=true:=decide_eq_true hz31
      have hw31:(!decide (z31<0))=false:=by rw [hj31];rfl
      go_wp2_with fail
      go_quiet_grown (first | (go_at_call 74;refine Calls.grown_of (hc31 _ _)) | (go_at_fn 60;refine Calls.grown_of (hc31 _ _)))
      have S2:Aside (SWK (mrkV κ) 2 w0 blk off (D 0) (grow (wr.drewN nq) osq)):=S1.out.grown nq osq
      clear ka31 kb31 kc31 kd31 hc31 S1 hu31 hv31
      generalize grow (wr.drewN nq) osq=w2 at S2 ⊢
      clear nq osq
      go_wp2
      go_roundg (j-(c+1))
      case measure=>omega
      case rel=>exact⟨c+1,j,by go_num,rfl,by omega,by omega,hjN,Nat.le_refl _,by rw [show c+1-m=c-m+1 by omega];exact srA_up HQ.out HZ2.out.2 HK.out,S2⟩
    · have HK:=Lib.hid hk
      have hk2:¬κ (D 0)[c]! < κ (D 0)[a]!:=by rw [HZ2.out.1,HA.out];exact HK.out
      have HK2:=Lib.hid hk2
      clear hk hk2
      go_wp2_with fail
      rw [HC2.out]
      have ea32:((c:Int)).toNat=c:=by omega
      have pa32:(0:Int)≤(c:Int):=by omega
      have ba32:(c:Int)<(d0.size:Int):=by omega
      have ra32:IntKind.i64.wrap ((c:Int))=(c:Int):=by rw [IntKind.wrap_i64];omega
      have ec32:((a:Int)).toNat=a:=by omega
      have pc32:(0:Int)≤(a:Int):=by omega
      have bc32:(a:Int)<(d0.size:Int):=by omega
      have rc32:IntKind.i64.wrap ((a:Int))=(a:Int):=by rw [IntKind.wrap_i64];omega
      obtain⟨u32,hu32⟩:∃ p,off+(c)*2=p:=⟨_,rfl⟩
      obtain⟨v32,hv32⟩:∃ p,off+(a)*2=p:=⟨_,rfl⟩
      obtain⟨x32,hx32⟩:∃ x,x=(D 0)[c]!:=⟨_,rfl⟩
      obtain⟨y32,hy32⟩:∃ x,x=(D 0)[a]!:=⟨_,rfl⟩
      have kk32:∀ i9,i9<d0.size→∀ n9 os9,(grow (wr.drewN n9) os9).cell? ⟨blk,off+i9*2,none⟩=some (.int .i64 (D 0)[i9]!)∧(grow (wr.drewN n9) os9).cell? ⟨blk,off+i9*2+1,none⟩=some (.int .i64 (κ (D 0)[i9]!)):=fun i9 hi9 n9 os9=>mk_cells ((S1.out.grown n9 os9).holds R.hblk R.hH HS.out) (by have:=HS.out;omega)
      have ka32:∀ n os,(grow (wr.drewN n) os).cell? ⟨blk,u32,none⟩=some (.int .i64 x32):=fun n os=>by rw [←hu32,hx32];exact (kk32 (c) (by omega) n os).1
      have kb32:∀ n os,(grow (wr.drewN n) os).cell? ⟨blk,u32+1,none⟩=some (.int .i64 (κ x32)):=fun n os=>by rw [←hu32,hx32];exact (kk32 (c) (by omega) n os).2
      have kc32:∀ n os,(grow (wr.drewN n) os).cell? ⟨blk,v32,none⟩=some (.int .i64 y32):=fun n os=>by rw [←hv32,hy32];exact (kk32 (a) (by omega) n os).1
      have kd32:∀ n os,(grow (wr.drewN n) os).cell? ⟨blk,v32+1,none⟩=some (.int .i64 (κ y32)):=fun n os=>by rw [←hv32,hy32];exact (kk32 (a) (by omega) n os).2
      have hc32:∀ n os,Calls Tryz.prog 74 #[.agg #[.int .i64 x32,.int .i64 (κ x32)],.agg #[.int .i64 y32,.int .i64 (κ y32)]] (grow (wr.drewN n) os) fun e w'=>e=.returned (.int .i64 (cfK κ x32 y32))∧∃ q os',w'=grow ((grow (wr.drewN n) os).drewN q) os':=fun n os=>S1.out.cmp HC.out HS.out x32 y32 n os
      have hz32:¬cfK κ x32 y32<0:=by rw [hx32,hy32];exact fun h=>by have h1:=(cfK_lt _ _ _).1 h;have h2:=HK2.out;omega
      clear kk32 hx32 hy32
      generalize cfK κ x32 y32=z32 at hc32 hz32
      generalize κ x32=kx32 at hc32 kb32
      generalize κ y32=ky32 at hc32 kd32
      have hj32:decide (z32<0)=false:=decide_eq_false hz32
      have hw32:(!decide (z32<0))=true:=by rw [hj32];rfl
      go_wp2_with fail
      go_quiet_grown (first | (go_at_call 74;refine Calls.grown_of (hc32 _ _)) | (go_at_fn 60;refine Calls.grown_of (hc32 _ _)))
      have S2:Aside (SWK (mrkV κ) 2 w0 blk off (D 0) (grow (wr.drewN nq) osq)):=S1.out.grown nq osq
      clear ka32 kb32 kc32 kd32 hc32 S1 hu32 hv32
      generalize grow (wr.drewN nq) osq=w2 at S2 ⊢
      clear nq osq
      go_wp2
      go_roundg (c-i)
      case measure=>omega
      case rel=>exact⟨i,c,rfl,rfl,hai,by omega,by omega,Nat.le_refl _,srA_down HQ.out HZ2.out.2 (by have:=HK.out;omega),S2⟩
  · obtain rfl:i=j:=by omega
    have hltz:¬(i:Int)<(i:Int):=by omega
    clear hkx
    go_wp2
    go_loopg [13] i (fun kx s13 wr=>∃ q:Nat,s13=.int .i64 q∧a≤q∧q+1≤i∧i-q≤kx∧Aside (SWK (mrkV κ) 2 w0 blk off (D (q-a)) wr))
    case atStart=>exact⟨a,rfl,Nat.le_refl _,by omega,by omega,by rw [show a-a=0 by omega];exact S1⟩
    case round=>
     clear S1 HS
     obtain⟨q,rfl,haq,hqi,hkx,S1⟩:=hrel
     by_cases hlt:q+1<i
     · have hltz:(q:Int)<(i:Int)-1:=by omega
       have HS:=Lib.hid (HZ.out (q-a))
       have hst:=HST.out (q-a) (by omega)
       rw [show a+(q-a)=q by omega] at hst
       have HT:=Lib.hid hst
       clear hst
       obtain⟨E,hE⟩:∃ E,D (q-a)=E:=⟨_,rfl⟩
       rw [hE] at S1 HS HT
       clear hE
       go_wp2_with fail
       have ea61:((q:Int)).toNat=q:=by omega
       have pa61:(0:Int)≤(q:Int):=by omega
       have ba61:(q:Int)<(d0.size:Int):=by omega
       have ra61:IntKind.i64.wrap ((q:Int))=(q:Int):=by rw [IntKind.wrap_i64];omega
       have ec61:((q:Int)+1).toNat=q+1:=by omega
       have pc61:(0:Int)≤(q:Int)+1:=by omega
       have bc61:(q:Int)+1<(d0.size:Int):=by omega
       have rc61:IntKind.i64.wrap ((q:Int)+1)=(q:Int)+1:=by rw [IntKind.wrap_i64];omega
       obtain⟨u61,hu61⟩:∃ p,off+(q)*2=p:=⟨_,rfl⟩
       obtain⟨v61,hv61⟩:∃ p,off+(q+1)*2=p:=⟨_,rfl⟩
       obtain⟨x61,hx61⟩:∃ x,x=E[q]!:=⟨_,rfl⟩
       obtain⟨y61,hy61⟩:∃ x,x=E[q+1]!:=⟨_,rfl⟩
       have hd61:¬(q)=(q+1):=by omega
       have S2:Aside (SWK (mrkV κ) 2 w0 blk off (swp E (q) (q+1)) ((((wr.setCell ⟨blk,u61,none⟩ (.int .i64 y61)).setCell ⟨blk,u61+1,none⟩ (.int .i64 (κ y61))).setCell ⟨blk,v61,none⟩ (.int .i64 x61)).setCell ⟨blk,v61+1,none⟩ (.int .i64 (κ x61))).drew):=by
        rw [←hu61,←hv61,hx61,hy61]
        exact S1.out.swapped R (q) (q+1) (by have:=HS.out;omega) (by have:=HS.out;omega)
       have kk61:∀ i9,i9<d0.size→wr.cell? ⟨blk,off+i9*2,none⟩=some (.int .i64 E[i9]!)∧wr.cell? ⟨blk,off+i9*2+1,none⟩=some (.int .i64 (κ E[i9]!)):=fun i9 hi9=>mk_cells (S1.out.holds R.hblk R.hH HS.out) (by have:=HS.out;omega)
       have ka61:wr.drew.cell? ⟨blk,u61,none⟩=some (.int .i64 x61):=by rw [←hu61,hx61];exact (kk61 (q) (by omega)).1
       have kb61:wr.drew.cell? ⟨blk,u61+1,none⟩=some (.int .i64 (κ x61)):=by rw [←hu61,hx61];exact (kk61 (q) (by omega)).2
       have kc61:wr.drew.cell? ⟨blk,v61,none⟩=some (.int .i64 y61):=by rw [←hv61,hy61];exact (kk61 (q+1) (by omega)).1
       have kd61:wr.drew.cell? ⟨blk,v61+1,none⟩=some (.int .i64 (κ y61)):=by rw [←hv61,hy61];exact (kk61 (q+1) (by omega)).2
       have kf61:∀ i9,i9<d0.size→wr.frozen? ⟨blk,off+i9*2,none⟩=false∧wr.frozen? ⟨blk,off+i9*2+1,none⟩=false:=fun i9 hi9=>mk_frozen (S1.out.holds R.hblk R.hH HS.out) (by have:=HS.out;omega)
       have fa61:wr.drew.frozen? ⟨blk,u61,none⟩=false:=by rw [←hu61];exact (kf61 (q) (by omega)).1
       have fb61:wr.drew.frozen? ⟨blk,u61+1,none⟩=false:=by rw [←hu61];exact (kf61 (q) (by omega)).2
       have fc61:wr.drew.frozen? ⟨blk,v61,none⟩=false:=by rw [←hv61];exact (kf61 (q+1) (by omega)).1
       have fd61:wr.drew.frozen? ⟨blk,v61+1,none⟩=false:=by rw [←hv61];exact (kf61 (q+1) (by omega)).2
       have m161:¬u61=v61:=by omega
       have m261:¬v61=u61:=by omega
       have m361:¬u61+1=v61:=by omega
       have m461:¬v61=u61+1:=by omega
       have m561:¬v61+1=u61:=by omega
       have m661:¬u61=v61+1:=by omega
       have qa61:wr.cell? ⟨blk,u61,none⟩=some (.int .i64 x61):=ka61
       have qb61:wr.cell? ⟨blk,u61+1,none⟩=some (.int .i64 (κ x61)):=kb61
       have qc61:wr.cell? ⟨blk,v61,none⟩=some (.int .i64 y61):=kc61
       have qd61:wr.cell? ⟨blk,v61+1,none⟩=some (.int .i64 (κ y61)):=kd61
       have ga61:wr.frozen? ⟨blk,u61,none⟩=false:=fa61
       have gb61:wr.frozen? ⟨blk,u61+1,none⟩=false:=fb61
       have gc61:wr.frozen? ⟨blk,v61,none⟩=false:=fc61
       have gd61:wr.frozen? ⟨blk,v61+1,none⟩=false:=fd61
       clear kf61
       clear kk61 hx61 hy61 S1
       generalize κ x61=kx61 at S2 kb61 qb61
       generalize κ y61=ky61 at S2 kd61 qd61
       go_wp2_with fail
       go_big_region_o
       clear ka61 kb61 kc61 kd61 fa61 fb61 fc61 fd61 qa61 qb61 qc61 qd61 ga61 gb61 gc61 gd61 m161 m261 m361 m461 m561 m661
       generalize ((((wr.setCell ⟨blk,u61,none⟩ (.int .i64 y61)).setCell ⟨blk,u61+1,none⟩ (.int .i64 ky61)).setCell ⟨blk,v61,none⟩ (.int .i64 x61)).setCell ⟨blk,v61+1,none⟩ (.int .i64 kx61)).drew=w2 at S2 ⊢
       clear hu61 hv61
       go_wp2
       go_roundg (i-(q+1))
       case measure=>omega
       case rel=>exact⟨q+1,by go_num,by omega,by omega,Nat.le_refl _,by rw [show q+1-a=q-a+1 by omega,←HT.out];exact S2⟩
     · obtain rfl:q+1=i:=by omega
       have hltz:¬(q:Int)<((q+1:Nat):Int)-1:=by omega
       rw [show q+1-m=q-a by omega] at HQ
       go_wp2
       first | go_end0 | refine bodyPost_ret (results_none rfl _ _ _) rfl ?_
       exact⟨rfl,HF.out (q-a) _ (by omega) HQ.out S1.out⟩
end Go.Proofs.YtbkgbhlmeeodgaaGreatDoor
