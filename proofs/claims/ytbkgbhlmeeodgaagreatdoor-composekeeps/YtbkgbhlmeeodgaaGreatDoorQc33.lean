/- A part. -/
import Derived.Test.YtbkgbhlmeeodgaaGreatDoorQc25
import Derived.Test.YtbkgbhlmeeodgaaGreatDoorQc26
import Derived.Test.YtbkgbhlmeeodgaaGreatDoorQc30
import Derived.Test.YtbkgbhlmeeodgaaGreatDoorQc32
namespace Go.Proofs.YtbkgbhlmeeodgaaGreatDoor
open Go.RowKit
attribute [local go_sem] Oper.semAt_some
theorem vals_few' (i:Nat):(valsOf i).length≤1000:=by unfold valsOf;split <;> simp
def g00:Nat→Value:=fun i=>if i=7 then .map none else .pointer none
def RdI (w0 w:World) (f:Nat→List UInt8) (bv vv:Nat→Value) (b:Nat) (i:Value) (W:World):Prop:=
 ∃ (k:Nat) (g:Nat→Value),(i=.int .i64 k∧k≤5)∧readP f (5-k) k=readOf f∧RB w0 w W bv g b∧RS f W g vv k
theorem ml_on {w0 W:World} (hM:ML w0) (hb:Below w0.heap.size w0 W):ML W:=by
 obtain⟨m,hm⟩:=hM
 exact⟨m,(hb.cell (p:=⟨1,0,none⟩) (World.block_lt_of_cell? w0 _ hm)).trans hm⟩
theorem octs_on {w0 W:World} {A:Option Addr} {n:Nat} {l:List UInt8} (h:Octs w0 A n l) (hb:Below w0.heap.size w0 W):Octs W A n l:=h.below hb
theorem readp_go {f:Nat→List UInt8} {k:Nat} (hk:k<5) (h:(prF f k).err=0):readP f (5-k) k=readP f (5-(k+1)) (k+1):=by
 obtain⟨m,hm⟩:∃ m,5-k=m+1:=⟨5-k-1,by omega⟩
 rw [hm,readP,if_pos h,show 5-(k+1)=m by omega]
theorem readp_no {f:Nat→List UInt8} {k:Nat} (hk:k<5) (h:¬(prF f k).err=0):readP f (5-k) k=⟨2+(k:Int),(prF f k).num,(prF f k).err⟩:=by
 obtain⟨m,hm⟩:∃ m,5-k=m+1:=⟨5-k-1,by omega⟩
 rw [hm,readP,if_neg h]
set_option maxRecDepth 100000 in
set_option maxHeartbeats 4000000 in
theorem read50 (b0 b1 b2 b3 b4 b5 b6:Option Addr) (n0 n1 n2 n3 n4 n5 n6 m0 m1 m2 m3 m4 m5 m6:Nat) (f:Nat→List UInt8) (w0 w:World) (b:Nat) (h0:Octs w0 b0 n0 (f 0)) (h1:Octs w0 b1 n1 (f 1)) (h2:Octs w0 b2 n2 (f 2)) (h3:Octs w0 b3 n3 (f 3)) (h4:Octs w0 b4 n4 (f 4)) (h5:Octs w0 b5 n5 (f 5)) (h6:Octs w0 b6 n6 (f 6)) (hn:n0+n1+n2+n3+n4+n5+n6≤3100) (hM:ML w0)
 (hbe:Below w0.heap.size w0 w) (hlow:w0.heap.size≤b∧b<w.heap.size) (ho:Odd w b) (hd:∀ i,i<8→w.cell? ⟨b,i,none⟩=some (g00 i)) (hfr:∀ i,w.frozen? ⟨b,i,none⟩=false):
 Calls Tryz.prog 48 #[.pointer (some ⟨b,0,none⟩),.agg #[.slice b0 n0 m0,.slice b1 n1 m1,.slice b2 n2 m2,.slice b3 n3 m3,.slice b4 n4 m4,.slice b5 n5 m5,.slice b6 n6 m6]] w (ReadPost f w0 b):=by
 obtain⟨W1,hW1⟩:∃ W1,(w.alloc (.cells #[.slice b0 n0 m0,.slice b1 n1 m1,.slice b2 n2 m2,.slice b3 n3 m3,.slice b4 n4 m4,.slice b5 n5 m5,.slice b6 n6 m6] 24)).alloc (.cells #[.int .i64 0,.int .i64 0,.int .i64 0] 42)=W1:=⟨_,rfl⟩
 have hb1:Below w.heap.size w W1:=by rw [←hW1];exact ((Below.refl _ _).alloc (Nat.le_refl _) _).alloc (by simp) _
 have R1:RB w0 w W1 (bunV (.slice b0 n0 m0) (.slice b1 n1 m1) (.slice b2 n2 m2) (.slice b3 n3 m3) (.slice b4 n4 m4) (.slice b5 n5 m5) (.slice b6 n6 m6)) g00 b:=by
  refine⟨hbe.trans (hb1.mono hbe.size),hlow,fun i hi=>?_,fun i hi=>?_,fun i=>?_,ho.below hlow.2 hb1,fun i=>(hb1.frozen (p:=⟨b,i,none⟩) hlow.2).trans (hfr i),fun i hi=>(hb1.cell (p:=⟨b,i,none⟩) hlow.2).trans (hd i hi)⟩
  · rw [←hW1,old_at _ _ _ _ (by simp),new_at _ _ _ _ _ rfl];exact seven_at _ _ _ _ _ _ _ i hi
  · rw [←hW1,new_at _ _ _ _ _ (by simp)];exact three_at i hi
  · rw [←hW1];exact new_fro _ _ _ _ _ (by simp)
 have c68:=Uc.parse8 b0 n0 m0 (f 0) W1 (octs_on h0 R1.bel) (by omega) (ml_on hM R1.bel)
 have HBV:Hid (∀ i,i<7→∃ A n m,bunV (.slice b0 n0 m0) (.slice b1 n1 m1) (.slice b2 n2 m2) (.slice b3 n3 m3) (.slice b4 n4 m4) (.slice b5 n5 m5) (.slice b6 n6 m6) i=.slice A n m∧Octs w0 A n (f i)∧n≤4000):=Lib.hid (fun i hi=>by
  match i,hi with
  | 0,_=>exact⟨_,_,_,rfl,h0,by omega⟩
  | 1,_=>exact⟨_,_,_,rfl,h1,by omega⟩
  | 2,_=>exact⟨_,_,_,rfl,h2,by omega⟩
  | 3,_=>exact⟨_,_,_,rfl,h3,by omega⟩
  | 4,_=>exact⟨_,_,_,rfl,h4,by omega⟩
  | 5,_=>exact⟨_,_,_,rfl,h5,by omega⟩
  | 6,_=>exact⟨_,_,_,rfl,h6,by omega⟩)
 have c69:=pfiles69 b0 b1 b2 b3 b4 b5 b6 n0 n1 n2 n3 n4 n5 n6 m0 m1 m2 m3 m4 m5 m6
 have HR1:=Lib.hid R1
 have HM:=Lib.hid hM
 have HLOW:=Lib.hid hlow
 have x0:W1.cell? ⟨w.heap.size,0,none⟩=some (.slice b0 n0 m0):=R1.bun 0 (by omega)
 have HB7:Hid (bunV (.slice b0 n0 m0) (.slice b1 n1 m1) (.slice b2 n2 m2) (.slice b3 n3 m3) (.slice b4 n4 m4) (.slice b5 n5 m5) (.slice b6 n6 m6) 0=.slice b0 n0 m0∧bunV (.slice b0 n0 m0) (.slice b1 n1 m1) (.slice b2 n2 m2) (.slice b3 n3 m3) (.slice b4 n4 m4) (.slice b5 n5 m5) (.slice b6 n6 m6) 1=.slice b1 n1 m1∧bunV (.slice b0 n0 m0) (.slice b1 n1 m1) (.slice b2 n2 m2) (.slice b3 n3 m3) (.slice b4 n4 m4) (.slice b5 n5 m5) (.slice b6 n6 m6) 2=.slice b2 n2 m2∧bunV (.slice b0 n0 m0) (.slice b1 n1 m1) (.slice b2 n2 m2) (.slice b3 n3 m3) (.slice b4 n4 m4) (.slice b5 n5 m5) (.slice b6 n6 m6) 3=.slice b3 n3 m3∧bunV (.slice b0 n0 m0) (.slice b1 n1 m1) (.slice b2 n2 m2) (.slice b3 n3 m3) (.slice b4 n4 m4) (.slice b5 n5 m5) (.slice b6 n6 m6) 4=.slice b4 n4 m4∧bunV (.slice b0 n0 m0) (.slice b1 n1 m1) (.slice b2 n2 m2) (.slice b3 n3 m3) (.slice b4 n4 m4) (.slice b5 n5 m5) (.slice b6 n6 m6) 5=.slice b5 n5 m5∧bunV (.slice b0 n0 m0) (.slice b1 n1 m1) (.slice b2 n2 m2) (.slice b3 n3 m3) (.slice b4 n4 m4) (.slice b5 n5 m5) (.slice b6 n6 m6) 6=.slice b6 n6 m6):=Lib.hid ⟨rfl,rfl,rfl,rfl,rfl,rfl,rfl⟩
 obtain⟨bv,hbv⟩:∃ bv,bunV (.slice b0 n0 m0) (.slice b1 n1 m1) (.slice b2 n2 m2) (.slice b3 n3 m3) (.slice b4 n4 m4) (.slice b5 n5 m5) (.slice b6 n6 m6)=bv:=⟨_,rfl⟩
 rw [hbv] at HR1 HBV c69 HB7
 have nb0:¬b=w.heap.size:=by omega
 have nb1:¬b=w.heap.size+1:=by omega
 have nb2:¬w.heap.size=b:=by omega
 have nb3:¬w.heap.size+1=b:=by omega
 clear h0 h1 h2 h3 h4 h5 h6 hn hM hbe hlow ho hd hfr hb1 R1 hbv
 have C69:=Lib.hid c69
 clear c69
 by_cases he:(uF f).err=0
 · have HRD:Hid (readP f 5 0=readOf f):=Lib.hid (by unfold readOf;rw [if_pos he])
   have d68:Calls Tryz.prog 76 #[.slice b0 n0 m0] W1 fun e W2=>∃ q,(e=.returned (.tuple #[.pointer (some ⟨q,0,none⟩),.int .i64 0,.int .i64 0])∧W2.cell? ⟨b,0,none⟩=some (.pointer none)∧W2.frozen? ⟨b,0,none⟩=false)∧Hid (RB w0 w W2 bv g00 b∧UniT W2 (some ⟨q,0,none⟩) (uF f).rows):=c68.mono (by
    rintro e W2 ⟨hb,⟨-,q,A,c,ls,rfl,-,hT,hI,-⟩ | ⟨hne,-⟩⟩
    · have R2:=HR1.out.below hb
      exact⟨q,⟨rfl,R2.dat 0 (by omega),R2.frb 0⟩,Lib.hid ⟨R2,A,c,ls,hT,hI⟩⟩
    · exact absurd he hne)
   clear c68
   go_enter Tryz.func48,Tryz.ntmps48
   go_upto_region 6 with (go_at_call 76;(with_reducible refine d68.mono ?_);rintro e W2 ⟨q,⟨rfl,z0,z1⟩,H2⟩)
   obtain⟨W3,hW3⟩:∃ W3,W2.setCell ⟨b,0,none⟩ (.pointer (some ⟨q,0,none⟩))=W3:=⟨_,rfl⟩
   rw [hW3]
   have R3:RB w0 w W3 bv (put1 g00 0 (.pointer (some ⟨q,0,none⟩))) b:=hW3▸H2.out.1.set (k:=0) (by omega) (.inl ⟨_,rfl⟩)
   have U3:UniT W3 (some ⟨q,0,none⟩) (uF f).rows:=hW3▸uniT_odd H2.out.1.odd (chg_set _ _ _ _) H2.out.2
   obtain⟨t0,t1,t2,t3,t4,t5,t6⟩:=HB7.out
   have y0:W3.cell? ⟨w.heap.size,0,none⟩=some (.slice b0 n0 m0):=by rw [←t0];exact R3.bun 0 (by omega)
   have y1:W3.cell? ⟨w.heap.size,1,none⟩=some (.slice b1 n1 m1):=by rw [←t1];exact R3.bun 1 (by omega)
   have y2:W3.cell? ⟨w.heap.size,2,none⟩=some (.slice b2 n2 m2):=by rw [←t2];exact R3.bun 2 (by omega)
   have y3:W3.cell? ⟨w.heap.size,3,none⟩=some (.slice b3 n3 m3):=by rw [←t3];exact R3.bun 3 (by omega)
   have y4:W3.cell? ⟨w.heap.size,4,none⟩=some (.slice b4 n4 m4):=by rw [←t4];exact R3.bun 4 (by omega)
   have y5:W3.cell? ⟨w.heap.size,5,none⟩=some (.slice b5 n5 m5):=by rw [←t5];exact R3.bun 5 (by omega)
   have y6:W3.cell? ⟨w.heap.size,6,none⟩=some (.slice b6 n6 m6):=by rw [←t6];exact R3.bun 6 (by omega)
   have d69:Calls Tryz.prog 77 #[.agg #[.slice b0 n0 m0,.slice b1 n1 m1,.slice b2 n2 m2,.slice b3 n3 m3,.slice b4 n4 m4,.slice b5 n5 m5,.slice b6 n6 m6]] W3 fun e W4=>∃ vv,e=.returned (pfV bv vv)∧Hid (RdI w0 w f bv vv b (.int .i64 (0:Nat)) W4∧∀ j,j<5→∃ V cv,vv j=.slice V (valsOf (2+j)).length cv):=(C69.out W3).mono (by
    rintro e W4 ⟨vv,rfl,h4⟩
    refine⟨vv,rfl,Lib.hid ⟨⟨0,_,⟨rfl,by omega⟩,HRD.out,R3.below h4.out.1,⟨⟨_,put1_at _ _ _,uniT_below h4.out.1 U3⟩,fun j hj=>absurd hj (by omega),h4.out.2,fun j _ hj=>?_,?_⟩⟩,fun j hj=>?_⟩⟩
    · rw [put1_else _ _ (by omega)];exact if_neg (by omega)
    · rw [put1_else _ _ (by omega)];rfl
    · obtain⟨V,cv,e,-⟩:=h4.out.2 j hj;exact⟨V,cv,e⟩)
   clear z0 z1 H2 hW3 R3 U3 t0 t1 t2 t3 t4 t5 t6 d68 hW1 x0
   go_wp2_with (go_at_call 77;(with_reducible refine d69.mono ?_);rintro e W4 ⟨vv,rfl,H4⟩)
   have HI0:=Lib.hid H4.out.1
   have HVV:=Lib.hid H4.out.2
   clear H4 d69 y0 y1 y2 y3 y4 y5 y6 C69 HR1
   go_loopw [26] (fun i wr=>RdI w0 w f bv vv b i wr) (fun i _=>5-(intOf i).toNat)
   case atStart=>exact HI0.out
   case round=>
    obtain⟨k,g,⟨rfl,hk⟩,hro,hB,hS⟩:=hrel
    by_cases hlt:k<5
    · obtain⟨fb,fn,fm,hbe,hoc,hfn⟩:=HBV.out (1+k) (by omega)
      obtain⟨V,cv,hve⟩:=HVV.out k hlt
      have hix:=pf_index bv vv k hlt
      rw [hbe,hve] at hix
      obtain⟨B8,hB8⟩:∃ n,wr.heap.size=n:=⟨_,rfl⟩
      obtain⟨W8,hW8⟩:∃ X,wr.alloc (.cells #[.slice fb fn fm,.slice V (valsOf (2+k)).length cv] 114)=X:=⟨_,rfl⟩
      have hb8:Below wr.heap.size wr W8:=by rw [←hW8];exact (Below.refl _ _).alloc (Nat.le_refl _) _
      have hB8':=hB.below hb8
      have hS8:=hS.below hb8
      have v0:W8.cell? ⟨B8,0,none⟩=some (.slice fb fn fm):=by rw [←hW8,new_at _ _ _ _ _ hB8.symm];rfl
      have v1:W8.cell? ⟨B8,1,none⟩=some (.slice V (valsOf (2+k)).length cv):=by rw [←hW8,new_at _ _ _ _ _ hB8.symm];rfl
      have hbB:b<B8:=by rw [←hB8];exact hB.odd.lt
      have nb4:¬b=B8:=by omega
      have nb5:¬B8=b:=by omega
      have hvc:∀ W,Below W8.heap.size W8 W→W.cell? ⟨B8,0,none⟩=some (.slice fb fn fm)∧W.cell? ⟨B8,1,none⟩=some (.slice V (valsOf (2+k)).length cv):=fun W hW=>⟨(hW.cell (p:=⟨B8,0,none⟩) (World.block_lt_of_cell? W8 _ v0)).trans v0,(hW.cell (p:=⟨B8,1,none⟩) (World.block_lt_of_cell? W8 _ v1)).trans v1⟩
      have hdk:∀ W,RB w0 w W bv g b→(W.cell? ⟨b,1+k,none⟩=some (.pointer none)∧W.frozen? ⟨b,1+k,none⟩=false)∧(W.cell? ⟨b,k+1,none⟩=some (.pointer none)∧W.frozen? ⟨b,k+1,none⟩=false):=fun W hR=>by
       have e:=hR.dat (1+k) (by omega)
       rw [hS.rst k (Nat.le_refl _) (by omega)] at e
       exact⟨⟨e,hR.frb _⟩,by rw [Nat.add_comm k 1];exact e,hR.frb _⟩
      have d70:∀ W,Below W8.heap.size W8 W→Calls Tryz.prog 78 #[.slice fb fn fm,.slice V (valsOf (2+k)).length cv] W (Pq.PrPost (valsOf (2+k)) (f (1+k)) W):=fun W hW=>by
       obtain⟨V',cv',e',hv'⟩:=(hS8.below hW).vls k hlt
       rw [hve] at e'
       cases e'
       exact Pq.pparse9 fb fn fm (f (1+k)) V _ cv (valsOf (2+k)) W (octs_on hoc (hB8'.below hW).bel) hfn hv' (vals_few' _) (ml_on HM.out (hB8'.below hW).bel)
      by_cases he5:(prF f k).err=0
      · have C70:Hid (∀ W,Below W8.heap.size W8 W→Calls Tryz.prog 78 #[.slice fb fn fm,.slice V (valsOf (2+k)).length cv] W fun e W'=>∃ q,(e=.returned (.tuple #[.pointer (some ⟨q,0,none⟩),.int .i64 0,.int .i64 0])∧(W'.cell? ⟨B8,0,none⟩=some (.slice fb fn fm)∧W'.cell? ⟨B8,1,none⟩=some (.slice V (valsOf (2+k)).length cv))∧(W'.cell? ⟨b,1+k,none⟩=some (.pointer none)∧W'.frozen? ⟨b,1+k,none⟩=false)∧(W'.cell? ⟨b,k+1,none⟩=some (.pointer none)∧W'.frozen? ⟨b,k+1,none⟩=false))∧Hid (RB w0 w W' bv g b∧RS f W' g vv k∧PrpT W' (some ⟨q,0,none⟩) (spF f k))):=Lib.hid (fun W hW=>(d70 W hW).mono (by
         rintro e W' ⟨hb,⟨-,q,A,c,rfl,hT⟩ | ⟨hne,-⟩⟩
         · have h8:=hW.trans (hb.mono hW.size)
           have hR':=hB8'.below h8
           exact⟨q,⟨rfl,hvc W' h8,hdk W' hR'⟩,Lib.hid ⟨hR',hS8.below h8,A,c,hT⟩⟩
         · exact absurd he5 hne))
        have HRO:=Lib.hid ((readp_go hlt he5).symm.trans hro)
        have HLT:=Lib.hid hlt
        obtain⟨nv,hnv⟩:∃ n,(valsOf (2+k)).length=n:=⟨_,rfl⟩
        rw [hnv] at C70 hix v1 hW8
        obtain⟨v0d,v1d⟩:W8.drew.cell? ⟨B8,0,none⟩=some (.slice fb fn fm)∧W8.drew.cell? ⟨B8,1,none⟩=some (.slice V nv cv):=⟨v0,v1⟩
        clear hro hB hS hbe hoc hfn hve hb8 hB8' hS8 hvc hdk d70 he5 hnv hbB HI0
        go_upto_region 9 with fail
        go_region_held3 (fun w'=>w'.cell? ⟨B8,0,none⟩=some (.slice fb fn fm)∧w'.cell? ⟨B8,1,none⟩=some (.slice V nv cv))
         (first | exact⟨v0d,v1d⟩ | exact z1 | go_keep)
         (first | (go_simp;go_at_call 78;(with_reducible refine (C70.out _ (below_drew (Below.refl _ _))).mono ?_);rintro e W9 ⟨q9,⟨rfl,z1,⟨z2,z3⟩,z4,z5⟩,H9⟩))
        obtain⟨W10,hW10⟩:∃ X,W9.setCell ⟨b,1+k,none⟩ (.pointer (some ⟨q9,0,none⟩))=X:=⟨_,rfl⟩
        rw [hW10]
        have HN:Hid (RB w0 w W10 bv (put1 g (1+k) (.pointer (some ⟨q9,0,none⟩))) b∧RS f W10 (put1 g (1+k) (.pointer (some ⟨q9,0,none⟩))) vv (k+1)):=Lib.hid (by
         rw [←hW10]
         exact⟨H9.out.1.set (k:=1+k) (by omega) (.inl ⟨_,rfl⟩),H9.out.2.1.put H9.out.1.odd hlt H9.out.2.2⟩)
        clear hW10 H9 C70 z1 z2 z3 z4 z5 v0d v1d
        go_wp2
        go_roundw
        case rel=>exact⟨k+1,_,⟨by go_num,by omega⟩,HRO.out,HN.out.1,HN.out.2⟩
        case measure=>simp [intOf];omega
      · have HRO:Hid (readOf f=⟨2+(k:Int),(prF f k).num,(prF f k).err⟩):=Lib.hid (hro.symm.trans (readp_no hlt he5))
        have C70:Hid (∀ W,Below W8.heap.size W8 W→Calls Tryz.prog 78 #[.slice fb fn fm,.slice V (valsOf (2+k)).length cv] W fun e W'=>(e=.returned (.tuple #[.pointer none,.int .i64 (prF f k).err,.int .i64 (prF f k).num])∧(W'.cell? ⟨B8,0,none⟩=some (.slice fb fn fm)∧W'.cell? ⟨B8,1,none⟩=some (.slice V (valsOf (2+k)).length cv))∧(W'.cell? ⟨b,1+k,none⟩=some (.pointer none)∧W'.frozen? ⟨b,1+k,none⟩=false)∧(W'.cell? ⟨b,k+1,none⟩=some (.pointer none)∧W'.frozen? ⟨b,k+1,none⟩=false))∧Hid (RB w0 w W' bv g b)):=Lib.hid (fun W hW=>(d70 W hW).mono (by
         rintro e W' ⟨hb,⟨h,-⟩ | ⟨-,rfl⟩⟩
         · exact absurd h he5
         · have h8:=hW.trans (hb.mono hW.size)
           have hR':=hB8'.below h8
           exact⟨⟨rfl,hvc W' h8,hdk W' hR'⟩,Lib.hid hR'⟩))
        obtain⟨er5,her5⟩:∃ x,(prF f k).err=x:=⟨_,rfl⟩
        obtain⟨nu5,hnu5⟩:∃ x,(prF f k).num=x:=⟨_,rfl⟩
        rw [her5,hnu5] at C70 HRO
        rw [her5] at he5
        have heb:(er5==0)=false:=beq_false_of_ne he5
        obtain⟨nv,hnv⟩:∃ n,(valsOf (2+k)).length=n:=⟨_,rfl⟩
        rw [hnv] at C70 hix v1 hW8
        obtain⟨v0d,v1d⟩:W8.drew.cell? ⟨B8,0,none⟩=some (.slice fb fn fm)∧W8.drew.cell? ⟨B8,1,none⟩=some (.slice V nv cv):=⟨v0,v1⟩
        clear hro hB hS hbe hoc hfn hve hb8 hB8' hS8 hvc hdk d70 her5 hnu5 hnv hbB HI0
        go_upto_region 9 with fail
        go_region_held3 (fun w'=>w'.cell? ⟨B8,0,none⟩=some (.slice fb fn fm)∧w'.cell? ⟨B8,1,none⟩=some (.slice V nv cv))
         (first | exact⟨v0d,v1d⟩ | exact z1 | go_keep)
         (first | (go_simp;go_at_call 78;(with_reducible refine (C70.out _ (below_drew (Below.refl _ _))).mono ?_);rintro e W9 ⟨⟨rfl,z1,⟨z2,z3⟩,z4,z5⟩,H9⟩))
        obtain⟨W10,hW10⟩:∃ X,W9.setCell ⟨b,1+k,none⟩ (.pointer none)=X:=⟨_,rfl⟩
        rw [hW10]
        have HN:Hid (RB w0 w W10 bv (put1 g (1+k) (.pointer none)) b):=Lib.hid (by
         rw [←hW10]
         exact H9.out.set (k:=1+k) (by omega) (.inl ⟨_,rfl⟩))
        obtain⟨r0,r1,r2,fr⟩:=HN.out.rs
        clear hW10 H9 C70 z1 z2 z3 z4 z5 v0d v1d
        go_wp2
        refine bodyPost_ret (v:=.agg #[.int .i64 (2+(k:Int)),.int .i64 nu5,.int .i64 er5]) (by simp [results,Tryz.results48,go_sem,r0,r1,r2]) rfl ?_
        exact read_bad HN.out HRO.out he5
    · obtain rfl:k=5:=by omega
      have hro5:readP f 0 5=readOf f:=hro
      obtain⟨fb,fn,fm,hbe,hoc,hfn⟩:=HBV.out 6 (by omega)
      have q6:wr.cell? ⟨w.heap.size,6,none⟩=some (.slice fb fn fm):=by rw [←hbe];exact hB.bun 6 (by omega)
      have c71:=Cf.cparse7 fb fn fm (f 6) wr (octs_on hoc hB.bel) hfn (ml_on HM.out hB.bel)
      have hdk:∀ W,RB w0 w W bv g b→W.cell? ⟨b,6,none⟩=some (.pointer none)∧W.frozen? ⟨b,6,none⟩=false:=fun W hR=>by
       have e:=hR.dat 6 (by omega)
       rw [show (6:Nat)=1+5 from rfl,hS.rst 5 (Nat.le_refl _) (by omega)] at e
       exact⟨e,hR.frb _⟩
      by_cases he6:(cfF f).err=0
      · have HRO:Hid (readOf f=⟨0,0,0⟩):=Lib.hid (by rw [←hro5,readP,if_pos he6])
        have d71:Calls Tryz.prog 79 #[.slice fb fn fm] wr fun e W=>∃ q,(e=.returned (.tuple #[.pointer (some ⟨q,0,none⟩),.int .i64 0,.int .i64 0])∧W.cell? ⟨b,6,none⟩=some (.pointer none)∧W.frozen? ⟨b,6,none⟩=false)∧(W.cell? ⟨w.heap.size+1,0,none⟩=some (.int .i64 0)∧W.cell? ⟨w.heap.size+1,1,none⟩=some (.int .i64 0)∧W.cell? ⟨w.heap.size+1,2,none⟩=some (.int .i64 0)∧∀ i,W.frozen? ⟨w.heap.size+1,i,none⟩=false)∧Hid (RB w0 w W bv g b∧RS f W g vv 5∧Cf.CT W (some ⟨q,0,none⟩) (cfF f).rows):=c71.mono (by
         rintro e W ⟨hb,⟨-,q,rfl,hT⟩ | ⟨hne,-⟩⟩
         · have hR':=hB.below hb
           exact⟨q,⟨rfl,hdk W hR'⟩,hR'.rs,Lib.hid ⟨hR',hS.below hb,hT⟩⟩
         · exact absurd he6 hne)
        clear hro hro5 hB hS hbe hoc hfn c71 hdk he6 HI0
        go_wp2_with (go_at_call 79;(with_reducible refine d71.mono ?_);rintro e W9 ⟨q9,⟨rfl,z1,z2⟩,⟨r0,r1,r2,fr⟩,H9⟩)
        refine bodyPost_ret (v:=.agg #[.int .i64 0,.int .i64 0,.int .i64 0]) (by simp [results,Tryz.results48,go_sem,r0,r1,r2]) rfl ?_
        exact read_ok H9.out.1 H9.out.2.1 HRO.out H9.out.2.2
      · have HRO:Hid (readOf f=⟨7,(cfF f).num,(cfF f).err⟩):=Lib.hid (by rw [←hro5,readP,if_neg he6])
        have d71:Calls Tryz.prog 79 #[.slice fb fn fm] wr fun e W=>(e=.returned (.tuple #[.pointer none,.int .i64 (cfF f).err,.int .i64 (cfF f).num])∧W.cell? ⟨b,6,none⟩=some (.pointer none)∧W.frozen? ⟨b,6,none⟩=false)∧Hid (RB w0 w (W.setCell ⟨b,6,none⟩ (.pointer none)) bv (put1 g 6 (.pointer none)) b)∧((W.setCell ⟨b,6,none⟩ (.pointer none)).cell? ⟨w.heap.size+1,0,none⟩=some (.int .i64 0)∧(W.setCell ⟨b,6,none⟩ (.pointer none)).cell? ⟨w.heap.size+1,1,none⟩=some (.int .i64 0)∧(W.setCell ⟨b,6,none⟩ (.pointer none)).cell? ⟨w.heap.size+1,2,none⟩=some (.int .i64 0)∧∀ i,(W.setCell ⟨b,6,none⟩ (.pointer none)).frozen? ⟨w.heap.size+1,i,none⟩=false):=c71.mono (by
         rintro e W ⟨hb,⟨h,-⟩ | ⟨-,rfl⟩⟩
         · exact absurd h he6
         · have hR':=hB.below hb
           have hR2:=hR'.set (k:=6) (by omega) (v:=.pointer none) (.inl ⟨_,rfl⟩)
           exact⟨⟨rfl,hdk W hR'⟩,Lib.hid hR2,hR2.rs⟩)
        obtain⟨er5,her5⟩:∃ x,(cfF f).err=x:=⟨_,rfl⟩
        obtain⟨nu5,hnu5⟩:∃ x,(cfF f).num=x:=⟨_,rfl⟩
        rw [her5,hnu5] at d71 HRO
        rw [her5] at he6
        have heb:(er5==0)=false:=beq_false_of_ne he6
        clear hro hro5 hB hS hbe hoc hfn c71 hdk her5 hnu5 HI0
        go_upto_region 14 with (go_at_call 79;(with_reducible refine d71.mono ?_);rintro e W9 ⟨⟨rfl,z1,z2⟩,H9,⟨r0,r1,r2,fr⟩⟩)
        obtain⟨W10,hW10⟩:∃ X,W9.setCell ⟨b,6,none⟩ (.pointer none)=X:=⟨_,rfl⟩
        rw [hW10] at r0 r1 r2 fr H9 ⊢
        clear hW10 z1 z2 d71 q6
        go_wp2
        refine bodyPost_ret (v:=.agg #[.int .i64 7,.int .i64 nu5,.int .i64 er5]) (by simp [results,Tryz.results48,go_sem,r0,r1,r2]) rfl ?_
        exact read_bad H9.out HRO.out he6
 · have HRO:Hid (readOf f=⟨1,(uF f).num,(uF f).err⟩):=Lib.hid (by unfold readOf;rw [if_neg he])
   have d68:Calls Tryz.prog 76 #[.slice b0 n0 m0] W1 fun e W=>(e=.returned (.tuple #[.pointer none,.int .i64 (uF f).err,.int .i64 (uF f).num])∧W.cell? ⟨b,0,none⟩=some (.pointer none)∧W.frozen? ⟨b,0,none⟩=false)∧Hid (RB w0 w (W.setCell ⟨b,0,none⟩ (.pointer none)) bv (put1 g00 0 (.pointer none)) b)∧((W.setCell ⟨b,0,none⟩ (.pointer none)).cell? ⟨w.heap.size+1,0,none⟩=some (.int .i64 0)∧(W.setCell ⟨b,0,none⟩ (.pointer none)).cell? ⟨w.heap.size+1,1,none⟩=some (.int .i64 0)∧(W.setCell ⟨b,0,none⟩ (.pointer none)).cell? ⟨w.heap.size+1,2,none⟩=some (.int .i64 0)∧∀ i,(W.setCell ⟨b,0,none⟩ (.pointer none)).frozen? ⟨w.heap.size+1,i,none⟩=false):=c68.mono (by
    rintro e W ⟨hb,⟨h,-⟩ | ⟨-,rfl⟩⟩
    · exact absurd h he
    · have hR':=HR1.out.below hb
      have hR2:=hR'.set (k:=0) (by omega) (v:=.pointer none) (.inl ⟨_,rfl⟩)
      exact⟨⟨rfl,hR'.dat 0 (by omega),hR'.frb 0⟩,Lib.hid hR2,hR2.rs⟩)
   obtain⟨er5,her5⟩:∃ x,(uF f).err=x:=⟨_,rfl⟩
   obtain⟨nu5,hnu5⟩:∃ x,(uF f).num=x:=⟨_,rfl⟩
   rw [her5,hnu5] at d68 HRO
   rw [her5] at he
   have heb:(er5==0)=false:=beq_false_of_ne he
   clear c68 her5 hnu5 C69 HR1 HB7 HBV
   go_enter Tryz.func48,Tryz.ntmps48
   go_upto_region 4 with (go_at_call 76;(with_reducible refine d68.mono ?_);rintro e W9 ⟨⟨rfl,z1,z2⟩,H9,⟨r0,r1,r2,fr⟩⟩)
   obtain⟨W10,hW10⟩:∃ X,W9.setCell ⟨b,0,none⟩ (.pointer none)=X:=⟨_,rfl⟩
   rw [hW10] at r0 r1 r2 fr H9 ⊢
   clear hW10 z1 z2 d68 hW1 x0
   go_wp2
   refine bodyPost_ret (v:=.agg #[.int .i64 1,.int .i64 nu5,.int .i64 er5]) (by simp [results,Tryz.results48,go_sem,r0,r1,r2]) rfl ?_
   exact read_bad H9.out HRO.out he
end Go.Proofs.YtbkgbhlmeeodgaaGreatDoor
