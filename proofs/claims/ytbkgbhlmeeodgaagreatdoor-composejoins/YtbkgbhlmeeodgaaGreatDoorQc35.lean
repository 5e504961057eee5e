/- A part. -/
import Derived.Test.YtbkgbhlmeeodgaaGreatDoorQc33
import Derived.Test.YtbkgbhlmeeodgaaGreatDoorQc34
namespace Go.Proofs.YtbkgbhlmeeodgaaGreatDoor
open Go.RowKit
attribute [local go_sem] Oper.semAt_some
def LoadPost (f:Nat→List UInt8) (w:World) (e:Ending) (w':World):Prop:=
 Below w.heap.size w w'∧((∃ d b,loadOf f=(⟨0,0,0⟩,some d)∧e=.returned (.tuple #[.pointer (some ⟨b,0,none⟩),.agg #[.int .i64 0,.int .i64 0,.int .i64 0]])∧PF w' b d.ps d.sp d.cf∧PM w' b d.ms∧Szs d.ps d.sp)∨(∃ x,loadOf f=(x,none)∧e=.returned (.tuple #[.pointer none,whV x])))
def Zr3 (k:Nat) (W:World):Prop:=W.cell? ⟨k,0,none⟩=some (.int .i64 0)∧W.cell? ⟨k,1,none⟩=some (.int .i64 0)∧W.cell? ⟨k,2,none⟩=some (.int .i64 0)∧∀ i,W.frozen? ⟨k,i,none⟩=false
theorem Zr3.below {k n:Nat} {W W':World} (h:Zr3 k W) (hk:k<n) (hb:Below n W W'):Zr3 k W':=
 ⟨(hb.cell (p:=⟨k,0,none⟩) hk).trans h.1,(hb.cell (p:=⟨k,1,none⟩) hk).trans h.2.1,(hb.cell (p:=⟨k,2,none⟩) hk).trans h.2.2.1,fun i=>(hb.frozen (p:=⟨k,i,none⟩) hk).trans (h.2.2.2 i)⟩
theorem zr3_same {k:Nat} {W:World} (h:Zr3 k W):Below W.heap.size W (((W.setCell ⟨k,0,none⟩ (.int .i64 0)).setCell ⟨k,1,none⟩ (.int .i64 0)).setCell ⟨k,2,none⟩ (.int .i64 0)):=by
 have hl:k<W.heap.size:=World.block_lt_of_cell? W _ h.1
 have b1:=below_self W.heap.size h.1
 have b2:=below_self W.heap.size ((b1.cell (p:=⟨k,1,none⟩) hl).trans h.2.1)
 exact (b1.trans b2).trans (below_self W.heap.size (((b1.trans b2).cell (p:=⟨k,2,none⟩) hl).trans h.2.2.1))
theorem zr3_new {k n:Nat} {w W:World} (a b c:Value) (hn:n≤k) (h:Below n w W):Below n w (((W.setCell ⟨k,0,none⟩ a).setCell ⟨k,1,none⟩ b).setCell ⟨k,2,none⟩ c):=
 ((h.setCell (p:=⟨k,0,none⟩) hn _).setCell (p:=⟨k,1,none⟩) hn _).setCell (p:=⟨k,2,none⟩) hn _
set_option maxRecDepth 100000 in
set_option maxHeartbeats 4000000 in
theorem load29 (b0 b1 b2 b3 b4 b5 b6:Option Addr) (n0 n1 n2 n3 n4 n5 n6 m0 m1 m2 m3 m4 m5 m6:Nat) (f:Nat→List UInt8) (w:World) (h0:Octs w b0 n0 (f 0)) (h1:Octs w b1 n1 (f 1)) (h2:Octs w b2 n2 (f 2)) (h3:Octs w b3 n3 (f 3)) (h4:Octs w b4 n4 (f 4)) (h5:Octs w b5 n5 (f 5)) (h6:Octs w b6 n6 (f 6)) (hn:n0+n1+n2+n3+n4+n5+n6≤3100) (hf:∀ i,(f i).length≤4000) (hM:ML w) (hH:HanT w):
 Calls Tryz.prog 23 #[.agg #[.slice b0 n0 m0,.slice b1 n1 m1,.slice b2 n2 m2,.slice b3 n3 m3,.slice b4 n4 m4,.slice b5 n5 m5,.slice b6 n6 m6]] w (LoadPost f w):=by
 obtain⟨W2,hW2⟩:∃ W2,(w.alloc (.cells #[.slice b0 n0 m0,.slice b1 n1 m1,.slice b2 n2 m2,.slice b3 n3 m3,.slice b4 n4 m4,.slice b5 n5 m5,.slice b6 n6 m6] 24)).alloc (.cells #[.int .i64 0,.int .i64 0,.int .i64 0] 42)=W2:=⟨_,rfl⟩
 have hb2:Below w.heap.size w W2:=by rw [←hW2];exact ((Below.refl _ _).alloc (Nat.le_refl _) _).alloc (by simp) _
 have hs2:W2.heap.size=w.heap.size+2:=by rw [←hW2];simp
 have hz2:Zr3 (w.heap.size+1) W2:=by
  rw [←hW2]
  exact⟨by rw [new_at _ _ _ _ _ (by simp)];rfl,by rw [new_at _ _ _ _ _ (by simp)];rfl,by rw [new_at _ _ _ _ _ (by simp)];rfl,fun i=>new_fro _ _ _ _ _ (by simp)⟩
 have q:∀ i,i<7→W2.cell? ⟨w.heap.size,i,none⟩=some (bunV (.slice b0 n0 m0) (.slice b1 n1 m1) (.slice b2 n2 m2) (.slice b3 n3 m3) (.slice b4 n4 m4) (.slice b5 n5 m5) (.slice b6 n6 m6) i):=fun i hi=>by
  rw [←hW2,old_at _ _ _ _ (by simp),new_at _ _ _ _ _ rfl];exact seven_at _ _ _ _ _ _ _ i hi
 obtain⟨W3,hW3⟩:∃ W3,W2.alloc (.cells #[.pointer none,.pointer none,.pointer none,.pointer none,.pointer none,.pointer none,.pointer none,.map none] 79)=W3:=⟨_,rfl⟩
 have hb3:Below W2.heap.size W2 W3:=by rw [←hW3];exact (Below.refl _ _).alloc (Nat.le_refl _) _
 have hs3:W3.heap.size=w.heap.size+3:=by rw [←hW3,World.size_alloc,hs2]
 have hd3:∀ i,W3.cell? ⟨W2.heap.size,i,none⟩=(#[.pointer none,.pointer none,.pointer none,.pointer none,.pointer none,.pointer none,.pointer none,.map none]:Array Value)[i]?:=fun i=>by rw [←hW3,new_at _ _ _ _ _ rfl]
 have ho3:Odd W3 (W2.heap.size):=by
  refine⟨⟨.pointer none,by rw [hd3];rfl⟩,fun i v hv=>?_⟩
  rw [hd3] at hv
  match i,hv with
  | 0,hv=>cases hv;exact .inl ⟨_,rfl⟩
  | 1,hv=>cases hv;exact .inl ⟨_,rfl⟩
  | 2,hv=>cases hv;exact .inl ⟨_,rfl⟩
  | 3,hv=>cases hv;exact .inl ⟨_,rfl⟩
  | 4,hv=>cases hv;exact .inl ⟨_,rfl⟩
  | 5,hv=>cases hv;exact .inl ⟨_,rfl⟩
  | 6,hv=>cases hv;exact .inl ⟨_,rfl⟩
  | 7,hv=>cases hv;exact .inr ⟨_,rfl⟩
  | _+8,hv=>cases hv
 have c50:=read50 b0 b1 b2 b3 b4 b5 b6 n0 n1 n2 n3 n4 n5 n6 m0 m1 m2 m3 m4 m5 m6 f W2 W3 (W2.heap.size) (h0.below hb2) (h1.below hb2) (h2.below hb2) (h3.below hb2) (h4.below hb2) (h5.below hb2) (h6.below hb2) hn (ml_on hM hb2) hb3 ⟨by omega,by omega⟩ ho3 (fun i hi=>by
  rw [hd3]
  match i,hi with
  | 0,_=>rfl | 1,_=>rfl | 2,_=>rfl | 3,_=>rfl | 4,_=>rfl | 5,_=>rfl | 6,_=>rfl | 7,_=>rfl) (fun i=>by rw [←hW3];exact new_fro _ _ _ _ _ rfl)
 have q3:∀ i,i<7→W3.cell? ⟨w.heap.size,i,none⟩=some (bunV (.slice b0 n0 m0) (.slice b1 n1 m1) (.slice b2 n2 m2) (.slice b3 n3 m3) (.slice b4 n4 m4) (.slice b5 n5 m5) (.slice b6 n6 m6) i):=fun i hi=>(hb3.cell (p:=⟨w.heap.size,i,none⟩) (show w.heap.size<W2.heap.size by omega)).trans (q i hi)
 have y0:W3.cell? ⟨w.heap.size,0,none⟩=some (.slice b0 n0 m0):=q3 0 (by omega)
 have y1:W3.cell? ⟨w.heap.size,1,none⟩=some (.slice b1 n1 m1):=q3 1 (by omega)
 have y2:W3.cell? ⟨w.heap.size,2,none⟩=some (.slice b2 n2 m2):=q3 2 (by omega)
 have y3:W3.cell? ⟨w.heap.size,3,none⟩=some (.slice b3 n3 m3):=q3 3 (by omega)
 have y4:W3.cell? ⟨w.heap.size,4,none⟩=some (.slice b4 n4 m4):=q3 4 (by omega)
 have y5:W3.cell? ⟨w.heap.size,5,none⟩=some (.slice b5 n5 m5):=q3 5 (by omega)
 have y6:W3.cell? ⟨w.heap.size,6,none⟩=some (.slice b6 n6 m6):=q3 6 (by omega)
 have HSZ:Hid (W2.heap.size=w.heap.size+2∧Below w.heap.size w W2∧Zr3 (w.heap.size+1) W2∧HanT W2):=Lib.hid ⟨hs2,hb2,hz2,hH.below hH.lt hb2⟩
 have HZ:=Lib.hid (szs_of f 4000 (by omega) hf)
 rcases read_load f with ⟨hr,hl⟩ | ⟨hr,hl⟩
 · have d50:Calls Tryz.prog 48 #[.pointer (some ⟨W2.heap.size,0,none⟩),.agg #[.slice b0 n0 m0,.slice b1 n1 m1,.slice b2 n2 m2,.slice b3 n3 m3,.slice b4 n4 m4,.slice b5 n5 m5,.slice b6 n6 m6]] W3 fun e W4=>e=.returned (.agg #[.int .i64 0,.int .i64 0,.int .i64 0])∧Hid (Below W2.heap.size W2 W4∧PF W4 (W2.heap.size) (uF f).rows (spF f) (cfF f).rows∧Odd W4 (W2.heap.size)∧W4.cell? ⟨W2.heap.size,7,none⟩=some (.map none)∧W4.frozen? ⟨W2.heap.size,7,none⟩=false):=c50.mono (by
    rintro e W4 ⟨rfl,hb,hh⟩
    exact⟨by rw [hr];rfl,Lib.hid ⟨hb,hh hr⟩⟩)
   have D51:Hid (∀ W4 o,(Below W2.heap.size W2 W4∧PF W4 (W2.heap.size) (uF f).rows (spF f) (cfF f).rows∧Odd W4 (W2.heap.size)∧W4.cell? ⟨W2.heap.size,7,none⟩=some (.map none)∧W4.frozen? ⟨W2.heap.size,7,none⟩=false)→Calls Tryz.prog 49 #[.pointer (some ⟨W2.heap.size,0,none⟩)] (W4.alloc o) fun e W6=>(e=.returned (.int .i64 (joinE (spF f 0) (uF f).rows))∧Zr3 (w.heap.size+1) W6)∧Hid (Below W2.heap.size W2 W6∧(joinE (spF f 0) (uF f).rows=0→∃ ms,mkP (spF f 0) (uF f).rows [] (uF f).rows=some ms∧PF W6 (W2.heap.size) (uF f).rows (spF f) (cfF f).rows∧PM W6 (W2.heap.size) ms))):=Lib.hid (fun W4 o ⟨g1,g2,g3,g4,g5⟩=>by
    obtain⟨z1,z2,z3,z4⟩:=HSZ.out
    have hl4:=g3.lt
    have ha:Below W4.heap.size W4 (W4.alloc o):=(Below.refl _ _).alloc (Nat.le_refl _) _
    have hga:Below W2.heap.size W2 (W4.alloc o):=g1.trans (ha.mono g1.size)
    refine (join51 W2.heap.size (W2.heap.size) _ _ _ (W4.alloc o) (by omega) (g3.below hl4 ha) (g2.below ha) ⟨(ha.cell (p:=⟨W2.heap.size,7,none⟩) hl4).trans g4,(ha.frozen (p:=⟨W2.heap.size,7,none⟩) hl4).trans g5⟩ HZ.out (z4.below z4.lt (hga.mono (by omega)))).mono ?_
    rintro e W6 ⟨rfl,hb6,hh⟩
    exact⟨⟨rfl,(z3.below (n:=W2.heap.size) (by omega) (hga.trans hb6))⟩,Lib.hid ⟨hga.trans hb6,hh⟩⟩)
   have HL2:=Lib.hid hl
   clear c50 q q3 hb2 hs2 hz2 hb3 hs3 hd3 ho3 hr hl h0 h1 h2 h3 h4 h5 h6 hn hf hM hH
   rcases load2_join (uF f).rows (spF f) (cfF f).rows with ⟨hj,ms,hms,hld⟩ | ⟨hj,hld⟩
   · have HF:Hid (∀ W6,(Below W2.heap.size W2 W6∧(joinE (spF f 0) (uF f).rows=0→∃ ms,mkP (spF f 0) (uF f).rows [] (uF f).rows=some ms∧PF W6 W2.heap.size (uF f).rows (spF f) (cfF f).rows∧PM W6 W2.heap.size ms))→Zr3 (w.heap.size+1) W6→LoadPost f w (.returned (.tuple #[.pointer (some ⟨W2.heap.size,0,none⟩),.agg #[.int .i64 0,.int .i64 0,.int .i64 0]])) (((W6.setCell ⟨w.heap.size+1,0,none⟩ (.int .i64 0)).setCell ⟨w.heap.size+1,1,none⟩ (.int .i64 0)).setCell ⟨w.heap.size+1,2,none⟩ (.int .i64 0))):=Lib.hid (by
      intro W6 ⟨g1,g2⟩ hz
      obtain⟨ms',e1,e2,e3⟩:=g2 hj
      rw [hms] at e1
      injection e1 with e1
      subst e1
      obtain⟨z1,z2,z3,z4⟩:=HSZ.out
      have hb:=zr3_same hz
      refine⟨z2.trans ((g1.trans (hb.mono g1.size)).mono z2.size),.inl ⟨⟨_,_,_,ms⟩,_,HL2.out.trans hld,rfl,e2.below hb,e3.below hb,HZ.out⟩⟩)
     rw [hj] at D51
     rw [hj] at HF
     clear hj hms hld
     go_enter Tryz.func23,Tryz.ntmps23
     go_wp2_with (first
      | (go_at_call 48;(with_reducible refine d50.mono ?_);rintro e W4 ⟨rfl,H4⟩)
      | (go_at_call 49;(with_reducible refine (D51.out W4 _ H4.out).mono ?_);rintro e W6 ⟨⟨rfl,r0,r1,r2,fr⟩,H6⟩))
     refine bodyPost_ret (v:=.tuple #[.pointer (some ⟨W2.heap.size,0,none⟩),.agg #[.int .i64 0,.int .i64 0,.int .i64 0]]) (by simp [results,Tryz.results23,go_sem,r0,r1,r2]) rfl ?_
     exact HF.out W6 H6.out ⟨r0,r1,r2,fr⟩
   · have HF:Hid (∀ W6,Below W2.heap.size W2 W6→LoadPost f w (.returned (.tuple #[.pointer none,.agg #[.int .i64 1,.int .i64 0,.int .i64 (joinE (spF f 0) (uF f).rows)]])) (((W6.setCell ⟨w.heap.size+1,0,none⟩ (.int .i64 1)).setCell ⟨w.heap.size+1,1,none⟩ (.int .i64 0)).setCell ⟨w.heap.size+1,2,none⟩ (.int .i64 (joinE (spF f 0) (uF f).rows)))):=Lib.hid (by
      intro W6 g1
      obtain⟨z1,z2,z3,z4⟩:=HSZ.out
      exact⟨zr3_new _ _ _ (by omega) (z2.trans (g1.mono z2.size)),.inr ⟨_,HL2.out.trans hld,rfl⟩⟩)
     have D5:Hid (∀ W4 o,(Below W2.heap.size W2 W4∧PF W4 W2.heap.size (uF f).rows (spF f) (cfF f).rows∧Odd W4 W2.heap.size∧W4.cell? ⟨W2.heap.size,7,none⟩=some (.map none)∧W4.frozen? ⟨W2.heap.size,7,none⟩=false)→Calls Tryz.prog 49 #[.pointer (some ⟨W2.heap.size,0,none⟩)] (W4.alloc o) fun e W6=>(e=.returned (.int .i64 (joinE (spF f 0) (uF f).rows))∧Zr3 (w.heap.size+1) W6)∧Hid (Below W2.heap.size W2 W6)):=Lib.hid (fun W4 o h=>(D51.out W4 o h).mono (fun e W6 h=>⟨h.1,Lib.hid h.2.out.1⟩))
     obtain⟨v,hv⟩:∃ v,joinE (spF f 0) (uF f).rows=v:=⟨_,rfl⟩
     rw [hv] at D5 HF hj
     have hx1:(v==0)=false:=beq_false_of_ne hj
     have hx2:(v != 0)=true:=bne_iff_ne.2 hj
     clear hv hld D51
     go_enter Tryz.func23,Tryz.ntmps23
     go_wp2_with (first
      | (go_at_call 48;(with_reducible refine d50.mono ?_);rintro e W4 ⟨rfl,H4⟩)
      | (go_at_call 49;(with_reducible refine (D5.out W4 _ H4.out).mono ?_);rintro e W6 ⟨⟨rfl,r0,r1,r2,fr⟩,H6⟩))
     refine bodyPost_ret (v:=.tuple #[.pointer none,.agg #[.int .i64 1,.int .i64 0,.int .i64 v]]) (by simp [results,Tryz.results23,go_sem,r0,r1,r2]) rfl ?_
     exact HF.out W6 H6.out
 · obtain⟨⟨x,y,z⟩,hxyz⟩:∃ x,readOf f=x:=⟨_,rfl⟩
   rw [hxyz] at hr hl
   have hz:¬z=0:=hr
   have hz1:(z==0)=false:=beq_false_of_ne hz
   have hzn:(z != 0)=true:=bne_iff_ne.2 hz
   have d50:Calls Tryz.prog 48 #[.pointer (some ⟨W2.heap.size,0,none⟩),.agg #[.slice b0 n0 m0,.slice b1 n1 m1,.slice b2 n2 m2,.slice b3 n3 m3,.slice b4 n4 m4,.slice b5 n5 m5,.slice b6 n6 m6]] W3 fun e W4=>e=.returned (.agg #[.int .i64 x,.int .i64 y,.int .i64 z])∧Zr3 (w.heap.size+1) W4∧Hid (Below W2.heap.size W2 W4):=c50.mono (by
    rintro e W4 ⟨rfl,hb,-⟩
    exact⟨by rw [hxyz];rfl,hz2.below (by omega) hb,Lib.hid hb⟩)
   have HF:Hid (∀ W4 o,Below W2.heap.size W2 W4→LoadPost f w (.returned (.tuple #[.pointer none,.agg #[.int .i64 x,.int .i64 y,.int .i64 z]])) ((((W4.alloc o).drew.setCell ⟨w.heap.size+1,0,none⟩ (.int .i64 x)).setCell ⟨w.heap.size+1,1,none⟩ (.int .i64 y)).setCell ⟨w.heap.size+1,2,none⟩ (.int .i64 z))):=Lib.hid (by
    intro W4 o g1
    obtain⟨z1,z2,z3,z4⟩:=HSZ.out
    have ga:Below W2.heap.size W2 (W4.alloc o).drew:=below_drew (g1.alloc g1.size _)
    exact⟨zr3_new _ _ _ (by omega) (z2.trans (ga.mono z2.size)),.inr ⟨_,hl,rfl⟩⟩)
   clear c50 q q3 hb2 hs2 hz2 hb3 hs3 hd3 ho3 hr hl h0 h1 h2 h3 h4 h5 h6 hn hf hM hH hxyz hz
   go_enter Tryz.func23,Tryz.ntmps23
   go_upto_region 4 with (go_at_call 48;(with_reducible refine d50.mono ?_);rintro e W4 ⟨rfl,⟨r0,r1,r2,fr⟩,H4⟩)
   have hl:=World.block_lt_of_cell? W4 _ r0
   have hl:w.heap.size+1<W4.heap.size:=hl
   obtain⟨W5,hW5⟩:∃ X,W4.alloc (.cells #[.int .i64 x,.int .i64 y,.int .i64 z] 42)=X:=⟨_,rfl⟩
   have s0:W5.cell? ⟨w.heap.size+1,0,none⟩=some (.int .i64 0):=by rw [←hW5,old_at _ _ _ _ hl];exact r0
   have s1:W5.cell? ⟨w.heap.size+1,1,none⟩=some (.int .i64 0):=by rw [←hW5,old_at _ _ _ _ hl];exact r1
   have s2:W5.cell? ⟨w.heap.size+1,2,none⟩=some (.int .i64 0):=by rw [←hW5,old_at _ _ _ _ hl];exact r2
   have sf:∀ i,W5.frozen? ⟨w.heap.size+1,i,none⟩=false:=fun i=>by rw [←hW5,old_fro _ _ _ _ hl];exact fr i
   have u0:W5.cell? ⟨W4.heap.size,0,none⟩=some (.int .i64 x):=by rw [←hW5,new_at _ _ _ _ _ rfl];rfl
   have u1:W5.cell? ⟨W4.heap.size,1,none⟩=some (.int .i64 y):=by rw [←hW5,new_at _ _ _ _ _ rfl];rfl
   have u2:W5.cell? ⟨W4.heap.size,2,none⟩=some (.int .i64 z):=by rw [←hW5,new_at _ _ _ _ _ rfl];rfl
   have HFW:Hid (LoadPost f w (.returned (.tuple #[.pointer none,.agg #[.int .i64 x,.int .i64 y,.int .i64 z]])) (((W5.drew.setCell ⟨w.heap.size+1,0,none⟩ (.int .i64 x)).setCell ⟨w.heap.size+1,1,none⟩ (.int .i64 y)).setCell ⟨w.heap.size+1,2,none⟩ (.int .i64 z))):=Lib.hid (hW5▸HF.out W4 _ H4.out)
   rw [hW5]
   obtain⟨k4,hk4⟩:∃ k,W4.heap.size=k:=⟨_,rfl⟩
   rw [hk4] at u0 u1 u2 hl ⊢
   have ne1:¬k4=w.heap.size+1:=by omega
   have ne2:¬w.heap.size+1=k4:=by omega
   have u0d:W5.drew.cell? ⟨k4,0,none⟩=some (.int .i64 x):=u0
   have u1d:W5.drew.cell? ⟨k4,1,none⟩=some (.int .i64 y):=u1
   have u2d:W5.drew.cell? ⟨k4,2,none⟩=some (.int .i64 z):=u2
   have s0d:W5.drew.cell? ⟨w.heap.size+1,0,none⟩=some (.int .i64 0):=s0
   have s1d:W5.drew.cell? ⟨w.heap.size+1,1,none⟩=some (.int .i64 0):=s1
   have s2d:W5.drew.cell? ⟨w.heap.size+1,2,none⟩=some (.int .i64 0):=s2
   have sfd:∀ i,W5.drew.frozen? ⟨w.heap.size+1,i,none⟩=false:=sf
   clear hW5 hk4 HF H4 r0 r1 r2 fr d50 hW2 hW3
   go_region_held3 (fun w'=>w'.cell? ⟨k4,0,none⟩=some (.int .i64 x)∧w'.cell? ⟨k4,1,none⟩=some (.int .i64 y)∧w'.cell? ⟨k4,2,none⟩=some (.int .i64 z)) (first | exact⟨u0d,u1d,u2d⟩ | go_keep) (fail)
   obtain⟨W6,hW6⟩:∃ X,((W5.drew.setCell ⟨w.heap.size+1,0,none⟩ (.int .i64 x)).setCell ⟨w.heap.size+1,1,none⟩ (.int .i64 y)).setCell ⟨w.heap.size+1,2,none⟩ (.int .i64 z)=X:=⟨_,rfl⟩
   have g0:W6.cell? ⟨w.heap.size+1,0,none⟩=some (.int .i64 x):=by
    rw [←hW6,World.cell?_setCell_other _ _ _ _ (by intro q;injection q with q1 q2;omega),World.cell?_setCell_other _ _ _ _ (by intro q;injection q with q1 q2;omega)]
    exact World.cell?_setCell_same _ _ _ s0d
   have g1:W6.cell? ⟨w.heap.size+1,1,none⟩=some (.int .i64 y):=by
    rw [←hW6,World.cell?_setCell_other _ _ _ _ (by intro q;injection q with q1 q2;omega)]
    exact World.cell?_setCell_same _ _ _ ((World.cell?_setCell_other _ _ _ _ (by intro q;injection q with q1 q2;omega)).trans s1d)
   have g2:W6.cell? ⟨w.heap.size+1,2,none⟩=some (.int .i64 z):=by
    rw [←hW6]
    exact World.cell?_setCell_same _ _ _ ((World.cell?_setCell_other _ _ _ _ (by intro q;injection q with q1 q2;omega)).trans ((World.cell?_setCell_other _ _ _ _ (by intro q;injection q with q1 q2;omega)).trans s2d))
   have HW6:=Lib.hid hW6
   clear hW6
   go_wp2
   show bodyPost Tryz.prog Tryz.f23 (LoadPost f w) Exit.ret _ (((W5.drew.setCell ⟨w.heap.size+1,0,none⟩ (.int .i64 x)).setCell ⟨w.heap.size+1,1,none⟩ (.int .i64 y)).setCell ⟨w.heap.size+1,2,none⟩ (.int .i64 z))
   rw [HW6.out]
   refine bodyPost_ret (v:=.tuple #[.pointer none,.agg #[.int .i64 x,.int .i64 y,.int .i64 z]]) (by simp [results,Tryz.results23,go_sem,g0,g1,g2]) rfl ?_
   rw [←HW6.out]
   exact HFW.out
end Go.Proofs.YtbkgbhlmeeodgaaGreatDoor
