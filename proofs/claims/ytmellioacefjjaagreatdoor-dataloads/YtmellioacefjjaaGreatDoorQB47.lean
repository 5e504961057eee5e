/- A part. -/
import Derived.Test.YtmellioacefjjaaGreatDoorQB46
import Derived.Lib.SlBytesConst
namespace Go.Proofs.YtmellioacefjjaaGreatDoor
open Go.RowKit
attribute [local go_sem] Oper.semAt_some
def LoadPost (f:Nat→List UInt8) (w:World) (e:Ending) (w':World):Prop:=
 Below w.heap.size w w'∧((∃ d b,loadOf f=(⟨0,0,0⟩,some d)∧e=.returned (.tuple #[.pointer (some ⟨b,0,none⟩),.agg #[.int .i64 0,.int .i64 0,.int .i64 0]])∧PF w' b d.ps d.sp d.cf∧PM w' b d.ms∧Szs d.ps d.sp)∨(∃ x,loadOf f=(x,none)∧e=.returned (.tuple #[.pointer none,whV x])))
def Zr3 (k:Nat) (W:World):Prop:=W.cell? ⟨k,0,none⟩=some (.int .i64 0)∧W.cell? ⟨k,1,none⟩=some (.int .i64 0)∧W.cell? ⟨k,2,none⟩=some (.int .i64 0)∧∀ i,W.frozen? ⟨k,i,none⟩=false
theorem Zr3.below {k n:Nat} {W W':World} (h:Zr3 k W) (hk:k<n) (hb:Below n W W'):Zr3 k W':=
 ⟨(hb.cell (p:=⟨k,0,none⟩) hk).trans h.1,(hb.cell (p:=⟨k,1,none⟩) hk).trans h.2.1,(hb.cell (p:=⟨k,2,none⟩) hk).trans h.2.2.1,fun i=>(hb.frozen (p:=⟨k,i,none⟩) hk).trans (h.2.2.2 i)⟩
theorem zr3_same {k:Nat} {W:World} (h:Zr3 k W):Below W.heap.size W (((W.setCell ⟨k,0,none⟩ (.int .i64 0)).setCell ⟨k,1,none⟩ (.int .i64 0)).setCell ⟨k,2,none⟩ (.int .i64 0)):=by
 have hl:k<W.heap.size:=World.block_lt_of_cell? W _ h.1
 have b1:=below_self W.heap.size h.1
 have b2:=below_self W.heap.size ((b1.cell (p:=⟨k,1,none⟩) hl).trans h.2.1)
 exact (b1.trans b2).trans (below_self W.heap.size (((b1.trans b2).cell (p:=⟨k,2,none⟩) hl).trans h.2.2.1))
theorem zr3_new {k n:Nat} {w W:World} (a b c:Value) (hn:n≤k) (h:Below n w W):Below n w (((W.setCell ⟨k,0,none⟩ a).setCell ⟨k,1,none⟩ b).setCell ⟨k,2,none⟩ c):=
 ((h.setCell (p:=⟨k,0,none⟩) hn _).setCell (p:=⟨k,1,none⟩) hn _).setCell (p:=⟨k,2,none⟩) hn _
set_option maxRecDepth 100000 in
set_option maxHeartbeats 4000000 in
theorem load29 (b0 b1 b2 b3 b4 b5 b6:Option Addr) (n0 n1 n2 n3 n4 n5 n6 m0 m1 m2 m3 m4 m5 m6:Nat) (f:Nat→List UInt8) (w:World) (h0:Octs w b0 n0 (f 0)) (h1:Octs w b1 n1 (f 1)) (h2:Octs w b2 n2 (f 2)) (h3:Octs w b3 n3 (f 3)) (h4:Octs w b4 n4 (f 4)) (h5:Octs w b5 n5 (f 5)) (h6:Octs w b6 n6 (f 6)) (hn:n0+n1+n2+n3+n4+n5+n6≤3100) (hf:∀ i,(f i).length≤4000) (hM:ML w) (hH:HanT w):
 Calls Tryz.prog 29 #[.agg #[.slice b0 n0 m0,.slice b1 n1 m1,.slice b2 n2 m2,.slice b3 n3 m3,.slice b4 n4 m4,.slice b5 n5 m5,.slice b6 n6 m6]] w (LoadPost f w):=by
 obtain⟨W2,hW2⟩:∃ W2,(w.alloc (.cells #[.slice b0 n0 m0,.slice b1 n1 m1,.slice b2 n2 m2,.slice b3 n3 m3,.slice b4 n4 m4,.slice b5 n5 m5,.slice b6 n6 m6] 24)).alloc (.cells #[.int .i64 0,.int .i64 0,.int .i64 0] 59)=W2:=⟨_,rfl⟩
 have hb2:Below w.heap.size w W2:=by rw [←hW2];exact ((Below.refl _ _).alloc (Nat.le_refl _) _).alloc (by simp) _
 have hs2:W2.heap.size=w.heap.size+2:=by rw [←hW2];simp
 have hz2:Zr3 (w.heap.size+1) W2:=by
  rw [←hW2]
  exact⟨by rw [new_at _ _ _ _ _ (by simp)];rfl,by rw [new_at _ _ _ _ _ (by simp)];rfl,by rw [new_at _ _ _ _ _ (by simp)];rfl,fun i=>new_fro _ _ _ _ _ (by simp)⟩
 have q:∀ i,i<7→W2.cell? ⟨w.heap.size,i,none⟩=some (bunV (.slice b0 n0 m0) (.slice b1 n1 m1) (.slice b2 n2 m2) (.slice b3 n3 m3) (.slice b4 n4 m4) (.slice b5 n5 m5) (.slice b6 n6 m6) i):=fun i hi=>by
  rw [←hW2,old_at _ _ _ _ (by simp),new_at _ _ _ _ _ rfl];exact seven_at _ _ _ _ _ _ _ i hi
 obtain⟨W3,hW3⟩:∃ W3,W2.alloc (.cells #[.pointer none,.pointer none,.pointer none,.pointer none,.pointer none,.pointer none,.pointer none,.map none] 75)=W3:=⟨_,rfl⟩
 have hb3:Below W2.heap.size W2 W3:=by rw [←hW3];exact (Below.refl _ _).alloc (Nat.le_refl _) _
 have hs3:W3.heap.size=w.heap.size+3:=by rw [←hW3,World.size_alloc,hs2]
 have hd3:∀ i,W3.cell? ⟨W2.heap.size,i,none⟩=(#[.pointer none,.pointer none,.pointer none,.pointer none,.pointer none,.pointer none,.pointer none,.map none]:Array Value)[i]?:=fun i=>by rw [←hW3,new_at _ _ _ _ _ rfl]
 have ho3:Odd W3 (W2.heap.size):=by
  refine⟨⟨.pointer none,by rw [hd3];rfl⟩,fun i v hv=>?_⟩
  rw [hd3] at hv
  match i,hv with
  | 0,hv=>cases hv;exact .inl ⟨_,rfl⟩
  | 1,hv=>cases hv;exact .inl ⟨_,rfl⟩
  | 2,hv=>cases hv;exact .inl ⟨_,rfl⟩
  | 3,hv=>cases hv;exact .inl ⟨_,rfl⟩
  | 4,hv=>cases hv;exact .inl ⟨_,rfl⟩
  | 5,hv=>cases hv;exact .inl ⟨_,rfl⟩
  | 6,hv=>cases hv;exact .inl ⟨_,rfl⟩
  | 7,hv=>cases hv;exact .inr ⟨_,rfl⟩
  | _+8,hv=>cases hv
 have c50:=read50 b0 b1 b2 b3 b4 b5 b6 n0 n1 n2 n3 n4 n5 n6 m0 m1 m2 m3 m4 m5 m6 f W2 W3 (W2.heap.size) (h0.below hb2) (h1.below hb2) (h2.below hb2) (h3.below hb2) (h4.below hb2) (h5.below hb2) (h6.below hb2) hn (ml_on hM hb2) hb3 ⟨by omega,by omega⟩ ho3 (fun i hi=>by
  rw [hd3]
  match i,hi with
  | 0,_=>rfl | 1,_=>rfl | 2,_=>rfl | 3,_=>rfl | 4,_=>rfl | 5,_=>rfl | 6,_=>rfl | 7,_=>rfl) (fun i=>by rw [←hW3];exact new_fro _ _ _ _ _ rfl)
 have q3:∀ i,i<7→W3.cell? ⟨w.heap.size,i,none⟩=some (bunV (.slice b0 n0 m0) (.slice b1 n1 m1) (.slice b2 n2 m2) (.slice b3 n3 m3) (.slice b4 n4 m4) (.slice b5 n5 m5) (.slice b6 n6 m6) i):=fun i hi=>(hb3.cell (p:=⟨w.heap.size,i,none⟩) (show w.heap.size<W2.heap.size by omega)).trans (q i hi)
 have y0:W3.cell? ⟨w.heap.size,0,none⟩=some (.slice b0 n0 m0):=q3 0 (by omega)
 have y1:W3.cell? ⟨w.heap.size,1,none⟩=some (.slice b1 n1 m1):=q3 1 (by omega)
 have y2:W3.cell? ⟨w.heap.size,2,none⟩=some (.slice b2 n2 m2):=q3 2 (by omega)
 have y3:W3.cell? ⟨w.heap.size,3,none⟩=some (.slice b3 n3 m3):=q3 3 (by omega)
 have y4:W3.cell? ⟨w.heap.size,4,none⟩=some (.slice b4 n4 m4):=q3 4 (by omega)
 have y5:W3.cell? ⟨w.heap.size,5,none⟩=some (.slice b5 n5 m5):=q3 5 (by omega)
 have y6:W3.cell? ⟨w.heap.size,6,none⟩=some (.slice b6 n6 m6):=q3 6 (by omega)
 have HSZ:Hid (W2.heap.size=w.heap.size+2∧Below w.heap.size w W2∧Zr3 (w.heap.size+1) W2∧HanT W2):=Lib.hid ⟨hs2,hb2,hz2,hH.below hH.lt hb2⟩
 have HZ:=Lib.hid (szs_of f 4000 (by omega) hf)
 rcases read_load f with ⟨hr,hl⟩ | ⟨hr,hl⟩
 · have d50:Calls Tryz.prog 50 #[.pointer (some ⟨W2.heap.size,0,none⟩),.agg #[.slice b0 n0 m0,.slice b1 n1 m1,.slice b2 n2 m2,.slice b3 n3 m3,.slice b4 n4 m4,.slice b5 n5 m5,.slice b6 n6 m6]] W3 fun e W4=>e=.returned (.agg #[.int .i64 0,.int .i64 0,.int .i64 0])∧Hid (Below W2.heap.size W2 W4∧PF W4 (W2.heap.size) (uF f).rows (spF f) (cfF f).rows∧Odd W4 (W2.heap.size)∧W4.cell? ⟨W2.heap.size,7,none⟩=some (.map none)∧W4.frozen? ⟨W2.heap.size,7,none⟩=false):=c50.mono (by
    rintro e W4 ⟨rfl,hb,hh⟩
    exact⟨by rw [hr];rfl,Lib.hid ⟨hb,hh hr⟩⟩)
   have D51:Hid (∀ W4 o,(Below W2.heap.size W2 W4∧PF W4 (W2.heap.size) (uF f).rows (spF f) (cfF f).rows∧Odd W4 (W2.heap.size)∧W4.cell? ⟨W2.heap.size,7,none⟩=some (.map none)∧W4.frozen? ⟨W2.heap.size,7,none⟩=false)→Calls Tryz.prog 51 #[.pointer (some ⟨W2.heap.size,0,none⟩)] (W4.alloc o) fun e W6=>(e=.returned (.int .i64 (joinE (spF f 0) (uF f).rows))∧Zr3 (w.heap.size+1) W6)∧Hid (Below W2.heap.size W2 W6∧(joinE (spF f 0) (uF f).rows=0→∃ ms,mkP (spF f 0) (uF f).rows [] (uF f).rows=some ms∧PF W6 (W2.heap.size) (uF f).rows (spF f) (cfF f).rows∧PM W6 (W2.heap.size) ms))):=Lib.hid (fun W4 o ⟨g1,g2,g3,g4,g5⟩=>by
    obtain⟨z1,z2,z3,z4⟩:=HSZ.out
    have hl4:=g3.lt
    have ha:Below W4.heap.size W4 (W4.alloc o):=(Below.refl _ _).alloc (Nat.le_refl _) _
    have hga:Below W2.heap.size W2 (W4.alloc o):=g1.trans (ha.mono g1.size)
    refine (join51 W2.heap.size (W2.heap.size) _ _ _ (W4.alloc o) (by omega) (g3.below hl4 ha) (g2.below ha) ⟨(ha.cell (p:=⟨W2.heap.size,7,none⟩) hl4).trans g4,(ha.frozen (p:=⟨W2.heap.size,7,none⟩) hl4).trans g5⟩ HZ.out (z4.below z4.lt (hga.mono (by omega)))).mono ?_
    rintro e W6 ⟨rfl,hb6,hh⟩
    exact⟨⟨rfl,(z3.below (n:=W2.heap.size) (by omega) (hga.trans hb6))⟩,Lib.hid ⟨hga.trans hb6,hh⟩⟩)
   have HL2:=Lib.hid hl
   clear c50 q q3 hb2 hs2 hz2 hb3 hs3 hd3 ho3 hr hl h0 h1 h2 h3 h4 h5 h6 hn hf hM hH
   rcases load2_join (uF f).rows (spF f) (cfF f).rows with ⟨hj,ms,hms,hld⟩ | ⟨hj,hld⟩
   · have HF:Hid (∀ W6,(Below W2.heap.size W2 W6∧(joinE (spF f 0) (uF f).rows=0→∃ ms,mkP (spF f 0) (uF f).rows [] (uF f).rows=some ms∧PF W6 W2.heap.size (uF f).rows (spF f) (cfF f).rows∧PM W6 W2.heap.size ms))→Zr3 (w.heap.size+1) W6→LoadPost f w (.returned (.tuple #[.pointer (some ⟨W2.heap.size,0,none⟩),.agg #[.int .i64 0,.int .i64 0,.int .i64 0]])) (((W6.setCell ⟨w.heap.size+1,0,none⟩ (.int .i64 0)).setCell ⟨w.heap.size+1,1,none⟩ (.int .i64 0)).setCell ⟨w.heap.size+1,2,none⟩ (.int .i64 0))):=Lib.hid (by
      intro W6 ⟨g1,g2⟩ hz
      obtain⟨ms',e1,e2,e3⟩:=g2 hj
      rw [hms] at e1
      injection e1 with e1
      subst e1
      obtain⟨z1,z2,z3,z4⟩:=HSZ.out
      have hb:=zr3_same hz
      refine⟨z2.trans ((g1.trans (hb.mono g1.size)).mono z2.size),.inl ⟨⟨_,_,_,ms⟩,_,HL2.out.trans hld,rfl,e2.below hb,e3.below hb,HZ.out⟩⟩)
     rw [hj] at D51
     rw [hj] at HF
     clear hj hms hld
     go_enter Tryz.func29,Tryz.ntmps29
     go_wp2_with (first
      | (go_at_call 50;(with_reducible refine d50.mono ?_);rintro e W4 ⟨rfl,H4⟩)
      | (go_at_call 51;(with_reducible refine (D51.out W4 _ H4.out).mono ?_);rintro e W6 ⟨⟨rfl,r0,r1,r2,fr⟩,H6⟩))
     refine bodyPost_ret (v:=.tuple #[.pointer (some ⟨W2.heap.size,0,none⟩),.agg #[.int .i64 0,.int .i64 0,.int .i64 0]]) (by simp [results,Tryz.results29,go_sem,r0,r1,r2]) rfl ?_
     exact HF.out W6 H6.out ⟨r0,r1,r2,fr⟩
   · have HF:Hid (∀ W6,Below W2.heap.size W2 W6→LoadPost f w (.returned (.tuple #[.pointer none,.agg #[.int .i64 1,.int .i64 0,.int .i64 (joinE (spF f 0) (uF f).rows)]])) (((W6.setCell ⟨w.heap.size+1,0,none⟩ (.int .i64 1)).setCell ⟨w.heap.size+1,1,none⟩ (.int .i64 0)).setCell ⟨w.heap.size+1,2,none⟩ (.int .i64 (joinE (spF f 0) (uF f).rows)))):=Lib.hid (by
      intro W6 g1
      obtain⟨z1,z2,z3,z4⟩:=HSZ.out
      exact⟨zr3_new _ _ _ (by omega) (z2.trans (g1.mono z2.size)),.inr ⟨_,HL2.out.trans hld,rfl⟩⟩)
     have D5:Hid (∀ W4 o,(Below W2.heap.size W2 W4∧PF W4 W2.heap.size (uF f).rows (spF f) (cfF f).rows∧Odd W4 W2.heap.size∧W4.cell? ⟨W2.heap.size,7,none⟩=some (.map none)∧W4.frozen? ⟨W2.heap.size,7,none⟩=false)→Calls Tryz.prog 51 #[.pointer (some ⟨W2.heap.size,0,none⟩)] (W4.alloc o) fun e W6=>(e=.returned (.int .i64 (joinE (spF f 0) (uF f).rows))∧Zr3 (w.heap.size+1) W6)∧Hid (Below W2.heap.size W2 W6)):=Lib.hid (fun W4 o h=>(D51.out W4 o h).mono (fun e W6 h=>⟨h.1,Lib.hid h.2.out.1⟩))
     obtain⟨v,hv⟩:∃ v,joinE (spF f 0) (uF f).rows=v:=⟨_,rfl⟩
     rw [hv] at D5 HF hj
     have hx1:(v==0)=false:=beq_false_of_ne hj
     have hx2:(v != 0)=true:=bne_iff_ne.2 hj
     clear hv hld D51
     go_enter Tryz.func29,Tryz.ntmps29
     go_wp2_with (first
      | (go_at_call 50;(with_reducible refine d50.mono ?_);rintro e W4 ⟨rfl,H4⟩)
      | (go_at_call 51;(with_reducible refine (D5.out W4 _ H4.out).mono ?_);rintro e W6 ⟨⟨rfl,r0,r1,r2,fr⟩,H6⟩))
     refine bodyPost_ret (v:=.tuple #[.pointer none,.agg #[.int .i64 1,.int .i64 0,.int .i64 v]]) (by simp [results,Tryz.results29,go_sem,r0,r1,r2]) rfl ?_
     exact HF.out W6 H6.out
 · obtain⟨⟨x,y,z⟩,hxyz⟩:∃ x,readOf f=x:=⟨_,rfl⟩
   rw [hxyz] at hr hl
   have hz:¬z=0:=hr
   have hz1:(z==0)=false:=beq_false_of_ne hz
   have hzn:(z != 0)=true:=bne_iff_ne.2 hz
   have d50:Calls Tryz.prog 50 #[.pointer (some ⟨W2.heap.size,0,none⟩),.agg #[.slice b0 n0 m0,.slice b1 n1 m1,.slice b2 n2 m2,.slice b3 n3 m3,.slice b4 n4 m4,.slice b5 n5 m5,.slice b6 n6 m6]] W3 fun e W4=>e=.returned (.agg #[.int .i64 x,.int .i64 y,.int .i64 z])∧Zr3 (w.heap.size+1) W4∧Hid (Below W2.heap.size W2 W4):=c50.mono (by
    rintro e W4 ⟨rfl,hb,-⟩
    exact⟨by rw [hxyz];rfl,hz2.below (by omega) hb,Lib.hid hb⟩)
   have HF:Hid (∀ W4 o,Below W2.heap.size W2 W4→LoadPost f w (.returned (.tuple #[.pointer none,.agg #[.int .i64 x,.int .i64 y,.int .i64 z]])) ((((W4.alloc o).drew.setCell ⟨w.heap.size+1,0,none⟩ (.int .i64 x)).setCell ⟨w.heap.size+1,1,none⟩ (.int .i64 y)).setCell ⟨w.heap.size+1,2,none⟩ (.int .i64 z))):=Lib.hid (by
    intro W4 o g1
    obtain⟨z1,z2,z3,z4⟩:=HSZ.out
    have ga:Below W2.heap.size W2 (W4.alloc o).drew:=below_drew (g1.alloc g1.size _)
    exact⟨zr3_new _ _ _ (by omega) (z2.trans (ga.mono z2.size)),.inr ⟨_,hl,rfl⟩⟩)
   clear c50 q q3 hb2 hs2 hz2 hb3 hs3 hd3 ho3 hr hl h0 h1 h2 h3 h4 h5 h6 hn hf hM hH hxyz hz
   go_enter Tryz.func29,Tryz.ntmps29
   go_upto_region 4 with (go_at_call 50;(with_reducible refine d50.mono ?_);rintro e W4 ⟨rfl,⟨r0,r1,r2,fr⟩,H4⟩)
   have hl:=World.block_lt_of_cell? W4 _ r0
   have hl:w.heap.size+1<W4.heap.size:=hl
   obtain⟨W5,hW5⟩:∃ X,W4.alloc (.cells #[.int .i64 x,.int .i64 y,.int .i64 z] 59)=X:=⟨_,rfl⟩
   have s0:W5.cell? ⟨w.heap.size+1,0,none⟩=some (.int .i64 0):=by rw [←hW5,old_at _ _ _ _ hl];exact r0
   have s1:W5.cell? ⟨w.heap.size+1,1,none⟩=some (.int .i64 0):=by rw [←hW5,old_at _ _ _ _ hl];exact r1
   have s2:W5.cell? ⟨w.heap.size+1,2,none⟩=some (.int .i64 0):=by rw [←hW5,old_at _ _ _ _ hl];exact r2
   have sf:∀ i,W5.frozen? ⟨w.heap.size+1,i,none⟩=false:=fun i=>by rw [←hW5,old_fro _ _ _ _ hl];exact fr i
   have u0:W5.cell? ⟨W4.heap.size,0,none⟩=some (.int .i64 x):=by rw [←hW5,new_at _ _ _ _ _ rfl];rfl
   have u1:W5.cell? ⟨W4.heap.size,1,none⟩=some (.int .i64 y):=by rw [←hW5,new_at _ _ _ _ _ rfl];rfl
   have u2:W5.cell? ⟨W4.heap.size,2,none⟩=some (.int .i64 z):=by rw [←hW5,new_at _ _ _ _ _ rfl];rfl
   have HFW:Hid (LoadPost f w (.returned (.tuple #[.pointer none,.agg #[.int .i64 x,.int .i64 y,.int .i64 z]])) (((W5.drew.setCell ⟨w.heap.size+1,0,none⟩ (.int .i64 x)).setCell ⟨w.heap.size+1,1,none⟩ (.int .i64 y)).setCell ⟨w.heap.size+1,2,none⟩ (.int .i64 z))):=Lib.hid (hW5▸HF.out W4 _ H4.out)
   rw [hW5]
   obtain⟨k4,hk4⟩:∃ k,W4.heap.size=k:=⟨_,rfl⟩
   rw [hk4] at u0 u1 u2 hl ⊢
   have ne1:¬k4=w.heap.size+1:=by omega
   have ne2:¬w.heap.size+1=k4:=by omega
   have u0d:W5.drew.cell? ⟨k4,0,none⟩=some (.int .i64 x):=u0
   have u1d:W5.drew.cell? ⟨k4,1,none⟩=some (.int .i64 y):=u1
   have u2d:W5.drew.cell? ⟨k4,2,none⟩=some (.int .i64 z):=u2
   have s0d:W5.drew.cell? ⟨w.heap.size+1,0,none⟩=some (.int .i64 0):=s0
   have s1d:W5.drew.cell? ⟨w.heap.size+1,1,none⟩=some (.int .i64 0):=s1
   have s2d:W5.drew.cell? ⟨w.heap.size+1,2,none⟩=some (.int .i64 0):=s2
   have sfd:∀ i,W5.drew.frozen? ⟨w.heap.size+1,i,none⟩=false:=sf
   clear hW5 hk4 HF H4 r0 r1 r2 fr d50 hW2 hW3
   go_region_held3 (fun w'=>w'.cell? ⟨k4,0,none⟩=some (.int .i64 x)∧w'.cell? ⟨k4,1,none⟩=some (.int .i64 y)∧w'.cell? ⟨k4,2,none⟩=some (.int .i64 z)) (first | exact⟨u0d,u1d,u2d⟩ | go_keep) (fail)
   obtain⟨W6,hW6⟩:∃ X,((W5.drew.setCell ⟨w.heap.size+1,0,none⟩ (.int .i64 x)).setCell ⟨w.heap.size+1,1,none⟩ (.int .i64 y)).setCell ⟨w.heap.size+1,2,none⟩ (.int .i64 z)=X:=⟨_,rfl⟩
   have g0:W6.cell? ⟨w.heap.size+1,0,none⟩=some (.int .i64 x):=by
    rw [←hW6,World.cell?_setCell_other _ _ _ _ (by intro q;injection q with q1 q2;omega),World.cell?_setCell_other _ _ _ _ (by intro q;injection q with q1 q2;omega)]
    exact World.cell?_setCell_same _ _ _ s0d
   have g1:W6.cell? ⟨w.heap.size+1,1,none⟩=some (.int .i64 y):=by
    rw [←hW6,World.cell?_setCell_other _ _ _ _ (by intro q;injection q with q1 q2;omega)]
    exact World.cell?_setCell_same _ _ _ ((World.cell?_setCell_other _ _ _ _ (by intro q;injection q with q1 q2;omega)).trans s1d)
   have g2:W6.cell? ⟨w.heap.size+1,2,none⟩=some (.int .i64 z):=by
    rw [←hW6]
    exact World.cell?_setCell_same _ _ _ ((World.cell?_setCell_other _ _ _ _ (by intro q;injection q with q1 q2;omega)).trans ((World.cell?_setCell_other _ _ _ _ (by intro q;injection q with q1 q2;omega)).trans s2d))
   have HW6:=Lib.hid hW6
   clear hW6
   go_wp2
   show bodyPost Tryz.prog Tryz.f29 (LoadPost f w) Exit.ret _ (((W5.drew.setCell ⟨w.heap.size+1,0,none⟩ (.int .i64 x)).setCell ⟨w.heap.size+1,1,none⟩ (.int .i64 y)).setCell ⟨w.heap.size+1,2,none⟩ (.int .i64 z))
   rw [HW6.out]
   refine bodyPost_ret (v:=.tuple #[.pointer none,.agg #[.int .i64 x,.int .i64 y,.int .i64 z]]) (by simp [results,Tryz.results29,go_sem,g0,g1,g2]) rfl ?_
   rw [←HW6.out]
   exact HFW.out
end Go.Proofs.YtmellioacefjjaaGreatDoor
namespace Go.Proofs.YtmellioacefjjaaGreatDoor
open Go.RowKit Go.Shelf
attribute [local go_sem] Oper.semAt_some
theorem eq59 (x y z:Int) (w:World):Sem.run Tryz.prog (binOp .eql 59 (.agg #[.int .i64 x,.int .i64 y,.int .i64 z]) (.agg #[.int .i64 x,.int .i64 y,.int .i64 z])) w=.ok (.bool true) w:=by
 have hS:Tryz.prog.underlying 59=some (.struct (Tryz.prog.fieldsOf 59)):=by kernel_rfl
 have hp:Tryz.prog.stoodInHeld 59=false:=by kernel_rfl
 rw [run_eql_struct,show (10000:Nat)=9999+1 from rfl,run_equalIn_agg w 9999 59 _ _ hS hp]
 simp only [Program.fieldsOf,Tryz.underlying59]
 go_simp
def BnB (w W:World) (v0 v1 v2 v3 v4 v5 v6:Value):Prop:=
 (W.cell? ⟨w.heap.size,0,none⟩=some v0∧W.cell? ⟨w.heap.size,1,none⟩=some v1∧W.cell? ⟨w.heap.size,2,none⟩=some v2∧W.cell? ⟨w.heap.size,3,none⟩=some v3∧W.cell? ⟨w.heap.size,4,none⟩=some v4∧W.cell? ⟨w.heap.size,5,none⟩=some v5∧W.cell? ⟨w.heap.size,6,none⟩=some v6)∧Below w.heap.size w W
theorem BnB.lt {w W:World} {v0 v1 v2 v3 v4 v5 v6:Value} (h:BnB w W v0 v1 v2 v3 v4 v5 v6):w.heap.size<W.heap.size:=World.block_lt_of_cell? W _ h.1.1
theorem BnB.below {w W W':World} {v0 v1 v2 v3 v4 v5 v6:Value} (h:BnB w W v0 v1 v2 v3 v4 v5 v6) (hb:Below W.heap.size W W'):BnB w W' v0 v1 v2 v3 v4 v5 v6:=by
 have hl:=h.lt
 obtain⟨⟨h0,h1,h2,h3,h4,h5,h6⟩,h9⟩:=h
 have c:∀ i,W'.cell? ⟨w.heap.size,i,none⟩=W.cell? ⟨w.heap.size,i,none⟩:=fun i=>hb.cell (p:=⟨w.heap.size,i,none⟩) hl
 exact⟨⟨(c _).trans h0,(c _).trans h1,(c _).trans h2,(c _).trans h3,(c _).trans h4,(c _).trans h5,(c _).trans h6⟩,h9.trans (hb.mono h9.size)⟩
theorem bnb_new (w:World) (v0 v1 v2 v3 v4 v5 v6:Value):BnB w (w.alloc (.cells #[v0,v1,v2,v3,v4,v5,v6] 24)) v0 v1 v2 v3 v4 v5 v6:=by
 have o:∀ i,(w.alloc (.cells #[v0,v1,v2,v3,v4,v5,v6] 24)).cell? ⟨w.heap.size,i,none⟩=(#[v0,v1,v2,v3,v4,v5,v6]:Array Value)[i]?:=fun i=>new_at _ _ _ _ _ rfl
 exact⟨⟨by rw [o];rfl,by rw [o];rfl,by rw [o];rfl,by rw [o];rfl,by rw [o];rfl,by rw [o];rfl,by rw [o];rfl⟩,(Below.refl _ _).alloc (Nat.le_refl _) _⟩
theorem bnb_alloc {w W:World} {v0 v1 v2 v3 v4 v5 v6:Value} (h:BnB w W v0 v1 v2 v3 v4 v5 v6) (o:Obj):(W.alloc o).cell? ⟨w.heap.size,0,none⟩=some v0∧(W.alloc o).cell? ⟨w.heap.size,1,none⟩=some v1∧(W.alloc o).cell? ⟨w.heap.size,2,none⟩=some v2∧(W.alloc o).cell? ⟨w.heap.size,3,none⟩=some v3∧(W.alloc o).cell? ⟨w.heap.size,4,none⟩=some v4∧(W.alloc o).cell? ⟨w.heap.size,5,none⟩=some v5∧(W.alloc o).cell? ⟨w.heap.size,6,none⟩=some v6:=
 (h.below ((Below.refl _ _).alloc (Nat.le_refl _) o)).1
def LddPost (f:Nat→List UInt8) (w:World) (e:Ending) (w':World):Prop:=
 Below w.heap.size w w'∧((∃ d b b',loadOf f=(⟨0,0,0⟩,some d)∧e=.returned (.tuple #[.pointer (some ⟨b,0,none⟩),.pointer (some ⟨b',0,none⟩),.bool true])∧Hid ((PF w' b d.ps d.sp d.cf∧PM w' b d.ms∧Szs d.ps d.sp)∧RD w' b' d.ps d.sp d.cf d.ms))∨((∃ x,loadOf f=(x,none))∧e=.returned (.tuple #[.pointer none,.pointer none,.bool true])))
set_option maxRecDepth 100000 in
set_option maxHeartbeats 4000000 in
theorem loaded9 (b0 b1 b2 b3 b4 b5 b6:Option Addr) (n0 n1 n2 n3 n4 n5 n6 m0 m1 m2 m3 m4 m5 m6:Nat) (f:Nat→List UInt8) (w:World) (h0:Octs w b0 n0 (f 0)) (h1:Octs w b1 n1 (f 1)) (h2:Octs w b2 n2 (f 2)) (h3:Octs w b3 n3 (f 3)) (h4:Octs w b4 n4 (f 4)) (h5:Octs w b5 n5 (f 5)) (h6:Octs w b6 n6 (f 6))
 (hn:n0+n1+n2+n3+n4+n5+n6≤3000) (hf7:∀ i,7≤i→f i = []) (hM:ML w) (hH:HanT w):
 Calls Tryz.prog 9 #[.agg #[.slice b0 n0 m0,.slice b1 n1 m1,.slice b2 n2 m2,.slice b3 n3 m3,.slice b4 n4 m4,.slice b5 n5 m5,.slice b6 n6 m6]] w (LddPost f w):=by
 have hlen:∀ i,(f i).length≤3000:=fun i=>by
  rcases Nat.lt_or_ge i 7 with hi | hi
  · match i,hi with
    | 0,_=>have:=h0.len;omega
    | 1,_=>have:=h1.len;omega
    | 2,_=>have:=h2.len;omega
    | 3,_=>have:=h3.len;omega
    | 4,_=>have:=h4.len;omega
    | 5,_=>have:=h5.len;omega
    | 6,_=>have:=h6.len;omega
  · rw [hf7 i hi];simp
 have C29:Hid (∀ W,Below w.heap.size w W→Calls Tryz.prog 29 #[.agg #[.slice b0 n0 m0,.slice b1 n1 m1,.slice b2 n2 m2,.slice b3 n3 m3,.slice b4 n4 m4,.slice b5 n5 m5,.slice b6 n6 m6]] W (LoadPost f W)):=Lib.hid (fun W hW=>load29 b0 b1 b2 b3 b4 b5 b6 n0 n1 n2 n3 n4 n5 n6 m0 m1 m2 m3 m4 m5 m6 f W (h0.below hW) (h1.below hW) (h2.below hW) (h3.below hW) (h4.below hW) (h5.below hW) (h6.below hW) (by omega) (fun i=>Nat.le_trans (hlen i) (by omega)) (ml_on hM hW) (hH.below hH.lt hW))
 have C35:Hid (∀ W,Below w.heap.size w W→Calls Tryz.prog 35 #[.agg #[.slice b0 n0 m0,.slice b1 n1 m1,.slice b2 n2 m2,.slice b3 n3 m3,.slice b4 n4 m4,.slice b5 n5 m5,.slice b6 n6 m6]] W (LdPost f W)):=Lib.hid (fun W hW=>load35 b0 b1 b2 b3 b4 b5 b6 n0 n1 n2 n3 n4 n5 n6 m0 m1 m2 m3 m4 m5 m6 f W (h0.below hW) (h1.below hW) (h2.below hW) (h3.below hW) (h4.below hW) (h5.below hW) (h6.below hW) (by omega))
 clear h0 h1 h2 h3 h4 h5 h6 hn hf7 hM hH hlen
 have H1:=Lib.hid (bnb_new w (.slice b0 n0 m0) (.slice b1 n1 m1) (.slice b2 n2 m2) (.slice b3 n3 m3) (.slice b4 n4 m4) (.slice b5 n5 m5) (.slice b6 n6 m6))
 have E59:=fun x y z W=>eq59 x y z W
 rcases hl:loadOf f with ⟨⟨vf,vl,ve⟩,_ | d⟩
 · have D29:Hid (∀ W,BnB w W (.slice b0 n0 m0) (.slice b1 n1 m1) (.slice b2 n2 m2) (.slice b3 n3 m3) (.slice b4 n4 m4) (.slice b5 n5 m5) (.slice b6 n6 m6)→Calls Tryz.prog 29 #[.agg #[.slice b0 n0 m0,.slice b1 n1 m1,.slice b2 n2 m2,.slice b3 n3 m3,.slice b4 n4 m4,.slice b5 n5 m5,.slice b6 n6 m6]] W fun e W'=>(e=.returned (.tuple #[.pointer none,.agg #[.int .i64 vf,.int .i64 vl,.int .i64 ve]]))∧BnB w W' (.slice b0 n0 m0) (.slice b1 n1 m1) (.slice b2 n2 m2) (.slice b3 n3 m3) (.slice b4 n4 m4) (.slice b5 n5 m5) (.slice b6 n6 m6)):=Lib.hid (fun W hW=>(C29.out W hW.2).mono (by
    rintro e W' ⟨hb,⟨d,b,h,-⟩ | ⟨x,h,rfl⟩⟩
    · rw [hl] at h;injection h with _ h;cases h
    · rw [hl] at h
      injection h with h
      subst h
      exact⟨rfl,hW.below hb⟩))
   have D35:Hid (∀ W,BnB w W (.slice b0 n0 m0) (.slice b1 n1 m1) (.slice b2 n2 m2) (.slice b3 n3 m3) (.slice b4 n4 m4) (.slice b5 n5 m5) (.slice b6 n6 m6)→Calls Tryz.prog 35 #[.agg #[.slice b0 n0 m0,.slice b1 n1 m1,.slice b2 n2 m2,.slice b3 n3 m3,.slice b4 n4 m4,.slice b5 n5 m5,.slice b6 n6 m6]] (W.alloc (.cells #[.int .i64 vf,.int .i64 vl,.int .i64 ve] 59)) fun e W'=>(e=.returned (.tuple #[.pointer none,.agg #[.int .i64 vf,.int .i64 vl,.int .i64 ve]]))∧((∀ o,(W'.alloc o).cell? ⟨W.heap.size,0,none⟩=some (.int .i64 vf))∧(∀ o,(W'.alloc o).cell? ⟨W.heap.size,1,none⟩=some (.int .i64 vl))∧(∀ o,(W'.alloc o).cell? ⟨W.heap.size,2,none⟩=some (.int .i64 ve)))∧(¬W.heap.size=W'.heap.size∧¬W'.heap.size=W.heap.size)∧Hid (Below w.heap.size w W')):=Lib.hid (fun W hW=>by
    have hba:Below W.heap.size W (W.alloc (.cells #[.int .i64 vf,.int .i64 vl,.int .i64 ve] 59)):=(Below.refl _ _).alloc (Nat.le_refl _) _
    have hW1:=hW.below hba
    refine (C35.out _ hW1.2).mono ?_
    rintro e W' ⟨hb,⟨d,b,h,-⟩ | ⟨x,h,rfl⟩⟩
    · rw [hl] at h;injection h with _ h;cases h
    · rw [hl] at h
      injection h with h
      subst h
      have hs:=hb.size
      rw [World.size_alloc] at hs
      have o:∀ i,W'.cell? ⟨W.heap.size,i,none⟩=(#[.int .i64 vf,.int .i64 vl,.int .i64 ve]:Array Value)[i]?:=fun i=>(hb.cell (p:=⟨W.heap.size,i,none⟩) (by rw [World.size_alloc];show W.heap.size<_;omega)).trans (new_at _ _ _ _ _ rfl)
      exact⟨rfl,⟨fun o'=>(old_at _ o' _ _ (by omega)).trans (by rw [o];rfl),fun o'=>(old_at _ o' _ _ (by omega)).trans (by rw [o];rfl),fun o'=>(old_at _ o' _ _ (by omega)).trans (by rw [o];rfl)⟩,⟨by omega,by omega⟩,Lib.hid (hW1.2.trans (hb.mono hW1.2.size))⟩)
   clear C29 C35
   have HLL:=Lib.hid hl
   clear hl
   go_enter Tryz.func9,Tryz.ntmps9
   go_wp2_with (first
    | (go_at_call 29;(with_reducible refine (D29.out _ H1.out).mono ?_);rintro e W2 ⟨rfl,H2'⟩;have H2:=Lib.hid H2';clear H2';have q0:=fun o=>(bnb_alloc H2.out o).1;have q1:=fun o=>(bnb_alloc H2.out o).2.1;have q2:=fun o=>(bnb_alloc H2.out o).2.2.1;have q3:=fun o=>(bnb_alloc H2.out o).2.2.2.1;have q4:=fun o=>(bnb_alloc H2.out o).2.2.2.2.1;have q5:=fun o=>(bnb_alloc H2.out o).2.2.2.2.2.1;have q6:=fun o=>(bnb_alloc H2.out o).2.2.2.2.2.2)
    | (go_at_call 35;(with_reducible refine (D35.out _ H2.out).mono ?_);rintro e W3 ⟨rfl,⟨u0,u1,u2⟩,⟨g3,g4⟩,H3⟩))
   refine bodyPost_ret (v:=.tuple #[.pointer none,.pointer none,.bool true]) (by simp [results,Tryz.results9,go_sem]) rfl ?_
   exact⟨H3.out.alloc H3.out.size _,.inr ⟨⟨_,HLL.out⟩,rfl⟩⟩
 · have D29:Hid (∀ W,BnB w W (.slice b0 n0 m0) (.slice b1 n1 m1) (.slice b2 n2 m2) (.slice b3 n3 m3) (.slice b4 n4 m4) (.slice b5 n5 m5) (.slice b6 n6 m6)→Calls Tryz.prog 29 #[.agg #[.slice b0 n0 m0,.slice b1 n1 m1,.slice b2 n2 m2,.slice b3 n3 m3,.slice b4 n4 m4,.slice b5 n5 m5,.slice b6 n6 m6]] W fun e W'=>∃ b,(e=.returned (.tuple #[.pointer (some ⟨b,0,none⟩),.agg #[.int .i64 0,.int .i64 0,.int .i64 0]]))∧BnB w W' (.slice b0 n0 m0) (.slice b1 n1 m1) (.slice b2 n2 m2) (.slice b3 n3 m3) (.slice b4 n4 m4) (.slice b5 n5 m5) (.slice b6 n6 m6)∧Hid (vf=0∧vl=0∧ve=0∧PF W' b d.ps d.sp d.cf∧PM W' b d.ms∧Szs d.ps d.sp)):=Lib.hid (fun W hW=>(C29.out W hW.2).mono (by
    rintro e W' ⟨hb,⟨d',b,h,rfl,k1,k2,k3⟩ | ⟨x,h,-⟩⟩
    · rw [hl] at h
      injection h with h h'
      injection h' with h'
      subst h'
      injection h with z1 z2 z3
      exact⟨b,rfl,hW.below hb,Lib.hid ⟨z1,z2,z3,k1,k2,k3⟩⟩
    · rw [hl] at h;injection h with _ h;cases h))
   have D35:Hid (∀ W,BnB w W (.slice b0 n0 m0) (.slice b1 n1 m1) (.slice b2 n2 m2) (.slice b3 n3 m3) (.slice b4 n4 m4) (.slice b5 n5 m5) (.slice b6 n6 m6)→Calls Tryz.prog 35 #[.agg #[.slice b0 n0 m0,.slice b1 n1 m1,.slice b2 n2 m2,.slice b3 n3 m3,.slice b4 n4 m4,.slice b5 n5 m5,.slice b6 n6 m6]] (W.alloc (.cells #[.int .i64 0,.int .i64 0,.int .i64 0] 59)) fun e W'=>∃ b',(e=.returned (.tuple #[.pointer (some ⟨b',0,none⟩),.agg #[.int .i64 0,.int .i64 0,.int .i64 0]]))∧((∀ o,(W'.alloc o).cell? ⟨W.heap.size,0,none⟩=some (.int .i64 0))∧(∀ o,(W'.alloc o).cell? ⟨W.heap.size,1,none⟩=some (.int .i64 0))∧(∀ o,(W'.alloc o).cell? ⟨W.heap.size,2,none⟩=some (.int .i64 0)))∧(¬W.heap.size=W'.heap.size∧¬W'.heap.size=W.heap.size)∧Hid (Below w.heap.size w W'∧Below W.heap.size W W'∧RD W' b' d.ps d.sp d.cf d.ms)):=Lib.hid (fun W hW=>by
    have hba:Below W.heap.size W (W.alloc (.cells #[.int .i64 0,.int .i64 0,.int .i64 0] 59)):=(Below.refl _ _).alloc (Nat.le_refl _) _
    have hW1:=hW.below hba
    refine (C35.out _ hW1.2).mono ?_
    rintro e W' ⟨hb,⟨d',b',h,rfl,hrd⟩ | ⟨x,h,-⟩⟩
    · rw [hl] at h
      injection h with h h'
      injection h' with h'
      subst h'
      have hs:=hb.size
      rw [World.size_alloc] at hs
      have o:∀ i,W'.cell? ⟨W.heap.size,i,none⟩=(#[.int .i64 0,.int .i64 0,.int .i64 0]:Array Value)[i]?:=fun i=>(hb.cell (p:=⟨W.heap.size,i,none⟩) (by rw [World.size_alloc];show W.heap.size<_;omega)).trans (new_at _ _ _ _ _ rfl)
      exact⟨b',rfl,⟨fun o'=>(old_at _ o' _ _ (by omega)).trans (by rw [o];rfl),fun o'=>(old_at _ o' _ _ (by omega)).trans (by rw [o];rfl),fun o'=>(old_at _ o' _ _ (by omega)).trans (by rw [o];rfl)⟩,⟨by omega,by omega⟩,Lib.hid ⟨hW1.2.trans (hb.mono hW1.2.size),hba.trans (hb.mono hba.size),hrd⟩⟩
    · rw [hl] at h;injection h with _ h;cases h)
   clear C29 C35
   have HLL:=Lib.hid hl
   clear hl
   go_enter Tryz.func9,Tryz.ntmps9
   go_wp2_with (first
    | (go_at_call 29;(with_reducible refine (D29.out _ H1.out).mono ?_);rintro e W2 ⟨b,rfl,H2',K2⟩;have H2:=Lib.hid H2';clear H2';have q0:=fun o=>(bnb_alloc H2.out o).1;have q1:=fun o=>(bnb_alloc H2.out o).2.1;have q2:=fun o=>(bnb_alloc H2.out o).2.2.1;have q3:=fun o=>(bnb_alloc H2.out o).2.2.2.1;have q4:=fun o=>(bnb_alloc H2.out o).2.2.2.2.1;have q5:=fun o=>(bnb_alloc H2.out o).2.2.2.2.2.1;have q6:=fun o=>(bnb_alloc H2.out o).2.2.2.2.2.2)
    | (go_at_call 35;(with_reducible refine (D35.out _ H2.out).mono ?_);rintro e W3 ⟨b',rfl,⟨u0,u1,u2⟩,⟨g3,g4⟩,H3⟩))
   refine bodyPost_ret (v:=.tuple #[.pointer (some ⟨b,0,none⟩),.pointer (some ⟨b',0,none⟩),.bool true]) (by simp [results,Tryz.results9,go_sem]) rfl ?_
   obtain⟨r1,r2,r3⟩:=H3.out
   have r4:Below W3.heap.size W3 (W3.alloc (.cells #[.int .i64 0,.int .i64 0,.int .i64 0] 59)):=(Below.refl _ _).alloc (Nat.le_refl _) _
   obtain⟨z1,z2,z3,k1,k2,k3⟩:=K2.out
   subst z1 z2 z3
   have r5:Below W2.heap.size W2 (W3.alloc (.cells #[.int .i64 0,.int .i64 0,.int .i64 0] 59)):=r2.trans (r4.mono r2.size)
   exact⟨r1.trans (r4.mono r1.size),.inl ⟨d,b,b',HLL.out,rfl,Lib.hid ⟨⟨k1.below r5,k2.below r5,k3⟩,r3.below r4⟩⟩⟩
end Go.Proofs.YtmellioacefjjaaGreatDoor
namespace Go.Proofs.YtmellioacefjjaaGreatDoor
open Go.RowKit
attribute [local go_sem] Oper.semAt_some
set_option maxRecDepth 100000 in
set_option maxHeartbeats 2000000 in
theorem small8 (b0 b1 b2 b3 b4 b5 b6:Option Addr) (n0 n1 n2 n3 n4 n5 n6 m0 m1 m2 m3 m4 m5 m6:Nat) (w:World) (h0:n0≤1000000000000000) (h1:n1≤1000000000000000) (h2:n2≤1000000000000000) (h3:n3≤1000000000000000) (h4:n4≤1000000000000000) (h5:n5≤1000000000000000) (h6:n6≤1000000000000000):
 Calls Tryz.prog 8 #[.agg #[.slice b0 n0 m0,.slice b1 n1 m1,.slice b2 n2 m2,.slice b3 n3 m3,.slice b4 n4 m4,.slice b5 n5 m5,.slice b6 n6 m6]] w fun e w'=>e=.returned (.bool (decide (n0+n1+n2+n3+n4+n5+n6≤3000)))∧Below w.heap.size w w':=by
 have hb:∀ o,Below w.heap.size w (w.alloc o):=fun o=>(Below.refl _ _).alloc (Nat.le_refl _) o
 have HB:=Lib.hid hb
 clear hb
 go_enter Tryz.func8,Tryz.ntmps8
 go_wp2
 go_ret
 refine⟨?_,HB.out _⟩
 show Ending.returned (.bool (decide ((n0:Int)+n1+n2+n3+n4+n5+n6≤3000)))=_
 rw [show decide ((n0:Int)+n1+n2+n3+n4+n5+n6≤3000)=decide (n0+n1+n2+n3+n4+n5+n6≤3000) from decide_eq_decide.2 (by omega)]
def awF:Nat→List UInt8
 | 0=>[48,48,67,53,59,65,32,82,73,78,71,59,76,117,59,48,59,76,59,48,48,52,49,32,48,51,48,65,59,59,59,59,78,59,59,59,59,48,48,69,53,59,10,48,51,48,65,59,82,73,78,71,59,77,110,59,50,51,48,59,78,83,77,59,59,59,59,59,78,59,59,59,59,59,10]
 | _=>[]
def awD:Dt:=⟨(uF awF).rows,spF awF,(cfF awF).rows,[(197,65,778)]⟩
set_option maxRecDepth 100000 in
theorem aw_load:loadOf awF=(⟨0,0,0⟩,some awD):=by kernel_rfl
set_option maxRecDepth 100000 in
theorem aw_make:findM awD.ms 65 778=some 197:=by kernel_rfl
theorem aw_small (i:Nat):(awF i).length≤4000:=by
 unfold awF
 split <;> simp
def awA:Array Value:=(nums .u8 (ints (awF 0))).toArray
set_option maxRecDepth 100000 in
theorem awA_is:awA=#[.int .u8 48,.int .u8 48,.int .u8 67,.int .u8 53,.int .u8 59,.int .u8 65,.int .u8 32,.int .u8 82,.int .u8 73,.int .u8 78,.int .u8 71,.int .u8 59,.int .u8 76,.int .u8 117,.int .u8 59,.int .u8 48,.int .u8 59,.int .u8 76,.int .u8 59,.int .u8 48,.int .u8 48,.int .u8 52,.int .u8 49,.int .u8 32,.int .u8 48,.int .u8 51,.int .u8 48,.int .u8 65,.int .u8 59,.int .u8 59,.int .u8 59,.int .u8 59,.int .u8 78,.int .u8 59,.int .u8 59,.int .u8 59,.int .u8 59,.int .u8 48,.int .u8 48,.int .u8 69,.int .u8 53,.int .u8 59,.int .u8 10,.int .u8 48,.int .u8 51,.int .u8 48,.int .u8 65,.int .u8 59,.int .u8 82,.int .u8 73,.int .u8 78,.int .u8 71,.int .u8 59,.int .u8 77,.int .u8 110,.int .u8 59,.int .u8 50,.int .u8 51,.int .u8 48,.int .u8 59,.int .u8 78,.int .u8 83,.int .u8 77,.int .u8 59,.int .u8 59,.int .u8 59,.int .u8 59,.int .u8 59,.int .u8 78,.int .u8 59,.int .u8 59,.int .u8 59,.int .u8 59,.int .u8 59,.int .u8 10]:=by kernel_rfl
theorem mark_cell (w:World) (C:Array Value) (t:TypeId) (fr:Nat×Nat) (a:Addr):(w.alloc (.cells C t fr)).cell? a=(w.alloc (.cells C t)).cell? a:=by
 simp only [World.cell?,World.alloc,Array.getElem?_push]
 by_cases h:a.block=w.heap.size
 · simp only [h,if_true]
 · simp only [h,if_false]
theorem aw_octs (w:World):Octs (w.alloc (.cells awA 5 (75,76))) (some ⟨w.heap.size,0,none⟩) 75 (awF 0):=by
 have h:Octs (w.alloc (.cells awA 5)) (some ⟨w.heap.size,0,none⟩) 75 (awF 0):=vals_lit w (nums .u8 (ints (awF 0))) 5
 refine⟨h.1,fun hn=>?_⟩
 obtain⟨b,off,e,hl,hc⟩:=h.2 hn
 exact⟨b,off,e,by simpa using hl,fun j v hj=>(mark_cell w awA 5 (75,76) _).trans (hc j v hj)⟩
set_option maxRecDepth 100000 in
theorem awA_size:awA.size=75:=by kernel_rfl
theorem aw_conv (w:World):(convert 22 22 (.slice (some ⟨w.heap.size,0,none⟩) 75 75)).run Tryz.prog (w.alloc (.cells awA 5))=.ok (.slice (some ⟨w.heap.size,0,none⟩) 75 75) (w.alloc (.cells awA 5 (75,76))):=by
 have h:=Lib.run_convert_bytes_const (P:=Tryz.prog) w 22 5 awA 75 75 Tryz.underlying22 Tryz.underlying5
 rw [awA_size] at h
 exact h
set_option maxRecDepth 100000 in
theorem aw_stat:bs (statOf (awD.sp 2) 65)=⟨#[85,78,65,83,83,73,71,78,69,68]⟩:=by kernel_rfl
set_option maxRecDepth 100000 in
set_option maxHeartbeats 8000000 in
theorem awake7 (w:World) (hM:ML w) (hH:HanT w):Calls Tryz.prog 7 #[] w fun e w'=>e=.returned (.bool true)∧Below w.heap.size w w':=by
 have hb1:Below w.heap.size w (w.alloc (.cells awA 5 (75,76))):=(Below.refl _ _).alloc (Nat.le_refl _) _
 have c29:=load29 (some ⟨w.heap.size,0,none⟩) none none none none none none 75 0 0 0 0 0 0 75 0 0 0 0 0 0 awF (w.alloc (.cells awA 5 (75,76))) (aw_octs w) (Vals.nil _ _) (Vals.nil _ _) (Vals.nil _ _) (Vals.nil _ _) (Vals.nil _ _) (Vals.nil _ _) (by omega) aw_small (ml_on hM hb1) (hH.below hH.lt hb1)
 have d29:Calls Tryz.prog 29 #[.agg #[.slice (some ⟨w.heap.size,0,none⟩) 75 75,.slice none 0 0,.slice none 0 0,.slice none 0 0,.slice none 0 0,.slice none 0 0,.slice none 0 0]] (w.alloc (.cells awA 5 (75,76))) fun e W=>∃ b,e=.returned (.tuple #[.pointer (some ⟨b,0,none⟩),.agg #[.int .i64 0,.int .i64 0,.int .i64 0]])∧Hid (Below w.heap.size w W∧PF W b awD.ps awD.sp awD.cf∧PM W b awD.ms∧Szs awD.ps awD.sp):=c29.mono (by
  rintro e W ⟨hb,⟨d,b,hl,rfl,h1,h2,h3⟩ | ⟨x,hl,-⟩⟩
  · rw [aw_load] at hl
    injection hl with _ hl
    injection hl with hl
    subst hl
    exact⟨b,rfl,Lib.hid ⟨hb1.trans (hb.mono hb1.size),h1,h2,h3⟩⟩
  · rw [aw_load] at hl
    injection hl with _ hl
    cases hl)
 have D13:Hid (∀ W2 b o,(Below w.heap.size w W2∧PF W2 b awD.ps awD.sp awD.cf∧PM W2 b awD.ms∧Szs awD.ps awD.sp)→Calls Tryz.prog 13 #[.pointer (some ⟨b,0,none⟩),.int .i64 65,.int .i64 778] (W2.alloc o) fun e W=>e=.returned (.tuple #[.int .i64 197,.bool true])∧W2.alloc o=W):=Lib.hid (fun W2 b o ⟨g1,g2,g3,g4⟩=>
  (mak13 b awD.ms 65 778 (W2.alloc o) (g3.below ((Below.refl _ _).alloc (Nat.le_refl _) o)) (by decide) (by decide)).mono (by
   rintro e W ⟨rfl,rfl⟩
   exact⟨by rw [aw_make];rfl,rfl⟩))
 have D20:Hid (∀ W2 b o,(Below w.heap.size w W2∧PF W2 b awD.ps awD.sp awD.cf∧PM W2 b awD.ms∧Szs awD.ps awD.sp)→Calls Tryz.prog 20 #[.pointer (some ⟨b,0,none⟩),.int .i64 65] (W2.alloc o) fun e W=>e=.returned (.string ⟨#[85,78,65,83,83,73,71,78,69,68]⟩)∧Hid (Below w.heap.size w W)):=Lib.hid (fun W2 b o ⟨g1,g2,g3,g4⟩=>by
  have ha:Below W2.heap.size W2 (W2.alloc o):=(Below.refl _ _).alloc (Nat.le_refl _) o
  obtain⟨p,A,c,k1,k2⟩:=(g2.below ha).prs 2 (by omega)
  have hg:=g4.spg 2
  refine (sta20_at b p A c (awD.sp 2) 65 (W2.alloc o) k1 k2 (by have:=g4.spf 2;omega) hg.1 (fun t ht=>(hg.2 t ht).2.2.1)).mono ?_
  rintro e W ⟨rfl,hb⟩
  exact⟨by rw [aw_stat],Lib.hid (g1.trans ((ha.trans (hb.mono ha.size)).mono g1.size))⟩)
 have hcv:=aw_conv w
 rw [awA_is] at d29 hcv
 clear c29 hb1 hM hH
 go_enter Tryz.func7,Tryz.ntmps7
 go_wp2_with (first
  | (go_at_call 29;(with_reducible refine d29.mono ?_);rintro e W2 ⟨b,rfl,H2⟩)
  | (go_at_call 13;(with_reducible refine (D13.out W2 b _ H2.out).mono ?_);rintro e W3 ⟨rfl,rfl⟩)
  | (go_at_call 20;(with_reducible refine (D20.out W2 b _ H2.out).mono ?_);rintro e W4 ⟨rfl,H4⟩))
 go_ret
 exact⟨rfl,H4.out⟩
end Go.Proofs.YtmellioacefjjaaGreatDoor
namespace Go.Proofs.YtmellioacefjjaaGreatDoor
open Go.RowKit
def CmpRel (n:Nat) (w:World) (i:Value) (wr:World):Prop:=∃ k q:Nat,i=.int .i64 k∧k≤n∧wr=w.drewN q
set_option maxRecDepth 100000 in
set_option maxHeartbeats 1000000 in
theorem compare32 (A B:Option Addr) (n ca cb:Nat) (zs:List Int) (w:World) (hA:Vals w A n (nums .i64 zs)) (hB:Vals w B n (nums .i64 zs)) (hn:n≤1000000):
 Calls Tryz.prog 44 #[.slice A n ca,.slice B n cb] w fun e w'=>e=.returned (.int .i64 0)∧∃ q,w'=w.drewN q:=by
 have hl:zs.length=n:=by have:=hA.1;unfold nums at this;rwa [List.length_map] at this
 have HA:=Lib.hid hA
 have HB:=Lib.hid hB
 have HZ:=Lib.hid hl
 clear hA hB hl
 go_enter Tryz.func44,Tryz.ntmps44
 go_wp2
 go_loopw [5] (fun i wr=>CmpRel n w i wr) (fun i _=>n-(intOf i).toNat)
 case atStart=>exact⟨0,0,rfl,Nat.zero_le _,rfl⟩
 case round=>
  obtain⟨k,q,rfl,hkn,rfl⟩:=hrel
  by_cases hlt:k<n
  · obtain⟨b,off,rfl,-,hc⟩:=HA.out.2 (by omega)
    obtain⟨b2,off2,rfl,-,hc2⟩:=HB.out.2 (by omega)
    have h1:w.cell? ⟨b,off+k,none⟩=some (.int .i64 (zs.getD k 0)):=hc k _ (nums_get (by rw [HZ.out];exact hlt))
    have h2:w.cell? ⟨b2,off2+k,none⟩=some (.int .i64 (zs.getD k 0)):=hc2 k _ (nums_get (by rw [HZ.out];exact hlt))
    obtain⟨x,hx⟩:∃ x,zs.getD k 0=x:=⟨_,rfl⟩
    rw [hx] at h1 h2
    clear hc hc2 hx
    go_wp2
    go_quiet (fail)
    go_wp2
    go_quiet (fail)
    go_wp2
    go_roundw
    case rel=>exact⟨k+1,_,by go_num,by omega,rfl⟩
    case measure=>simp [intOf];omega
  · have hke:k=n:=by omega
    subst hke
    go_wp2
    go_ret
    exact⟨rfl,q,rfl⟩
set_option maxHeartbeats 1000000 in
theorem same17 (A B:Option Addr) (n ca cb:Nat) (zs:List Int) (w:World) (hA:Vals w A n (nums .i64 zs)) (hB:Vals w B n (nums .i64 zs)) (hn:n≤1000000):
 Calls Tryz.prog 24 #[.slice A n ca,.slice B n cb] w fun e w'=>e=.returned (.bool true)∧∃ q,w'=w.drewN q:=by
 have c:=compare32 A B n ca cb zs w hA hB hn
 clear hA hB
 go_enter Tryz.func24,Tryz.ntmps24
 go_wp2_with (go_at_call 44;(with_reducible refine c.mono ?_);rintro e w' ⟨rfl,q,rfl⟩)
 go_ret
 exact⟨rfl,q,rfl⟩
end Go.Proofs.YtmellioacefjjaaGreatDoor
