/- A part. -/
import Derived.Test.YtmellioacefjjaaGreatDoorQA26
namespace Go.Proofs.YtmellioacefjjaaGreatDoor
open Go.RowKit
attribute [local go_sem] Oper.semAt_some
set_option maxRecDepth 100000 in
set_option maxHeartbeats 40000000 in
theorem ldDec (b0 b1 b2 b3 b4 b5 b6:Option Addr) (n0 n1 n2 n3 n4 n5 n6 m0 m1 m2 m3 m4 m5 m6:Nat) (f:Nat→List UInt8) (w:World) (h0:Octs w b0 n0 (f 0)) (h1:Octs w b1 n1 (f 1)) (h2:Octs w b2 n2 (f 2)) (h3:Octs w b3 n3 (f 3)) (h4:Octs w b4 n4 (f 4)) (h5:Octs w b5 n5 (f 5)) (h6:Octs w b6 n6 (f 6)) (hn:n0+n1+n2+n3+n4+n5+n6≤3100):(ldDea b0 b1 b2 b3 b4 b5 b6 n0 n1 n2 n3 n4 n5 n6 m0 m1 m2 m3 m4 m5 m6 f w h0 h1 h2 h3 h4 h5 h6 hn).B2:=by
 intro w0 hw0 bv H0 HSPF nu w1 R c ls w2 w3 F nr u10 u11 u12 u51 u52 u53 u54 u55 u56 u57 u58 u59 u60 u61 u62 u63 u64 u65 u66 u67 u68 u69 u70 u71 u72 u73 u74 u75 u76 u77 u78 u79 u80 g fb fn fm nu6 cf nc HNC w4 A ca qs z_b2_6 z_b2_7 w5 ps HR5 HNR HGD HLO g6 HG9 wr u2 u98 u99 u100 u101 u102 u103 u104 u105 u106 u107 u108 u109 u110 u111 u112 u113 u114 u115 u116 u117 u118 u119 u120 u121 u122 u123 u124 u125 u126 k hk hno hQ hnr hr5 hlt
 clear h0 h1 h2 h3 h4 h5 h6
 obtain⟨r,hr⟩:∃ r,ps[k]? = some r:=⟨_,List.getElem?_eq_getElem (by omega)⟩
 obtain⟨b,off,s,rfl,hI,t0,t1,t2,t3,t4,t5⟩:=row_cells hQ.rows hr
 obtain⟨i1,i2,i3,i4,i5,i6,i7⟩:=hI
 have c56:=touches56 s wr
 rw [i1,i2] at c56
 unfold Uc.rwV at c56
 rw [i1] at t0
 rw [i2] at t1
 rw [i4] at t3
 rw [i1,i2,i4] at c56
 obtain⟨T,hT⟩:∃ T,bs s.gc=T:=⟨_,rfl⟩
 obtain⟨U,hU⟩:∃ T,bs s.bd=T:=⟨_,rfl⟩
 rw [hT] at t2 c56
 rw [hU] at t4 c56
 obtain⟨dp,hdp⟩:∃ x,s.dp=x:=⟨_,rfl⟩
 obtain⟨dm,hdm⟩:∃ x,s.dm=x:=⟨_,rfl⟩
 obtain⟨dc,hdc⟩:∃ x,s.dc=x:=⟨_,rfl⟩
 rw [hdp,hdm,hdc] at t5 c56
 have hdl:dm=r.dec.length:=by rw [←hdm];exact i6
 have HQ:=Lib.hid hQ
 have HR:=Lib.hid hr
 have HN:=Lib.hid hno
 clear i1 i2 i3 i4 i5 i6 i7 hT hU hdp hdm hdc hQ hr hno
 have d56:Calls Tryz.prog 59 #[.agg #[.int .i64 r.a,.int .i64 r.b,.string T,.int .i64 r.ccc,.string U,.slice dp dm dc]] wr fun e W=>e=.returned (.bool (touB r.a r.b))∧Hid (LQ w W bv g6 (some ⟨b,off,none⟩) nr ls ps (spF f) cf)∧W.cell? ⟨w.heap.size+1,0,none⟩=some (.int .i64 0)∧W.cell? ⟨w.heap.size+1,1,none⟩=some (.int .i64 0)∧W.cell? ⟨w.heap.size+1,2,none⟩=some (.int .i64 0)∧∀ i,W.frozen? ⟨w.heap.size+1,i,none⟩=false:=c56.mono (by
  rintro e W ⟨rfl,hb⟩
  have Q:=HQ.out.below hb
  exact⟨rfl,Lib.hid Q,Q.st.rs⟩)
 clear c56
 by_cases hd:0<dm
 · have HD:Hid (0<r.dec.length):=Lib.hid (by omega)
   have hkp:k<ps.length:=by omega
   clear hdl hnr
   by_cases ht:touB r.a r.b=true
   · have BB:Hid (loadOf f=(⟨1,0,16⟩,none)):=Lib.hid (by have hT:touA ps=true:=sc_hit (P:=badK) HR.out ⟨.inl HD.out,ht⟩;rw [←HLO.out,load2,if_pos hT])
     rw [ht] at d56
     clear ht
     go_wp2_with (go_at_call 59;(with_reducible refine d56.mono ?_);rintro e w6 ⟨rfl,Q6,r0,r1,r2,fr⟩)
     refine bodyPost_ret (v:=.tuple #[.pointer none,.agg #[.int .i64 1,.int .i64 0,.int .i64 16]]) (by simp [results,Tryz.results35,go_sem,r0,r1,r2]) rfl ?_
     exact ld_bad Q6.out.st BB.out
   · have NB:Hid (¬badK r):=Lib.hid (fun h=>ht h.2)
     rw [show touB r.a r.b=false by simpa using ht] at d56
     clear ht
     go_wp2_with (go_at_call 59;(with_reducible refine d56.mono ?_);rintro e w6 ⟨rfl,Q6,r0,r1,r2,fr⟩)
     go_roundw
     case rel=>exact⟨k+1,⟨by go_num,by omega⟩,sc_more HR.out (fun h=>NB.out h) HN.out,Q6.out⟩
     case measure=>simp [intOf];omega
 · have hd0:dm=0:=by omega
   by_cases hcc:r.ccc=0
   · have NB:Hid (¬badK r):=Lib.hid (fun h=>by rcases h.1 with h1 | h1 <;> omega)
     have hkp:k<ps.length:=by omega
     rw [hcc] at t3
     clear hdl hnr hcc
     subst hd0
     clear d56 t0 t1 t2 t4
     go_wp2
     go_roundw
     case rel=>exact⟨k+1,⟨by go_num,by omega⟩,sc_more HR.out (fun h=>NB.out h) HN.out,HQ.out⟩
     case measure=>simp [intOf];omega
   · have hcb:(r.ccc==0)=false:=beq_false_of_ne hcc
     have HCC:=Lib.hid hcc
     have hkp:k<ps.length:=by omega
     clear hdl hnr
     subst hd0
     by_cases ht:touB r.a r.b=true
     · have BB:Hid (loadOf f=(⟨1,0,16⟩,none)):=Lib.hid (by have hT:touA ps=true:=sc_hit (P:=badK) HR.out ⟨.inr HCC.out,ht⟩;rw [←HLO.out,load2,if_pos hT])
       rw [ht] at d56
       clear ht
       go_wp2_with (go_at_call 59;(with_reducible refine d56.mono ?_);rintro e w6 ⟨rfl,Q6,r0,r1,r2,fr⟩)
       refine bodyPost_ret (v:=.tuple #[.pointer none,.agg #[.int .i64 1,.int .i64 0,.int .i64 16]]) (by simp [results,Tryz.results35,go_sem,r0,r1,r2]) rfl ?_
       exact ld_bad Q6.out.st BB.out
     · have NB:Hid (¬badK r):=Lib.hid (fun h=>ht h.2)
       rw [show touB r.a r.b=false by simpa using ht] at d56
       clear ht
       go_wp2_with (go_at_call 59;(with_reducible refine d56.mono ?_);rintro e w6 ⟨rfl,Q6,r0,r1,r2,fr⟩)
       go_roundw
       case rel=>exact⟨k+1,⟨by go_num,by omega⟩,sc_more HR.out (fun h=>NB.out h) HN.out,Q6.out⟩
       case measure=>simp [intOf];omega
set_option maxRecDepth 100000 in
set_option maxHeartbeats 40000000 in
theorem ldDed (b0 b1 b2 b3 b4 b5 b6:Option Addr) (n0 n1 n2 n3 n4 n5 n6 m0 m1 m2 m3 m4 m5 m6:Nat) (f:Nat→List UInt8) (w:World) (h0:Octs w b0 n0 (f 0)) (h1:Octs w b1 n1 (f 1)) (h2:Octs w b2 n2 (f 2)) (h3:Octs w b3 n3 (f 3)) (h4:Octs w b4 n4 (f 4)) (h5:Octs w b5 n5 (f 5)) (h6:Octs w b6 n6 (f 6)) (hn:n0+n1+n2+n3+n4+n5+n6≤3100):(ldDea b0 b1 b2 b3 b4 b5 b6 n0 n1 n2 n3 n4 n5 n6 m0 m1 m2 m3 m4 m5 m6 f w h0 h1 h2 h3 h4 h5 h6 hn).B3:=by
 intro w0 hw0 bv H0 HSPF nu w1 R c ls w2 w3 F u10 u11 u12 u51 u52 u53 u54 u55 u56 u57 u58 u59 u60 u61 u62 u63 u64 u65 u66 u67 u68 u69 u70 u71 u72 u73 u74 u75 u76 u77 u78 u79 u80 g fb fn fm nu6 cf nc HNC w4 A ca qs w5 ps HR5 HGD g6 HG9 u98 u99 u100 u101 u102 u103 u104 u105 u106 u107 u108 u109 u110 u111 u112 u113 u114 u115 u116 u117 u118 u119 u120 u121 u122 u123 u124 u125 u126 k hk hr5 HL3 HNR hlt z_b3_12 z_b3_13 wr u2 u127 u128 u129 u130 u131 u132 u133 u134 u135 u136 u137 u138 u139 u140 u141 u142 u143 u144 u145 u146 j hj hno hQ hnr hlt3
 clear h0 h1 h2 h3 h4 h5 h6
 obtain⟨r,hr⟩:∃ r,ps[j]? = some r:=⟨_,List.getElem?_eq_getElem (by omega)⟩
 obtain⟨b,off,s,rfl,hI,t0,t1,t2,t3,t4,t5⟩:=row_cells hQ.rows hr
 obtain⟨i1,i2,i3,i4,i5,i6,i7⟩:=hI
 rw [i1] at t0
 have hQd:LQ w wr.drew bv g6 (some ⟨b,off,none⟩) k ls ps (spF f) cf:=hQ.below (below_drew (Below.refl _ _))
 have hfit:=HGD.out.1.2 r (List.mem_of_getElem? hr)
 have c58:=reach58 (some ⟨b,off,none⟩) k c ls ps s.dp s.dm s.dc (dcf ps r.a) wr.drew (by omega) (dcf_two HGD.out.1) hQd.rows (by rw [dcf_row HGD.out.1 hr];exact i7) (by rw [i6];exact hfit.2.2.2)
 have hfew:=rch_few HGD.out.1 r.a
 obtain⟨all,hall⟩:∃ x,rch (dcf ps) 5000 0 (dcf ps r.a)=x:=⟨_,rfl⟩
 have HAL:Hid (cycP ps r↔r.a∈all):=Lib.hid (by unfold cycP;rw [hall])
 rw [hall] at c58 hfew
 have t0d:wr.drew.cell? ⟨b,off+j*6,none⟩=some (.int .i64 r.a):=t0
 have hbl:b<wr.heap.size:=World.block_lt_of_cell? wr _ t0
 have d58:Calls Tryz.prog 61 #[.slice (some ⟨b,off,none⟩) k c,.slice s.dp s.dm s.dc,.int .i64 5000] wr.drew fun e W=>∃ A2 c2,e=.returned (.slice A2 all.length c2)∧Hid (LQ w W bv g6 (some ⟨b,off,none⟩) k ls ps (spF f) cf∧Vals W A2 all.length (nums .i64 all))∧W.cell? ⟨b,off+j*6,none⟩=some (.int .i64 r.a)∧W.cell? ⟨w.heap.size+1,0,none⟩=some (.int .i64 0)∧W.cell? ⟨w.heap.size+1,1,none⟩=some (.int .i64 0)∧W.cell? ⟨w.heap.size+1,2,none⟩=some (.int .i64 0)∧∀ i,W.frozen? ⟨w.heap.size+1,i,none⟩=false:=c58.mono (by
  rintro e W ⟨A2,c2,rfl,hv⟩
  have Q:=hQd.below hv.out.1
  exact⟨A2,c2,rfl,Lib.hid ⟨Q,hv.out.2⟩,(hv.out.1.cell (p:=⟨b,off+j*6,none⟩) hbl).trans t0d,Q.st.rs⟩)
 obtain⟨na,hna⟩:∃ x,all.length=x:=⟨_,rfl⟩
 rw [hna] at d58 hfew
 have d57:∀ (W:World) (A2:Option Addr) (c2:Nat),Hid (LQ w W bv g6 (some ⟨b,off,none⟩) k ls ps (spF f) cf∧Vals W A2 na (nums .i64 all))→Calls Tryz.prog 60 #[.slice A2 na c2,.int .i64 r.a] W fun e W'=>e=.returned (.bool (decide (r.a∈all)))∧W=W':=fun W A2 c2 h=>has57 A2 na c2 all r.a W h.out.2 (by omega)
 have C57:=Lib.hid d57
 obtain⟨dp,hdp⟩:∃ x,s.dp=x:=⟨_,rfl⟩
 obtain⟨dm,hdm⟩:∃ x,s.dm=x:=⟨_,rfl⟩
 obtain⟨dc,hdc⟩:∃ x,s.dc=x:=⟨_,rfl⟩
 rw [hdp,hdm,hdc] at t5 d58
 have HR:=Lib.hid hr
 have HN:=Lib.hid hno
 have hjp:j<ps.length:=by omega
 clear i1 i2 i3 i4 i5 i6 i7 hdp hdm hdc hQ hQd hr hno t1 t2 t3 t4 d57 c58 hall hna hnr hfit hfew
 go_upto_region 26 with fail
 go_cut [145] from 127 to 146 (fun v W=>v=.bool (decide (r.a∈all))∧LQ w W bv g6 (some ⟨b,off,none⟩) k ls ps (spF f) cf)
 case first=>
  go_region_with (first
   | (go_at_call 61;(with_reducible refine d58.mono ?_);rintro e w7 ⟨A2,c2,rfl,hv,t7,-⟩)
   | (go_at_call 60;(with_reducible refine (C57.out _ _ _ hv).mono ?_);rintro e w8 ⟨rfl,rfl⟩))
  all_goals go_wp2_with fail
  all_goals go_meet
  all_goals exact⟨rfl,hv.out.1⟩
 case rest=>
  clear d58 C57
  obtain⟨rfl,hQ8⟩:=hcut
  obtain⟨r0,r1,r2,fr⟩:=hQ8.st.rs
  by_cases hm:r.a∈all
  · have BB:Hid (loadOf f=(⟨1,0,17⟩,none)):=Lib.hid (by have hT:cycB ps=true:=sc_hit (P:=cycP ps) HR.out (HAL.out.2 hm);rw [←HL3.out,load3,if_pos hT])
    rw [decide_eq_true hm]
    have HQ8:=Lib.hid hQ8
    clear hm hQ8
    go_wp2
    refine bodyPost_ret (v:=.tuple #[.pointer none,.agg #[.int .i64 1,.int .i64 0,.int .i64 17]]) (by simp [results,Tryz.results35,go_sem,r0,r1,r2]) rfl ?_
    exact ld_bad HQ8.out.st BB.out
  · have NB:Hid (¬cycP ps r):=Lib.hid (fun h=>hm (HAL.out.1 h))
    rw [decide_eq_false hm]
    have HQ8:=Lib.hid hQ8
    clear hm hQ8
    go_wp2
    go_roundw
    case rel=>exact⟨j+1,⟨by go_num,by omega⟩,sc_more HR.out NB.out HN.out,HQ8.out⟩
    case measure=>simp [intOf];omega
set_option maxRecDepth 100000 in
set_option maxHeartbeats 40000000 in
theorem ldDee (b0 b1 b2 b3 b4 b5 b6:Option Addr) (n0 n1 n2 n3 n4 n5 n6 m0 m1 m2 m3 m4 m5 m6:Nat) (f:Nat→List UInt8) (w:World) (h0:Octs w b0 n0 (f 0)) (h1:Octs w b1 n1 (f 1)) (h2:Octs w b2 n2 (f 2)) (h3:Octs w b3 n3 (f 3)) (h4:Octs w b4 n4 (f 4)) (h5:Octs w b5 n5 (f 5)) (h6:Octs w b6 n6 (f 6)) (hn:n0+n1+n2+n3+n4+n5+n6≤3100):(ldDea b0 b1 b2 b3 b4 b5 b6 n0 n1 n2 n3 n4 n5 n6 m0 m1 m2 m3 m4 m5 m6 f w h0 h1 h2 h3 h4 h5 h6 hn).B4:=by
 intro w0 hw0 bv H0 HSPF nu w1 R c ls w2 w3 F u10 u11 u12 u51 u52 u53 u54 u55 u56 u57 u58 u59 u60 u61 u62 u63 u64 u65 u66 u67 u68 u69 u70 u71 u72 u73 u74 u75 u76 u77 u78 u79 u80 g fb fn fm nu6 cf nc HNC w4 A ca qs w5 ps HR5 HGD g6 HG9 u98 u99 u100 u101 u102 u103 u104 u105 u106 u107 u108 u109 u110 u111 u112 u113 u114 u115 u116 u117 u118 u119 u120 u121 u122 u123 u124 u125 u126 hr5 u127 u128 u129 u130 u131 u132 u133 u134 u135 u136 u137 u138 u139 u140 u141 u142 u143 u144 u145 u146 j hj HL4 HEN hk HNR hlt hlt3 z_b4_18 z_b4_19 wr u2 u147 u148 u149 u150 u151 u152 u153 u154 u155 u156 u157 u158 u159 u160 u161 q hq hno hQ hnr hlt4
 clear h0 h1 h2 h3 h4 h5 h6
 obtain⟨r,hr⟩:∃ r,ps[q]? = some r:=⟨_,List.getElem?_eq_getElem (by omega)⟩
 obtain⟨b,off,s,rfl,hI,t0,t1,t2,t3,t4,t5⟩:=row_cells hQ.rows hr
 rw [hI.1] at t0
 have c59:=parts59 (some ⟨b,off,none⟩) j c ls ps (by omega) (dcf_two HGD.out.1) ps.length r.a wr (by omega) hQ.rows (HEN.out r.a)
 have hpl:=prt_le (dec:=dcf ps) ps.length r.a
 obtain⟨pn,hpn⟩:∃ x,prt (dcf ps) ps.length r.a=x:=⟨_,rfl⟩
 have HPN:Hid (longP ps r↔4<pn):=Lib.hid (by unfold longP;rw [hpn])
 rw [hpn] at c59 hpl
 have hpl2:pn≤10000:=by omega
 have d59:Calls Tryz.prog 62 #[.slice (some ⟨b,off,none⟩) j c,.int .i64 r.a,.int .i64 4] wr fun e W=>e=.returned (.int .i64 (pn:Nat))∧Hid (LQ w W bv g6 (some ⟨b,off,none⟩) j ls ps (spF f) cf)∧W.cell? ⟨w.heap.size+1,0,none⟩=some (.int .i64 0)∧W.cell? ⟨w.heap.size+1,1,none⟩=some (.int .i64 0)∧W.cell? ⟨w.heap.size+1,2,none⟩=some (.int .i64 0)∧∀ i,W.frozen? ⟨w.heap.size+1,i,none⟩=false:=c59.mono (by
  rintro e W ⟨rfl,hb⟩
  have Q:=hQ.below hb
  exact⟨rfl,Lib.hid Q,Q.st.rs⟩)
 have HR:=Lib.hid hr
 have HN:=Lib.hid hno
 have hqp:q<ps.length:=by omega
 clear hI hQ hr hno t1 t2 t3 t4 t5 c59 hpn hnr hpl
 by_cases hm:4<pn
 · have BB:Hid (loadOf f=(⟨1,0,36⟩,none)):=Lib.hid (by have hT:longB ps=true:=sc_hit (P:=longP ps) HR.out (HPN.out.2 hm);rw [←HL4.out,load4,if_pos hT])
   go_wp2_with (go_at_call 62;(with_reducible refine d59.mono ?_);rintro e w9 ⟨rfl,Q9,r0,r1,r2,fr⟩)
   refine bodyPost_ret (v:=.tuple #[.pointer none,.agg #[.int .i64 1,.int .i64 0,.int .i64 36]]) (by simp [results,Tryz.results35,go_sem,r0,r1,r2]) rfl ?_
   exact ld_bad Q9.out.st BB.out
 · have NB:Hid (¬longP ps r):=Lib.hid (fun h=>hm (HPN.out.1 h))
   go_wp2_with (go_at_call 62;(with_reducible refine d59.mono ?_);rintro e w9 ⟨rfl,Q9,r0,r1,r2,fr⟩)
   go_roundw
   case rel=>exact⟨q+1,⟨by go_num,by omega⟩,sc_more HR.out NB.out HN.out,Q9.out⟩
   case measure=>simp [intOf];omega
structure CutDef (X:Prop) where
 B6:Prop
 go:Hole B6→X
set_option maxRecDepth 100000 in
set_option maxHeartbeats 40000000 in
noncomputable def ldDef (b0 b1 b2 b3 b4 b5 b6:Option Addr) (n0 n1 n2 n3 n4 n5 n6 m0 m1 m2 m3 m4 m5 m6:Nat) (f:Nat→List UInt8) (w:World) (h0:Octs w b0 n0 (f 0)) (h1:Octs w b1 n1 (f 1)) (h2:Octs w b2 n2 (f 2)) (h3:Octs w b3 n3 (f 3)) (h4:Octs w b4 n4 (f 4)) (h5:Octs w b5 n5 (f 5)) (h6:Octs w b6 n6 (f 6)) (hn:n0+n1+n2+n3+n4+n5+n6≤3100):CutDef ((ldDea b0 b1 b2 b3 b4 b5 b6 n0 n1 n2 n3 n4 n5 n6 m0 m1 m2 m3 m4 m5 m6 f w h0 h1 h2 h3 h4 h5 h6 hn).B5):=by
 apply CutDef.mk
 case go=>
  intro holeb6
  intro w0 hw0 bv H0 HSPF nu w1 R c ls w2 w3 F u10 u11 u12 u51 u52 u53 u54 u55 u56 u57 u58 u59 u60 u61 u62 u63 u64 u65 u66 u67 u68 u69 u70 u71 u72 u73 u74 u75 u76 u77 u78 u79 u80 fb fn fm nu6 cf nc HNC w4 A ca qs w5 ps HR5 HGD g6 HG9 u98 u99 u100 u101 u102 u103 u104 u105 u106 u107 u108 u109 u110 u111 u112 u113 u114 u115 u116 u117 u118 u119 u120 u121 u122 u123 u124 u125 u126 hr5 u127 u128 u129 u130 u131 u132 u133 u134 u135 u136 u137 u138 u139 u140 u141 u142 u143 u144 u145 u146 u147 u148 u149 u150 u151 u152 u153 u154 u155 u156 u157 u158 u159 u160 u161 q hq HL5 hj HNR hlt hlt3 hlt4 W5 HQ5 z_b5_25 z_b5_26 wr u2 u18 u19 u20 u162 u163 u164 u165 u166 u167 u168 u169 u170 u171 u172 u173 u174 u175 u176 u177 u178 u179 u180 u181 u182 u183 u184 u185 u186 u187 u188 u189 u190 u191 u192 u193 u194 u195 u196 u197 u198 u199 u200 u201 u202 u203 u204 u205 u206 u207 u208 u209 u210 u211 u212 u213 u214 u215 u216 u217 u218 u219 u220 u221 u222 u223 u224 u225 u226 u227 u228 u229 u230 u231 u232 u233 u234 u235 u236 u237 u238 u239 u240 u241 u242 u243 u244 u245 u246 u247 u248 u249 k out g L hk hmk hL hM hnr hlt5
  obtain⟨r,hr⟩:∃ r,ps[k]? = some r:=⟨_,List.getElem?_eq_getElem (by omega)⟩
  obtain⟨hrows,hrd⟩:=lm_rd HQ5.out hM hL.1 hL.2.1 hL.2.2
  obtain⟨b,off,s,rfl,hI,⟨t0,t1,t2,t3,t4,t5⟩,hbl⟩:=row_cells2 hrows HQ5.out.rows hr
  obtain⟨i1,i2,i3,i4,i5,i6,i7⟩:=hI
  rw [i1] at t0
  rw [i2] at t1
  rw [i4] at t3
  obtain⟨T,hT⟩:∃ T,bs s.gc=T:=⟨_,rfl⟩
  obtain⟨U,hU⟩:∃ T,bs s.bd=T:=⟨_,rfl⟩
  rw [hT] at t2
  rw [hU] at t4
  obtain⟨dp,hdp⟩:∃ x,s.dp=x:=⟨_,rfl⟩
  obtain⟨dm,hdm⟩:∃ x,s.dm=x:=⟨_,rfl⟩
  obtain⟨dc,hdc⟩:∃ x,s.dc=x:=⟨_,rfl⟩
  rw [hdp,hdm,hdc] at t5
  rw [hdp,hdm] at i7 hbl
  have HBL:=Lib.hid hbl
  have hdl:dm=r.dec.length:=by rw [←hdm];exact i6
  have HR:=Lib.hid hr
  have HMK:=Lib.hid hmk
  have HL:=Lib.hid hL
  have HM:=Lib.hid hM
  have HRD:=Lib.hid (And.intro hrows hrd)
  have HI7:=Lib.hid i7
  have HDL:=Lib.hid hdl
  have hkp:k<ps.length:=by omega
  clear i1 i2 i3 i4 i5 i6 i7 hT hU hdp hdm hdc hmk hL hM hrows hrd hr hdl hnr hbl
  go_upto_region 37 with fail
  obtain⟨W1,hW1⟩:∃ W1,wr.alloc (.cells #[.int .i64 r.a,.int .i64 r.b,.string T,.int .i64 r.ccc,.string U,.slice dp dm dc] 33)=W1:=⟨_,rfl⟩
  have hb1:Below wr.heap.size wr W1:=by rw [←hW1];exact (Below.refl _ _).alloc (Nat.le_refl _) _
  obtain⟨K,hK⟩:∃ K,wr.heap.size=K:=⟨_,rfl⟩
  have k0:W1.cell? ⟨K,0,none⟩=some (.int .i64 r.a):=by rw [←hW1,new_at _ _ _ _ _ hK.symm];rfl
  have k3:W1.cell? ⟨K,3,none⟩=some (.int .i64 r.ccc):=by rw [←hW1,new_at _ _ _ _ _ hK.symm];rfl
  have k5:W1.cell? ⟨K,5,none⟩=some (.slice dp dm dc):=by rw [←hW1,new_at _ _ _ _ _ hK.symm];rfl
  have hKl:K<W1.heap.size:=World.block_lt_of_cell? W1 _ k0
  rw [hW1,hK]
  have HM1:=Lib.hid (HM.out.below hb1)
  have HK5:=Lib.hid (show W5.heap.size≤K by have:=HM.out.kp.1;omega)
  have HGK:Hid (∀ i k,7≤i→i<10→(g i).ownBlock=some k→k<K):=Lib.hid (fun i k h1 h2 e=>by have:=((HM.out.own i h1 h2).lt k e).2;omega)
  have HRD1:=Lib.hid (And.intro (HRD.out.1.below hb1) (HRD.out.2.below hb1))
  have HI71:=Lib.hid (HI7.out.below hb1)
  have HIDL:Hid (idle (spF f 0) ps r→∀ W',Below W1.heap.size W1 W'→MrI w W5 bv g6 ps (spF f) (.int .i64 ((k:Int)+1)) W'):=Lib.hid (fun hi W' hb=>mr_idle HR.out hi HMK.out HL.out (HM1.out.below hb))
  have hfit:=(HGD.out.1.2 r (List.mem_of_getElem? HR.out)).2.2.2
  have hdl:=HDL.out
  clear hW1 hK hb1 t0 t1 t2 t3 t4 t5 HM HRD HI7
  obtain rfl | rfl | rfl:dm=0∨dm=1∨dm=2:=by omega
  · have R:=Lib.hid (HIDL.out (.inl (by omega)) W1 (Below.refl _ _))
    clear hfit hdl HIDL HM1 HRD1 HI71 HDL
    go_wp2
    go_roundw
    case rel=>exact R.out
    case measure=>simp [intOf];omega
  · have R:=Lib.hid (HIDL.out (.inl (by omega)) W1 (Below.refl _ _))
    clear hfit hdl HIDL HM1 HRD1 HI71 HDL
    go_wp2
    go_roundw
    case rel=>exact R.out
    case measure=>simp [intOf];omega
  · obtain⟨b2,o2,hdp,hb2,hcc⟩:=HI71.out.2 (by omega)
    subst hdp
    have hr2:r.dec.length=2:=hdl.symm
    have HB5:Hid (b2<W5.heap.size):=Lib.hid (HBL.out (by omega) _ rfl)
    have u0:W1.cell? ⟨b2,o2,none⟩=some (.int .i64 (dec0 r)):=hcc 0 (.int .i64 (dec0 r)) (by
     unfold dec0 nums
     rw [List.getElem?_map,List.getElem?_map]
     match hh:r.dec,hr2 with
     | [x,y],_=>rfl)
    have u1:W1.cell? ⟨b2,o2+1,none⟩=some (.int .i64 (dec1 r)):=hcc 1 (.int .i64 (dec1 r)) (by
     unfold dec1 nums
     rw [List.getElem?_map,List.getElem?_map]
     match hh:r.dec,hr2 with
     | [x,y],_=>rfl)
    have HBH:Hid (¬b2=w.heap.size+1+1):=Lib.hid (fun e=>by rw [e] at u0;exact HM1.out.st.ten.no_int u0)
    by_cases hz:r.ccc=0
    · rw [hz] at k3
      obtain⟨d0,hd0⟩:∃ x,dec0 r=x:=⟨_,rfl⟩
      obtain⟨d1,hd1⟩:∃ x,dec1 r=x:=⟨_,rfl⟩
      have HD01:=Lib.hid (And.intro hd0 hd1)
      rw [hd0] at u0
      rw [hd1] at u1
      have HC:Hid (∀ W',Below W1.heap.size W1 W'→(W'.cell? ⟨K,0,none⟩=some (.int .i64 r.a)∧W'.cell? ⟨K,3,none⟩=some (.int .i64 0)∧W'.cell? ⟨K,5,none⟩=some (.slice (some ⟨b2,o2,none⟩) 2 dc))∧(W'.cell? ⟨b2,o2,none⟩=some (.int .i64 d0)∧W'.cell? ⟨b2,o2+1,none⟩=some (.int .i64 d1))∧(K<W'.heap.size∧b2<W'.heap.size)):=Lib.hid (fun W' hb=>by
       have cc:∀ {z i:Nat} {v:Value},W1.cell? ⟨z,i,none⟩=some v→W'.cell? ⟨z,i,none⟩=some v:=fun {z i v} hc=>(hb.cell (p:=⟨z,i,none⟩) (World.block_lt_of_cell? W1 _ hc)).trans hc
       exact⟨⟨cc k0,cc k3,cc k5⟩,⟨cc u0,cc u1⟩,Nat.lt_of_lt_of_le hKl hb.size,Nat.lt_of_lt_of_le hb2 hb.size⟩)
      have C18:Hid (Calls Tryz.prog 18 #[.pointer (some ⟨w.heap.size+1+1,0,none⟩),.int .i64 0,.int .i64 r.a] W1 fun e W'=>e=.returned (.string (bs (Pq.valueOf (spF f 0) r.a)))∧Hid (Below W1.heap.size W1 W')):=Lib.hid (by
       obtain⟨A0,ca0,p1,p2⟩:=HRD1.out.2.props 0 (by omega)
       refine (prop18_at (w.heap.size+2) 1 0 _ ca0 A0 (spF f 0) r.a W1 rfl (by omega) p1 p2 HSPF.out).mono ?_
       rintro e W' ⟨rfl,qq,rfl⟩
       exact⟨rfl,Lib.hid (below_drewN (Below.refl _ _) qq)⟩)
      have C36:Hid (∀ W2,Below W1.heap.size W1 W2→Calls Tryz.prog 36 #[.slice (some ⟨b,off,none⟩) q c,.int .i64 d0] W2 fun e W'=>∃ x0 x1 x2 x4 x5,e=.returned (.agg #[x0,x1,x2,.int .i64 (Uc.patOf ps d0).ccc,x4,x5])∧Hid (Below W1.heap.size W1 W')):=Lib.hid (fun W2 h2=>by
       have hrw:=HRD1.out.1.below h2
       refine (Uc.at13 (some ⟨b,off,none⟩) q c ls d0 W2 hrw.1 (by have:=HNR.out;have:=HR5.out;omega)).mono ?_
       rintro e W' ⟨rfl,hb⟩
       refine⟨.int .i64 (Uc.atOf ls d0).a,.int .i64 (Uc.atOf ls d0).b,.string (bs (Uc.atOf ls d0).gc),.string (bs (Uc.atOf ls d0).bd),.slice (Uc.atOf ls d0).dp (Uc.atOf ls d0).dm (Uc.atOf ls d0).dc,?_,Lib.hid (h2.trans (hb.mono h2.size))⟩
       rw [←(Uc.ist_at d0 hrw.2).2.2.2.1]
       rfl)
      have F3:=fun x0 x1 x2 x3 x4 x5 W=>field3g x0 x1 x2 x3 x4 x5 W
      by_cases hv:Pq.valueOf (spF f 0) r.a = []
      · rw [hv,bs_nil] at C18
        by_cases hcz:(Uc.patOf ps d0).ccc=0
        · rw [hcz] at C36
          have hni:¬idle (spF f 0) ps r:=by
           rintro (h | h | h | h)
           · exact h hr2
           · exact h hz
           · exact h hv
           · rw [hd0] at h;exact h hcz
          have HNI:=Lib.hid hni
          clear hfit hdl hr2 hb2 hcc hd0 hd1 hz hv hcz hni HIDL HDL HI71
          go_upto_region 38 with (first
           | (go_at_call 18;(with_reducible refine C18.out.mono ?_);rintro e W2 ⟨rfl,h2⟩;obtain⟨⟨k0',k3',k5'⟩,⟨u0',u1'⟩,-⟩:=HC.out W2 h2.out)
           | (go_at_call 36;(with_reducible refine (C36.out W2 h2.out).mono ?_);rintro e W3 ⟨x0,x1,x2,x4,x5,rfl,h3⟩;obtain⟨⟨k0'',k3'',k5''⟩,⟨u0'',u1''⟩,hKl3,hb23⟩:=HC.out W3 h3.out))
          rename_i z_b6_0 z_b6_1 z_b6_2 z_b6_3 z_b6_4
          subst z_b6_0
          revert w0 hw0 bv H0 HSPF nu w1 c ls w2 w3 F u10 u11 u12 u51 u52 u53 u54 u55 u56 u57 u58 u59 u60 u61 u62 u63 u64 u65 u66 u67 u68 u69 u70 u71 u72 u73 u74 u75 u76 u77 u78 u79 u80 fb fn fm nu6 cf nc HNC w4 A ca qs w5 ps HR5 HGD g6 HG9 u98 u99 u100 u101 u102 u103 u104 u105 u106 u107 u108 u109 u110 u111 u112 u113 u114 u115 u116 u117 u118 u119 u120 u121 u122 u123 u124 u125 u126 hr5 u127 u128 u129 u130 u131 u132 u133 u134 u135 u136 u137 u138 u139 u140 u141 u142 u143 u144 u145 u146 u147 u148 u149 u150 u151 u152 u153 u154 u155 u156 u157 u158 u159 u160 u161 q hq HL5 hj HNR hlt hlt3 hlt4 W5 z_b5_25 z_b5_26 wr u2 u18 u19 u20 u162 u163 u164 u165 u166 u167 u168 u169 u170 u171 u172 u173 u174 u175 u176 u177 u178 u179 u180 u181 u182 u183 u184 u185 u186 u187 u188 u189 u190 u191 u192 u193 u194 u195 u196 u197 u198 u199 u200 u201 u202 u203 u204 u205 u206 u207 u208 u209 u210 u211 u212 u213 u214 u215 u216 u217 u218 u219 u220 u221 u222 u223 u224 u225 u226 u227 u228 u229 u230 u231 u232 u233 u234 u235 u236 u237 u238 u239 u240 u241 u242 u243 u244 u245 u246 u247 u248 u249 k out g L hk hlt5 r b off s HQ5 T U dc HR HMK HL hkp z_b6_1 W1 K k0 k3 hKl HM1 HK5 HGK HRD1 b2 o2 HBL k5 HB5 HBH d0 u0 d1 u1 HD01 HC C18 C36 F3 HNI W2 h2 k0' k3' k5' u0' u1' W3 x0 x1 x2 x4 x5 h3 k0'' k3'' k5'' u0'' u1'' hKl3 hb23 z_b6_3 z_b6_2 z_b6_4
          exact Hole.get holeb6
        · have hz1:((Uc.patOf ps d0).ccc==0)=false:=beq_false_of_ne hcz
          have hz2:((Uc.patOf ps d0).ccc != 0)=true:=bne_iff_ne.2 hcz
          obtain⟨cz,hce⟩:∃ x,(Uc.patOf ps d0).ccc=x:=⟨_,rfl⟩
          have hidl:idle (spF f 0) ps r:=.inr (.inr (.inr (by rw [hd0];exact hcz)))
          rw [hce] at hz1 hz2 hcz C36
          have R:=Lib.hid (HIDL.out (hidl))
          clear hfit hdl hr2 hb2 hcc hd0 hd1 HIDL HDL HI71 HRD1 HM1
          go_wp2_with (first | (go_at_call 18;(with_reducible refine C18.out.mono ?_);rintro e W2 ⟨rfl,h2⟩;obtain⟨⟨k0',k3',k5'⟩,⟨u0',u1'⟩,-⟩:=HC.out W2 h2.out) | (go_at_call 36;(with_reducible refine (C36.out W2 h2.out).mono ?_);rintro e W3 ⟨x0,x1,x2,x4,x5,rfl,h3⟩))
          go_roundw
          case rel=>first | exact R.out _ h3.out | exact R.out _ h2.out
          case measure=>simp [intOf];omega
      · have hne:=bs_some hv
        have hidl:idle (spF f 0) ps r:=.inr (.inr (.inl hv))
        obtain⟨VV,hVV⟩:∃ V,bs (Pq.valueOf (spF f 0) r.a)=V:=⟨_,rfl⟩
        rw [hVV] at C18 hne
        have R:=Lib.hid (HIDL.out (hidl))
        clear hfit hdl hr2 hb2 hcc hd0 hd1 HIDL HDL HI71 HRD1 HM1
        go_wp2_with (first | (go_at_call 18;(with_reducible refine C18.out.mono ?_);rintro e W2 ⟨rfl,h2⟩;obtain⟨⟨k0',k3',k5'⟩,⟨u0',u1'⟩,-⟩:=HC.out W2 h2.out))
        go_roundw
        case rel=>first | exact R.out _ h3.out | exact R.out _ h2.out
        case measure=>simp [intOf];omega
    · have hz1:(r.ccc==0)=false:=beq_false_of_ne hz
      have hz2:(r.ccc != 0)=true:=bne_iff_ne.2 hz
      have R:=Lib.hid (HIDL.out (.inr (.inl hz)) W1 (Below.refl _ _))
      clear hfit hdl hr2 hb2 hcc HIDL HDL HI71 HRD1 HM1
      go_wp2
      go_roundw
      case rel=>exact R.out
      case measure=>simp [intOf];omega
structure CutDeg (X:Prop) where
 B7:Prop
 go:Hole B7→X
set_option maxRecDepth 100000 in
set_option maxHeartbeats 40000000 in
noncomputable def ldDeg (b0 b1 b2 b3 b4 b5 b6:Option Addr) (n0 n1 n2 n3 n4 n5 n6 m0 m1 m2 m3 m4 m5 m6:Nat) (f:Nat→List UInt8) (w:World) (h0:Octs w b0 n0 (f 0)) (h1:Octs w b1 n1 (f 1)) (h2:Octs w b2 n2 (f 2)) (h3:Octs w b3 n3 (f 3)) (h4:Octs w b4 n4 (f 4)) (h5:Octs w b5 n5 (f 5)) (h6:Octs w b6 n6 (f 6)) (hn:n0+n1+n2+n3+n4+n5+n6≤3100):CutDeg ((ldDef b0 b1 b2 b3 b4 b5 b6 n0 n1 n2 n3 n4 n5 n6 m0 m1 m2 m3 m4 m5 m6 f w h0 h1 h2 h3 h4 h5 h6 hn).B6):=by
 apply CutDeg.mk
 case go=>
  intro holeb7
  intro w0 hw0 bv H0 HSPF nu w1 c ls w2 w3 F u10 u11 u12 u51 u52 u53 u54 u55 u56 u57 u58 u59 u60 u61 u62 u63 u64 u65 u66 u67 u68 u69 u70 u71 u72 u73 u74 u75 u76 u77 u78 u79 u80 fb fn fm nu6 cf nc HNC w4 A ca qs w5 ps HR5 HGD g6 HG9 u98 u99 u100 u101 u102 u103 u104 u105 u106 u107 u108 u109 u110 u111 u112 u113 u114 u115 u116 u117 u118 u119 u120 u121 u122 u123 u124 u125 u126 hr5 u127 u128 u129 u130 u131 u132 u133 u134 u135 u136 u137 u138 u139 u140 u141 u142 u143 u144 u145 u146 u147 u148 u149 u150 u151 u152 u153 u154 u155 u156 u157 u158 u159 u160 u161 q hq HL5 hj HNR hlt hlt3 hlt4 W5 z_b5_25 z_b5_26 wr u2 u18 u19 u20 u162 u163 u164 u165 u166 u167 u168 u169 u170 u171 u172 u173 u174 u175 u176 u177 u178 u179 u180 u181 u182 u183 u184 u185 u186 u187 u188 u189 u190 u191 u192 u193 u194 u195 u196 u197 u198 u199 u200 u201 u202 u203 u204 u205 u206 u207 u208 u209 u210 u211 u212 u213 u214 u215 u216 u217 u218 u219 u220 u221 u222 u223 u224 u225 u226 u227 u228 u229 u230 u231 u232 u233 u234 u235 u236 u237 u238 u239 u240 u241 u242 u243 u244 u245 u246 u247 u248 u249 k out g L hk hlt5 r b off s HQ5 T U dc HR HMK HL hkp z_b6_1 W1 K k0 k3 hKl HM1 HK5 HGK HRD1 b2 o2 HBL k5 HB5 HBH d0 u0 d1 u1 HD01 HC C18 C36 F3 HNI W2 h2 k0' k3' k5' u0' u1' W3 x0 x1 x2 x4 x5 h3 k0'' k3'' k5'' u0'' u1'' hKl3 hb23 z_b6_3 z_b6_2 z_b6_4
  have C14:Hid (∀ n,Calls Tryz.prog 14 #[.pointer (some ⟨w.heap.size+1+1,0,none⟩),.int .i64 d0,.int .i64 d1] (W3.drewN n) fun e w'=>e=.returned (mkV (findM out d0 d1))∧w'=W3.drewN n):=Lib.hid (fun n=>(makes14 (HRD1.out.2.below (below_drewN h3.out n)) (by have:=HMK.out.2;have:=HNR.out;have:=HR5.out;omega) d0 d1).mono (fun e w' h=>⟨h.1,h.2.symm⟩))
  cases hf:findM out d0 d1 with
  | some v=>
   rw [hf] at C14
   have C14:Hid (∀ n,Calls Tryz.prog 14 #[.pointer (some ⟨w.heap.size+1+1,0,none⟩),.int .i64 d0,.int .i64 d1] (W3.drewN n) fun e w'=>e=.returned (.tuple #[.int .i64 v,.bool true])∧w'=W3.drewN n):=C14
   have BB:Hid (loadOf f=(⟨1,0,15⟩,none)):=Lib.hid (ld_twice HL5.out (by rw [←HMK.out.1,drop_at HR.out,mkp_twice' HNI.out (by rw [HD01.out.1,HD01.out.2,hf];simp)]))
   have HM3:Hid (∀ n,LS w (W3.drewN n) bv g):=Lib.hid (fun n=>(HM1.out.below (below_drewN h3.out n)).st)
   have rr:=fun n=>(HM3.out n).rs
   clear hf
   go_quiet ((go_at_call 14;with_reducible exact Calls.quiet_of_same (C14.out _)))
   obtain⟨r0,r1,r2,fr⟩:=rr nq
   go_wp2
   refine bodyPost_ret (v:=.tuple #[.pointer none,.agg #[.int .i64 1,.int .i64 0,.int .i64 15]]) (by simp [results,Tryz.results35,go_sem,r0,r1,r2]) rfl ?_
   exact ld_bad (HM3.out nq) BB.out
  | none=>
   rw [hf] at C14
   have C14:Hid (∀ n,Calls Tryz.prog 14 #[.pointer (some ⟨w.heap.size+1+1,0,none⟩),.int .i64 d0,.int .i64 d1] (W3.drewN n) fun e w'=>e=.returned (.tuple #[.int .i64 0,.bool false])∧w'=W3.drewN n):=C14
   have HF:=Lib.hid hf
   clear hf
   go_quiet ((go_at_call 14;with_reducible exact Calls.quiet_of_same (C14.out _)))
   rename_i z_b7_0
   clear z_b7_0
   revert w0 hw0 bv H0 HSPF nu w1 c ls w2 w3 F u10 u11 u12 u51 u52 u53 u54 u55 u56 u57 u58 u59 u60 u61 u62 u63 u64 u65 u66 u67 u68 u69 u70 u71 u72 u73 u74 u75 u76 u77 u78 u79 u80 fb fn fm nu6 cf nc HNC w4 A ca qs w5 ps HR5 HGD g6 HG9 u98 u99 u100 u101 u102 u103 u104 u105 u106 u107 u108 u109 u110 u111 u112 u113 u114 u115 u116 u117 u118 u119 u120 u121 u122 u123 u124 u125 u126 hr5 u127 u128 u129 u130 u131 u132 u133 u134 u135 u136 u137 u138 u139 u140 u141 u142 u143 u144 u145 u146 u147 u148 u149 u150 u151 u152 u153 u154 u155 u156 u157 u158 u159 u160 u161 q hq HL5 hj HNR hlt hlt3 hlt4 W5 z_b5_25 z_b5_26 wr u2 u18 u19 u20 u162 u163 u164 u165 u166 u167 u168 u169 u170 u171 u172 u173 u174 u175 u176 u177 u178 u179 u180 u181 u182 u183 u184 u185 u186 u187 u188 u189 u190 u191 u192 u193 u194 u195 u196 u197 u198 u199 u200 u201 u202 u203 u204 u205 u206 u207 u208 u209 u210 u211 u212 u213 u214 u215 u216 u217 u218 u219 u220 u221 u222 u223 u224 u225 u226 u227 u228 u229 u230 u231 u232 u233 u234 u235 u236 u237 u238 u239 u240 u241 u242 u243 u244 u245 u246 u247 u248 u249 k out g L hk hlt5 r b off s HQ5 T U dc HR HMK HL hkp z_b6_1 W1 K k0 k3 hKl HM1 HK5 HGK HRD1 b2 o2 HBL k5 HB5 HBH d0 u0 d1 u1 HD01 HC C18 C36 F3 HNI W2 h2 k0' k3' k5' u0' u1' W3 x0 x1 x2 x4 x5 h3 k0'' k3'' k5'' u0'' u1'' hKl3 hb23 z_b6_3 z_b6_2 z_b6_4 C14 HF nq
   exact Hole.get holeb7
end Go.Proofs.YtmellioacefjjaaGreatDoor
