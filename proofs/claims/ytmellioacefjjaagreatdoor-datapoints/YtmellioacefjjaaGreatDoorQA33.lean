/- A part. -/
import Derived.Test.YtmellioacefjjaaGreatDoorQA31
namespace Go.Proofs.YtmellioacefjjaaGreatDoor
open Go.RowKit
attribute [local go_sem] Oper.semAt_some
set_option maxRecDepth 100000 in
set_option maxHeartbeats 40000000 in
theorem ldDel (b0 b1 b2 b3 b4 b5 b6:Option Addr) (n0 n1 n2 n3 n4 n5 n6 m0 m1 m2 m3 m4 m5 m6:Nat) (f:Nat→List UInt8) (w:World) (h0:Octs w b0 n0 (f 0)) (h1:Octs w b1 n1 (f 1)) (h2:Octs w b2 n2 (f 2)) (h3:Octs w b3 n3 (f 3)) (h4:Octs w b4 n4 (f 4)) (h5:Octs w b5 n5 (f 5)) (h6:Octs w b6 n6 (f 6)) (hn:n0+n1+n2+n3+n4+n5+n6≤3100):(ldDej b0 b1 b2 b3 b4 b5 b6 n0 n1 n2 n3 n4 n5 n6 m0 m1 m2 m3 m4 m5 m6 f w h0 h1 h2 h3 h4 h5 h6 hn).C2r:=by
 intro w0 hw0 bv H0 HSPF nu w1 c ls w2 w3 F u10 u11 u12 u51 u52 u53 u54 u55 u56 u57 u58 u59 u60 u61 u62 u63 u64 u65 u66 u67 u68 u69 u70 u71 u72 u73 u74 u75 u76 u77 u78 u79 u80 fb fn fm nu6 cf nc HNC w4 A ca qs w5 ps HR5 HGD g6 HG9 u98 u99 u100 u101 u102 u103 u104 u105 u106 u107 u108 u109 u110 u111 u112 u113 u114 u115 u116 u117 u118 u119 u120 u121 u122 u123 u124 u125 u126 hr5 u127 u128 u129 u130 u131 u132 u133 u134 u135 u136 u137 u138 u139 u140 u141 u142 u143 u144 u145 u146 u147 u148 u149 u150 u151 u152 u153 u154 u155 u156 u157 u158 u159 u160 u161 q hq HL5 hj HNR hlt hlt3 hlt4 W5 z_b5_25 z_b5_26 wr u2 u18 u19 u20 u162 u163 u164 u165 u166 u167 u168 u169 u170 u171 u172 u173 u174 u175 u176 u177 u178 u179 u180 u181 u182 u183 u184 u185 u186 u187 u188 u189 u190 u191 u192 u193 u194 u195 u196 u197 u198 u199 u200 u201 u202 u203 u204 u205 u206 u207 u208 u209 u210 u211 u212 z_c1r_0 z_c1r_1 z_c1r_2 z_c1r_3 z_c1r_4 z_c1r_5 z_c1r_6 z_c1r_7 z_c1r_8 z_c1r_9 z_c1r_10 z_c1r_11 z_c2r_0 z_c2r_1 z_c2r_2 z_c2r_3 z_c2r_4 z_c2r_5 z_c2r_6 z_c2r_7 z_c2r_8 z_c2r_9 z_c2r_10 z_c2r_11 z_c2r_12 u238 u239 u240 u241 u242 u243 u244 u245 u246 u247 u248 u249 k out g L hk hlt5 r b off s HQ5 T U dc HR HMK HL hkp z_b6_1 W1 K HK5 HGK b2 o2 HBL HB5 HBH d0 d1 HD01 F3 HNI W2 W3 x0 x1 x2 x4 x5 z_b6_2 HF nq W4 HM4 ra HRA i0 hi0 hz0 hz1 hz2 N HN m3 m4 HLN hH5 A7 c7 HE7 HG7 HLl7 u213 u214 u215 u216 u217 u218 u219 u220 u222 u223 q1 cap1 W6 HMx1 y0 y5 z0 z1 hKl4 hb24 z_c2r_16 A8 c8 x8 xf8 HG8 HLl8 ag agH agb hHl hbs LL hown HLL wc u224 u225 u226 u227 u228 u229 u230 u231 u232 u233 u234 u235 u236 u237 hcut z_c2r_17
 clear h0 h1 h2 h3 h4 h5 h6
 obtain⟨⟨q2,cap2,rfl,HMx2⟩,⟨y0',y5'⟩,⟨z0',z1'⟩,hKl',hb2'⟩:=hcut
 obtain⟨W7,hWx⟩:∃ W,W=wc:=⟨_,rfl⟩
 subst hWx
 clear x8 xf8 ag agH agb hHl hbs hown HLL y0 y5 z0 z1 hKl4 hb24
 have y0:=y0';have y5:=y5';have z0:=z0';have z1:=z1';have hKl4:=hKl';have hb24:=hb2'
 clear y0' y5' z0' z1' hKl' hb2'
 go_upto_region 43 with fail
 obtain⟨A9,c9,hg9,-,-,-⟩:=own_vals (HMx2.out.own 9 (by omega) (by omega))
 have hown:=HMx2.out.own 9 (by omega) (by omega)
 rw [hg9] at hown
 have x9:W7.cell? ⟨w.heap.size+1+1,9,none⟩=some ((put1 (put1 g 7 (.slice (some ⟨q1,0,none⟩) (N+1) cap1)) 8 (.slice (some ⟨q2,0,none⟩) (N+1) cap2)) 9):=HMx2.out.st.ten.cel 9 (by omega)
 have xf9:W7.frozen? ⟨w.heap.size+1+1,9,none⟩=false:=HMx2.out.st.ten.fro 9
 rw [hg9] at x9
 have hLl:((putL (putL L 7 (L 7 ++ [ra])) 8 ((putL L 7 (L 7 ++ [ra])) 8 ++ [d0])) 9).length=N:=by first | exact HLN.out.1 | exact HLN.out.2.1 | exact HLN.out.2.2 | (simp only [putL];first | exact HLN.out.2.1 | exact HLN.out.2.2)
 rw [hLl] at hown x9 hg9
 have HG9:=Lib.hid hg9
 have HLl9:=Lib.hid hLl
 have ag:(Value.slice A9 N c9).ownBlock≠some K:=fun e=>by have:=HGK.out 9 K (by omega) (by omega) (by first | (rw [hg9];exact e) | (have h':g 9=Value.slice A9 N c9:=hg9;rw [h'];exact e));omega
 have agH:(Value.slice A9 N c9).ownBlock≠some (w.heap.size+1+1):=fun e=>by have:=(hown.lt _ e).1;omega
 have agb:(Value.slice A9 N c9).ownBlock≠some b2:=fun e=>by have:=(hown.lt _ e).1;have:=HB5.out;omega
 have hHl:w.heap.size+1+1<W7.heap.size:=HMx2.out.st.lt
 have hbs:W5.heap.size≤W7.heap.size:=HMx2.out.kp.1
 obtain⟨LL,hLL⟩:∃ x,nums .i64 ((putL (putL L 7 (L 7 ++ [ra])) 8 ((putL L 7 (L 7 ++ [ra])) 8 ++ [d0])) 9)=x:=⟨_,rfl⟩
 rw [hLL] at hown
 have HLL:=Lib.hid hLL
 clear hg9 hLl hLL
 go_region_law (refine step_append_lies _ ?a0 (.tmp 241) (.tmp 246) 31 ?a01 W5.heap.size 3 i0 (.int .i64 0) 1 8 ?a1 ?a2 ?a3 ?a4 ?a5 ?a6 ?a7 (.slice A9 N c9) N LL ?a8 ?a9 ⟨W7.heap.size,0,none⟩ 1 1 [.int .i64 d1] ?b1 ?b2 ?b3 ?b4 ?b5 ?b6 ?b7 ?b8 (W7.heap.size+1) ?b9 ?_;(case a0=>rfl);(case a01=>rfl);(case a1=>exact Tryz.underlying31);(case a2=>exact hi0);(case a3=>exact hz0);(case a4=>exact hz1);(case a5=>exact hz2);(case a6=>rfl);(case a7=>omega);(case a8=>first | rfl | (simp [Act.eval,Act.put];done));(case a9=>exact ((hown.alloc _).drew));(case b1=>first | rfl | (simp [Act.eval,Act.put];done));(case b2=>rfl);(case b3=>exact (World.news_of_block (cs:=#[.int .i64 d1]) (t:=3) (fr:=(0,0)) (heap_alloc_new W7 _)));(case b4=>simp [Value.oneCell'];done);(case b5=>omega);(case b6=>exact m3);(case b7=>exact m4);(case b8=>simp;omega);(case b9=>simp;done);intro gg cap w3 hown3 hgrow hat hlt3;have qc:=grow_cell' hgrow hHl agH x9;have qf:=grow_frozen' hgrow hHl agH xf9;have qk0:=grow_cell' hgrow hKl4 ag y0;have qk5:=grow_cell' hgrow hKl4 ag y5;have qb0:=grow_cell' hgrow hb24 agb z0;have qb1:=grow_cell' hgrow hb24 agb z1;have qs:=hgrow.size)
 all_goals go_wp2_with fail
 all_goals
  have hl:=HLl9.out
  have hgi:=HG9.out
  rw [←HLL.out] at hown3
  have HM9:Hid (LM w W5 (w3.setCell ⟨w.heap.size+1+1,9,none⟩ (.slice (some ⟨gg,0,none⟩) (N+1) cap)) bv g6 (put1 (put1 (put1 g 7 (.slice (some ⟨q1,0,none⟩) (N+1) cap1)) 8 (.slice (some ⟨q2,0,none⟩) (N+1) cap2)) 9 (.slice (some ⟨gg,0,none⟩) (N+1) cap)) (putL (putL (putL L 7 (L 7 ++ [ra])) 8 ((putL L 7 (L 7 ++ [ra])) 8 ++ [d0])) 9 ((putL (putL L 7 (L 7 ++ [ra])) 8 ((putL L 7 (L 7 ++ [ra])) 8 ++ [d0])) 9 ++ [d1]))):=Lib.hid (lm_stepN hl hH5 HMx2.out (by omega) (by omega) (by rw [hgi];exact hgrow) hown3 (by rw [hgi];exact hat))
  have R:Hid (MrI w W5 bv g6 ps (spF f) (.int .i64 ((k:Int)+1)) (w3.setCell ⟨w.heap.size+1+1,9,none⟩ (.slice (some ⟨gg,0,none⟩) (N+1) cap))):=Lib.hid (mr_more HR.out HNI.out (by rw [HD01.out.1,HD01.out.2];exact HF.out) HMK.out HL.out (by rw [HD01.out.1,HD01.out.2,HRA.out];simp [putL]) HM9.out)
  go_roundw
 all_goals first | exact R.out | (simp [intOf];omega)
end Go.Proofs.YtmellioacefjjaaGreatDoor
