/- A part. -/
import Derived.Test.YtmellioacefjjaaGreatDoorQB27
namespace Go.Proofs.YtmellioacefjjaaGreatDoor
open Go.RowKit
attribute [local go_sem] Oper.semAt_some
set_option maxRecDepth 100000 in
set_option maxHeartbeats 40000000 in
theorem ldDek (b0 b1 b2 b3 b4 b5 b6:Option Addr) (n0 n1 n2 n3 n4 n5 n6 m0 m1 m2 m3 m4 m5 m6:Nat) (f:Nat→List UInt8) (w:World) (h0:Octs w b0 n0 (f 0)) (h1:Octs w b1 n1 (f 1)) (h2:Octs w b2 n2 (f 2)) (h3:Octs w b3 n3 (f 3)) (h4:Octs w b4 n4 (f 4)) (h5:Octs w b5 n5 (f 5)) (h6:Octs w b6 n6 (f 6)) (hn:n0+n1+n2+n3+n4+n5+n6≤3100):(ldDej b0 b1 b2 b3 b4 b5 b6 n0 n1 n2 n3 n4 n5 n6 m0 m1 m2 m3 m4 m5 m6 f w h0 h1 h2 h3 h4 h5 h6 hn).C2f:=by
 intro w0 hw0 bv H0 HSPF nu w1 c ls w2 w3 F u10 u11 u12 u51 u52 u53 u54 u55 u56 u57 u58 u59 u60 u61 u62 u63 u64 u65 u66 u67 u68 u69 u70 u71 u72 u73 u74 u75 u76 u77 u78 u79 u80 fb fn fm nu6 cf nc HNC w4 A ca qs w5 ps HR5 HGD g6 HG9 u98 u99 u100 u101 u102 u103 u104 u105 u106 u107 u108 u109 u110 u111 u112 u113 u114 u115 u116 u117 u118 u119 u120 u121 u122 u123 u124 u125 u126 hr5 u127 u128 u129 u130 u131 u132 u133 u134 u135 u136 u137 u138 u139 u140 u141 u142 u143 u144 u145 u146 u147 u148 u149 u150 u151 u152 u153 u154 u155 u156 u157 u158 u159 u160 u161 q hq HL5 hj HNR hlt hlt3 hlt4 W5 z_b5_25 z_b5_26 wr u2 u18 u19 u20 u162 u163 u164 u165 u166 u167 u168 u169 u170 u171 u172 u173 u174 u175 u176 u177 u178 u179 u180 u181 u182 u183 u184 u185 u186 u187 u188 u189 u190 u191 u192 u193 u194 u195 u196 u197 u198 u199 u200 u201 u202 u203 u204 u205 u206 u207 u208 u209 u210 u211 u212 z_c1r_0 z_c1r_1 z_c1r_2 z_c1r_3 z_c1r_4 z_c1r_5 z_c1r_6 z_c1r_7 z_c1r_8 z_c1r_9 z_c1r_10 z_c1r_11 u225 u226 u227 u228 u229 u230 u231 u232 u233 u234 u235 u236 u237 u238 u239 u240 u241 u242 u243 u244 u245 u246 u247 u248 u249 k out g L hk hlt5 r b off s HQ5 T U dc HR HMK HL hkp z_b6_1 W1 K HK5 HGK b2 o2 HBL HB5 HBH d0 d1 HD01 F3 HNI W2 W3 x0 x1 x2 x4 x5 z_b6_2 HF nq W4 HM4 ra HRA i0 hi0 hz0 hz1 hz2 N HN m3 m4 HLN hH5 A7 c7 HE7 HG7 HLl7 u213 u214 u215 u216 u217 u218 u219 u220 u222 u223 u224 q1 cap1 W6 HMx1 y0 y5 z0 z1 hKl4 hb24 z_c2f_2 A8 c8 x8 xf8 HG8 HLl8 ag agH agb hHl hbs LL hown HLL z_c2f_4 z_c2f_5 z_c2f_6 z_c2f_7 z_c2f_3
 clear h0 h1 h2 h3 h4 h5 h6
 go_region_law (refine step_append_lies _ ?a0 (.tmp 228) (.tmp 233) 31 ?a01 W5.heap.size 3 i0 (.int .i64 0) 1 8 ?a1 ?a2 ?a3 ?a4 ?a5 ?a6 ?a7 (.slice A8 N c8) N LL ?a8 ?a9 ⟨W6.heap.size,0,none⟩ 1 1 [.int .i64 d0] ?b1 ?b2 ?b3 ?b4 ?b5 ?b6 ?b7 ?b8 (W6.heap.size+1) ?b9 ?_;(case a0=>rfl);(case a01=>rfl);(case a1=>exact Tryz.underlying31);(case a2=>exact hi0);(case a3=>exact hz0);(case a4=>exact hz1);(case a5=>exact hz2);(case a6=>rfl);(case a7=>omega);(case a8=>first | rfl | (simp [Act.eval,Act.put];done));(case a9=>exact ((hown.alloc _).drew));(case b1=>first | rfl | (simp [Act.eval,Act.put];done));(case b2=>rfl);(case b3=>exact (World.news_of_block (cs:=#[.int .i64 d0]) (t:=3) (fr:=(0,0)) (heap_alloc_new W6 _)));(case b4=>simp [Value.oneCell'];done);(case b5=>omega);(case b6=>exact m3);(case b7=>exact m4);(case b8=>simp;omega);(case b9=>simp;done);intro gg cap w3 hown3 hgrow hat hlt3;have qc:=grow_cell' hgrow hHl agH x8;have qf:=grow_frozen' hgrow hHl agH xf8;have qk0:=grow_cell' hgrow hKl4 ag y0;have qk5:=grow_cell' hgrow hKl4 ag y5;have qb0:=grow_cell' hgrow hb24 agb z0;have qb1:=grow_cell' hgrow hb24 agb z1;have qs:=hgrow.size)
 all_goals go_wp2_with fail
 all_goals go_meet
 all_goals
  refine⟨⟨_,_,rfl,Lib.hid ?_⟩,⟨?_,?_⟩,⟨?_,?_⟩,?_,?_⟩
  · have hl:=HLl8.out
    have hgi:=HG8.out
    rw [←HLL.out] at hown3
    refine lm_stepN hl hH5 HMx1.out (by omega) (by omega) (by rw [hgi];exact hgrow) hown3 (by rw [hgi];exact hat)
  · exact (World.cell?_of_block (a:=⟨K,_,none⟩) (heap_setCell_other _ ⟨w.heap.size+1+1,8,none⟩ K _ (fun e=>by have e:K=w.heap.size+1+1:=(by simpa using e);have:=HK5.out;have:=HB5.out;have:=HBH.out;omega))).trans qk0
  · exact (World.cell?_of_block (a:=⟨K,_,none⟩) (heap_setCell_other _ ⟨w.heap.size+1+1,8,none⟩ K _ (fun e=>by have e:K=w.heap.size+1+1:=(by simpa using e);have:=HK5.out;have:=HB5.out;have:=HBH.out;omega))).trans qk5
  · exact (World.cell?_of_block (a:=⟨b2,_,none⟩) (heap_setCell_other _ ⟨w.heap.size+1+1,8,none⟩ b2 _ (fun e=>by have e:b2=w.heap.size+1+1:=(by simpa using e);have:=HK5.out;have:=HB5.out;have:=HBH.out;omega))).trans qb0
  · exact (World.cell?_of_block (a:=⟨b2,_,none⟩) (heap_setCell_other _ ⟨w.heap.size+1+1,8,none⟩ b2 _ (fun e=>by have e:b2=w.heap.size+1+1:=(by simpa using e);have:=HK5.out;have:=HB5.out;have:=HBH.out;omega))).trans qb1
  · rw [World.size_setCell];simp at qs;omega
  · rw [World.size_setCell];simp at qs;omega
end Go.Proofs.YtmellioacefjjaaGreatDoor
