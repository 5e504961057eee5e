/- A part. -/
import Derived.Test.YtmellioacefjjaaGreatDoorQA29
namespace Go.Proofs.YtmellioacefjjaaGreatDoor
open Go.RowKit
attribute [local go_sem] Oper.semAt_some
theorem lm_stepN {w W0 W w3:World} {bv g0 g:Nat→Value} {L:Nat→List Int} {i q cap N:Nat} {x:Int} {o:Obj} (hl:(L i).length=N) (hB:w.heap.size+2<W0.heap.size) (h:LM w W0 W bv g0 g L) (h7:7≤i) (h10:i<10) (hg:((W.alloc o).drew).grownBy w3 (g i).ownBlock)
 (ho:w3.ownsRow W0.heap.size 3 1 (.slice (some ⟨q,0,none⟩) (N+1) cap) (N+1) (nums .i64 (L i) ++ [.int .i64 x])) (hat:(g i).ownBlock=some q∨q=W.heap.size+1):
 LM w W0 (w3.setCell ⟨w.heap.size+2,i,none⟩ (.slice (some ⟨q,0,none⟩) (N+1) cap)) bv g0 (put1 g i (.slice (some ⟨q,0,none⟩) (N+1) cap)) (putL L i (L i ++ [x])):=by
 subst hl
 exact lm_step hB h h7 h10 hg ho hat
structure CutDej (X:Prop) where
 C2f:Prop
 C2r:Prop
 go:Hole C2f→Hole C2r→X
set_option maxRecDepth 100000 in
set_option maxHeartbeats 40000000 in
noncomputable def ldDej (b0 b1 b2 b3 b4 b5 b6:Option Addr) (n0 n1 n2 n3 n4 n5 n6 m0 m1 m2 m3 m4 m5 m6:Nat) (f:Nat→List UInt8) (w:World) (h0:Octs w b0 n0 (f 0)) (h1:Octs w b1 n1 (f 1)) (h2:Octs w b2 n2 (f 2)) (h3:Octs w b3 n3 (f 3)) (h4:Octs w b4 n4 (f 4)) (h5:Octs w b5 n5 (f 5)) (h6:Octs w b6 n6 (f 6)) (hn:n0+n1+n2+n3+n4+n5+n6≤3100):CutDej ((ldDeh b0 b1 b2 b3 b4 b5 b6 n0 n1 n2 n3 n4 n5 n6 m0 m1 m2 m3 m4 m5 m6 f w h0 h1 h2 h3 h4 h5 h6 hn).C1r):=by
 apply CutDej.mk
 case go=>
  intro holec2f holec2r
  intro w0 hw0 bv H0 HSPF nu w1 c ls w2 w3 F u10 u11 u12 u51 u52 u53 u54 u55 u56 u57 u58 u59 u60 u61 u62 u63 u64 u65 u66 u67 u68 u69 u70 u71 u72 u73 u74 u75 u76 u77 u78 u79 u80 fb fn fm nu6 cf nc HNC w4 A ca qs w5 ps HR5 HGD g6 HG9 u98 u99 u100 u101 u102 u103 u104 u105 u106 u107 u108 u109 u110 u111 u112 u113 u114 u115 u116 u117 u118 u119 u120 u121 u122 u123 u124 u125 u126 hr5 u127 u128 u129 u130 u131 u132 u133 u134 u135 u136 u137 u138 u139 u140 u141 u142 u143 u144 u145 u146 u147 u148 u149 u150 u151 u152 u153 u154 u155 u156 u157 u158 u159 u160 u161 q hq HL5 hj HNR hlt hlt3 hlt4 W5 z_b5_25 z_b5_26 wr u2 u18 u19 u20 u162 u163 u164 u165 u166 u167 u168 u169 u170 u171 u172 u173 u174 u175 u176 u177 u178 u179 u180 u181 u182 u183 u184 u185 u186 u187 u188 u189 u190 u191 u192 u193 u194 u195 u196 u197 u198 u199 u200 u201 u202 u203 u204 u205 u206 u207 u208 u209 u210 u211 u212 z_c1r_0 z_c1r_1 z_c1r_2 z_c1r_3 z_c1r_4 z_c1r_5 z_c1r_6 z_c1r_7 z_c1r_8 z_c1r_9 z_c1r_10 z_c1r_11 u225 u226 u227 u228 u229 u230 u231 u232 u233 u234 u235 u236 u237 u238 u239 u240 u241 u242 u243 u244 u245 u246 u247 u248 u249 k out g L hk hlt5 r b off s HQ5 T U dc HR HMK HL hkp z_b6_1 W1 K HK5 HGK b2 o2 HBL HB5 HBH d0 d1 HD01 F3 HNI W2 W3 x0 x1 x2 x4 x5 z_b6_2 HF nq W4 y3 y5 z0 z1 hKl4 hb24 HM4 ra y0 HRA i0 hi0 hz0 hz1 hz2 N HN m3 m4 HLN hH5 z_c1r_13 A7 c7 HE7 x7 xf7 HG7 HLl7 ag agH agb hHl hbs LL hown HLL wc u213 u214 u215 u216 u217 u218 u219 u220 u221 u222 u223 u224 hcut z_c1r_14
  obtain⟨⟨q1,cap1,rfl,HMx1⟩,⟨y0',y5'⟩,⟨z0',z1'⟩,hKl',hb2'⟩:=hcut
  obtain⟨W6,hWx⟩:∃ W,W=wc:=⟨_,rfl⟩
  subst hWx
  clear x7 xf7 ag agH agb hHl hbs hown HLL y0 y5 z0 z1 hKl4 hb24 y3
  have y0:=y0';have y5:=y5';have z0:=z0';have z1:=z1';have hKl4:=hKl';have hb24:=hb2'
  clear y0' y5' z0' z1' hKl' hb2'
  go_upto_region 42 with fail
  obtain⟨A8,c8,hg8,-,-,-⟩:=own_vals (HMx1.out.own 8 (by omega) (by omega))
  have hown:=HMx1.out.own 8 (by omega) (by omega)
  rw [hg8] at hown
  have x8:W6.cell? ⟨w.heap.size+1+1,8,none⟩=some ((put1 g 7 (.slice (some ⟨q1,0,none⟩) (N+1) cap1)) 8):=HMx1.out.st.ten.cel 8 (by omega)
  have xf8:W6.frozen? ⟨w.heap.size+1+1,8,none⟩=false:=HMx1.out.st.ten.fro 8
  rw [hg8] at x8
  have hLl:((putL L 7 (L 7 ++ [ra])) 8).length=N:=by first | exact HLN.out.1 | exact HLN.out.2.1 | exact HLN.out.2.2 | (simp only [putL];first | exact HLN.out.2.1 | exact HLN.out.2.2)
  rw [hLl] at hown x8 hg8
  have HG8:=Lib.hid hg8
  have HLl8:=Lib.hid hLl
  have ag:(Value.slice A8 N c8).ownBlock≠some K:=fun e=>by have:=HGK.out 8 K (by omega) (by omega) (by first | (rw [hg8];exact e) | (have h':g 8=Value.slice A8 N c8:=hg8;rw [h'];exact e));omega
  have agH:(Value.slice A8 N c8).ownBlock≠some (w.heap.size+1+1):=fun e=>by have:=(hown.lt _ e).1;omega
  have agb:(Value.slice A8 N c8).ownBlock≠some b2:=fun e=>by have:=(hown.lt _ e).1;have:=HB5.out;omega
  have hHl:w.heap.size+1+1<W6.heap.size:=HMx1.out.st.lt
  have hbs:W5.heap.size≤W6.heap.size:=HMx1.out.kp.1
  obtain⟨LL,hLL⟩:∃ x,nums .i64 ((putL L 7 (L 7 ++ [ra])) 8)=x:=⟨_,rfl⟩
  rw [hLL] at hown
  have HLL:=Lib.hid hLL
  clear hg8 hLl hLL
  go_cut [234] from 224 to 237 (fun v W=>(∃ q cap,v=.slice (some ⟨q,0,none⟩) (N+1) cap∧Hid (LM w W5 W bv g6 (put1 (put1 g 7 (.slice (some ⟨q1,0,none⟩) (N+1) cap1)) 8 (.slice (some ⟨q,0,none⟩) (N+1) cap)) (putL (putL L 7 (L 7 ++ [ra])) 8 ((putL L 7 (L 7 ++ [ra])) 8 ++ [d0]))))∧(W.cell? ⟨K,0,none⟩=some (.int .i64 ra)∧W.cell? ⟨K,5,none⟩=some (.slice (some ⟨b2,o2,none⟩) 2 dc))∧(W.cell? ⟨b2,o2,none⟩=some (.int .i64 d0)∧W.cell? ⟨b2,o2+1,none⟩=some (.int .i64 d1))∧(K<W.heap.size∧b2<W.heap.size))
  case first=>
   rename_i z_c2f_0 z_c2f_1 z_c2f_2 z_c2f_3 z_c2f_4 z_c2f_5 z_c2f_6 z_c2f_7
   subst z_c2f_1
   clear z_c2f_0
   revert w0 hw0 bv H0 HSPF nu w1 c ls w2 w3 F u10 u11 u12 u51 u52 u53 u54 u55 u56 u57 u58 u59 u60 u61 u62 u63 u64 u65 u66 u67 u68 u69 u70 u71 u72 u73 u74 u75 u76 u77 u78 u79 u80 fb fn fm nu6 cf nc HNC w4 A ca qs w5 ps HR5 HGD g6 HG9 u98 u99 u100 u101 u102 u103 u104 u105 u106 u107 u108 u109 u110 u111 u112 u113 u114 u115 u116 u117 u118 u119 u120 u121 u122 u123 u124 u125 u126 hr5 u127 u128 u129 u130 u131 u132 u133 u134 u135 u136 u137 u138 u139 u140 u141 u142 u143 u144 u145 u146 u147 u148 u149 u150 u151 u152 u153 u154 u155 u156 u157 u158 u159 u160 u161 q hq HL5 hj HNR hlt hlt3 hlt4 W5 z_b5_25 z_b5_26 wr u2 u18 u19 u20 u162 u163 u164 u165 u166 u167 u168 u169 u170 u171 u172 u173 u174 u175 u176 u177 u178 u179 u180 u181 u182 u183 u184 u185 u186 u187 u188 u189 u190 u191 u192 u193 u194 u195 u196 u197 u198 u199 u200 u201 u202 u203 u204 u205 u206 u207 u208 u209 u210 u211 u212 z_c1r_0 z_c1r_1 z_c1r_2 z_c1r_3 z_c1r_4 z_c1r_5 z_c1r_6 z_c1r_7 z_c1r_8 z_c1r_9 z_c1r_10 z_c1r_11 u225 u226 u227 u228 u229 u230 u231 u232 u233 u234 u235 u236 u237 u238 u239 u240 u241 u242 u243 u244 u245 u246 u247 u248 u249 k out g L hk hlt5 r b off s HQ5 T U dc HR HMK HL hkp z_b6_1 W1 K HK5 HGK b2 o2 HBL HB5 HBH d0 d1 HD01 F3 HNI W2 W3 x0 x1 x2 x4 x5 z_b6_2 HF nq W4 HM4 ra HRA i0 hi0 hz0 hz1 hz2 N HN m3 m4 HLN hH5 A7 c7 HE7 HG7 HLl7 u213 u214 u215 u216 u217 u218 u219 u220 u222 u223 u224 q1 cap1 W6 HMx1 y0 y5 z0 z1 hKl4 hb24 z_c2f_2 A8 c8 x8 xf8 HG8 HLl8 ag agH agb hHl hbs LL hown HLL z_c2f_4 z_c2f_5 z_c2f_6 z_c2f_7 z_c2f_3
   exact Hole.get holec2f
  case rest=>
   rename_i z_c2r_0 z_c2r_1 z_c2r_2 z_c2r_3 z_c2r_4 z_c2r_5 z_c2r_6 z_c2r_7 z_c2r_8 z_c2r_9 z_c2r_10 z_c2r_11 z_c2r_12 z_c2r_13 z_c2r_14 z_c2r_15 z_c2r_16 z_c2r_17
   subst z_c2r_15
   clear z_c2r_13 z_c2r_14
   revert w0 hw0 bv H0 HSPF nu w1 c ls w2 w3 F u10 u11 u12 u51 u52 u53 u54 u55 u56 u57 u58 u59 u60 u61 u62 u63 u64 u65 u66 u67 u68 u69 u70 u71 u72 u73 u74 u75 u76 u77 u78 u79 u80 fb fn fm nu6 cf nc HNC w4 A ca qs w5 ps HR5 HGD g6 HG9 u98 u99 u100 u101 u102 u103 u104 u105 u106 u107 u108 u109 u110 u111 u112 u113 u114 u115 u116 u117 u118 u119 u120 u121 u122 u123 u124 u125 u126 hr5 u127 u128 u129 u130 u131 u132 u133 u134 u135 u136 u137 u138 u139 u140 u141 u142 u143 u144 u145 u146 u147 u148 u149 u150 u151 u152 u153 u154 u155 u156 u157 u158 u159 u160 u161 q hq HL5 hj HNR hlt hlt3 hlt4 W5 z_b5_25 z_b5_26 wr u2 u18 u19 u20 u162 u163 u164 u165 u166 u167 u168 u169 u170 u171 u172 u173 u174 u175 u176 u177 u178 u179 u180 u181 u182 u183 u184 u185 u186 u187 u188 u189 u190 u191 u192 u193 u194 u195 u196 u197 u198 u199 u200 u201 u202 u203 u204 u205 u206 u207 u208 u209 u210 u211 u212 z_c1r_0 z_c1r_1 z_c1r_2 z_c1r_3 z_c1r_4 z_c1r_5 z_c1r_6 z_c1r_7 z_c1r_8 z_c1r_9 z_c1r_10 z_c1r_11 z_c2r_0 z_c2r_1 z_c2r_2 z_c2r_3 z_c2r_4 z_c2r_5 z_c2r_6 z_c2r_7 z_c2r_8 z_c2r_9 z_c2r_10 z_c2r_11 z_c2r_12 u238 u239 u240 u241 u242 u243 u244 u245 u246 u247 u248 u249 k out g L hk hlt5 r b off s HQ5 T U dc HR HMK HL hkp z_b6_1 W1 K HK5 HGK b2 o2 HBL HB5 HBH d0 d1 HD01 F3 HNI W2 W3 x0 x1 x2 x4 x5 z_b6_2 HF nq W4 HM4 ra HRA i0 hi0 hz0 hz1 hz2 N HN m3 m4 HLN hH5 A7 c7 HE7 HG7 HLl7 u213 u214 u215 u216 u217 u218 u219 u220 u222 u223 q1 cap1 W6 HMx1 y0 y5 z0 z1 hKl4 hb24 z_c2r_16 A8 c8 x8 xf8 HG8 HLl8 ag agH agb hHl hbs LL hown HLL wc u224 u225 u226 u227 u228 u229 u230 u231 u232 u233 u234 u235 u236 u237 hcut z_c2r_17
   exact Hole.get holec2r
end Go.Proofs.YtmellioacefjjaaGreatDoor
