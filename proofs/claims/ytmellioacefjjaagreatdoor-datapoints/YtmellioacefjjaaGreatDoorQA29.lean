/- A part. -/
import Derived.Test.YtmellioacefjjaaGreatDoorQA28
namespace Go.Proofs.YtmellioacefjjaaGreatDoor
open Go.RowKit
attribute [local go_sem] Oper.semAt_some
structure CutDeh (X:Prop) where
 C1f:Prop
 C1r:Prop
 go:Hole C1f→Hole C1r→X
set_option maxRecDepth 100000 in
set_option maxHeartbeats 40000000 in
noncomputable def ldDeh (b0 b1 b2 b3 b4 b5 b6:Option Addr) (n0 n1 n2 n3 n4 n5 n6 m0 m1 m2 m3 m4 m5 m6:Nat) (f:Nat→List UInt8) (w:World) (h0:Octs w b0 n0 (f 0)) (h1:Octs w b1 n1 (f 1)) (h2:Octs w b2 n2 (f 2)) (h3:Octs w b3 n3 (f 3)) (h4:Octs w b4 n4 (f 4)) (h5:Octs w b5 n5 (f 5)) (h6:Octs w b6 n6 (f 6)) (hn:n0+n1+n2+n3+n4+n5+n6≤3100):CutDeh ((ldDeg b0 b1 b2 b3 b4 b5 b6 n0 n1 n2 n3 n4 n5 n6 m0 m1 m2 m3 m4 m5 m6 f w h0 h1 h2 h3 h4 h5 h6 hn).B7):=by
 apply CutDeh.mk
 case go=>
  intro holec1f holec1r
  intro w0 hw0 bv H0 HSPF nu w1 c ls w2 w3 F u10 u11 u12 u51 u52 u53 u54 u55 u56 u57 u58 u59 u60 u61 u62 u63 u64 u65 u66 u67 u68 u69 u70 u71 u72 u73 u74 u75 u76 u77 u78 u79 u80 fb fn fm nu6 cf nc HNC w4 A ca qs w5 ps HR5 HGD g6 HG9 u98 u99 u100 u101 u102 u103 u104 u105 u106 u107 u108 u109 u110 u111 u112 u113 u114 u115 u116 u117 u118 u119 u120 u121 u122 u123 u124 u125 u126 hr5 u127 u128 u129 u130 u131 u132 u133 u134 u135 u136 u137 u138 u139 u140 u141 u142 u143 u144 u145 u146 u147 u148 u149 u150 u151 u152 u153 u154 u155 u156 u157 u158 u159 u160 u161 q hq HL5 hj HNR hlt hlt3 hlt4 W5 z_b5_25 z_b5_26 wr u2 u18 u19 u20 u162 u163 u164 u165 u166 u167 u168 u169 u170 u171 u172 u173 u174 u175 u176 u177 u178 u179 u180 u181 u182 u183 u184 u185 u186 u187 u188 u189 u190 u191 u192 u193 u194 u195 u196 u197 u198 u199 u200 u201 u202 u203 u204 u205 u206 u207 u208 u209 u210 u211 u212 u213 u214 u215 u216 u217 u218 u219 u220 u221 u222 u223 u224 u225 u226 u227 u228 u229 u230 u231 u232 u233 u234 u235 u236 u237 u238 u239 u240 u241 u242 u243 u244 u245 u246 u247 u248 u249 k out g L hk hlt5 r b off s HQ5 T U dc HR HMK HL hkp z_b6_1 W1 K k0 k3 hKl HM1 HK5 HGK HRD1 b2 o2 HBL k5 HB5 HBH d0 u0 d1 u1 HD01 HC C18 C36 F3 HNI W2 h2 k0' k3' k5' u0' u1' W3 x0 x1 x2 x4 x5 h3 k0'' k3'' k5'' u0'' u1'' hKl3 hb23 z_b6_3 z_b6_2 z_b6_4 C14 HF nq
  obtain⟨W4,hW4⟩:∃ W4,W3.drewN nq=W4:=⟨_,rfl⟩
  have hb4:Below W1.heap.size W1 W4:=hW4▸below_drewN h3.out nq
  obtain⟨⟨y0,y3,y5⟩,⟨z0,z1⟩,hKl4,hb24⟩:=HC.out W4 hb4
  have HM4:=Lib.hid (HM1.out.below hb4)
  rw [hW4]
  clear hW4 hb4 C14 C18 C36 HC HM1 HRD1 k0 k3 k5 u0 u1 k0' k3' k5' u0' u1' k0'' k3'' k5'' u0'' u1'' hKl3 hb23 hKl h2 h3
  obtain⟨ra,hra⟩:∃ x,r.a=x:=⟨_,rfl⟩
  have HRA:=Lib.hid hra
  rw [hra] at y0
  clear hra
  obtain⟨i0,hi0,hz0,hz1,hz2⟩:=info_parts infoI
  obtain⟨N,hN⟩:∃ x,out.length=x:=⟨_,rfl⟩
  have HN:=Lib.hid hN
  have m3:N+1≤maxLen:=by have:=HMK.out.2;have:=HNR.out;have:=HR5.out;unfold maxLen;omega
  have m4:(N+1)*8≤140737488355328:=by have:=HMK.out.2;have:=HNR.out;have:=HR5.out;omega
  have HLN:Hid ((L 7).length=N∧(L 8).length=N∧(L 9).length=N):=Lib.hid (by rw [HL.out.1,HL.out.2.1,HL.out.2.2];simp [hN])
  clear hN
  have hH5:w.heap.size+2<W5.heap.size:=HQ5.out.st.lt
  go_upto_region 41 with fail
  obtain⟨A7,c7,hg7,-,-,-⟩:=own_vals (HM4.out.own 7 (by omega) (by omega))
  have hown:=HM4.out.own 7 (by omega) (by omega)
  have HE7:Hid (L 7=L 7∧g 7=.slice A7 N c7):=Lib.hid ⟨rfl,by rw [hg7,HLN.out.1]⟩
  rw [hg7] at hown
  have x7:W4.cell? ⟨w.heap.size+1+1,7,none⟩=some (g 7):=HM4.out.st.ten.cel 7 (by omega)
  have xf7:W4.frozen? ⟨w.heap.size+1+1,7,none⟩=false:=HM4.out.st.ten.fro 7
  rw [hg7] at x7
  have hLl:(L 7).length=N:=by first | exact HLN.out.1 | exact HLN.out.2.1 | exact HLN.out.2.2 | (simp only [putL];first | exact HLN.out.2.1 | exact HLN.out.2.2)
  rw [hLl] at hown x7 hg7
  have HG7:=Lib.hid hg7
  have HLl7:=Lib.hid hLl
  have ag:(Value.slice A7 N c7).ownBlock≠some K:=fun e=>by have:=HGK.out 7 K (by omega) (by omega) (by first | (rw [hg7];exact e) | (have h':g 7=Value.slice A7 N c7:=hg7;rw [h'];exact e));omega
  have agH:(Value.slice A7 N c7).ownBlock≠some (w.heap.size+1+1):=fun e=>by have:=(hown.lt _ e).1;omega
  have agb:(Value.slice A7 N c7).ownBlock≠some b2:=fun e=>by have:=(hown.lt _ e).1;have:=HB5.out;omega
  have hHl:w.heap.size+1+1<W4.heap.size:=HM4.out.st.lt
  have hbs:W5.heap.size≤W4.heap.size:=HM4.out.kp.1
  obtain⟨LL,hLL⟩:∃ x,nums .i64 (L 7)=x:=⟨_,rfl⟩
  rw [hLL] at hown
  have HLL:=Lib.hid hLL
  clear hg7 hLl hLL
  go_cut [221] from 213 to 224 (fun v W=>(∃ q cap,v=.slice (some ⟨q,0,none⟩) (N+1) cap∧Hid (LM w W5 W bv g6 (put1 g 7 (.slice (some ⟨q,0,none⟩) (N+1) cap)) (putL L 7 (L 7 ++ [ra]))))∧(W.cell? ⟨K,0,none⟩=some (.int .i64 ra)∧W.cell? ⟨K,5,none⟩=some (.slice (some ⟨b2,o2,none⟩) 2 dc))∧(W.cell? ⟨b2,o2,none⟩=some (.int .i64 d0)∧W.cell? ⟨b2,o2+1,none⟩=some (.int .i64 d1))∧(K<W.heap.size∧b2<W.heap.size))
  case first=>
   rename_i z_c1f_0 z_c1f_1 z_c1f_2 z_c1f_3 z_c1f_4 z_c1f_5 z_c1f_6
   subst z_c1f_0
   revert w0 hw0 bv H0 HSPF nu w1 c ls w2 w3 F u10 u11 u12 u51 u52 u53 u54 u55 u56 u57 u58 u59 u60 u61 u62 u63 u64 u65 u66 u67 u68 u69 u70 u71 u72 u73 u74 u75 u76 u77 u78 u79 u80 fb fn fm nu6 cf nc HNC w4 A ca qs w5 ps HR5 HGD g6 HG9 u98 u99 u100 u101 u102 u103 u104 u105 u106 u107 u108 u109 u110 u111 u112 u113 u114 u115 u116 u117 u118 u119 u120 u121 u122 u123 u124 u125 u126 hr5 u127 u128 u129 u130 u131 u132 u133 u134 u135 u136 u137 u138 u139 u140 u141 u142 u143 u144 u145 u146 u147 u148 u149 u150 u151 u152 u153 u154 u155 u156 u157 u158 u159 u160 u161 q hq HL5 hj HNR hlt hlt3 hlt4 W5 z_b5_25 z_b5_26 wr u2 u18 u19 u20 u162 u163 u164 u165 u166 u167 u168 u169 u170 u171 u172 u173 u174 u175 u176 u177 u178 u179 u180 u181 u182 u183 u184 u185 u186 u187 u188 u189 u190 u191 u192 u193 u194 u195 u196 u197 u198 u199 u200 u201 u202 u203 u204 u205 u206 u207 u208 u209 u210 u211 u212 u213 u214 u215 u216 u217 u218 u219 u220 u221 u222 u223 u224 u225 u226 u227 u228 u229 u230 u231 u232 u233 u234 u235 u236 u237 u238 u239 u240 u241 u242 u243 u244 u245 u246 u247 u248 u249 k out g L hk hlt5 r b off s HQ5 T U dc HR HMK HL hkp z_b6_1 W1 K HK5 HGK b2 o2 HBL HB5 HBH d0 d1 HD01 F3 HNI W2 W3 x0 x1 x2 x4 x5 z_b6_2 HF nq W4 y3 y5 z0 z1 hKl4 hb24 HM4 ra y0 HRA i0 hi0 hz0 hz1 hz2 N HN m3 m4 HLN hH5 z_c1f_1 A7 c7 HE7 x7 xf7 HG7 HLl7 ag agH agb hHl hbs LL hown HLL z_c1f_3 z_c1f_4 z_c1f_5 z_c1f_6 z_c1f_2
   exact Hole.get holec1f
  case rest=>
   rename_i z_c1r_0 z_c1r_1 z_c1r_2 z_c1r_3 z_c1r_4 z_c1r_5 z_c1r_6 z_c1r_7 z_c1r_8 z_c1r_9 z_c1r_10 z_c1r_11 z_c1r_12 z_c1r_13 z_c1r_14
   subst z_c1r_12
   revert w0 hw0 bv H0 HSPF nu w1 c ls w2 w3 F u10 u11 u12 u51 u52 u53 u54 u55 u56 u57 u58 u59 u60 u61 u62 u63 u64 u65 u66 u67 u68 u69 u70 u71 u72 u73 u74 u75 u76 u77 u78 u79 u80 fb fn fm nu6 cf nc HNC w4 A ca qs w5 ps HR5 HGD g6 HG9 u98 u99 u100 u101 u102 u103 u104 u105 u106 u107 u108 u109 u110 u111 u112 u113 u114 u115 u116 u117 u118 u119 u120 u121 u122 u123 u124 u125 u126 hr5 u127 u128 u129 u130 u131 u132 u133 u134 u135 u136 u137 u138 u139 u140 u141 u142 u143 u144 u145 u146 u147 u148 u149 u150 u151 u152 u153 u154 u155 u156 u157 u158 u159 u160 u161 q hq HL5 hj HNR hlt hlt3 hlt4 W5 z_b5_25 z_b5_26 wr u2 u18 u19 u20 u162 u163 u164 u165 u166 u167 u168 u169 u170 u171 u172 u173 u174 u175 u176 u177 u178 u179 u180 u181 u182 u183 u184 u185 u186 u187 u188 u189 u190 u191 u192 u193 u194 u195 u196 u197 u198 u199 u200 u201 u202 u203 u204 u205 u206 u207 u208 u209 u210 u211 u212 z_c1r_0 z_c1r_1 z_c1r_2 z_c1r_3 z_c1r_4 z_c1r_5 z_c1r_6 z_c1r_7 z_c1r_8 z_c1r_9 z_c1r_10 z_c1r_11 u225 u226 u227 u228 u229 u230 u231 u232 u233 u234 u235 u236 u237 u238 u239 u240 u241 u242 u243 u244 u245 u246 u247 u248 u249 k out g L hk hlt5 r b off s HQ5 T U dc HR HMK HL hkp z_b6_1 W1 K HK5 HGK b2 o2 HBL HB5 HBH d0 d1 HD01 F3 HNI W2 W3 x0 x1 x2 x4 x5 z_b6_2 HF nq W4 y3 y5 z0 z1 hKl4 hb24 HM4 ra y0 HRA i0 hi0 hz0 hz1 hz2 N HN m3 m4 HLN hH5 z_c1r_13 A7 c7 HE7 x7 xf7 HG7 HLl7 ag agH agb hHl hbs LL hown HLL wc u213 u214 u215 u216 u217 u218 u219 u220 u221 u222 u223 u224 hcut z_c1r_14
   exact Hole.get holec1r
end Go.Proofs.YtmellioacefjjaaGreatDoor
