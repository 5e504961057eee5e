/- A part. -/
import Derived.Test.YtmellioacefjjaaGreatDoorQB22
namespace Go.Proofs.YtmellioacefjjaaGreatDoor
open Go.RowKit
attribute [local go_sem] Oper.semAt_some
theorem field3g (x0 x1 x2 x3 x4 x5:Value) (W:World):(Instr.field 33 (.agg #[x0,x1,x2,x3,x4,x5]) 3).run Tryz.prog W=.ok x3 W:=by kernel_rfl
theorem vals_few (i:Nat):(valsOf i).length≤1000:=by unfold valsOf;split <;> simp
structure Hole (P:Prop):Prop where
 get:P
structure CutDea (X:Prop) where
 B1:Prop
 B2:Prop
 B3:Prop
 B4:Prop
 B5:Prop
 go:Hole B1→Hole B2→Hole B3→Hole B4→Hole B5→X
set_option maxRecDepth 100000 in
set_option maxHeartbeats 40000000 in
noncomputable def ldDea (b0 b1 b2 b3 b4 b5 b6:Option Addr) (n0 n1 n2 n3 n4 n5 n6 m0 m1 m2 m3 m4 m5 m6:Nat) (f:Nat→List UInt8) (w:World) (h0:Octs w b0 n0 (f 0)) (h1:Octs w b1 n1 (f 1)) (h2:Octs w b2 n2 (f 2)) (h3:Octs w b3 n3 (f 3)) (h4:Octs w b4 n4 (f 4)) (h5:Octs w b5 n5 (f 5)) (h6:Octs w b6 n6 (f 6)) (hn:n0+n1+n2+n3+n4+n5+n6≤3100):CutDea (Calls Tryz.prog 35 #[.agg #[.slice b0 n0 m0,.slice b1 n1 m1,.slice b2 n2 m2,.slice b3 n3 m3,.slice b4 n4 m4,.slice b5 n5 m5,.slice b6 n6 m6]] w (LdPost f w)):=by
 apply CutDea.mk
 case go=>
  intro holeb1 holeb2 holeb3 holeb4 holeb5
  have L0:=ls_start w (.slice b0 n0 m0) (.slice b1 n1 m1) (.slice b2 n2 m2) (.slice b3 n3 m3) (.slice b4 n4 m4) (.slice b5 n5 m5) (.slice b6 n6 m6)
  obtain⟨w0,hw0⟩:∃ w0,W0 w (.slice b0 n0 m0) (.slice b1 n1 m1) (.slice b2 n2 m2) (.slice b3 n3 m3) (.slice b4 n4 m4) (.slice b5 n5 m5) (.slice b6 n6 m6)=w0:=⟨_,rfl⟩
  have c52:=Uc.refparse9 (f 0) w0 (by have:=h0.len;omega) (lines_fields (by have:=h0.len;omega))
  rw [hw0] at L0
  have c0:w0.cell? ⟨w.heap.size,0,none⟩=some (.slice b0 n0 m0):=L0.bun 0 (by omega)
  have k0:(convert 22 9 (.slice b0 n0 m0)).run Tryz.prog w0=.ok (.string (bs (f 0))) w0:=conv22 m0 (h0.below L0.bel)
  have H0:=Lib.hid L0
  have hrows:=few_rows (f 0)
  rw [h0.len] at hrows
  obtain⟨bv,hbv⟩:∃ bv,bunV (.slice b0 n0 m0) (.slice b1 n1 m1) (.slice b2 n2 m2) (.slice b3 n3 m3) (.slice b4 n4 m4) (.slice b5 n5 m5) (.slice b6 n6 m6)=bv:=⟨_,rfl⟩
  rw [hbv] at H0
  have HO:Hid (∀ j,j<6→∃ b n m,bv (1+j)=.slice b n m∧Octs w b n (f (1+j))∧n≤3100):=Lib.hid (by
   subst hbv
   intro j hj
   match j,hj with
   | 0,_=>exact⟨_,_,_,rfl,h1,by omega⟩
   | 1,_=>exact⟨_,_,_,rfl,h2,by omega⟩
   | 2,_=>exact⟨_,_,_,rfl,h3,by omega⟩
   | 3,_=>exact⟨_,_,_,rfl,h4,by omega⟩
   | 4,_=>exact⟨_,_,_,rfl,h5,by omega⟩
   | 5,_=>exact⟨_,_,_,rfl,h6,by omega⟩)
  have HBV:Hid (bv 1=.slice b1 n1 m1∧bv 2=.slice b2 n2 m2∧bv 3=.slice b3 n3 m3∧bv 4=.slice b4 n4 m4∧bv 5=.slice b5 n5 m5):=Lib.hid (by subst hbv;exact⟨rfl,rfl,rfl,rfl,rfl⟩)
  have HP:Hid (Uc.parseOf (linesIn (f 0))=uF f):=Lib.hid rfl
  have HSPF:Hid ((spF f 0).length≤1000000):=Lib.hid (by have e2:=sp_many f 0;have e3:(f (1+0)).length=n1:=h1.len;omega)
  rw [HP.out] at hrows
  have hr5:(uF f).rows.length≤2000:=by omega
  have HR5:=Lib.hid hr5
  clear L0 hbv hrows hr5
  unfold W0 at hw0
  go_enter Tryz.func35,Tryz.ntmps35
  obtain⟨er,her⟩:∃ x,(uF f).err=x:=⟨_,rfl⟩
  obtain⟨nu,hnu⟩:∃ x,(uF f).num=x:=⟨_,rfl⟩
  have HE:=Lib.hid (And.intro her hnu)
  by_cases he:(uF f).err=0
  · rw [he] at her
    subst her
    have HLD:Hid (loadP f (uF f).rows 5 0=loadOf f):=Lib.hid (by unfold loadOf;rw [if_pos he])
    clear he hnu
    go_upto_region 6 with (go_at_call 55;(with_reducible refine c52.mono ?_);rintro e w1 ⟨hb1,R,c,ls,rfl,hR,hI⟩;rw [HP.out,HE.out.1,HE.out.2];obtain⟨L1,d0,df⟩:LS w w1 bv nilG∧(w1.cell? ⟨w.heap.size+1+1,0,none⟩=some (.slice none 0 0))∧(∀ i,w1.frozen? ⟨w.heap.size+1+1,i,none⟩=false):=by { have L:=H0.out.below (H0.out.lt) hb1;exact⟨L,L.ten.cel 0 (by omega),L.ten.fro⟩ })
    obtain⟨w2,hw2⟩:∃ w2,w1.setCell ⟨w.heap.size+1+1,0,none⟩ (.slice R ls.length c)=w2:=⟨_,rfl⟩
    have L2:LS w w2 bv (put1 nilG 0 (.slice R ls.length c)):=by rw [←hw2];exact L1.set (k:=0) (by omega) R ls.length c
    have R2:RowsIn w2 R ls.length ls (uF f).rows:=by rw [←hw2];exact rows_chg L1.ten (chg_set _ _ _ _) ⟨hR,hI⟩
    rw [hw2]
    obtain⟨e1,e2,e3,e4,e5⟩:=HBV.out
    have q1:w2.cell? ⟨w.heap.size,1,none⟩=some (.slice b1 n1 m1):=by rw [←e1];exact L2.bun 1 (by omega)
    have q2:w2.cell? ⟨w.heap.size,2,none⟩=some (.slice b2 n2 m2):=by rw [←e2];exact L2.bun 2 (by omega)
    have q3:w2.cell? ⟨w.heap.size,3,none⟩=some (.slice b3 n3 m3):=by rw [←e3];exact L2.bun 3 (by omega)
    have q4:w2.cell? ⟨w.heap.size,4,none⟩=some (.slice b4 n4 m4):=by rw [←e4];exact L2.bun 4 (by omega)
    have q5:w2.cell? ⟨w.heap.size,5,none⟩=some (.slice b5 n5 m5):=by rw [←e5];exact L2.bun 5 (by omega)
    obtain⟨w3,hw3⟩:∃ w3,w2.alloc (.cells #[.slice b1 n1 m1,.slice b2 n2 m2,.slice b3 n3 m3,.slice b4 n4 m4,.slice b5 n5 m5] 22)=w3:=⟨_,rfl⟩
    have P3:LP w w3 bv (put1 nilG 0 (.slice R ls.length c)) R ls.length c ls (uF f).rows w2.heap.size f 0:=by
     have hb3:Below w2.heap.size w2 w3:=by rw [←hw3];exact (Below.refl _ _).alloc (Nat.le_refl _) _
     refine⟨L2.below L2.lt hb3,put1_at _ _ _,R2.below hb3,fun j hj=>?_,L2.lt,fun j hj=>absurd hj (by omega),fun j hj=>put1_else _ _ (by omega)⟩
     rw [←hw3,new_at _ _ _ _ _ rfl]
     match j,hj with
     | 0,_=>rw [show 1+0=1 from rfl,e1];rfl
     | 1,_=>rw [show 1+1=2 from rfl,e2];rfl
     | 2,_=>rw [show 1+2=3 from rfl,e3];rfl
     | 3,_=>rw [show 1+3=4 from rfl,e4];rfl
     | 4,_=>rw [show 1+4=5 from rfl,e5];rfl
    have HI0:Hid (LpI w bv R ls.length c ls (uF f).rows w2.heap.size f (.int .i64 (0:Nat)) w3):=Lib.hid ⟨0,_,⟨rfl,by omega⟩,HLD.out,P3⟩
    obtain⟨F,hF⟩:∃ F,w2.heap.size=F:=⟨_,rfl⟩
    obtain⟨nr,hnr⟩:∃ n,ls.length=n:=⟨_,rfl⟩
    have HNR:Hid (nr=(uF f).rows.length):=Lib.hid (by rw [←hnr];exact R2.2.len)
    rw [hF,hnr] at HI0
    rw [hnr]
    clear hR hI hb1 L1 d0 df hw2 L2 R2 e1 e2 e3 e4 e5 P3 HLD hnr
    go_wp2
    go_loopw [9] (fun i wr=>LpI w bv R nr c ls (uF f).rows F f i wr) (fun i _=>5-(intOf i).toNat)
    case atStart=>exact HI0.out
    case round=>
     clear HI0 q1 q2 q3 q4 q5 c52 c0 k0 hw3 hF
     obtain⟨k,g,⟨rfl,hk⟩,hlo,hP⟩:=hrel
     by_cases hlt:k<5
     · rename_i z_b1_0 z_b1_1
       revert w0 hw0 bv H0 HO HBV HP HSPF HR5 nu HE w1 R c ls w2 w3 F nr HNR z_b1_0 z_b1_1 wr u2 u10 u11 u12 u51 u52 u53 u54 u55 u56 u57 u58 u59 u60 u61 u62 u63 u64 u65 u66 u67 u68 u69 u70 u71 u72 u73 u74 u75 u76 u77 u78 u79 u80 k g hk hlo hP hlt
       exact Hole.get holeb1
     · obtain rfl:k=5:=by omega
       obtain⟨fb,fn,fm,hbe,hoc,hfn⟩:=HO.out 5 (by omega)
       have hocl:(f 6).length=fn:=hoc.len
       have q6:wr.cell? ⟨w.heap.size,6,none⟩=some (.slice fb fn fm):=by rw [←hbe];exact hP.st.bun 6 (by omega)
       have k6:(convert 22 9 (.slice fb fn fm)).run Tryz.prog wr=.ok (.string (bs (f 6))) wr:=conv22 fm (hoc.below hP.st.bel)
       have c55:=Cf.rconf8 (f 6) wr (by omega) (lines_fields (by omega))
       have hlo1:load1 f (uF f).rows (spF f)=loadOf f:=hlo
       obtain⟨er6,her6⟩:∃ x,(cfF f).err=x:=⟨_,rfl⟩
       obtain⟨nu6,hnu6⟩:∃ x,(cfF f).num=x:=⟨_,rfl⟩
       by_cases he6:(cfF f).err=0
       · have hlo2:load2 (uF f).rows (spF f) (cfF f).rows=loadOf f:=by rw [←hlo1,load1,if_pos he6]
         rw [her6] at he6
         subst he6
         have d55:Calls Tryz.prog 58 #[.string (bs (f 6))] wr fun e W=>∃ A ca qs,e=.returned (.tuple #[.slice A (cfF f).rows.length ca,.int .i64 0,.int .i64 nu6])∧Hid (LP w W bv g R nr c ls (uF f).rows F f 5∧Cf.PAt W A (cfF f).rows.length qs∧Cf.IsPs W qs (cfF f).rows)∧W.cell? ⟨w.heap.size+1+1,6,none⟩=some (.slice none 0 0)∧∀ i,W.frozen? ⟨w.heap.size+1+1,i,none⟩=false:=c55.mono (by
          rintro e W ⟨hb,A,ca,qs,rfl,hh⟩
          have P5:=hP.below hb
          refine⟨A,ca,qs,by rw [←her6,←hnu6];rfl,Lib.hid ⟨P5,hh.out.1,hh.out.2⟩,?_,P5.st.ten.fro⟩
          rw [←P5.rest 6 (by omega)]
          exact P5.st.ten.cel 6 (by omega))
         obtain⟨cf,hcf⟩:∃ x,(cfF f).rows=x:=⟨_,rfl⟩
         rw [hcf] at d55 hlo2
         have HLO:=Lib.hid hlo2
         obtain⟨nc,hnc⟩:∃ x,cf.length=x:=⟨_,rfl⟩
         have HNC:=Lib.hid hnc
         rw [hnc] at d55
         clear hP hoc hbe hlo hlo1 hlo2 her6 hnu6 hcf hnc c55
         go_upto_region 18 with (go_at_call 58;(with_reducible refine d55.mono ?_);rintro e w4 ⟨A,ca,qs,rfl,hh,d6,df⟩)
         obtain⟨w5,hw5⟩:∃ w5,w4.setCell ⟨w.heap.size+1+1,6,none⟩ (.slice A nc ca)=w5:=⟨_,rfl⟩
         rw [hw5]
         have HQ:Hid (LQ w w5 bv (put1 g 6 (.slice A nc ca)) R nr ls (uF f).rows (spF f) cf):=Lib.hid (by
          obtain⟨x1,x2,x3⟩:=hh.out
          rw [←HNC.out] at x2 hw5 ⊢
          rw [←hw5]
          exact lq_start x1 x2 x3)
         have HG9:Hid (∀ i,7≤i→i<10→put1 g 6 (.slice A nc ca) i=.slice none 0 0):=Lib.hid (fun i h1 _=>by rw [put1_else _ _ (by omega)];exact hh.out.1.rest i (by omega))
         have HGD:Hid (Uc.Good (uF f).rows∧FlatR (uF f).rows):=Lib.hid ⟨Uc.good_ref _ [] Uc.good_nil,flat_parse _⟩
         obtain⟨ps,hps⟩:∃ ps,(uF f).rows=ps:=⟨_,rfl⟩
         rw [hps] at HLO HQ HGD HNR HR5
         obtain⟨g6,hg6⟩:∃ g6,put1 g 6 (.slice A nc ca)=g6:=⟨_,rfl⟩
         rw [hg6] at HQ HG9
         have HI0:Hid (ScI badK ps (fun W=>LQ w W bv g6 R nr ls ps (spF f) cf) (.int .i64 (0:Nat)) w5):=Lib.hid ⟨0,⟨rfl,Nat.zero_le _⟩,fun r h=>(by simp at h),HQ.out⟩
         clear hh d6 df hw5 hps hg6 HQ d55 q6 k6 HO HBV HP hlt hk hocl HE hfn
         go_wp2
         go_loopw [14] (fun i wr=>ScI badK ps (fun W=>LQ w W bv g6 R nr ls ps (spF f) cf) i wr) (fun i _=>nr-(intOf i).toNat)
         case atStart=>exact HI0.out
         case round=>
          clear HI0
          obtain⟨k,⟨rfl,hk⟩,hno,hQ⟩:=hrel
          have hnr:=HNR.out
          have hr5:=HR5.out
          by_cases hlt:k<nr
          · rename_i z_b2_0 z_b2_1 z_b2_2 z_b2_3 z_b2_4 z_b2_5 z_b2_6 z_b2_7
            subst z_b2_3
            clear z_b2_0 z_b2_1 z_b2_2 z_b2_4 z_b2_5
            revert w0 hw0 bv H0 HSPF nu w1 R c ls w2 w3 F nr u10 u11 u12 u51 u52 u53 u54 u55 u56 u57 u58 u59 u60 u61 u62 u63 u64 u65 u66 u67 u68 u69 u70 u71 u72 u73 u74 u75 u76 u77 u78 u79 u80 g fb fn fm nu6 cf nc HNC w4 A ca qs z_b2_6 z_b2_7 w5 ps HR5 HNR HGD HLO g6 HG9 wr u2 u98 u99 u100 u101 u102 u103 u104 u105 u106 u107 u108 u109 u110 u111 u112 u113 u114 u115 u116 u117 u118 u119 u120 u121 u122 u123 u124 u125 u126 k hk hno hQ hnr hr5 hlt
            exact Hole.get holeb2
          · have hT:touA ps=false:=sc_none (P:=badK) (by omega) hno
            have hlo3:load3 ps (spF f) cf=loadOf f:=by rw [←HLO.out,load2,if_neg (by rw [hT];simp)]
            have HL3:=Lib.hid hlo3
            have HI3:Hid (ScI (cycP ps) ps (fun W=>LQ w W bv g6 R nr ls ps (spF f) cf) (.int .i64 (0:Nat)) wr):=Lib.hid ⟨0,⟨rfl,Nat.zero_le _⟩,fun r h=>(by simp at h),hQ⟩
            have hkr:k=nr:=by omega
            subst hkr
            clear hT hlo3 hno hQ HLO hnr
            go_wp2
            go_loopw [15] (fun i wr=>ScI (cycP ps) ps (fun W=>LQ w W bv g6 R k ls ps (spF f) cf) i wr) (fun i _=>k-(intOf i).toNat)
            case atStart=>exact HI3.out
            case round=>
             clear HI3
             obtain⟨j,⟨rfl,hj⟩,hno,hQ⟩:=hrel
             have hnr:=HNR.out
             by_cases hlt3:j<k
             · rename_i z_b3_0 z_b3_1 z_b3_2 z_b3_3 z_b3_4 z_b3_5 z_b3_6 z_b3_7 z_b3_8 z_b3_9 z_b3_10 z_b3_11 z_b3_12 z_b3_13
               subst z_b3_7
               subst z_b3_9
               clear z_b3_0 z_b3_1 z_b3_2 z_b3_3 z_b3_4 z_b3_5 z_b3_6 z_b3_10 z_b3_8 z_b3_11
               revert w0 hw0 bv H0 HSPF nu w1 R c ls w2 w3 F u10 u11 u12 u51 u52 u53 u54 u55 u56 u57 u58 u59 u60 u61 u62 u63 u64 u65 u66 u67 u68 u69 u70 u71 u72 u73 u74 u75 u76 u77 u78 u79 u80 g fb fn fm nu6 cf nc HNC w4 A ca qs w5 ps HR5 HGD g6 HG9 u98 u99 u100 u101 u102 u103 u104 u105 u106 u107 u108 u109 u110 u111 u112 u113 u114 u115 u116 u117 u118 u119 u120 u121 u122 u123 u124 u125 u126 k hk hr5 HL3 HNR hlt z_b3_12 z_b3_13 wr u2 u127 u128 u129 u130 u131 u132 u133 u134 u135 u136 u137 u138 u139 u140 u141 u142 u143 u144 u145 u146 j hj hno hQ hnr hlt3
               exact Hole.get holeb3
             · have hT:cycB ps=false:=sc_none (P:=cycP ps) (by omega) hno
               have hlo4:load4 ps (spF f) cf=loadOf f:=by rw [←HL3.out,load3,if_neg (by rw [hT];simp)]
               have HL4:=Lib.hid hlo4
               have HEN:Hid (∀ c,Ends (dcf ps) ps.length c):=Lib.hid (no_cyc HGD.out.1 HGD.out.2 HR5.out hT)
               have HI4:Hid (ScI (longP ps) ps (fun W=>LQ w W bv g6 R k ls ps (spF f) cf) (.int .i64 (0:Nat)) wr):=Lib.hid ⟨0,⟨rfl,Nat.zero_le _⟩,fun r h=>(by simp at h),hQ⟩
               have hjr:j=k:=by omega
               subst hjr
               clear hT hlo4 hno hQ HL3 hnr
               go_wp2
               go_loopw [16] (fun i wr=>ScI (longP ps) ps (fun W=>LQ w W bv g6 R j ls ps (spF f) cf) i wr) (fun i _=>j-(intOf i).toNat)
               case atStart=>exact HI4.out
               case round=>
                clear HI4
                obtain⟨q,⟨rfl,hq⟩,hno,hQ⟩:=hrel
                have hnr:=HNR.out
                by_cases hlt4:q<j
                · rename_i z_b4_0 z_b4_1 z_b4_2 z_b4_3 z_b4_4 z_b4_5 z_b4_6 z_b4_7 z_b4_8 z_b4_9 z_b4_10 z_b4_11 z_b4_12 z_b4_13 z_b4_14 z_b4_15 z_b4_16 z_b4_17 z_b4_18 z_b4_19
                  subst z_b4_11
                  subst z_b4_13
                  subst z_b4_15
                  clear z_b4_0 z_b4_1 z_b4_2 z_b4_3 z_b4_4 z_b4_5 z_b4_6 z_b4_7 z_b4_8 z_b4_9 z_b4_10 z_b4_16 z_b4_12 z_b4_14 z_b4_17
                  revert w0 hw0 bv H0 HSPF nu w1 R c ls w2 w3 F u10 u11 u12 u51 u52 u53 u54 u55 u56 u57 u58 u59 u60 u61 u62 u63 u64 u65 u66 u67 u68 u69 u70 u71 u72 u73 u74 u75 u76 u77 u78 u79 u80 g fb fn fm nu6 cf nc HNC w4 A ca qs w5 ps HR5 HGD g6 HG9 u98 u99 u100 u101 u102 u103 u104 u105 u106 u107 u108 u109 u110 u111 u112 u113 u114 u115 u116 u117 u118 u119 u120 u121 u122 u123 u124 u125 u126 hr5 u127 u128 u129 u130 u131 u132 u133 u134 u135 u136 u137 u138 u139 u140 u141 u142 u143 u144 u145 u146 j hj HL4 HEN hk HNR hlt hlt3 z_b4_18 z_b4_19 wr u2 u147 u148 u149 u150 u151 u152 u153 u154 u155 u156 u157 u158 u159 u160 u161 q hq hno hQ hnr hlt4
                  exact Hole.get holeb4
                · have hT:longB ps=false:=sc_none (P:=longP ps) (by omega) hno
                  have HL5:Hid (load5 ps (spF f) cf=loadOf f):=Lib.hid (by rw [←HL4.out,load4,if_neg (by rw [hT];simp)])
                  have hqr:q=j:=by omega
                  subst hqr
                  obtain⟨W5,hW5⟩:∃ W5,W5=wr:=⟨_,rfl⟩
                  subst hW5
                  have HQ5:=Lib.hid hQ
                  have HI5:Hid (MrI w W5 bv g6 ps (spF f) (.int .i64 (0:Nat)) W5):=Lib.hid (mr_start hQ.st HG9.out)
                  clear hT hno hQ HL4 hnr HEN
                  go_wp2
                  go_loopw [17] (fun i wr=>MrI w W5 bv g6 ps (spF f) i wr) (fun i _=>q-(intOf i).toNat)
                  case atStart=>exact HI5.out
                  case round=>
                   clear HI5
                   obtain⟨k,out,g,L,⟨rfl,hk⟩,hmk,hL,hM⟩:=hrel
                   have hnr:=HNR.out
                   by_cases hlt5:k<q
                   · rename_i z_b5_0 z_b5_1 z_b5_2 z_b5_3 z_b5_4 z_b5_5 z_b5_6 z_b5_7 z_b5_8 z_b5_9 z_b5_10 z_b5_11 z_b5_12 z_b5_13 z_b5_14 z_b5_15 z_b5_16 z_b5_17 z_b5_18 z_b5_19 z_b5_20 z_b5_21 z_b5_22 z_b5_23 z_b5_24 z_b5_25 z_b5_26
                     subst z_b5_16
                     subst z_b5_18
                     subst z_b5_20
                     subst z_b5_22
                     clear z_b5_0 z_b5_1 z_b5_2 z_b5_3 z_b5_4 z_b5_5 z_b5_6 z_b5_7 z_b5_8 z_b5_9 z_b5_10 z_b5_11 z_b5_12 z_b5_13 z_b5_14 z_b5_15 z_b5_23 z_b5_17 z_b5_19 z_b5_21 z_b5_24
                     revert w0 hw0 bv H0 HSPF nu w1 R c ls w2 w3 F u10 u11 u12 u51 u52 u53 u54 u55 u56 u57 u58 u59 u60 u61 u62 u63 u64 u65 u66 u67 u68 u69 u70 u71 u72 u73 u74 u75 u76 u77 u78 u79 u80 fb fn fm nu6 cf nc HNC w4 A ca qs w5 ps HR5 HGD g6 HG9 u98 u99 u100 u101 u102 u103 u104 u105 u106 u107 u108 u109 u110 u111 u112 u113 u114 u115 u116 u117 u118 u119 u120 u121 u122 u123 u124 u125 u126 hr5 u127 u128 u129 u130 u131 u132 u133 u134 u135 u136 u137 u138 u139 u140 u141 u142 u143 u144 u145 u146 u147 u148 u149 u150 u151 u152 u153 u154 u155 u156 u157 u158 u159 u160 u161 q hq HL5 hj HNR hlt hlt3 hlt4 W5 HQ5 z_b5_25 z_b5_26 wr u2 u18 u19 u20 u162 u163 u164 u165 u166 u167 u168 u169 u170 u171 u172 u173 u174 u175 u176 u177 u178 u179 u180 u181 u182 u183 u184 u185 u186 u187 u188 u189 u190 u191 u192 u193 u194 u195 u196 u197 u198 u199 u200 u201 u202 u203 u204 u205 u206 u207 u208 u209 u210 u211 u212 u213 u214 u215 u216 u217 u218 u219 u220 u221 u222 u223 u224 u225 u226 u227 u228 u229 u230 u231 u232 u233 u234 u235 u236 u237 u238 u239 u240 u241 u242 u243 u244 u245 u246 u247 u248 u249 k out g L hk hmk hL hM hnr hlt5
                     exact Hole.get holeb5
                   · have hkq:k=q:=by omega
                     subst hkq
                     have hout:mkP (spF f 0) ps [] ps=some out:=by rw [←hmk.1,List.drop_of_length_le (by omega)];rfl
                     have R:Hid (LdPost f w (.returned (.tuple #[.pointer (some ⟨w.heap.size+1+1,0,none⟩),.agg #[.int .i64 0,.int .i64 0,.int .i64 0]])) (setR w wr 0 0 0)):=Lib.hid (ld_good HQ5.out hM hL HL5.out hout)
                     obtain⟨r0,r1,r2,fr⟩:=hM.st.rs
                     clear hmk hL hM hout hnr
                     go_wp2
                     refine bodyPost_ret (v:=.tuple #[.pointer (some ⟨w.heap.size+1+1,0,none⟩),.agg #[.int .i64 0,.int .i64 0,.int .i64 0]]) (by simp [results,Tryz.results35,go_sem,r0,r1,r2]) rfl ?_
                     exact R.out
       · have HLO:Hid (loadOf f=(⟨7,nu6,er6⟩,none)):=Lib.hid (by rw [←hlo1,load1,if_neg he6,her6,hnu6])
         rw [her6] at he6
         have heb:(er6==0)=false:=beq_false_of_ne he6
         have d55:Calls Tryz.prog 58 #[.string (bs (f 6))] wr fun e W=>∃ A n ca,e=.returned (.tuple #[.slice A n ca,.int .i64 er6,.int .i64 nu6])∧Hid (LS w W bv g)∧W.cell? ⟨w.heap.size+1,0,none⟩=some (.int .i64 0)∧W.cell? ⟨w.heap.size+1,1,none⟩=some (.int .i64 0)∧W.cell? ⟨w.heap.size+1,2,none⟩=some (.int .i64 0)∧∀ i,W.frozen? ⟨w.heap.size+1,i,none⟩=false:=c55.mono (by
          rintro e W ⟨hb,A,ca,qs,rfl,-⟩
          have P5:=hP.below hb
          exact⟨A,_,ca,by rw [←her6,←hnu6];rfl,Lib.hid P5.st,P5.st.rs⟩)
         clear hP hoc hbe hlo hlo1 her6 hnu6 c55
         go_wp2_with (go_at_call 58;(with_reducible refine d55.mono ?_);rintro e w4 ⟨A,n,ca,rfl,L4,r0,r1,r2,fr⟩)
         refine bodyPost_ret (v:=.tuple #[.pointer none,.agg #[.int .i64 7,.int .i64 nu6,.int .i64 er6]]) (by simp [results,Tryz.results35,go_sem,r0,r1,r2]) rfl ?_
         exact ld_bad L4.out HLO.out
  · have heb:(er==0)=false:=beq_false_of_ne (by rw [←her];exact he)
    have HL:Hid (loadOf f=(⟨1,nu,er⟩,none)):=Lib.hid (by unfold loadOf;rw [if_neg he,her,hnu])
    clear he her hnu
    go_wp2_with (go_at_call 55;(with_reducible refine c52.mono ?_);rintro e w1 ⟨hb1,A,c,ls,rfl,hR,hI⟩;rw [HP.out,HE.out.1,HE.out.2];obtain⟨L1,r0,r1,r2,fr⟩:LS w w1 bv nilG∧(w1.cell? ⟨w.heap.size+1,0,none⟩=some (.int .i64 0))∧(w1.cell? ⟨w.heap.size+1,1,none⟩=some (.int .i64 0))∧(w1.cell? ⟨w.heap.size+1,2,none⟩=some (.int .i64 0))∧(∀ i,w1.frozen? ⟨w.heap.size+1,i,none⟩=false):=by { have L:=H0.out.below (H0.out.lt) hb1;exact⟨L,L.rs⟩ })
    refine bodyPost_ret (v:=.tuple #[.pointer none,.agg #[.int .i64 1,.int .i64 nu,.int .i64 er]]) (by simp [results,Tryz.results35,go_sem,r0,r1,r2]) rfl ?_
    exact ld_bad L1 HL.out
end Go.Proofs.YtmellioacefjjaaGreatDoor
