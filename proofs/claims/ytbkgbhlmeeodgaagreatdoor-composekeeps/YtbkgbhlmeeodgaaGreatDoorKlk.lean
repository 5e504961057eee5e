/- keepsC6: a law of stage 10 walked. -/
import Derived.Test.YtbkgbhlmeeodgaaGreatDoorQc49
import Derived.Deep.QuietTactic
namespace Go.Proofs.YtbkgbhlmeeodgaaGreatDoor
open Go.RowKit Go.Shelf
attribute [local go_sem] Oper.semAt_some
def KpW (w W:World) (b:Nat) (ps:List Uc.Pr) (ms:List (Int×Int×Int)) (As:Option Addr) (ns:Nat) (s:List Int) (A1:Option Addr) (nc:Nat) (C:List Int) (A2:Option Addr) (nn:Nat) (Z:List Int):Prop:=
 Hdp w W b ps ms∧Vals W As ns (nums .i64 s)∧Vals W A1 nc (nums .i64 C)∧Vals W A2 nn (nums .i64 Z)
theorem KpW.on {w W W':World} {b:Nat} {ps:List Uc.Pr} {ms:List (Int×Int×Int)} {As:Option Addr} {ns:Nat} {s:List Int} {A1:Option Addr} {nc:Nat} {C:List Int} {A2:Option Addr} {nn:Nat} {Z:List Int} (h:KpW w W b ps ms As ns s A1 nc C A2 nn Z) (hb:Below W.heap.size W W'):KpW w W' b ps ms As ns s A1 nc C A2 nn Z:=
 ⟨h.1.on hb,h.2.1.below hb,h.2.2.1.below hb,h.2.2.2.below hb⟩
set_option maxRecDepth 100000 in
set_option maxHeartbeats 8000000 in
theorem keepsC6 (b0 b1 b2 b3 b4 b5 b6:Option Addr) (n0 n1 n2 n3 n4 n5 n6 m0 m1 m2 m3 m4 m5 m6:Nat) (f:Nat→List UInt8) (As:Option Addr) (ns cs:Nat) (s:List Int) (w:World) (h0:Octs w b0 n0 (f 0)) (h1:Octs w b1 n1 (f 1)) (h2:Octs w b2 n2 (f 2)) (h3:Octs w b3 n3 (f 3)) (h4:Octs w b4 n4 (f 4)) (h5:Octs w b5 n5 (f 5)) (h6:Octs w b6 n6 (f 6))
 (l0:n0≤1000000000000000) (l1:n1≤1000000000000000) (l2:n2≤1000000000000000) (l3:n3≤1000000000000000) (l4:n4≤1000000000000000) (l5:n5≤1000000000000000) (l6:n6≤1000000000000000) (hf7:∀ i,7≤i→f i = []) (hM:ML w) (hH:HanT w) (hs:Vals w As ns (nums .i64 s)) (hcps:ns≤cs∧(As=none→cs=0)) (hws:∀ z∈s,WfI z):
 Calls Tryz.prog 6 #[.agg #[.slice b0 n0 m0,.slice b1 n1 m1,.slice b2 n2 m2,.slice b3 n3 m3,.slice b4 n4 m4,.slice b5 n5 m5,.slice b6 n6 m6],.slice As ns cs] w fun e w'=>e=.returned (.bool true)∧Below w.heap.size w w':=by
 have C7:Hid (∀ W,BnB w W (.slice b0 n0 m0) (.slice b1 n1 m1) (.slice b2 n2 m2) (.slice b3 n3 m3) (.slice b4 n4 m4) (.slice b5 n5 m5) (.slice b6 n6 m6)→Calls Tryz.prog 27 #[] W fun e W'=>e=.returned (.bool true)∧BnB w W' (.slice b0 n0 m0) (.slice b1 n1 m1) (.slice b2 n2 m2) (.slice b3 n3 m3) (.slice b4 n4 m4) (.slice b5 n5 m5) (.slice b6 n6 m6)):=Lib.hid (fun W hW=>(awake27 W (ml_on hM hW.2) (hH.below hH.lt hW.2)).mono (by
  rintro e W' ⟨rfl,hb⟩
  exact⟨rfl,hW.below hb⟩))
 have C8:Hid (∀ W,BnB w W (.slice b0 n0 m0) (.slice b1 n1 m1) (.slice b2 n2 m2) (.slice b3 n3 m3) (.slice b4 n4 m4) (.slice b5 n5 m5) (.slice b6 n6 m6)→Calls Tryz.prog 10 #[.agg #[.slice b0 n0 m0,.slice b1 n1 m1,.slice b2 n2 m2,.slice b3 n3 m3,.slice b4 n4 m4,.slice b5 n5 m5,.slice b6 n6 m6]] W fun e W'=>e=.returned (.bool (decide (n0+n1+n2+n3+n4+n5+n6≤3000)))∧BnB w W' (.slice b0 n0 m0) (.slice b1 n1 m1) (.slice b2 n2 m2) (.slice b3 n3 m3) (.slice b4 n4 m4) (.slice b5 n5 m5) (.slice b6 n6 m6)):=Lib.hid (fun W hW=>(small8 b0 b1 b2 b3 b4 b5 b6 n0 n1 n2 n3 n4 n5 n6 m0 m1 m2 m3 m4 m5 m6 W l0 l1 l2 l3 l4 l5 l6).mono (by
  rintro e W' ⟨rfl,hb⟩
  exact⟨rfl,hW.below hb⟩))
 have H1:=Lib.hid (bnb_new w (.slice b0 n0 m0) (.slice b1 n1 m1) (.slice b2 n2 m2) (.slice b3 n3 m3) (.slice b4 n4 m4) (.slice b5 n5 m5) (.slice b6 n6 m6))
 by_cases hsm:n0+n1+n2+n3+n4+n5+n6≤3000
 · rw [decide_eq_true hsm] at C8
   by_cases hlns:ns≤40
   · have hlbs:decide (40<(ns:Int))=false:=decide_eq_false (by omega)
     have hfl:∀ i,(f i).length≤3000:=by
      intro i
      rcases Nat.lt_or_ge i 7 with hi | hi
      · match i,hi with
        | 0,_=>have:=h0.len;omega
        | 1,_=>have:=h1.len;omega
        | 2,_=>have:=h2.len;omega
        | 3,_=>have:=h3.len;omega
        | 4,_=>have:=h4.len;omega
        | 5,_=>have:=h5.len;omega
        | 6,_=>have:=h6.len;omega
      · rw [hf7 i hi];simp
     have C9:Hid (∀ W,BnB w W (.slice b0 n0 m0) (.slice b1 n1 m1) (.slice b2 n2 m2) (.slice b3 n3 m3) (.slice b4 n4 m4) (.slice b5 n5 m5) (.slice b6 n6 m6)→Calls Tryz.prog 23 #[.agg #[.slice b0 n0 m0,.slice b1 n1 m1,.slice b2 n2 m2,.slice b3 n3 m3,.slice b4 n4 m4,.slice b5 n5 m5,.slice b6 n6 m6]] W fun e W'=>BnB w W' (.slice b0 n0 m0) (.slice b1 n1 m1) (.slice b2 n2 m2) (.slice b3 n3 m3) (.slice b4 n4 m4) (.slice b5 n5 m5) (.slice b6 n6 m6)∧LoadPost f W e W'):=Lib.hid (fun W hW=>(load29 b0 b1 b2 b3 b4 b5 b6 n0 n1 n2 n3 n4 n5 n6 m0 m1 m2 m3 m4 m5 m6 f W (h0.below hW.2) (h1.below hW.2) (h2.below hW.2) (h3.below hW.2) (h4.below hW.2) (h5.below hW.2) (h6.below hW.2) (by omega) (fun i=>Nat.le_trans (hfl i) (by omega)) (ml_on hM hW.2) (hH.below hH.lt hW.2)).mono (fun e W' h=>⟨hW.below h.1,h⟩))
     by_cases hl:∃ d,loadOf f=(⟨0,0,0⟩,some d)
     · obtain⟨d,hl⟩:=hl
       have HF:Hid (Fits d.ps d.ms):=Lib.hid (load_fits hl (Nat.le_trans (hfl 0) (by omega)))
       have D9:Hid (∀ W,BnB w W (.slice b0 n0 m0) (.slice b1 n1 m1) (.slice b2 n2 m2) (.slice b3 n3 m3) (.slice b4 n4 m4) (.slice b5 n5 m5) (.slice b6 n6 m6)→Calls Tryz.prog 23 #[.agg #[.slice b0 n0 m0,.slice b1 n1 m1,.slice b2 n2 m2,.slice b3 n3 m3,.slice b4 n4 m4,.slice b5 n5 m5,.slice b6 n6 m6]] W fun e W'=>∃ b,e=.returned (.tuple #[.pointer (some ⟨b,0,none⟩),.agg #[.int .i64 0,.int .i64 0,.int .i64 0]])∧Hid (Hdp w W' b d.ps d.ms)):=Lib.hid (fun W hW=>(C9.out W hW).mono (by
        rintro e W' ⟨hw,-,⟨d',b,h,rfl,g1,g2,g3⟩ | ⟨x,h,rfl⟩⟩
        · rw [hl] at h
          injection h with _ h
          injection h with h
          subst h
          exact⟨b,rfl,Lib.hid ⟨hw.2,dpr_of g1 g2⟩⟩
        · rw [hl] at h;injection h with _ h;cases h))
       have HSs:=Lib.hid hs
       have HCs:=Lib.hid hcps
       have HWs:=Lib.hid hws
       have HNs:Hid (s.length=ns∧ns≤40):=Lib.hid ⟨by have:=hs.1;rwa [nlen] at this,hlns⟩
       obtain⟨ps,hps⟩:∃ ps,d.ps=ps:=⟨_,rfl⟩
       obtain⟨ms,hms⟩:∃ ms,d.ms=ms:=⟨_,rfl⟩
       rw [hps,hms] at HF D9
       clear C9 hl hps hms hfl h0 h1 h2 h3 h4 h5 h6 l0 l1 l2 l3 l4 l5 l6 hf7 hM hH hs hws hcps hsm
       go_enter Tryz.func6,Tryz.ntmps6
       go_upto_region 6 with (first
        | (go_at_call 23;(with_reducible refine (D9.out _ H8.out).mono ?_);rintro e W9 ⟨b,rfl,H9⟩)
        | (go_at_call 27;(with_reducible refine (C7.out _ H1.out).mono ?_);rintro e W7 ⟨rfl,H7'⟩;have H7:=Lib.hid H7';clear H7';obtain⟨⟨q0,q1,q2,q3,q4,q5,q6⟩,-⟩:=H7.out)
        | (go_at_call 10;(with_reducible refine (C8.out _ H7.out).mono ?_);rintro e W8 ⟨rfl,H8'⟩;have H8:=Lib.hid H8';clear H8';obtain⟨⟨q0,q1,q2,q3,q4,q5,q6⟩,-⟩:=H8.out))
       have HX:=Lib.hid (H9.out.on ((Below.refl _ _).alloc (Nat.le_refl _) (.cells #[.int .i64 0,.int .i64 0,.int .i64 0] 42)))
       obtain⟨X,hX⟩:∃ z,W9.alloc (.cells #[.int .i64 0,.int .i64 0,.int .i64 0] 42)=z:=⟨_,rfl⟩
       rw [hX] at HX ⊢
       clear hX H9 H8 H7 H1 C7 C8 D9 q0 q1 q2 q3 q4 q5 q6
       have hnl:ns≤40:=HNs.out.2
       obtain⟨Z,hZ⟩:∃ Z,nfd ps s=Z:=⟨_,rfl⟩
       obtain⟨C,hC⟩:∃ C,nfc ps ms s=C:=⟨_,rfl⟩
       obtain⟨nn,hnn⟩:∃ n,Z.length=n:=⟨_,rfl⟩
       obtain⟨nc,hnc⟩:∃ n,C.length=n:=⟨_,rfl⟩
       have hnb:nn≤480:=by
        have:=HF.out.fit.nlen s
        rw [hZ,hnn,HNs.out.1] at this
        omega
       have hcn:nc≤nn:=by rw [←hnc,←hnn,←hC,←hZ];exact nfc_len s
       have hCw:∀ x∈C,WfI x:=by rw [←hC];exact nfc_wf HF.out.fit HF.out.mks HF.out.low HWs.out
       have e1:nfd ps C=Z:=by rw [←hC,←hZ];exact HF.out.back s
       have e2:nfc ps ms C=C:=by rw [←hC];exact HF.out.again s
       have c32:Calls Tryz.prog 32 #[.pointer (some ⟨b,0,none⟩),.slice As ns cs] X fun e W=>∃ A1 c1,e=.returned (.slice A1 nc c1)∧Hid (Below X.heap.size X W∧Vals W A1 nc (nums .i64 C)):=(nfc32 b ps ms As ns cs s X HX.out.2 HF.out (HSs.out.below HX.out.1) HWs.out (by omega)).mono (by
        rintro e W ⟨A1,c1,rfl,h4,h5⟩
        rw [hC,hnc] at h5 ⊢
        exact⟨A1,c1,rfl,Lib.hid ⟨h4,own_now h5.out⟩⟩)
       have c19:Hid (∀ V A1,(Below X.heap.size X V∧Vals V A1 nc (nums .i64 C))→Calls Tryz.prog 19 #[.pointer (some ⟨b,0,none⟩),.slice As ns cs] V fun e W=>∃ A2 c2,e=.returned (.slice A2 nn c2)∧Hid (KpW w W b ps ms As ns s A1 nc C A2 nn Z)):=Lib.hid (fun V A1 ⟨hV,hA⟩=>(nfd17 b ps As ns cs s V (HX.out.on hV).2.1 HF.out.fit ((HSs.out.below HX.out.1).below hV) (by omega)).mono (by
        rintro e W ⟨A2,c2,rfl,h4,h5⟩
        rw [hZ,hnn] at h5 ⊢
        exact⟨A2,c2,rfl,Lib.hid ⟨(HX.out.on hV).on h4,((HSs.out.below HX.out.1).below hV).below h4,hA.below h4,own_now h5.out⟩⟩))
       have E19:Hid (∀ W A1 c1 A2,KpW w W b ps ms As ns s A1 nc C A2 nn Z→Calls Tryz.prog 19 #[.pointer (some ⟨b,0,none⟩),.slice A1 nc c1] W fun e W'=>∃ A3 c3,e=.returned (.slice A3 nn c3)∧Hid (KpW w W' b ps ms As ns s A1 nc C A2 nn Z∧Vals W' A3 nn (nums .i64 Z))):=Lib.hid (fun W A1 c1 A2 g=>(nfd17 b ps A1 nc c1 C W g.1.2.1 HF.out.fit g.2.2.1 (by omega)).mono (by
        rintro e W' ⟨A3,c3,rfl,h4,h5⟩
        rw [e1,hnn] at h5 ⊢
        exact⟨A3,c3,rfl,Lib.hid ⟨g.on h4,own_now h5.out⟩⟩))
       have E12a:Hid (∀ W A1 A2 c2 A3 c3,(KpW w W b ps ms As ns s A1 nc C A2 nn Z∧Vals W A3 nn (nums .i64 Z))→Calls Tryz.prog 12 #[.slice A3 nn c3,.slice A2 nn c2] W fun e W'=>e=.returned (.bool true)∧Hid (KpW w W' b ps ms As ns s A1 nc C A2 nn Z)):=Lib.hid (fun W A1 A2 c2 A3 c3 ⟨g,g2⟩=>(same17 A3 A2 nn c3 c2 Z W g2 g.2.2.2 (by omega)).mono (by
        rintro e W' ⟨rfl,q,rfl⟩
        exact⟨rfl,Lib.hid (g.on (below_drewN (Below.refl _ _) q))⟩))
       have E32:Hid (∀ W A1 c1 A2,KpW w W b ps ms As ns s A1 nc C A2 nn Z→Calls Tryz.prog 32 #[.pointer (some ⟨b,0,none⟩),.slice A1 nc c1] W fun e W'=>∃ A3 c3,e=.returned (.slice A3 nc c3)∧Hid (KpW w W' b ps ms As ns s A1 nc C A2 nn Z∧Vals W' A3 nc (nums .i64 C))):=Lib.hid (fun W A1 c1 A2 g=>(nfc32 b ps ms A1 nc c1 C W g.1.2 HF.out g.2.2.1 hCw (by omega)).mono (by
        rintro e W' ⟨A3,c3,rfl,h4,h5⟩
        rw [e2,hnc] at h5
        rw [e2,hnc]
        exact⟨A3,c3,rfl,Lib.hid ⟨g.on h4,own_now h5.out⟩⟩))
       have E12b:Hid (∀ W A1 c1 A2 A3 c3,(KpW w W b ps ms As ns s A1 nc C A2 nn Z∧Vals W A3 nc (nums .i64 C))→Calls Tryz.prog 12 #[.slice A3 nc c3,.slice A1 nc c1] W fun e W'=>e=.returned (.bool true)∧Hid (KpW w W' b ps ms As ns s A1 nc C A2 nn Z)):=Lib.hid (fun W A1 c1 A2 A3 c3 ⟨g,g2⟩=>(same17 A3 A1 nc c3 c1 C W g2 g.2.2.1 (by omega)).mono (by
        rintro e W' ⟨rfl,q,rfl⟩
        exact⟨rfl,Lib.hid (g.on (below_drewN (Below.refl _ _) q))⟩))
       have E34:Hid (∀ W A1 c1 A2,KpW w W b ps ms As ns s A1 nc C A2 nn Z→Calls Tryz.prog 34 #[.pointer (some ⟨b,0,none⟩),.slice A1 nc c1] W fun e W'=>e=.returned (.bool true)∧Hid (KpW w W' b ps ms As ns s A1 nc C A2 nn Z)):=Lib.hid (fun W A1 c1 A2 g=>(isC34 b ps ms A1 nc c1 C W g.1.2 HF.out g.2.2.1 hCw (by omega)).mono (by
        rintro e W' ⟨rfl,h4⟩
        exact⟨by rw [e2,decide_eq_true rfl],Lib.hid (g.on h4)⟩))
       have E36:Hid (∀ W A1 c1 A2,KpW w W b ps ms As ns s A1 nc C A2 nn Z→Calls Tryz.prog 36 #[.pointer (some ⟨b,0,none⟩),.slice As ns cs,.slice A1 nc c1] W fun e W'=>e=.returned (.bool true)∧Hid (Below w.heap.size w W')):=Lib.hid (fun W A1 c1 A2 g=>(same36 b ps As A1 ns cs nc c1 s C W g.1.2.1 HF.out.fit g.2.1 g.2.2.1 (by omega) (by omega)).mono (by
        rintro e W' ⟨rfl,h4⟩
        exact⟨by rw [e1,hZ,decide_eq_true rfl],Lib.hid (g.1.on h4).1⟩))
       have hb9:decide (nc≤nn)=true:=decide_eq_true hcn
       clear hZ hC hnn hnc hCw e1 e2
       go_wp2_with (first
        | (go_at_call 32;(with_reducible refine c32.mono ?_);rintro e W1 ⟨A1,c1,rfl,Y1⟩)
        | (go_at_call 19;(with_reducible refine (c19.out W1 A1 Y1.out).mono ?_);rintro e W2 ⟨A2,c2,rfl,YK⟩)
        | (go_at_call 19;(with_reducible refine (E19.out W2 A1 c1 A2 YK.out).mono ?_);rintro e W3 ⟨A3,c3,rfl,Y3⟩)
        | (go_at_call 12;(with_reducible refine (E12a.out W3 A1 A2 c2 A3 c3 Y3.out).mono ?_);rintro e W4 ⟨rfl,Y4⟩)
        | (go_at_call 32;(with_reducible refine (E32.out W4 A1 c1 A2 Y4.out).mono ?_);rintro e W5 ⟨A5,c5,rfl,Y5⟩)
        | (go_at_call 12;(with_reducible refine (E12b.out W5 A1 c1 A2 A5 c5 Y5.out).mono ?_);rintro e W6 ⟨rfl,Y6⟩)
        | (go_at_call 34;(with_reducible refine (E34.out W6 A1 c1 A2 Y6.out).mono ?_);rintro e W7 ⟨rfl,Y7⟩)
        | (go_at_call 36;(with_reducible refine (E36.out W7 A1 c1 A2 Y7.out).mono ?_);rintro e W8 ⟨rfl,Y8⟩))
       go_ret
       exact⟨rfl,Y8.out⟩
     · rcases hlo:loadOf f with ⟨⟨vf,vl,ve⟩,_ | d⟩
       · have hve:ve≠0:=(load_wrong hlo).1
         have hvb:(ve != 0)=true:=bne_iff_ne.2 hve
         have D9:Hid (∀ W,BnB w W (.slice b0 n0 m0) (.slice b1 n1 m1) (.slice b2 n2 m2) (.slice b3 n3 m3) (.slice b4 n4 m4) (.slice b5 n5 m5) (.slice b6 n6 m6)→Calls Tryz.prog 23 #[.agg #[.slice b0 n0 m0,.slice b1 n1 m1,.slice b2 n2 m2,.slice b3 n3 m3,.slice b4 n4 m4,.slice b5 n5 m5,.slice b6 n6 m6]] W fun e W'=>e=.returned (.tuple #[.pointer none,.agg #[.int .i64 vf,.int .i64 vl,.int .i64 ve]])∧Hid (Below w.heap.size w W')):=Lib.hid (fun W hW=>(C9.out W hW).mono (by
          rintro e W' ⟨hw,-,⟨d',b,h,rfl,g1,g2,g3⟩ | ⟨x,h,rfl⟩⟩
          · rw [hlo] at h;injection h with _ h;cases h
          · rw [hlo] at h;injection h with h _;subst h;exact⟨rfl,Lib.hid hw.2⟩))
         have HB:Hid (∀ W o,Below w.heap.size w W→Below w.heap.size w (W.alloc o)):=Lib.hid (fun W o h=>h.trans ((Below.refl _ _).alloc h.size _))
         clear C9 hl hlo hfl h0 h1 h2 h3 h4 h5 h6 l0 l1 l2 l3 l4 l5 l6 hf7 hM hH hs hws hcps hsm hve
         go_enter Tryz.func6,Tryz.ntmps6
         go_wp2_with (first
          | (go_at_call 23;(with_reducible refine (D9.out _ H8.out).mono ?_);rintro e W9 ⟨rfl,H9⟩)
          | (go_at_call 27;(with_reducible refine (C7.out _ H1.out).mono ?_);rintro e W7 ⟨rfl,H7'⟩;have H7:=Lib.hid H7';clear H7';obtain⟨⟨q0,q1,q2,q3,q4,q5,q6⟩,-⟩:=H7.out)
          | (go_at_call 10;(with_reducible refine (C8.out _ H7.out).mono ?_);rintro e W8 ⟨rfl,H8'⟩;have H8:=Lib.hid H8';clear H8';obtain⟨⟨q0,q1,q2,q3,q4,q5,q6⟩,-⟩:=H8.out))
         go_ret
         exact⟨rfl,HB.out _ _ H9.out⟩
       · exact absurd ⟨d,by rw [hlo,load_zero hlo]⟩ hl
   · have hlbs:decide (40<(ns:Int))=true:=decide_eq_true (by omega)
     clear h0 h1 h2 h3 h4 h5 h6 l0 l1 l2 l3 l4 l5 l6 hf7 hM hH hs hws hcps hsm
     go_enter Tryz.func6,Tryz.ntmps6
     go_wp2_with (first
      | (go_at_call 27;(with_reducible refine (C7.out _ H8.out).mono ?_);rintro e W9 ⟨rfl,H9'⟩;have H9:=Lib.hid H9';clear H9')
      | (go_at_call 27;(with_reducible refine (C7.out _ H1.out).mono ?_);rintro e W7 ⟨rfl,H7'⟩;have H7:=Lib.hid H7';clear H7';obtain⟨⟨q0,q1,q2,q3,q4,q5,q6⟩,-⟩:=H7.out)
      | (go_at_call 10;(with_reducible refine (C8.out _ H7.out).mono ?_);rintro e W8 ⟨rfl,H8'⟩;have H8:=Lib.hid H8';clear H8';obtain⟨⟨q0,q1,q2,q3,q4,q5,q6⟩,-⟩:=H8.out))
     go_ret
     exact⟨rfl,H9.out.2⟩
 · rw [decide_eq_false hsm] at C8
   clear h0 h1 h2 h3 h4 h5 h6 l0 l1 l2 l3 l4 l5 l6 hf7 hM hH hs hws hcps hsm
   go_enter Tryz.func6,Tryz.ntmps6
   go_wp2_with (first
    | (go_at_call 27;(with_reducible refine (C7.out _ H8.out).mono ?_);rintro e W9 ⟨rfl,H9'⟩;have H9:=Lib.hid H9';clear H9')
    | (go_at_call 27;(with_reducible refine (C7.out _ H1.out).mono ?_);rintro e W7 ⟨rfl,H7'⟩;have H7:=Lib.hid H7';clear H7';obtain⟨⟨q0,q1,q2,q3,q4,q5,q6⟩,-⟩:=H7.out)
    | (go_at_call 10;(with_reducible refine (C8.out _ H7.out).mono ?_);rintro e W8 ⟨rfl,H8'⟩;have H8:=Lib.hid H8';clear H8';obtain⟨⟨q0,q1,q2,q3,q4,q5,q6⟩,-⟩:=H8.out))
   go_ret
   exact⟨rfl,H9.out.2⟩
end Go.Proofs.YtbkgbhlmeeodgaaGreatDoor
