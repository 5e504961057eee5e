/- joinsC8: a law of stage 10 walked. -/
import Derived.Test.YtbkgbhlmeeodgaaGreatDoorQc49
import Derived.Deep.QuietTactic
namespace Go.Proofs.YtbkgbhlmeeodgaaGreatDoor
open Go.RowKit Go.Shelf
attribute [local go_sem] Oper.semAt_some
def JnW (w W:World) (b:Nat) (ps:List Uc.Pr) (ms:List (Int×Int×Int)) (As:Option Addr) (ns:Nat) (s:List Int) (At:Option Addr) (nt:Nat) (t:List Int):Prop:=
 Hdp w W b ps ms∧Vals W As ns (nums .i64 s)∧Vals W At nt (nums .i64 t)
theorem JnW.on {w W W':World} {b:Nat} {ps:List Uc.Pr} {ms:List (Int×Int×Int)} {As:Option Addr} {ns:Nat} {s:List Int} {At:Option Addr} {nt:Nat} {t:List Int} (h:JnW w W b ps ms As ns s At nt t) (hb:Below W.heap.size W W'):JnW w W' b ps ms As ns s At nt t:=
 ⟨h.1.on hb,h.2.1.below hb,h.2.2.below hb⟩
set_option maxRecDepth 100000 in
set_option maxHeartbeats 8000000 in
theorem joinsC8 (b0 b1 b2 b3 b4 b5 b6:Option Addr) (n0 n1 n2 n3 n4 n5 n6 m0 m1 m2 m3 m4 m5 m6:Nat) (f:Nat→List UInt8) (As:Option Addr) (ns cs:Nat) (s:List Int) (At:Option Addr) (nt ct:Nat) (t:List Int) (w:World) (h0:Octs w b0 n0 (f 0)) (h1:Octs w b1 n1 (f 1)) (h2:Octs w b2 n2 (f 2)) (h3:Octs w b3 n3 (f 3)) (h4:Octs w b4 n4 (f 4)) (h5:Octs w b5 n5 (f 5)) (h6:Octs w b6 n6 (f 6))
 (l0:n0≤1000000000000000) (l1:n1≤1000000000000000) (l2:n2≤1000000000000000) (l3:n3≤1000000000000000) (l4:n4≤1000000000000000) (l5:n5≤1000000000000000) (l6:n6≤1000000000000000) (hf7:∀ i,7≤i→f i = []) (hM:ML w) (hH:HanT w) (hs:Vals w As ns (nums .i64 s)) (hcps:ns≤cs∧(As=none→cs=0)) (hws:∀ z∈s,WfI z) (ht:Vals w At nt (nums .i64 t)) (hcpt:nt≤ct∧(At=none→ct=0)) (hwt:∀ z∈t,WfI z):
 Calls Tryz.prog 8 #[.agg #[.slice b0 n0 m0,.slice b1 n1 m1,.slice b2 n2 m2,.slice b3 n3 m3,.slice b4 n4 m4,.slice b5 n5 m5,.slice b6 n6 m6],.slice As ns cs,.slice At nt ct] w fun e w'=>e=.returned (.bool true)∧Below w.heap.size w w':=by
 have C7:Hid (∀ W,BnB w W (.slice b0 n0 m0) (.slice b1 n1 m1) (.slice b2 n2 m2) (.slice b3 n3 m3) (.slice b4 n4 m4) (.slice b5 n5 m5) (.slice b6 n6 m6)→Calls Tryz.prog 27 #[] W fun e W'=>e=.returned (.bool true)∧BnB w W' (.slice b0 n0 m0) (.slice b1 n1 m1) (.slice b2 n2 m2) (.slice b3 n3 m3) (.slice b4 n4 m4) (.slice b5 n5 m5) (.slice b6 n6 m6)):=Lib.hid (fun W hW=>(awake27 W (ml_on hM hW.2) (hH.below hH.lt hW.2)).mono (by
  rintro e W' ⟨rfl,hb⟩
  exact⟨rfl,hW.below hb⟩))
 have C8:Hid (∀ W,BnB w W (.slice b0 n0 m0) (.slice b1 n1 m1) (.slice b2 n2 m2) (.slice b3 n3 m3) (.slice b4 n4 m4) (.slice b5 n5 m5) (.slice b6 n6 m6)→Calls Tryz.prog 10 #[.agg #[.slice b0 n0 m0,.slice b1 n1 m1,.slice b2 n2 m2,.slice b3 n3 m3,.slice b4 n4 m4,.slice b5 n5 m5,.slice b6 n6 m6]] W fun e W'=>e=.returned (.bool (decide (n0+n1+n2+n3+n4+n5+n6≤3000)))∧BnB w W' (.slice b0 n0 m0) (.slice b1 n1 m1) (.slice b2 n2 m2) (.slice b3 n3 m3) (.slice b4 n4 m4) (.slice b5 n5 m5) (.slice b6 n6 m6)):=Lib.hid (fun W hW=>(small8 b0 b1 b2 b3 b4 b5 b6 n0 n1 n2 n3 n4 n5 n6 m0 m1 m2 m3 m4 m5 m6 W l0 l1 l2 l3 l4 l5 l6).mono (by
  rintro e W' ⟨rfl,hb⟩
  exact⟨rfl,hW.below hb⟩))
 have H1:=Lib.hid (bnb_new w (.slice b0 n0 m0) (.slice b1 n1 m1) (.slice b2 n2 m2) (.slice b3 n3 m3) (.slice b4 n4 m4) (.slice b5 n5 m5) (.slice b6 n6 m6))
 by_cases hsm:n0+n1+n2+n3+n4+n5+n6≤3000
 · rw [decide_eq_true hsm] at C8
   by_cases hlns:ns≤20
   · have hlbs:decide (20<(ns:Int))=false:=decide_eq_false (by omega)
     by_cases hlnt:nt≤20
     · have hlbt:decide (20<(nt:Int))=false:=decide_eq_false (by omega)
       have hfl:∀ i,(f i).length≤3000:=by
        intro i
        rcases Nat.lt_or_ge i 7 with hi | hi
        · match i,hi with
          | 0,_=>have:=h0.len;omega
          | 1,_=>have:=h1.len;omega
          | 2,_=>have:=h2.len;omega
          | 3,_=>have:=h3.len;omega
          | 4,_=>have:=h4.len;omega
          | 5,_=>have:=h5.len;omega
          | 6,_=>have:=h6.len;omega
        · rw [hf7 i hi];simp
       have C9:Hid (∀ W,BnB w W (.slice b0 n0 m0) (.slice b1 n1 m1) (.slice b2 n2 m2) (.slice b3 n3 m3) (.slice b4 n4 m4) (.slice b5 n5 m5) (.slice b6 n6 m6)→Calls Tryz.prog 23 #[.agg #[.slice b0 n0 m0,.slice b1 n1 m1,.slice b2 n2 m2,.slice b3 n3 m3,.slice b4 n4 m4,.slice b5 n5 m5,.slice b6 n6 m6]] W fun e W'=>BnB w W' (.slice b0 n0 m0) (.slice b1 n1 m1) (.slice b2 n2 m2) (.slice b3 n3 m3) (.slice b4 n4 m4) (.slice b5 n5 m5) (.slice b6 n6 m6)∧LoadPost f W e W'):=Lib.hid (fun W hW=>(load29 b0 b1 b2 b3 b4 b5 b6 n0 n1 n2 n3 n4 n5 n6 m0 m1 m2 m3 m4 m5 m6 f W (h0.below hW.2) (h1.below hW.2) (h2.below hW.2) (h3.below hW.2) (h4.below hW.2) (h5.below hW.2) (h6.below hW.2) (by omega) (fun i=>Nat.le_trans (hfl i) (by omega)) (ml_on hM hW.2) (hH.below hH.lt hW.2)).mono (fun e W' h=>⟨hW.below h.1,h⟩))
       by_cases hl:∃ d,loadOf f=(⟨0,0,0⟩,some d)
       · obtain⟨d,hl⟩:=hl
         have HF:Hid (Fits d.ps d.ms):=Lib.hid (load_fits hl (Nat.le_trans (hfl 0) (by omega)))
         have D9:Hid (∀ W,BnB w W (.slice b0 n0 m0) (.slice b1 n1 m1) (.slice b2 n2 m2) (.slice b3 n3 m3) (.slice b4 n4 m4) (.slice b5 n5 m5) (.slice b6 n6 m6)→Calls Tryz.prog 23 #[.agg #[.slice b0 n0 m0,.slice b1 n1 m1,.slice b2 n2 m2,.slice b3 n3 m3,.slice b4 n4 m4,.slice b5 n5 m5,.slice b6 n6 m6]] W fun e W'=>∃ b,e=.returned (.tuple #[.pointer (some ⟨b,0,none⟩),.agg #[.int .i64 0,.int .i64 0,.int .i64 0]])∧Hid (Hdp w W' b d.ps d.ms)):=Lib.hid (fun W hW=>(C9.out W hW).mono (by
          rintro e W' ⟨hw,-,⟨d',b,h,rfl,g1,g2,g3⟩ | ⟨x,h,rfl⟩⟩
          · rw [hl] at h
            injection h with _ h
            injection h with h
            subst h
            exact⟨b,rfl,Lib.hid ⟨hw.2,dpr_of g1 g2⟩⟩
          · rw [hl] at h;injection h with _ h;cases h))
         have HSs:=Lib.hid hs
         have HCs:=Lib.hid hcps
         have HWs:=Lib.hid hws
         have HNs:Hid (s.length=ns∧ns≤20):=Lib.hid ⟨by have:=hs.1;rwa [nlen] at this,hlns⟩
         have HSt:=Lib.hid ht
         have HCt:=Lib.hid hcpt
         have HWt:=Lib.hid hwt
         have HNt:Hid (t.length=nt∧nt≤20):=Lib.hid ⟨by have:=ht.1;rwa [nlen] at this,hlnt⟩
         obtain⟨ps,hps⟩:∃ ps,d.ps=ps:=⟨_,rfl⟩
         obtain⟨ms,hms⟩:∃ ms,d.ms=ms:=⟨_,rfl⟩
         rw [hps,hms] at HF D9
         clear C9 hl hps hms hfl h0 h1 h2 h3 h4 h5 h6 l0 l1 l2 l3 l4 l5 l6 hf7 hM hH hs hws hcps ht hwt hcpt hsm
         go_enter Tryz.func8,Tryz.ntmps8
         go_upto_region 6 with (first
          | (go_at_call 23;(with_reducible refine (D9.out _ H8.out).mono ?_);rintro e W9 ⟨b,rfl,H9⟩)
          | (go_at_call 27;(with_reducible refine (C7.out _ H1.out).mono ?_);rintro e W7 ⟨rfl,H7'⟩;have H7:=Lib.hid H7';clear H7';obtain⟨⟨q0,q1,q2,q3,q4,q5,q6⟩,-⟩:=H7.out)
          | (go_at_call 10;(with_reducible refine (C8.out _ H7.out).mono ?_);rintro e W8 ⟨rfl,H8'⟩;have H8:=Lib.hid H8';clear H8';obtain⟨⟨q0,q1,q2,q3,q4,q5,q6⟩,-⟩:=H8.out))
         have HX:=Lib.hid (H9.out.on ((Below.refl _ _).alloc (Nat.le_refl _) (.cells #[.int .i64 0,.int .i64 0,.int .i64 0] 42)))
         obtain⟨X,hX⟩:∃ z,W9.alloc (.cells #[.int .i64 0,.int .i64 0,.int .i64 0] 42)=z:=⟨_,rfl⟩
         rw [hX] at HX ⊢
         clear hX H9 H8 H7 H1 C7 C8 D9 q0 q1 q2 q3 q4 q5 q6
         have hnl:ns≤20:=HNs.out.2
         have hnl2:nt≤20:=HNt.out.2
         have HJ:Hid (JnW w X b ps ms As ns s At nt t):=Lib.hid ⟨HX.out,HSs.out.below HX.out.1,HSt.out.below HX.out.1⟩
         obtain⟨P1,hP1⟩:∃ Z,nfc ps ms s=Z:=⟨_,rfl⟩
         obtain⟨P2,hP2⟩:∃ Z,nfc ps ms t=Z:=⟨_,rfl⟩
         obtain⟨D1,hD1⟩:∃ Z,nfd ps s=Z:=⟨_,rfl⟩
         obtain⟨D2,hD2⟩:∃ Z,nfd ps t=Z:=⟨_,rfl⟩
         obtain⟨U,hU⟩:∃ Z,nfc ps ms (s++t)=Z:=⟨_,rfl⟩
         obtain⟨p1,hp1⟩:∃ n,P1.length=n:=⟨_,rfl⟩
         obtain⟨p2,hp2⟩:∃ n,P2.length=n:=⟨_,rfl⟩
         obtain⟨d1,hd1⟩:∃ n,D1.length=n:=⟨_,rfl⟩
         obtain⟨d2,hd2⟩:∃ n,D2.length=n:=⟨_,rfl⟩
         obtain⟨u,hu⟩:∃ n,U.length=n:=⟨_,rfl⟩
         obtain⟨pN,hpN⟩:∃ n,p1+p2=n:=⟨_,rfl⟩
         obtain⟨dN,hdN⟩:∃ n,d1+d2=n:=⟨_,rfl⟩
         obtain⟨nN,hnN⟩:∃ n,ns+nt=n:=⟨_,rfl⟩
         have hdb:d1≤240∧d2≤240:=by
          have q1:=HF.out.fit.nlen s
          have q2:=HF.out.fit.nlen t
          rw [hD1,hd1,HNs.out.1] at q1
          rw [hD2,hd2,HNt.out.1] at q2
          omega
         obtain⟨hdb1,hdb2⟩:=hdb
         have hpb1:p1≤d1:=by rw [←hp1,←hd1,←hP1,←hD1];exact nfc_len s
         have hpb2:p2≤d2:=by rw [←hp2,←hd2,←hP2,←hD2];exact nfc_len t
         have hub:u≤480:=by
          have q1:=HF.out.fit.nlen (s++t)
          have q2:=nfc_len (ps:=ps) (ms:=ms) (s++t)
          rw [List.length_append,HNs.out.1,HNt.out.1] at q1
          rw [hU,hu] at q2
          omega
         have hst:∀ x∈s++t,WfI x:=fun x hx=>(List.mem_append.1 hx).elim (HWs.out x) (HWt.out x)
         have hpp:∀ x∈P1++P2,WfI x:=fun x hx=>(List.mem_append.1 hx).elim (fun h=>nfc_wf HF.out.fit HF.out.mks HF.out.low HWs.out x (by rw [hP1];exact h)) (fun h=>nfc_wf HF.out.fit HF.out.mks HF.out.low HWt.out x (by rw [hP2];exact h))
         have hdd:∀ x∈D1++D2,WfI x:=fun x hx=>(List.mem_append.1 hx).elim (fun h=>nfd_wf HF.out.fit HF.out.low HWs.out x (by rw [hD1];exact h)) (fun h=>nfd_wf HF.out.fit HF.out.low HWt.out x (by rw [hD2];exact h))
         have hUp:nfc ps ms (P1++P2)=U:=by rw [←hP1,←hP2,←hU];exact HF.out.joinC s t
         have hUd:nfc ps ms (D1++D2)=U:=by rw [←hD1,←hD2,←hU];exact HF.out.joinD s t
         have NC:Hid (∀ V A n c (l:List Int),n≤5000→(∀ x∈l,WfI x)→Vals V A n (nums .i64 l)→JnW w V b ps ms As ns s At nt t→Calls Tryz.prog 32 #[.pointer (some ⟨b,0,none⟩),.slice A n c] V (ApO V (nfc ps ms l))):=Lib.hid (fun V A n c l hn hw hV h=>nfc32 b ps ms A n c l V h.1.2 HF.out hV hw hn)
         have KCs:Hid (∀ V,JnW w V b ps ms As ns s At nt t→Calls Tryz.prog 32 #[.pointer (some ⟨b,0,none⟩),.slice As ns cs] V fun e W=>∃ A5 c5,e=.returned (.slice A5 p1 c5)∧Below V.heap.size V W∧Vals W A5 p1 (nums .i64 P1)):=Lib.hid (fun V h=>(NC.out V As ns cs s (by omega) HWs.out h.2.1 h).mono (by
          rintro e W ⟨A5,c5,rfl,h4,h5⟩
          rw [hP1,hp1] at h5 ⊢
          exact⟨A5,c5,rfl,h4,own_now h5.out⟩))
         have KCt:Hid (∀ V,JnW w V b ps ms As ns s At nt t→Calls Tryz.prog 32 #[.pointer (some ⟨b,0,none⟩),.slice At nt ct] V fun e W=>∃ A5 c5,e=.returned (.slice A5 p2 c5)∧Below V.heap.size V W∧Vals W A5 p2 (nums .i64 P2)):=Lib.hid (fun V h=>(NC.out V At nt ct t (by omega) HWt.out h.2.2 h).mono (by
          rintro e W ⟨A5,c5,rfl,h4,h5⟩
          rw [hP2,hp2] at h5 ⊢
          exact⟨A5,c5,rfl,h4,own_now h5.out⟩))
         have KDs:Hid (∀ V,JnW w V b ps ms As ns s At nt t→Calls Tryz.prog 19 #[.pointer (some ⟨b,0,none⟩),.slice As ns cs] V fun e W=>∃ A5 c5,e=.returned (.slice A5 d1 c5)∧Below V.heap.size V W∧Vals W A5 d1 (nums .i64 D1)):=Lib.hid (fun V h=>(nfd17 b ps As ns cs s V h.1.2.1 HF.out.fit h.2.1 (by omega)).mono (by
          rintro e W ⟨A5,c5,rfl,h4,h5⟩
          rw [hD1,hd1] at h5 ⊢
          exact⟨A5,c5,rfl,h4,own_now h5.out⟩))
         have KDt:Hid (∀ V,JnW w V b ps ms As ns s At nt t→Calls Tryz.prog 19 #[.pointer (some ⟨b,0,none⟩),.slice At nt ct] V fun e W=>∃ A5 c5,e=.returned (.slice A5 d2 c5)∧Below V.heap.size V W∧Vals W A5 d2 (nums .i64 D2)):=Lib.hid (fun V h=>(nfd17 b ps At nt ct t V h.1.2.1 HF.out.fit h.2.2 (by omega)).mono (by
          rintro e W ⟨A5,c5,rfl,h4,h5⟩
          rw [hD2,hd2] at h5 ⊢
          exact⟨A5,c5,rfl,h4,own_now h5.out⟩))
         have NU:Hid (∀ V A n c (l:List Int),n≤5000→(∀ x∈l,WfI x)→nfc ps ms l=U→Vals V A n (nums .i64 l)→JnW w V b ps ms As ns s At nt t→Calls Tryz.prog 32 #[.pointer (some ⟨b,0,none⟩),.slice A n c] V fun e W=>∃ A5 c5,e=.returned (.slice A5 u c5)∧Below V.heap.size V W∧Vals W A5 u (nums .i64 U)):=Lib.hid (fun V A n c l hn hw hl hV h=>(NC.out V A n c l hn hw hV h).mono (by
          rintro e W ⟨A5,c5,rfl,h4,h5⟩
          rw [hl,hu] at h5
          rw [hl,hu]
          exact⟨A5,c5,rfl,h4,own_now h5.out⟩))
         have HU:=Lib.hid (And.intro hUp (And.intro hUd hU))
         have HWW:=Lib.hid (And.intro hst (And.intro hpp hdd))
         clear hst hpp hdd hUp hUd hU hP1 hP2 hD1 hD2 hp1 hp2 hd1 hd2 hu NC
         -- s and t,one behind the other
         have G6:Hid (AppH X (X.alloc (.cells #[] 3)) (.slice (some ⟨X.heap.size,0,none⟩) 0 0) 0 [] As ns s):=Lib.hid (by
          have ha:Below X.heap.size X (X.alloc (.cells #[] 3)):=(Below.refl _ _).alloc (Nat.le_refl _) _
          exact⟨own_empty X (Nat.le_refl _),HJ.out.2.1.below ha,ha⟩)
         have G7:Hid (∀ V A c,AppR X V A ns c ([]++s)→AppH X V (.slice A ns c) ns s At nt t):=Lib.hid (fun V A c ⟨g1,g2⟩=>⟨g1,HJ.out.2.2.below g2,g2⟩)
         go_upto_region 7 with (first
          | (at_builtin;refine list_app9 X rfl (.tmp 41) (.tmp 42) rfl _ 0 [] rfl As ns cs s rfl G6.out ns (Nat.zero_add _) (by omega) ?_;intro A6 c6 W6 Y6)
          | (at_builtin;refine list_app9 X rfl (.tmp 43) (.tmp 44) rfl _ ns s rfl At nt ct t rfl (G7.out W6 A6 c6 Y6.out) nN hnN (by omega) ?_;intro A7 c7 W7 Y7))
         have J7:Hid (JnW w W7 b ps ms As ns s At nt t∧Vals W7 A7 nN (nums .i64 (s++t))):=Lib.hid ⟨HJ.out.on Y7.out.2,own_now Y7.out.1⟩
         have J7j:Hid (JnW w W7 b ps ms As ns s At nt t):=Lib.hid J7.out.1
         clear G6 G7 Y6 Y7 HJ
         have Gx:Hid (∀ W1 A5,(Below (W7.alloc (.cells #[] 3)).heap.size (W7.alloc (.cells #[] 3)) W1∧Vals W1 A5 p1 (nums .i64 P1))→AppH W7 W1 (.slice (some ⟨W7.heap.size,0,none⟩) 0 0) 0 [] A5 p1 P1):=Lib.hid (fun W1 A5 ⟨g1,g2⟩=>by
          have ha:Below W7.heap.size W7 (W7.alloc (.cells #[] 3)):=(Below.refl _ _).alloc (Nat.le_refl _) _
          exact⟨own_below (own_empty W7 (Nat.le_refl _)) g1 (Nat.le_refl _),g2,ha.trans (g1.mono ha.size)⟩)
         have KCx:Hid (∀ V A6 c6,AppR W7 V A6 p1 c6 ([]++P1)→Calls Tryz.prog 32 #[.pointer (some ⟨b,0,none⟩),.slice At nt ct] V fun e W=>∃ A7 c7,e=.returned (.slice A7 p2 c7)∧Hid (AppH W7 W (.slice A6 p1 c6) p1 P1 A7 p2 P2)):=Lib.hid (fun V A6 c6 ⟨g1,g2⟩=>(KCt.out V (J7j.out.on g2)).mono (by
          rintro e W ⟨A7,c7,rfl,h4,h5⟩
          exact⟨A7,c7,rfl,Lib.hid ⟨own_below g1 h4 (Nat.le_refl _),h5,g2.trans (h4.mono g2.size)⟩⟩))
         have KAx:Calls Tryz.prog 32 #[.pointer (some ⟨b,0,none⟩),.slice As ns cs] (W7.alloc (.cells #[] 3)) fun e W=>∃ A5 c5,e=.returned (.slice A5 p1 c5)∧Hid (Below (W7.alloc (.cells #[] 3)).heap.size (W7.alloc (.cells #[] 3)) W∧Vals W A5 p1 (nums .i64 P1)):=(KCs.out _ (J7j.out.on ((Below.refl _ _).alloc (Nat.le_refl _) _))).mono (by
          rintro e W ⟨A5,c5,rfl,h4,h5⟩
          exact⟨A5,c5,rfl,Lib.hid ⟨h4,h5⟩⟩)
         go_upto_region 8 with (first
          | (go_at_call 32;(with_reducible refine KAx.mono ?_);rintro e W1x ⟨A5x,c5x,rfl,Y1x⟩)
          | (at_builtin;refine list_app9 W7 rfl (.tmp 46) (.tmp 49) rfl _ 0 [] rfl A5x p1 c5x P1 rfl (Gx.out W1x A5x Y1x.out) p1 (Nat.zero_add _) (by omega) ?_;intro A6x c6x W6x Y6x)
          | (go_at_call 32;(with_reducible refine (KCx.out W6x A6x c6x Y6x.out).mono ?_);rintro e W7x ⟨A7x,c7x,rfl,Y7x⟩)
          | (at_builtin;refine list_app9 W7 rfl (.tmp 50) (.tmp 53) rfl _ p1 P1 rfl A7x p2 c7x P2 rfl Y7x.out pN hpN (by omega) ?_;intro A8 c8 W8 Y8))
         have J8:Hid (JnW w W8 b ps ms As ns s At nt t∧Vals W8 A7 nN (nums .i64 (s++t))∧Vals W8 A8 pN (nums .i64 (P1++P2))):=Lib.hid ⟨J7j.out.on Y8.out.2,J7.out.2.below Y8.out.2,own_now Y8.out.1⟩
         have J8j:Hid (JnW w W8 b ps ms As ns s At nt t):=Lib.hid J8.out.1
         clear Gx KCx KAx Y1x Y6x Y7x Y8 J7 J7j
         have Gy:Hid (∀ W1 A5,(Below (W8.alloc (.cells #[] 3)).heap.size (W8.alloc (.cells #[] 3)) W1∧Vals W1 A5 d1 (nums .i64 D1))→AppH W8 W1 (.slice (some ⟨W8.heap.size,0,none⟩) 0 0) 0 [] A5 d1 D1):=Lib.hid (fun W1 A5 ⟨g1,g2⟩=>by
          have ha:Below W8.heap.size W8 (W8.alloc (.cells #[] 3)):=(Below.refl _ _).alloc (Nat.le_refl _) _
          exact⟨own_below (own_empty W8 (Nat.le_refl _)) g1 (Nat.le_refl _),g2,ha.trans (g1.mono ha.size)⟩)
         have KCy:Hid (∀ V A6 c6,AppR W8 V A6 d1 c6 ([]++D1)→Calls Tryz.prog 19 #[.pointer (some ⟨b,0,none⟩),.slice At nt ct] V fun e W=>∃ A7 c7,e=.returned (.slice A7 d2 c7)∧Hid (AppH W8 W (.slice A6 d1 c6) d1 D1 A7 d2 D2)):=Lib.hid (fun V A6 c6 ⟨g1,g2⟩=>(KDt.out V (J8j.out.on g2)).mono (by
          rintro e W ⟨A7,c7,rfl,h4,h5⟩
          exact⟨A7,c7,rfl,Lib.hid ⟨own_below g1 h4 (Nat.le_refl _),h5,g2.trans (h4.mono g2.size)⟩⟩))
         have KAy:Calls Tryz.prog 19 #[.pointer (some ⟨b,0,none⟩),.slice As ns cs] (W8.alloc (.cells #[] 3)) fun e W=>∃ A5 c5,e=.returned (.slice A5 d1 c5)∧Hid (Below (W8.alloc (.cells #[] 3)).heap.size (W8.alloc (.cells #[] 3)) W∧Vals W A5 d1 (nums .i64 D1)):=(KDs.out _ (J8j.out.on ((Below.refl _ _).alloc (Nat.le_refl _) _))).mono (by
          rintro e W ⟨A5,c5,rfl,h4,h5⟩
          exact⟨A5,c5,rfl,Lib.hid ⟨h4,h5⟩⟩)
         go_upto_region 9 with (first
          | (go_at_call 19;(with_reducible refine KAy.mono ?_);rintro e W1y ⟨A5y,c5y,rfl,Y1y⟩)
          | (at_builtin;refine list_app9 W8 rfl (.tmp 55) (.tmp 58) rfl _ 0 [] rfl A5y d1 c5y D1 rfl (Gy.out W1y A5y Y1y.out) d1 (Nat.zero_add _) (by omega) ?_;intro A6y c6y W6y Y6y)
          | (go_at_call 19;(with_reducible refine (KCy.out W6y A6y c6y Y6y.out).mono ?_);rintro e W7y ⟨A7y,c7y,rfl,Y7y⟩)
          | (at_builtin;refine list_app9 W8 rfl (.tmp 59) (.tmp 62) rfl _ d1 D1 rfl A7y d2 c7y D2 rfl Y7y.out dN hdN (by omega) ?_;intro A9 c9 W9 Y9))
         have J9:Hid (JnW w W9 b ps ms As ns s At nt t∧Vals W9 A7 nN (nums .i64 (s++t))∧Vals W9 A8 pN (nums .i64 (P1++P2))∧Vals W9 A9 dN (nums .i64 (D1++D2))):=Lib.hid ⟨J8j.out.on Y9.out.2,J8.out.2.1.below Y9.out.2,J8.out.2.2.below Y9.out.2,own_now Y9.out.1⟩
         have F1:Calls Tryz.prog 32 #[.pointer (some ⟨b,0,none⟩),.slice A7 nN c7] W9 fun e W=>∃ A5 c5,e=.returned (.slice A5 u c5)∧Hid (Below W9.heap.size W9 W∧Vals W A5 u (nums .i64 U)):=(NU.out W9 A7 nN c7 (s++t) (by omega) HWW.out.1 HU.out.2.2 J9.out.2.1 J9.out.1).mono (by
          rintro e W ⟨A5,c5,rfl,h4,h5⟩
          exact⟨A5,c5,rfl,Lib.hid ⟨h4,h5⟩⟩)
         have F2:Hid (∀ V B,(Below W9.heap.size W9 V∧Vals V B u (nums .i64 U))→Calls Tryz.prog 32 #[.pointer (some ⟨b,0,none⟩),.slice A8 pN c8] V fun e W=>∃ A5 c5,e=.returned (.slice A5 u c5)∧Hid ((Below W9.heap.size W9 W∧Vals W B u (nums .i64 U))∧Vals W A5 u (nums .i64 U))):=Lib.hid (fun V B ⟨g1,g2⟩=>(NU.out V A8 pN c8 (P1++P2) (by omega) HWW.out.2.1 HU.out.1 (J9.out.2.2.1.below g1) (J9.out.1.on g1)).mono (by
          rintro e W ⟨A5,c5,rfl,h4,h5⟩
          exact⟨A5,c5,rfl,Lib.hid ⟨⟨g1.trans (h4.mono g1.size),g2.below h4⟩,h5⟩⟩))
         have F3:Hid (∀ V B,(Below W9.heap.size W9 V∧Vals V B u (nums .i64 U))→Calls Tryz.prog 32 #[.pointer (some ⟨b,0,none⟩),.slice A9 dN c9] V fun e W=>∃ A5 c5,e=.returned (.slice A5 u c5)∧Hid ((Below W9.heap.size W9 W∧Vals W B u (nums .i64 U))∧Vals W A5 u (nums .i64 U))):=Lib.hid (fun V B ⟨g1,g2⟩=>(NU.out V A9 dN c9 (D1++D2) (by omega) HWW.out.2.2 HU.out.2.1 (J9.out.2.2.2.below g1) (J9.out.1.on g1)).mono (by
          rintro e W ⟨A5,c5,rfl,h4,h5⟩
          exact⟨A5,c5,rfl,Lib.hid ⟨⟨g1.trans (h4.mono g1.size),g2.below h4⟩,h5⟩⟩))
         have F4:Hid (∀ V A c B cB,((Below W9.heap.size W9 V∧Vals V B u (nums .i64 U))∧Vals V A u (nums .i64 U))→Calls Tryz.prog 12 #[.slice A u c,.slice B u cB] V fun e W=>e=.returned (.bool true)∧Hid (Below W9.heap.size W9 W∧Vals W B u (nums .i64 U))):=Lib.hid (fun V A c B cB ⟨⟨g1,g2⟩,g3⟩=>(same17 A B u c cB U V g3 g2 (by omega)).mono (by
          rintro e W ⟨rfl,q,rfl⟩
          have hq:Below V.heap.size V (V.drewN q):=below_drewN (Below.refl _ _) q
          exact⟨rfl,Lib.hid ⟨g1.trans (hq.mono g1.size),g2.below hq⟩⟩))
         have HE:Hid (∀ V,Below W9.heap.size W9 V→Below w.heap.size w V):=Lib.hid (fun V h=>(J9.out.1.1.on h).1)
         clear Gy KCy KAy Y1y Y6y Y7y Y9 J8 J8j J9 NU HU HWW
         go_wp2_with (first
          | (go_at_call 32;(with_reducible refine F1.mono ?_);rintro e V1 ⟨B,cB,rfl,Z1⟩)
          | (go_at_call 32;(with_reducible refine (F2.out V1 B Z1.out).mono ?_);rintro e V2 ⟨B2,cB2,rfl,Z2⟩)
          | (go_at_call 12;(with_reducible refine (F4.out V2 B2 cB2 B cB Z2.out).mono ?_);rintro e V3 ⟨rfl,Z3⟩)
          | (go_at_call 32;(with_reducible refine (F3.out V3 B Z3.out).mono ?_);rintro e V4 ⟨B4,cB4,rfl,Z4⟩)
          | (go_at_call 12;(with_reducible refine (F4.out V4 B4 cB4 B cB Z4.out).mono ?_);rintro e V5 ⟨rfl,Z5⟩))
         go_ret
         exact⟨rfl,HE.out _ Z5.out.1⟩
       · rcases hlo:loadOf f with ⟨⟨vf,vl,ve⟩,_ | d⟩
         · have hve:ve≠0:=(load_wrong hlo).1
           have hvb:(ve != 0)=true:=bne_iff_ne.2 hve
           have D9:Hid (∀ W,BnB w W (.slice b0 n0 m0) (.slice b1 n1 m1) (.slice b2 n2 m2) (.slice b3 n3 m3) (.slice b4 n4 m4) (.slice b5 n5 m5) (.slice b6 n6 m6)→Calls Tryz.prog 23 #[.agg #[.slice b0 n0 m0,.slice b1 n1 m1,.slice b2 n2 m2,.slice b3 n3 m3,.slice b4 n4 m4,.slice b5 n5 m5,.slice b6 n6 m6]] W fun e W'=>e=.returned (.tuple #[.pointer none,.agg #[.int .i64 vf,.int .i64 vl,.int .i64 ve]])∧Hid (Below w.heap.size w W')):=Lib.hid (fun W hW=>(C9.out W hW).mono (by
            rintro e W' ⟨hw,-,⟨d',b,h,rfl,g1,g2,g3⟩ | ⟨x,h,rfl⟩⟩
            · rw [hlo] at h;injection h with _ h;cases h
            · rw [hlo] at h;injection h with h _;subst h;exact⟨rfl,Lib.hid hw.2⟩))
           have HB:Hid (∀ W o,Below w.heap.size w W→Below w.heap.size w (W.alloc o)):=Lib.hid (fun W o h=>h.trans ((Below.refl _ _).alloc h.size _))
           clear C9 hl hlo hfl h0 h1 h2 h3 h4 h5 h6 l0 l1 l2 l3 l4 l5 l6 hf7 hM hH hs hws hcps ht hwt hcpt hsm hve
           go_enter Tryz.func8,Tryz.ntmps8
           go_wp2_with (first
            | (go_at_call 23;(with_reducible refine (D9.out _ H8.out).mono ?_);rintro e W9 ⟨rfl,H9⟩)
            | (go_at_call 27;(with_reducible refine (C7.out _ H1.out).mono ?_);rintro e W7 ⟨rfl,H7'⟩;have H7:=Lib.hid H7';clear H7';obtain⟨⟨q0,q1,q2,q3,q4,q5,q6⟩,-⟩:=H7.out)
            | (go_at_call 10;(with_reducible refine (C8.out _ H7.out).mono ?_);rintro e W8 ⟨rfl,H8'⟩;have H8:=Lib.hid H8';clear H8';obtain⟨⟨q0,q1,q2,q3,q4,q5,q6⟩,-⟩:=H8.out))
           go_ret
           exact⟨rfl,HB.out _ _ H9.out⟩
         · exact absurd ⟨d,by rw [hlo,load_zero hlo]⟩ hl
     · have hlbt:decide (20<(nt:Int))=true:=decide_eq_true (by omega)
       clear h0 h1 h2 h3 h4 h5 h6 l0 l1 l2 l3 l4 l5 l6 hf7 hM hH hs hws hcps ht hwt hcpt hsm
       go_enter Tryz.func8,Tryz.ntmps8
       go_wp2_with (first
        | (go_at_call 27;(with_reducible refine (C7.out _ H8.out).mono ?_);rintro e W9 ⟨rfl,H9'⟩;have H9:=Lib.hid H9';clear H9')
        | (go_at_call 27;(with_reducible refine (C7.out _ H1.out).mono ?_);rintro e W7 ⟨rfl,H7'⟩;have H7:=Lib.hid H7';clear H7';obtain⟨⟨q0,q1,q2,q3,q4,q5,q6⟩,-⟩:=H7.out)
        | (go_at_call 10;(with_reducible refine (C8.out _ H7.out).mono ?_);rintro e W8 ⟨rfl,H8'⟩;have H8:=Lib.hid H8';clear H8';obtain⟨⟨q0,q1,q2,q3,q4,q5,q6⟩,-⟩:=H8.out))
       go_ret
       exact⟨rfl,H9.out.2⟩
   · have hlbs:decide (20<(ns:Int))=true:=decide_eq_true (by omega)
     clear h0 h1 h2 h3 h4 h5 h6 l0 l1 l2 l3 l4 l5 l6 hf7 hM hH hs hws hcps ht hwt hcpt hsm
     go_enter Tryz.func8,Tryz.ntmps8
     go_wp2_with (first
      | (go_at_call 27;(with_reducible refine (C7.out _ H8.out).mono ?_);rintro e W9 ⟨rfl,H9'⟩;have H9:=Lib.hid H9';clear H9')
      | (go_at_call 27;(with_reducible refine (C7.out _ H1.out).mono ?_);rintro e W7 ⟨rfl,H7'⟩;have H7:=Lib.hid H7';clear H7';obtain⟨⟨q0,q1,q2,q3,q4,q5,q6⟩,-⟩:=H7.out)
      | (go_at_call 10;(with_reducible refine (C8.out _ H7.out).mono ?_);rintro e W8 ⟨rfl,H8'⟩;have H8:=Lib.hid H8';clear H8';obtain⟨⟨q0,q1,q2,q3,q4,q5,q6⟩,-⟩:=H8.out))
     go_ret
     exact⟨rfl,H9.out.2⟩
 · rw [decide_eq_false hsm] at C8
   clear h0 h1 h2 h3 h4 h5 h6 l0 l1 l2 l3 l4 l5 l6 hf7 hM hH hs hws hcps ht hwt hcpt hsm
   go_enter Tryz.func8,Tryz.ntmps8
   go_wp2_with (first
    | (go_at_call 27;(with_reducible refine (C7.out _ H8.out).mono ?_);rintro e W9 ⟨rfl,H9'⟩;have H9:=Lib.hid H9';clear H9')
    | (go_at_call 27;(with_reducible refine (C7.out _ H1.out).mono ?_);rintro e W7 ⟨rfl,H7'⟩;have H7:=Lib.hid H7';clear H7';obtain⟨⟨q0,q1,q2,q3,q4,q5,q6⟩,-⟩:=H7.out)
    | (go_at_call 10;(with_reducible refine (C8.out _ H7.out).mono ?_);rintro e W8 ⟨rfl,H8'⟩;have H8:=Lib.hid H8';clear H8';obtain⟨⟨q0,q1,q2,q3,q4,q5,q6⟩,-⟩:=H8.out))
   go_ret
   exact⟨rfl,H9.out.2⟩
end Go.Proofs.YtbkgbhlmeeodgaaGreatDoor
