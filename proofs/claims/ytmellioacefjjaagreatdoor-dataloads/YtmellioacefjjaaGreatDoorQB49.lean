/- A part. -/
import Derived.Test.YtmellioacefjjaaGreatDoorQB48
namespace Go.Proofs.YtmellioacefjjaaGreatDoor
open Go.RowKit Go.Shelf
attribute [local go_sem] Oper.semAt_some
def protoL (cf:List Cf.Pp) (c:Int):List Int:=if Cf.findC cf c<0 then [] else ((cf[(Cf.findC cf c).toNat]?).map fun r=>r.p).getD []
def KbD (w9 wv:World) (K:Nat) (G:ByteArray) (W:World):Prop:=(Below w9.heap.size w9 W∧W.cell? ⟨K,2,none⟩=some (.string G))∧Below wv.heap.size wv W
theorem KbD.below {w9 wv W W':World} {K:Nat} {G:ByteArray} (h:KbD w9 wv K G W) (hb:Below W.heap.size W W'):KbD w9 wv K G W':=
 ⟨⟨h.1.1.trans (hb.mono h.1.1.size),(hb.cell (p:=⟨K,2,none⟩) (World.block_lt_of_cell? W _ h.1.2)).trans h.1.2⟩,h.2.trans (hb.mono h.2.size)⟩
theorem KbD.base {w9 wv W:World} {K:Nat} {G:ByteArray} (h:KbD w9 wv K G W):KbD w9 W K G W:=⟨h.1,Below.refl _ _⟩
theorem kb_call {w9 wv W:World} {K:Nat} {G:ByteArray} {f:FuncId} {args:Array Value} {v:Value} (hk:KbD w9 wv K G W) (h:Calls Tryz.prog f args W fun e W'=>e=.returned v∧Below W.heap.size W W'):
 Calls Tryz.prog f args W fun e W'=>e=.returned v∧W'.cell? ⟨K,2,none⟩=some (.string G)∧Hid (KbD w9 wv K G W'):=
 h.mono (by
  rintro e W' ⟨rfl,hb⟩
  have q:=hk.below hb
  exact⟨rfl,q.1.2,Lib.hid q⟩)
theorem ph_take {Q:Exit→Act→World→Prop} {l:List Oper} {S:World→Prop} {i:Nat} {oi:Oper} {rest:List Oper} {v:Value} {fuel:Nat} {listed:Array Bool} {a:Act} {w:World} (hs:Hid (Region.noSelect l.toArray=true)) (hd:l.drop i=oi::rest) (hf:Region.free .any l.toArray listed i=true) (hr:(Region.ready .any l.toArray listed).contains i=true)
 (hQ:∀ c a w,Q (.panic c) (a.put oi.dst v) w→Q (.panic c) a w) (hw:Region.wanted oi (yielded l.toArray a.tmps)=true) (hy:∀ w,S w→(execOp a.eval oi).run Tryz.prog w=.ok (.value v) w) (hS:S w) (h:wpAnyH Tryz.prog .any l.toArray Q S fuel (listed.setIfInBounds i true) (a.put oi.dst v) w):wpAnyH Tryz.prog .any l.toArray Q S (fuel+1) listed a w:=
 wpAnyH_take (drop_get hd) hs.out hf hr hQ (.inl ⟨hw,hy⟩) hS h
theorem ph_step {Q:Exit→Act→World→Prop} {l:List Oper} {S:World→Prop} {i:Nat} {oi:Oper} {rest:List Oper} {fuel:Nat} {listed:Array Bool} {a:Act} {w:World} (hd:l.drop i=oi::rest) (hr:Region.ready .any l.toArray listed = [i]) (hw:Region.wanted oi (yielded l.toArray a.tmps)=true)
 (h:∀ K:Act→World→Prop,Shut (∀ a w,S w→(S w→wpAnyH Tryz.prog .any l.toArray Q S fuel (listed.setIfInBounds i true) a w)→K a w)→Oper.wp Tryz.prog oi a w K Q):wpAnyH Tryz.prog .any l.toArray Q S (fuel+1) listed a w:=
 wpAnyH_ready hr (by simp) (AllReadyH.cons (drop_get hd) (fun K hK=>by rw [if_pos hw];exact h K hK) AllReadyH.nil)
theorem ph_open {Q:Exit→Act→World→Prop} {id:Nat} {l:List Oper} {a:Act} {w:World} (S:World→Prop) (hm:Tryz.prog.follows .mixedOrders=true) (hS:S w.drew) (hs:Region.noSelect l.toArray=true)
 (h:Hid (Region.noSelect l.toArray=true)→S w.drew→wpAnyH Tryz.prog .any l.toArray Q S l.toArray.size (Array.replicate l.toArray.size false) a w.drew):(Code.region id l.toArray true).wp Tryz.prog Q a w:=
 wp_region_held_drew (S:=S) hm hS (fun q=>h (Lib.hid hs) q)
theorem drew_b {W:World} {f:FuncId} {args:Array Value} {v:Value} (h:Calls Tryz.prog f args W fun e W'=>e=.returned v∧∃ q,W'=W.drewN q):Calls Tryz.prog f args W fun e W'=>e=.returned v∧Below W.heap.size W W':=
 h.mono (by
  rintro e W' ⟨rfl,q,rfl⟩
  exact⟨rfl,below_drewN (Below.refl _ _) q⟩)
theorem same_b {W:World} {f:FuncId} {args:Array Value} {v:Value} (h:Calls Tryz.prog f args W fun e W'=>e=.returned v∧W=W'):Calls Tryz.prog f args W fun e W'=>e=.returned v∧Below W.heap.size W W':=
 h.mono (by
  rintro e W' ⟨rfl,rfl⟩
  exact⟨rfl,Below.refl _ _⟩)
theorem mkV_form (o:Option Int):∃ k h,mkV o=.tuple #[.int .i64 k,.bool h]:=by
 cases o with
 | none=>exact⟨_,_,rfl⟩
 | some c=>exact⟨_,_,rfl⟩
theorem readp_conf (f:Nat→List UInt8):∀ n i,readP f n i=⟨0,0,0⟩→(cfF f).err=0
 | 0,i,h=>by
  by_cases hc:(cfF f).err=0
  · exact hc
  · rw [readP,if_neg hc] at h;injection h with _ _ h
 | n+1,i,h=>by
  by_cases hc:(prF f i).err=0
  · rw [readP,if_pos hc] at h;exact readp_conf f n (i+1) h
  · rw [readP,if_neg hc] at h;injection h with _ _ h;exact absurd h hc
theorem read_conf {f:Nat→List UInt8} (h:readOf f=⟨0,0,0⟩):(cfF f).err=0:=by
 by_cases hu:(uF f).err=0
 · rw [readOf,if_pos hu] at h;exact readp_conf f 5 0 h
 · rw [readOf,if_neg hu] at h;injection h with _ _ h;exact absurd h hu
theorem load_protos {f:Nat→List UInt8} {d:Dt} (h:loadOf f=(⟨0,0,0⟩,some d)):∀ r∈d.cf,1≤r.p.length∧r.p.length≤18:=by
 have hc:d.cf=(cfF f).rows∧(cfF f).err=0:=by
  rcases read_load f with ⟨h1,h2⟩ | ⟨h1,h2⟩
  · rw [h2] at h
    rcases load2_join (uF f).rows (spF f) (cfF f).rows with ⟨h4,ms,h5,h3⟩ | ⟨h3,h4⟩
    · rw [h3] at h
      injection h with _ h
      injection h with h
      subst h
      exact⟨rfl,read_conf h1⟩
    · rw [h4] at h;injection h with _ h;cases h
  · rw [h2] at h;injection h with _ h;cases h
 rw [hc.1]
 exact Cf.cf_short hc.2
theorem load_cf {f:Nat→List UInt8} {d:Dt} (h:loadOf f=(⟨0,0,0⟩,some d)) (h6:(f 6).length≤3000):d.cf.length≤100000:=by
 have hc:d.cf=(cfF f).rows:=by
  rcases read_load f with ⟨h1,h2⟩ | ⟨h1,h2⟩
  · rw [h2] at h
    rcases load2_join (uF f).rows (spF f) (cfF f).rows with ⟨h4,ms,h5,h3⟩ | ⟨h3,h4⟩
    · rw [h3] at h
      injection h with _ h
      injection h with h
      subst h
      rfl
    · rw [h4] at h;injection h with _ h;cases h
  · rw [h2] at h;injection h with _ h;cases h
 have h1:=Cf.cf_len (linesIn (f 6)) []
 have h2:=Pq.lines_few (l:=f 6)
 have h3:(cfF f).rows.length≤([]:List Cf.Pp).length+(linesIn (f 6)).length:=h1
 rw [hc]
 simp at h3
 omega
theorem mkp_len {ex:List Pq.Sp} {ps:List Uc.Pr}:∀ (l:List Uc.Pr) (out ms:List (Int×Int×Int)),mkP ex ps out l=some ms→ms.length≤out.length+l.length
 | [],out,ms,h=>by rw [mkP] at h;injection h with h;subst h;simp
 | r::l,out,ms,h=>by
  by_cases hi:idle ex ps r
  · rw [mkp_idle hi] at h;have:=mkp_len l _ _ h;simp;omega
  · by_cases hn:findM out (dec0 r) (dec1 r)=none
    · rw [mkp_add hi hn] at h;have:=mkp_len l _ _ h;simp at this ⊢;omega
    · rw [mkp_twice hi hn] at h;cases h
theorem proto_few {cf:List Cf.Pp} (h:∀ r∈cf,1≤r.p.length∧r.p.length≤18) (c:Int):(protoL cf c).length≤18:=by
 unfold protoL
 split
 · simp
 · cases hr:cf[(Cf.findC cf c).toNat]? with
   | none=>simp
   | some r=>exact (h r (List.mem_of_getElem? hr)).2
set_option maxRecDepth 100000 in
set_option maxHeartbeats 8000000 in
theorem loads3 (b0 b1 b2 b3 b4 b5 b6:Option Addr) (n0 n1 n2 n3 n4 n5 n6 m0 m1 m2 m3 m4 m5 m6:Nat) (f:Nat→List UInt8) (c x:Int) (w:World) (h0:Octs w b0 n0 (f 0)) (h1:Octs w b1 n1 (f 1)) (h2:Octs w b2 n2 (f 2)) (h3:Octs w b3 n3 (f 3)) (h4:Octs w b4 n4 (f 4)) (h5:Octs w b5 n5 (f 5)) (h6:Octs w b6 n6 (f 6))
 (l0:n0≤1000000000000000) (l1:n1≤1000000000000000) (l2:n2≤1000000000000000) (l3:n3≤1000000000000000) (l4:n4≤1000000000000000) (l5:n5≤1000000000000000) (l6:n6≤1000000000000000) (hf7:∀ i,7≤i→f i = []) (hM:ML w) (hH:HanT w) (hc:(Lit.int .i64 c).wf=true) (hx:(Lit.int .i64 x).wf=true):
 Calls Tryz.prog 3 #[.agg #[.slice b0 n0 m0,.slice b1 n1 m1,.slice b2 n2 m2,.slice b3 n3 m3,.slice b4 n4 m4,.slice b5 n5 m5,.slice b6 n6 m6],.int .i64 c,.int .i64 x] w fun e w'=>e=.returned (.bool true)∧Below w.heap.size w w':=by
 have C7:Hid (∀ W,BnB w W (.slice b0 n0 m0) (.slice b1 n1 m1) (.slice b2 n2 m2) (.slice b3 n3 m3) (.slice b4 n4 m4) (.slice b5 n5 m5) (.slice b6 n6 m6)→Calls Tryz.prog 7 #[] W fun e W'=>e=.returned (.bool true)∧BnB w W' (.slice b0 n0 m0) (.slice b1 n1 m1) (.slice b2 n2 m2) (.slice b3 n3 m3) (.slice b4 n4 m4) (.slice b5 n5 m5) (.slice b6 n6 m6)):=Lib.hid (fun W hW=>(awake7 W (ml_on hM hW.2) (hH.below hH.lt hW.2)).mono (by
  rintro e W' ⟨rfl,hb⟩
  exact⟨rfl,hW.below hb⟩))
 have C8:Hid (∀ W,BnB w W (.slice b0 n0 m0) (.slice b1 n1 m1) (.slice b2 n2 m2) (.slice b3 n3 m3) (.slice b4 n4 m4) (.slice b5 n5 m5) (.slice b6 n6 m6)→Calls Tryz.prog 8 #[.agg #[.slice b0 n0 m0,.slice b1 n1 m1,.slice b2 n2 m2,.slice b3 n3 m3,.slice b4 n4 m4,.slice b5 n5 m5,.slice b6 n6 m6]] W fun e W'=>e=.returned (.bool (decide (n0+n1+n2+n3+n4+n5+n6≤3000)))∧BnB w W' (.slice b0 n0 m0) (.slice b1 n1 m1) (.slice b2 n2 m2) (.slice b3 n3 m3) (.slice b4 n4 m4) (.slice b5 n5 m5) (.slice b6 n6 m6)):=Lib.hid (fun W hW=>(small8 b0 b1 b2 b3 b4 b5 b6 n0 n1 n2 n3 n4 n5 n6 m0 m1 m2 m3 m4 m5 m6 W l0 l1 l2 l3 l4 l5 l6).mono (by
  rintro e W' ⟨rfl,hb⟩
  exact⟨rfl,hW.below hb⟩))
 have H1:=Lib.hid (bnb_new w (.slice b0 n0 m0) (.slice b1 n1 m1) (.slice b2 n2 m2) (.slice b3 n3 m3) (.slice b4 n4 m4) (.slice b5 n5 m5) (.slice b6 n6 m6))
 by_cases hs:n0+n1+n2+n3+n4+n5+n6≤3000
 · rw [decide_eq_true hs] at C8
   have C9:Hid (∀ W,BnB w W (.slice b0 n0 m0) (.slice b1 n1 m1) (.slice b2 n2 m2) (.slice b3 n3 m3) (.slice b4 n4 m4) (.slice b5 n5 m5) (.slice b6 n6 m6)→Calls Tryz.prog 9 #[.agg #[.slice b0 n0 m0,.slice b1 n1 m1,.slice b2 n2 m2,.slice b3 n3 m3,.slice b4 n4 m4,.slice b5 n5 m5,.slice b6 n6 m6]] W fun e W'=>BnB w W' (.slice b0 n0 m0) (.slice b1 n1 m1) (.slice b2 n2 m2) (.slice b3 n3 m3) (.slice b4 n4 m4) (.slice b5 n5 m5) (.slice b6 n6 m6)∧LddPost f W e W'):=Lib.hid (fun W hW=>(loaded9 b0 b1 b2 b3 b4 b5 b6 n0 n1 n2 n3 n4 n5 n6 m0 m1 m2 m3 m4 m5 m6 f W (h0.below hW.2) (h1.below hW.2) (h2.below hW.2) (h3.below hW.2) (h4.below hW.2) (h5.below hW.2) (h6.below hW.2) hs hf7 (ml_on hM hW.2) (hH.below hH.lt hW.2)).mono (fun e W' h=>⟨hW.below h.1,h⟩))
   have hl6:(f 6).length≤3000:=by have:=h6.len;omega
   clear h0 h1 h2 h3 h4 h5 h6 l0 l1 l2 l3 l4 l5 l6 hf7 hM hH hs
   by_cases hl:∃ d,loadOf f=(⟨0,0,0⟩,some d)
   · obtain⟨d,hl⟩:=hl
     have HLP:=Lib.hid (load_protos hl)
     have HCF:=Lib.hid (load_cf hl hl6)
     have HLR:=Lib.hid (load_right hl)
     have D9:Hid (∀ W,BnB w W (.slice b0 n0 m0) (.slice b1 n1 m1) (.slice b2 n2 m2) (.slice b3 n3 m3) (.slice b4 n4 m4) (.slice b5 n5 m5) (.slice b6 n6 m6)→Calls Tryz.prog 9 #[.agg #[.slice b0 n0 m0,.slice b1 n1 m1,.slice b2 n2 m2,.slice b3 n3 m3,.slice b4 n4 m4,.slice b5 n5 m5,.slice b6 n6 m6]] W fun e W'=>∃ b b',e=.returned (.tuple #[.pointer (some ⟨b,0,none⟩),.pointer (some ⟨b',0,none⟩),.bool true])∧Hid (Below w.heap.size w W'∧(PF W' b d.ps d.sp d.cf∧PM W' b d.ms∧Szs d.ps d.sp)∧RD W' b' d.ps d.sp d.cf d.ms)):=Lib.hid (fun W hW=>(C9.out W hW).mono (by
      rintro e W' ⟨hw,-,⟨d',b,b',h,rfl,hh⟩ | ⟨hno,rfl⟩⟩
      · rw [hl] at h
        injection h with _ h
        injection h with h
        subst h
        exact⟨b,b',rfl,Lib.hid ⟨hw.2,hh.out.1,hh.out.2⟩⟩
      · obtain⟨x,hx⟩:=hno;rw [hl] at hx;injection hx with _ hx;cases hx))
     clear C9 hl hl6
     go_enter Tryz.func3,Tryz.ntmps3
     go_upto_region 6 with (first
      | (go_at_call 9;(with_reducible refine (D9.out _ H8.out).mono ?_);rintro e W9 ⟨b,b',rfl,H9⟩)
      | (go_at_call 7;(with_reducible refine (C7.out _ H1.out).mono ?_);rintro e W7 ⟨rfl,H7'⟩;have H7:=Lib.hid H7';clear H7';obtain⟨⟨q0,q1,q2,q3,q4,q5,q6⟩,-⟩:=H7.out)
      | (go_at_call 8;(with_reducible refine (C8.out _ H7.out).mono ?_);rintro e W8 ⟨rfl,H8'⟩;have H8:=Lib.hid H8';clear H8';obtain⟨⟨q0,q1,q2,q3,q4,q5,q6⟩,-⟩:=H8.out))
     clear C7 C8 D9 H1 H7 H8 q0 q1 q2 q3 q4 q5 q6
     have HU:Hid (∃ p A ca ls,W9.cell? ⟨b,0,none⟩=some (.pointer p)∧Uc.TIn W9 p A ca ls∧Uc.Ist W9 ls d.ps):=Lib.hid H9.out.2.1.1.uni
     obtain⟨p,Au,cu,ls,hu⟩:=HU.out
     have HU:=Lib.hid hu
     obtain⟨pc,hpc⟩:=H9.out.2.1.1.cnf
     have HPC:=Lib.hid hpc
     clear hu hpc
     obtain⟨G,hG⟩:∃ x,bs (Uc.patOf d.ps c).gc=x:=⟨_,rfl⟩
     have HG:=Lib.hid hG
     have HWF:=Lib.hid (And.intro hc hx)
     clear hG hc hx
     have C10:Hid (Calls Tryz.prog 10 #[.pointer (some ⟨b',0,none⟩),.int .i64 c] W9 fun e W'=>∃ (x0 x1 x3:Int) (x4:ByteArray) (x5:Option Addr) (x6 x7:Nat),e=.returned (.agg #[.int .i64 x0,.int .i64 x1,.string G,.int .i64 x3,.string x4,.slice x5 x6 x7])∧Hid (Below W9.heap.size W9 W')):=Lib.hid ((row10 H9.out.2.2 (by have:=H9.out.2.1.2.2.few;omega) c).mono (by
      rintro e W' ⟨s,rfl,hh⟩
      refine⟨s.a,s.b,s.ccc,bs s.bd,s.dp,s.dm,s.dc,?_,Lib.hid hh.out.2⟩
      rw [←HG.out,←hh.out.1]
      rfl))
     obtain⟨pn,hpn⟩:∃ x,(protoL d.cf c).length=x:=⟨_,rfl⟩
     have HPN:=Lib.hid hpn
     have C11:Hid (∀ K V W,Hid (KbD W9 V K G W)→Calls Tryz.prog 11 #[.pointer (some ⟨b,0,none⟩),.int .i64 c] W fun e W'=>∃ A1 k1,e=.returned (.tuple #[.slice A1 pn k1,.bool (decide ((0:Int)<(pn:Int)))])∧W'.cell? ⟨K,2,none⟩=some (.string G)∧Hid (KbD W9 V K G W'∧Vals W' A1 pn (nums .i64 (protoL d.cf c)))):=Lib.hid (fun K V W hk=>by
      have hb:=hk.out.1.1
      have hp:=HPC.out
      refine (pro11 b pc d.cf c W ((hb.cell (p:=⟨b,6,none⟩) (World.block_lt_of_cell? W9 _ hp.1)).trans hp.1) (hp.2.below hb) HWF.out.1).mono ?_
      rintro e W' ⟨hb2,⟨hf,A1,k1,rfl⟩ | ⟨r,A1,k1,hr,hf,rfl,hv⟩⟩
      · have e0:protoL d.cf c = []:=by unfold protoL;rw [if_pos hf]
        have hp0:pn=0:=by rw [←HPN.out,e0];rfl
        subst hp0
        have q:=hk.out.below hb2
        exact⟨A1,k1,by simp,q.1.2,Lib.hid ⟨q,by rw [e0];exact Vals.nil _ _⟩⟩
      · have e0:protoL d.cf c=r.p:=by unfold protoL;rw [if_neg (by omega),hr];rfl
        have hp0:pn=r.p.length:=by rw [←HPN.out,e0]
        have hl:=(HLP.out r (List.mem_of_getElem? hr)).1
        have q:=hk.out.below hb2
        refine⟨A1,k1,?_,q.1.2,Lib.hid ⟨q,by rw [e0,hp0];exact hv⟩⟩
        rw [hp0,decide_eq_true (show (0:Int)<(r.p.length:Int) by omega)])
     have C12:Hid (∀ K V W,Hid (KbD W9 V K G W)→Calls Tryz.prog 12 #[.pointer (some ⟨b',0,none⟩),.int .i64 c] W fun e W'=>∃ A2 k2,e=.returned (.slice A2 pn k2)∧W'.cell? ⟨K,2,none⟩=some (.string G)∧Hid (KbD W9 V K G W'∧Below W.heap.size W W'∧Vals W' A2 pn (nums .i64 (protoL d.cf c)))):=Lib.hid (fun K V W hk=>by
      have hb:=hk.out.1.1
      refine (proto12 (H9.out.2.2.below hb) (HCF.out) c).mono ?_
      rintro e W' ⟨rfl,⟨hf,rfl⟩ | ⟨r,A2,k2,hr,hf,rfl,hv⟩⟩
      · have e0:protoL d.cf c = []:=by unfold protoL;rw [if_pos hf]
        have hp0:pn=0:=by rw [←HPN.out,e0];rfl
        subst hp0
        exact⟨none,0,rfl,hk.out.1.2,Lib.hid ⟨hk.out,Below.refl _ _,by rw [e0];exact Vals.nil _ _⟩⟩
      · have e0:protoL d.cf c=r.p:=by unfold protoL;rw [if_neg (by omega),hr];rfl
        have hp0:pn=r.p.length:=by rw [←HPN.out,e0]
        exact⟨A2,k2,by rw [hp0],hk.out.1.2,Lib.hid ⟨hk.out,Below.refl _ _,by rw [e0,hp0];exact hv⟩⟩)
     have HPB:Hid (pn≤1000000):=Lib.hid (by have:=proto_few HLP.out c;have:=HPN.out;omega)
     have HMS:Hid (d.ms.length≤1000000):=Lib.hid (by have h1:=mkp_len _ _ _ HLR.out.2;have h2:=H9.out.2.1.2.2.few;simp at h1;omega)
     obtain⟨kk,hh,hkv⟩:=mkV_form (findM d.ms c x)
     have HKV:=Lib.hid hkv
     clear hkv hpn
     have C13:Hid (∀ K V W,Hid (KbD W9 V K G W)→Calls Tryz.prog 13 #[.pointer (some ⟨b,0,none⟩),.int .i64 c,.int .i64 x] W fun e W'=>e=.returned (.tuple #[.int .i64 kk,.bool hh])∧W'.cell? ⟨K,2,none⟩=some (.string G)∧Hid (KbD W9 V K G W')):=Lib.hid (fun K V W hk=>by
      have:=mak13 b d.ms c x W (H9.out.2.1.2.1.below hk.out.1.1) HWF.out.1 HWF.out.2
      rw [HKV.out] at this
      exact kb_call hk.out (same_b this))
     have C14:Hid (∀ K V W,Hid (KbD W9 V K G W)→Calls Tryz.prog 14 #[.pointer (some ⟨b',0,none⟩),.int .i64 c,.int .i64 x] W fun e W'=>e=.returned (.tuple #[.int .i64 kk,.bool hh])∧W'.cell? ⟨K,2,none⟩=some (.string G)∧Hid (KbD W9 V K G W')):=Lib.hid (fun K V W hk=>by
      have:=makes14 (H9.out.2.2.below hk.out.1.1) HMS.out c x
      rw [HKV.out] at this
      exact kb_call hk.out (same_b this))
     have C15:Hid (∀ K V W,Hid (KbD W9 V K G W)→Calls Tryz.prog 15 #[.pointer (some ⟨b,0,none⟩)] W fun e W'=>e=.returned (.pointer p)∧W'.cell? ⟨K,2,none⟩=some (.string G)∧Hid (KbD W9 V K G W')):=Lib.hid (fun K V W hk=>by
      have hu:=HU.out.1
      exact kb_call hk.out (same_b (uni15 b p W ((hk.out.1.1.cell (p:=⟨b,0,none⟩) (World.block_lt_of_cell? W9 _ hu)).trans hu))))
     have C16:Hid (∀ K V W,Hid (KbD W9 V K G W)→Calls Tryz.prog 16 #[.pointer p,.int .i64 c] W fun e W'=>e=.returned (.string G)∧W'.cell? ⟨K,2,none⟩=some (.string G)∧Hid (KbD W9 V K G W')):=Lib.hid (fun K V W hk=>by
      have hu:=HU.out
      have hI:=hu.2.2
      have:=Uc.gc14 p Au cu ls c W (hu.2.1.below hk.out.1.1) (by rw [hI.len];have:=H9.out.2.1.2.2.few;omega) (Uc.ist_rises hI H9.out.2.1.2.2.good)
      rw [(Uc.ist_at c hI).2.2.1,HG.out] at this
      exact kb_call hk.out this)
     obtain⟨S0,hS0⟩:∃ x,bs (Pq.valueOf (d.sp 0) c)=x:=⟨_,rfl⟩
     obtain⟨B0,hB0⟩:∃ x,decide (¬Pq.valueOf (d.sp 0) c = [])=x:=⟨_,rfl⟩
     have E0:S0.toList.isEmpty = !B0:=by
      rw [←hS0,←hB0]
      by_cases h:Pq.valueOf (d.sp 0) c = []
      · rw [h];simp [bs_nil]
      · rw [bs_some h];simp [h]
     have HS0:=Lib.hid hS0
     have HB0:=Lib.hid hB0
     clear hS0 hB0
     have C17:Hid (∀ K V W,Hid (KbD W9 V K G W)→Calls Tryz.prog 17 #[.pointer (some ⟨b,0,none⟩),.int .i64 c] W fun e W'=>e=.returned (.bool B0)∧W'.cell? ⟨K,2,none⟩=some (.string G)∧Hid (KbD W9 V K G W')):=Lib.hid (fun K V W hk=>by
      obtain⟨p',A',c',k1,k2⟩:=(H9.out.2.1.1.below hk.out.1.1).prs 0 (by omega)
      have hg:=H9.out.2.1.2.2.spg 0
      have:=exc17_at b p' A' c' (d.sp 0) c W k1 k2 (by have:=H9.out.2.1.2.2.spf 0;omega) hg.1 (fun t ht=>(hg.2 t ht).2.2.1)
      rw [has_is (by decide) H9.out.2.1.2.2.ex,HB0.out] at this
      exact kb_call hk.out this)
     have C180:Hid (∀ K V W,Hid (KbD W9 V K G W)→Calls Tryz.prog 18 #[.pointer (some ⟨b',0,none⟩),.int .i64 0,.int .i64 c] W fun e W'=>e=.returned (.string S0)∧W'.cell? ⟨K,2,none⟩=some (.string G)∧Hid (KbD W9 V K G W')):=Lib.hid (fun K V W hk=>by
      have:=prop18 (H9.out.2.2.below hk.out.1.1) 0 (by omega) (by have:=H9.out.2.1.2.2.spf 0;omega) c
      rw [HS0.out] at this
      exact kb_call hk.out (drew_b this))
     obtain⟨S1,hS1⟩:∃ x,bs (Pq.valueOf (d.sp 1) c)=x:=⟨_,rfl⟩
     obtain⟨B1,hB1⟩:∃ x,decide (¬Pq.valueOf (d.sp 1) c = [])=x:=⟨_,rfl⟩
     have E1:S1.toList.isEmpty = !B1:=by
      rw [←hS1,←hB1]
      by_cases h:Pq.valueOf (d.sp 1) c = []
      · rw [h];simp [bs_nil]
      · rw [bs_some h];simp [h]
     have HS1:=Lib.hid hS1
     have HB1:=Lib.hid hB1
     clear hS1 hB1
     have C19:Hid (∀ K V W,Hid (KbD W9 V K G W)→Calls Tryz.prog 19 #[.pointer (some ⟨b,0,none⟩),.int .i64 c] W fun e W'=>e=.returned (.bool B1)∧W'.cell? ⟨K,2,none⟩=some (.string G)∧Hid (KbD W9 V K G W')):=Lib.hid (fun K V W hk=>by
      obtain⟨p',A',c',k1,k2⟩:=(H9.out.2.1.1.below hk.out.1.1).prs 1 (by omega)
      have hg:=H9.out.2.1.2.2.spg 1
      have:=ign19_at b p' A' c' (d.sp 1) c W k1 k2 (by have:=H9.out.2.1.2.2.spf 1;omega) hg.1 (fun t ht=>(hg.2 t ht).2.2.1)
      rw [has_is (by decide) H9.out.2.1.2.2.ign,HB1.out] at this
      exact kb_call hk.out this)
     have C181:Hid (∀ K V W,Hid (KbD W9 V K G W)→Calls Tryz.prog 18 #[.pointer (some ⟨b',0,none⟩),.int .i64 1,.int .i64 c] W fun e W'=>e=.returned (.string S1)∧W'.cell? ⟨K,2,none⟩=some (.string G)∧Hid (KbD W9 V K G W')):=Lib.hid (fun K V W hk=>by
      have:=prop18 (H9.out.2.2.below hk.out.1.1) 1 (by omega) (by have:=H9.out.2.1.2.2.spf 1;omega) c
      rw [HS1.out] at this
      exact kb_call hk.out (drew_b this))
     obtain⟨S3,hS3⟩:∃ x,bs (Pq.valueOf (d.sp 3) c)=x:=⟨_,rfl⟩
     have HS3:=Lib.hid hS3
     clear hS3
     have C22:Hid (∀ K V W,Hid (KbD W9 V K G W)→Calls Tryz.prog 22 #[.pointer (some ⟨b,0,none⟩),.int .i64 c] W fun e W'=>e=.returned (.string S3)∧W'.cell? ⟨K,2,none⟩=some (.string G)∧Hid (KbD W9 V K G W')):=Lib.hid (fun K V W hk=>by
      obtain⟨p',A',c',k1,k2⟩:=(H9.out.2.1.1.below hk.out.1.1).prs 3 (by omega)
      have hg:=H9.out.2.1.2.2.spg 3
      have:=scr22_at b p' A' c' (d.sp 3) c W k1 k2 (by have:=H9.out.2.1.2.2.spf 3;omega) hg.1 (fun t ht=>(hg.2 t ht).2.2.1)
      rw [HS3.out] at this
      exact kb_call hk.out this)
     have C183:Hid (∀ K V W,Hid (KbD W9 V K G W)→Calls Tryz.prog 18 #[.pointer (some ⟨b',0,none⟩),.int .i64 3,.int .i64 c] W fun e W'=>e=.returned (.string S3)∧W'.cell? ⟨K,2,none⟩=some (.string G)∧Hid (KbD W9 V K G W')):=Lib.hid (fun K V W hk=>by
      have:=prop18 (H9.out.2.2.below hk.out.1.1) 3 (by omega) (by have:=H9.out.2.1.2.2.spf 3;omega) c
      rw [HS3.out] at this
      exact kb_call hk.out (drew_b this))
     obtain⟨S4,hS4⟩:∃ x,bs (Pq.valueOf (d.sp 4) c)=x:=⟨_,rfl⟩
     have HS4:=Lib.hid hS4
     clear hS4
     have C23:Hid (∀ K V W,Hid (KbD W9 V K G W)→Calls Tryz.prog 23 #[.pointer (some ⟨b,0,none⟩),.int .i64 c] W fun e W'=>e=.returned (.string S4)∧W'.cell? ⟨K,2,none⟩=some (.string G)∧Hid (KbD W9 V K G W')):=Lib.hid (fun K V W hk=>by
      obtain⟨p',A',c',k1,k2⟩:=(H9.out.2.1.1.below hk.out.1.1).prs 4 (by omega)
      have hg:=H9.out.2.1.2.2.spg 4
      have:=joi23_at b p' A' c' (d.sp 4) c W k1 k2 (by have:=H9.out.2.1.2.2.spf 4;omega) hg.1 (fun t ht=>(hg.2 t ht).2.2.1)
      rw [HS4.out] at this
      exact kb_call hk.out this)
     have C184:Hid (∀ K V W,Hid (KbD W9 V K G W)→Calls Tryz.prog 18 #[.pointer (some ⟨b',0,none⟩),.int .i64 4,.int .i64 c] W fun e W'=>e=.returned (.string S4)∧W'.cell? ⟨K,2,none⟩=some (.string G)∧Hid (KbD W9 V K G W')):=Lib.hid (fun K V W hk=>by
      have:=prop18 (H9.out.2.2.below hk.out.1.1) 4 (by omega) (by have:=H9.out.2.1.2.2.spf 4;omega) c
      rw [HS4.out] at this
      exact kb_call hk.out (drew_b this))
     obtain⟨S2,hS2⟩:∃ x,bs (statOf (d.sp 2) c)=x:=⟨_,rfl⟩
     have HS2:=Lib.hid hS2
     clear hS2
     have C20:Hid (∀ K V W,Hid (KbD W9 V K G W)→Calls Tryz.prog 20 #[.pointer (some ⟨b,0,none⟩),.int .i64 c] W fun e W'=>e=.returned (.string S2)∧W'.cell? ⟨K,2,none⟩=some (.string G)∧Hid (KbD W9 V K G W')):=Lib.hid (fun K V W hk=>by
      obtain⟨p',A',c',k1,k2⟩:=(H9.out.2.1.1.below hk.out.1.1).prs 2 (by omega)
      have hg:=H9.out.2.1.2.2.spg 2
      have:=sta20_at b p' A' c' (d.sp 2) c W k1 k2 (by have:=H9.out.2.1.2.2.spf 2;omega) hg.1 (fun t ht=>(hg.2 t ht).2.2.1)
      rw [HS2.out] at this
      exact kb_call hk.out this)
     have C21:Hid (∀ K V W,Hid (KbD W9 V K G W)→Calls Tryz.prog 21 #[.pointer (some ⟨b',0,none⟩),.int .i64 c] W fun e W'=>e=.returned (.string S2)∧W'.cell? ⟨K,2,none⟩=some (.string G)∧Hid (KbD W9 V K G W')):=Lib.hid (fun K V W hk=>by
      have:=status21 (H9.out.2.2.below hk.out.1.1) (by have:=H9.out.2.1.2.2.spf 2;omega) c
      rw [HS2.out] at this
      exact kb_call hk.out (drew_b this))
     have C24:Hid (∀ K V W A1 A2 k1 k2,Hid (KbD W9 V K G W)→Hid (Vals W A1 pn (nums .i64 (protoL d.cf c))∧Vals W A2 pn (nums .i64 (protoL d.cf c)))→Calls Tryz.prog 24 #[.slice A1 pn k1,.slice A2 pn k2] W fun e W'=>e=.returned (.bool true)∧W'.cell? ⟨K,2,none⟩=some (.string G)∧Hid (KbD W9 V K G W')):=Lib.hid (fun K V W A1 A2 k1 k2 hk hv=>kb_call hk.out (drew_b (same17 A1 A2 pn k1 k2 _ W hv.out.1 hv.out.2 HPB.out)))
     have C25:Hid (∀ K V W,Hid (KbD W9 V K G W)→Calls Tryz.prog 25 #[.pointer (some ⟨b,0,none⟩)] W fun e W'=>e=.returned (.pointer pc)∧W'.cell? ⟨K,2,none⟩=some (.string G)∧Hid (KbD W9 V K G W')):=Lib.hid (fun K V W hk=>by
      have hp:=HPC.out
      exact kb_call hk.out (same_b (con25 b pc W ((hk.out.1.1.cell (p:=⟨b,6,none⟩) (World.block_lt_of_cell? W9 _ hp.1)).trans hp.1))))
     obtain⟨cn,hcn⟩:∃ x,d.cf.length=x:=⟨_,rfl⟩
     have HCN:=Lib.hid hcn
     clear hcn
     have C26:Hid (∀ K V W,Hid (KbD W9 V K G W)→Calls Tryz.prog 26 #[.pointer pc] W fun e W'=>e=.returned (.int .i64 (cn:Nat))∧W'.cell? ⟨K,2,none⟩=some (.string G)∧Hid (KbD W9 V K G W')):=Lib.hid (fun K V W hk=>by
      have:=Cf.clen13 pc d.cf W (HPC.out.2.below hk.out.1.1) HCF.out
      rw [HCN.out] at this
      exact kb_call hk.out (same_b this))
     go_upto_region 7 with (go_at_call 10;(with_reducible refine C10.out.mono ?_);rintro e W10 ⟨x0,x1,x3,x4,x5,x6,x7,rfl,H10⟩)
     have K0:Hid (KbD W9 W9 W10.heap.size G (W10.alloc (.cells #[.int .i64 x0,.int .i64 x1,.string G,.int .i64 x3,.string x4,.slice x5 x6 x7] 33))):=Lib.hid ⟨⟨H10.out.alloc H10.out.size _,new_at _ _ _ _ _ rfl⟩,H10.out.alloc H10.out.size _⟩
     obtain⟨WA,hWA⟩:∃ z,W10.alloc (.cells #[.int .i64 x0,.int .i64 x1,.string G,.int .i64 x3,.string x4,.slice x5 x6 x7] 33)=z:=⟨_,rfl⟩
     rw [hWA] at K0 ⊢
     obtain⟨K,hK⟩:∃ z,W10.heap.size=z:=⟨_,rfl⟩
     rw [hK] at K0 ⊢
     clear hWA hK H10 C10 HLP HCF HLR HPC HU HG HWF HPN HMS HKV
     go_upto_region 11 with (first
      | (go_at_call 11;(with_reducible refine (C11.out _ _ _ K0).mono ?_);rintro e W11 ⟨A1,k1,rfl,g1,H11⟩;have K1:=Lib.hid H11.out.1)
      | (go_at_call 12;(with_reducible refine (C12.out _ _ _ K1).mono ?_);rintro e W12 ⟨A2,k2,rfl,g2,H12⟩;have HV:=Lib.hid (And.intro (H11.out.2.below H12.out.2.1) H12.out.2.2);have K2:=Lib.hid H12.out.1.base)
      | (go_at_call 13;(with_reducible refine (C13.out _ _ _ K2).mono ?_);rintro e V3 ⟨rfl,g3,K3⟩)
      | (go_at_call 14;(with_reducible refine (C14.out _ _ _ K3).mono ?_);rintro e V4 ⟨rfl,g4,K4⟩))
     obtain⟨A6,c6,qs,r6,-⟩:=(H9.out.2.2.below K4.out.1.1).conf
     rw [HCN.out] at r6
     have HS:Hid (∀ W,Below V4.heap.size V4 W→W.cell? ⟨K,2,none⟩=some (.string G)∧W.cell? ⟨b',6,none⟩=some (.slice A6 cn c6)):=Lib.hid (fun W hb=>⟨(hb.cell (p:=⟨K,2,none⟩) (World.block_lt_of_cell? V4 _ g4)).trans g4,(hb.cell (p:=⟨b',6,none⟩) (World.block_lt_of_cell? V4 _ r6)).trans r6⟩)
     have P:Hid (∀ W,Below V4.heap.size V4 W→Hid (KbD W9 V4 K G W)):=Lib.hid (fun W hb=>Lib.hid (K4.out.base.below hb))
     have BX:Hid (Below V4.heap.size V4 V4):=Lib.hid (Below.refl _ _)
     have HV:=Lib.hid (And.intro (HV.out.1.below K4.out.2) (HV.out.2.below K4.out.2))
     have C24':Hid (∀ W,Below V4.heap.size V4 W→Calls Tryz.prog 24 #[.slice A1 pn k1,.slice A2 pn k2] W fun e W'=>e=.returned (.bool true)∧Below V4.heap.size V4 W'):=Lib.hid (fun W hb=>(C24.out _ _ _ _ _ _ _ (P.out _ hb) (Lib.hid ⟨HV.out.1.below hb,HV.out.2.below hb⟩)).mono (fun e W' h=>⟨h.1,h.2.2.out.2⟩))
     have BW:=Lib.hid (H9.out.1.trans (K4.out.1.1.mono H9.out.1.size))
     clear C11 C12 C13 C14 C24 r6 qs K0 K1 K2 K3 g1 g2 g3 g4 H11 H12 H9
     simp only [List.append_eq,List.cons_append,List.nil_append]
     refine ph_open (fun w'=>w'.cell? ⟨K,2,none⟩=some (.string G)∧w'.cell? ⟨b',6,none⟩=some (.slice A6 cn c6)) (by kernel_rfl) ?_ (by as_aux_lemma=>kernel_rfl) (fun NS hHeld=>?_)
     · (try dsimp only);first | exact HS.out _ BX.out | exact HS.out _ (below_drew BX.out)
     refine ph_take (i:=0) (v:=?_) NS rfl (by as_aux_lemma=>kernel_rfl) (by as_aux_lemma=>kernel_rfl) (fun _ _ _ h=>h) (by rfl) ?_ (by assumption) ?_
     rotate_left
     · (intro w hSw;(try dsimp only at hSw);go_simp;try with_reducible rfl)
     try simp only [Act.put,List.setIfInBounds_toArray,List.set_cons_zero,List.set_cons_succ]
     refine ph_take (i:=2) (v:=?_) NS rfl (by as_aux_lemma=>kernel_rfl) (by as_aux_lemma=>kernel_rfl) (fun _ _ _ h=>h) (by rfl) ?_ (by assumption) ?_
     rotate_left
     · (intro w hSw;(try dsimp only at hSw);go_simp;try with_reducible rfl)
     try simp only [Act.put,List.setIfInBounds_toArray,List.set_cons_zero,List.set_cons_succ]
     refine ph_take (i:=4) (v:=?_) NS rfl (by as_aux_lemma=>kernel_rfl) (by as_aux_lemma=>kernel_rfl) (fun _ _ _ h=>h) (by rfl) ?_ (by assumption) ?_
     rotate_left
     · (intro w hSw;(try dsimp only at hSw);go_simp;try with_reducible rfl)
     try simp only [Act.put,List.setIfInBounds_toArray,List.set_cons_zero,List.set_cons_succ]
     refine ph_take (i:=5) (v:=?_) NS rfl (by as_aux_lemma=>kernel_rfl) (by as_aux_lemma=>kernel_rfl) (fun _ _ _ h=>h) (by rfl) ?_ (by assumption) ?_
     rotate_left
     · (intro w hSw;(try dsimp only at hSw);go_simp;try with_reducible rfl)
     try simp only [Act.put,List.setIfInBounds_toArray,List.set_cons_zero,List.set_cons_succ]
     refine ph_step (i:=1) rfl (by as_aux_lemma=>kernel_rfl) (by rfl) (fun KK hK=>?_)
     (go_simp;go_at_call 15;(with_reducible refine (C15.out _ _ _ (P.out _ (by first | with_reducible exact BX.out | with_reducible exact below_drew BX.out))).mono ?_);rintro e w5 ⟨rfl,-,hb5⟩;have BX:=Lib.hid hb5.out.2;clear hb5)
     refine hK.out _ _ ?_ (fun hHeld=>?_)
     · (try dsimp only);first | exact HS.out _ BX.out | exact HS.out _ (below_drew BX.out)
     clear hK KK
     try simp only [Act.put,List.setIfInBounds_toArray,List.set_cons_zero,List.set_cons_succ]
     refine ph_step (i:=3) rfl (by as_aux_lemma=>kernel_rfl) (by rfl) (fun KK hK=>?_)
     (go_simp;go_at_call 16;(with_reducible refine (C16.out _ _ _ (P.out _ (by first | with_reducible exact BX.out | with_reducible exact below_drew BX.out))).mono ?_);rintro e w5 ⟨rfl,-,hb5⟩;have BX:=Lib.hid hb5.out.2;clear hb5)
     refine hK.out _ _ ?_ (fun hHeld=>?_)
     · (try dsimp only);first | exact HS.out _ BX.out | exact HS.out _ (below_drew BX.out)
     clear hK KK
     try simp only [Act.put,List.setIfInBounds_toArray,List.set_cons_zero,List.set_cons_succ]
     refine ph_take (i:=6) (v:=?_) NS rfl (by as_aux_lemma=>kernel_rfl) (by as_aux_lemma=>kernel_rfl) (fun _ _ _ h=>h) (by rfl) ?_ (by assumption) ?_
     rotate_left
     · (intro w hSw;(try dsimp only at hSw);go_simp;try with_reducible rfl)
     try simp only [Act.put,List.setIfInBounds_toArray,List.set_cons_zero,List.set_cons_succ]
     refine ph_take (i:=7) (v:=?_) NS rfl (by as_aux_lemma=>kernel_rfl) (by as_aux_lemma=>kernel_rfl) (fun _ _ _ h=>h) (by rfl) ?_ (by assumption) ?_
     rotate_left
     · (intro w hSw;(try dsimp only at hSw);go_simp;try with_reducible rfl)
     try simp only [Act.put,List.setIfInBounds_toArray,List.set_cons_zero,List.set_cons_succ]
     refine ph_take (i:=8) (v:=?_) NS rfl (by as_aux_lemma=>kernel_rfl) (by as_aux_lemma=>kernel_rfl) (fun _ _ _ h=>h) (by rfl) ?_ (by assumption) ?_
     rotate_left
     · (intro w hSw;(try dsimp only at hSw);go_simp;try with_reducible rfl)
     try simp only [Act.put,List.setIfInBounds_toArray,List.set_cons_zero,List.set_cons_succ]
     refine ph_take (i:=9) (v:=?_) NS rfl (by as_aux_lemma=>kernel_rfl) (by as_aux_lemma=>kernel_rfl) (fun _ _ _ h=>h) (by rfl) ?_ (by assumption) ?_
     rotate_left
     · (intro w hSw;(try dsimp only at hSw);go_simp;try with_reducible rfl)
     try simp only [Act.put,List.setIfInBounds_toArray,List.set_cons_zero,List.set_cons_succ]
     refine ph_take (i:=11) (v:=?_) NS rfl (by as_aux_lemma=>kernel_rfl) (by as_aux_lemma=>kernel_rfl) (fun _ _ _ h=>h) (by rfl) ?_ (by assumption) ?_
     rotate_left
     · (intro w hSw;(try dsimp only at hSw);go_simp;try with_reducible rfl)
     try simp only [Act.put,List.setIfInBounds_toArray,List.set_cons_zero,List.set_cons_succ]
     refine ph_take (i:=12) (v:=?_) NS rfl (by as_aux_lemma=>kernel_rfl) (by as_aux_lemma=>kernel_rfl) (fun _ _ _ h=>h) (by rfl) ?_ (by assumption) ?_
     rotate_left
     · (intro w hSw;(try dsimp only at hSw);go_simp;try with_reducible rfl)
     try simp only [Act.put,List.setIfInBounds_toArray,List.set_cons_zero,List.set_cons_succ]
     refine ph_step (i:=10) rfl (by as_aux_lemma=>kernel_rfl) (by rfl) (fun KK hK=>?_)
     (go_simp;go_at_call 17;(with_reducible refine (C17.out _ _ _ (P.out _ (by first | with_reducible exact BX.out | with_reducible exact below_drew BX.out))).mono ?_);rintro e w5 ⟨rfl,-,hb5⟩;have BX:=Lib.hid hb5.out.2;clear hb5)
     refine hK.out _ _ ?_ (fun hHeld=>?_)
     · (try dsimp only);first | exact HS.out _ BX.out | exact HS.out _ (below_drew BX.out)
     clear hK KK
     try simp only [Act.put,List.setIfInBounds_toArray,List.set_cons_zero,List.set_cons_succ]
     refine ph_step (i:=13) rfl (by as_aux_lemma=>kernel_rfl) (by rfl) (fun KK hK=>?_)
     (go_simp;go_at_call 18;(with_reducible refine (C180.out _ _ _ (P.out _ (by first | with_reducible exact BX.out | with_reducible exact below_drew BX.out))).mono ?_);rintro e w5 ⟨rfl,-,hb5⟩;have BX:=Lib.hid hb5.out.2;clear hb5)
     refine hK.out _ _ ?_ (fun hHeld=>?_)
     · (try dsimp only);first | exact HS.out _ BX.out | exact HS.out _ (below_drew BX.out)
     clear hK KK
     try simp only [Act.put,List.setIfInBounds_toArray,List.set_cons_zero,List.set_cons_succ]
     refine ph_take (i:=14) (v:=?_) NS rfl (by as_aux_lemma=>kernel_rfl) (by as_aux_lemma=>kernel_rfl) (fun _ _ _ h=>h) (by rfl) ?_ (by assumption) ?_
     rotate_left
     · (intro w hSw;(try dsimp only at hSw);go_simp;try with_reducible rfl)
     try simp only [Act.put,List.setIfInBounds_toArray,List.set_cons_zero,List.set_cons_succ]
     refine ph_take (i:=15) (v:=?_) NS rfl (by as_aux_lemma=>kernel_rfl) (by as_aux_lemma=>kernel_rfl) (fun _ _ _ h=>h) (by rfl) ?_ (by assumption) ?_
     rotate_left
     · (intro w hSw;(try dsimp only at hSw);go_simp;try with_reducible rfl)
     try simp only [Act.put,List.setIfInBounds_toArray,List.set_cons_zero,List.set_cons_succ]
     refine ph_take (i:=16) (v:=?_) NS rfl (by as_aux_lemma=>kernel_rfl) (by as_aux_lemma=>kernel_rfl) (fun _ _ _ h=>h) (by rfl) ?_ (by assumption) ?_
     rotate_left
     · (intro w hSw;(try dsimp only at hSw);go_simp;try with_reducible rfl)
     try simp only [Act.put,List.setIfInBounds_toArray,List.set_cons_zero,List.set_cons_succ]
     refine ph_take (i:=17) (v:=?_) NS rfl (by as_aux_lemma=>kernel_rfl) (by as_aux_lemma=>kernel_rfl) (fun _ _ _ h=>h) (by rfl) ?_ (by assumption) ?_
     rotate_left
     · (intro w hSw;(try dsimp only at hSw);go_simp;try with_reducible rfl)
     try simp only [Act.put,List.setIfInBounds_toArray,List.set_cons_zero,List.set_cons_succ]
     refine ph_take (i:=18) (v:=?_) NS rfl (by as_aux_lemma=>kernel_rfl) (by as_aux_lemma=>kernel_rfl) (fun _ _ _ h=>h) (by rfl) ?_ (by assumption) ?_
     rotate_left
     · (intro w hSw;(try dsimp only at hSw);go_simp;try with_reducible rfl)
     try simp only [Act.put,List.setIfInBounds_toArray,List.set_cons_zero,List.set_cons_succ]
     refine ph_take (i:=19) (v:=?_) NS rfl (by as_aux_lemma=>kernel_rfl) (by as_aux_lemma=>kernel_rfl) (fun _ _ _ h=>h) (by rfl) ?_ (by assumption) ?_
     rotate_left
     · (intro w hSw;(try dsimp only at hSw);go_simp;try with_reducible rfl)
     try simp only [Act.put,List.setIfInBounds_toArray,List.set_cons_zero,List.set_cons_succ]
     refine ph_take (i:=21) (v:=?_) NS rfl (by as_aux_lemma=>kernel_rfl) (by as_aux_lemma=>kernel_rfl) (fun _ _ _ h=>h) (by rfl) ?_ (by assumption) ?_
     rotate_left
     · (intro w hSw;(try dsimp only at hSw);go_simp;try with_reducible rfl)
     try simp only [Act.put,List.setIfInBounds_toArray,List.set_cons_zero,List.set_cons_succ]
     refine ph_take (i:=22) (v:=?_) NS rfl (by as_aux_lemma=>kernel_rfl) (by as_aux_lemma=>kernel_rfl) (fun _ _ _ h=>h) (by rfl) ?_ (by assumption) ?_
     rotate_left
     · (intro w hSw;(try dsimp only at hSw);go_simp;try with_reducible rfl)
     try simp only [Act.put,List.setIfInBounds_toArray,List.set_cons_zero,List.set_cons_succ]
     refine ph_step (i:=20) rfl (by as_aux_lemma=>kernel_rfl) (by rfl) (fun KK hK=>?_)
     (go_simp;go_at_call 19;(with_reducible refine (C19.out _ _ _ (P.out _ (by first | with_reducible exact BX.out | with_reducible exact below_drew BX.out))).mono ?_);rintro e w5 ⟨rfl,-,hb5⟩;have BX:=Lib.hid hb5.out.2;clear hb5)
     refine hK.out _ _ ?_ (fun hHeld=>?_)
     · (try dsimp only);first | exact HS.out _ BX.out | exact HS.out _ (below_drew BX.out)
     clear hK KK
     try simp only [Act.put,List.setIfInBounds_toArray,List.set_cons_zero,List.set_cons_succ]
     refine ph_step (i:=23) rfl (by as_aux_lemma=>kernel_rfl) (by rfl) (fun KK hK=>?_)
     (go_simp;go_at_call 18;(with_reducible refine (C181.out _ _ _ (P.out _ (by first | with_reducible exact BX.out | with_reducible exact below_drew BX.out))).mono ?_);rintro e w5 ⟨rfl,-,hb5⟩;have BX:=Lib.hid hb5.out.2;clear hb5)
     refine hK.out _ _ ?_ (fun hHeld=>?_)
     · (try dsimp only);first | exact HS.out _ BX.out | exact HS.out _ (below_drew BX.out)
     clear hK KK
     try simp only [Act.put,List.setIfInBounds_toArray,List.set_cons_zero,List.set_cons_succ]
     refine ph_take (i:=24) (v:=?_) NS rfl (by as_aux_lemma=>kernel_rfl) (by as_aux_lemma=>kernel_rfl) (fun _ _ _ h=>h) (by rfl) ?_ (by assumption) ?_
     rotate_left
     · (intro w hSw;(try dsimp only at hSw);go_simp;try with_reducible rfl)
     try simp only [Act.put,List.setIfInBounds_toArray,List.set_cons_zero,List.set_cons_succ]
     refine ph_take (i:=25) (v:=?_) NS rfl (by as_aux_lemma=>kernel_rfl) (by as_aux_lemma=>kernel_rfl) (fun _ _ _ h=>h) (by rfl) ?_ (by assumption) ?_
     rotate_left
     · (intro w hSw;(try dsimp only at hSw);go_simp;try with_reducible rfl)
     try simp only [Act.put,List.setIfInBounds_toArray,List.set_cons_zero,List.set_cons_succ]
     refine ph_take (i:=26) (v:=?_) NS rfl (by as_aux_lemma=>kernel_rfl) (by as_aux_lemma=>kernel_rfl) (fun _ _ _ h=>h) (by rfl) ?_ (by assumption) ?_
     rotate_left
     · (intro w hSw;(try dsimp only at hSw);go_simp;try with_reducible rfl)
     try simp only [Act.put,List.setIfInBounds_toArray,List.set_cons_zero,List.set_cons_succ]
     refine ph_take (i:=27) (v:=?_) NS rfl (by as_aux_lemma=>kernel_rfl) (by as_aux_lemma=>kernel_rfl) (fun _ _ _ h=>h) (by rfl) ?_ (by assumption) ?_
     rotate_left
     · (intro w hSw;(try dsimp only at hSw);go_simp;try with_reducible rfl)
     try simp only [Act.put,List.setIfInBounds_toArray,List.set_cons_zero,List.set_cons_succ]
     refine ph_take (i:=28) (v:=?_) NS rfl (by as_aux_lemma=>kernel_rfl) (by as_aux_lemma=>kernel_rfl) (fun _ _ _ h=>h) (by rfl) ?_ (by assumption) ?_
     rotate_left
     · (intro w hSw;(try dsimp only at hSw);go_simp;try with_reducible rfl)
     try simp only [Act.put,List.setIfInBounds_toArray,List.set_cons_zero,List.set_cons_succ]
     refine ph_take (i:=29) (v:=?_) NS rfl (by as_aux_lemma=>kernel_rfl) (by as_aux_lemma=>kernel_rfl) (fun _ _ _ h=>h) (by rfl) ?_ (by assumption) ?_
     rotate_left
     · (intro w hSw;(try dsimp only at hSw);go_simp;try with_reducible rfl)
     try simp only [Act.put,List.setIfInBounds_toArray,List.set_cons_zero,List.set_cons_succ]
     refine ph_take (i:=31) (v:=?_) NS rfl (by as_aux_lemma=>kernel_rfl) (by as_aux_lemma=>kernel_rfl) (fun _ _ _ h=>h) (by rfl) ?_ (by assumption) ?_
     rotate_left
     · (intro w hSw;(try dsimp only at hSw);go_simp;try with_reducible rfl)
     try simp only [Act.put,List.setIfInBounds_toArray,List.set_cons_zero,List.set_cons_succ]
     refine ph_take (i:=32) (v:=?_) NS rfl (by as_aux_lemma=>kernel_rfl) (by as_aux_lemma=>kernel_rfl) (fun _ _ _ h=>h) (by rfl) ?_ (by assumption) ?_
     rotate_left
     · (intro w hSw;(try dsimp only at hSw);go_simp;try with_reducible rfl)
     try simp only [Act.put,List.setIfInBounds_toArray,List.set_cons_zero,List.set_cons_succ]
     refine ph_step (i:=30) rfl (by as_aux_lemma=>kernel_rfl) (by rfl) (fun KK hK=>?_)
     (go_simp;go_at_call 20;(with_reducible refine (C20.out _ _ _ (P.out _ (by first | with_reducible exact BX.out | with_reducible exact below_drew BX.out))).mono ?_);rintro e w5 ⟨rfl,-,hb5⟩;have BX:=Lib.hid hb5.out.2;clear hb5)
     refine hK.out _ _ ?_ (fun hHeld=>?_)
     · (try dsimp only);first | exact HS.out _ BX.out | exact HS.out _ (below_drew BX.out)
     clear hK KK
     try simp only [Act.put,List.setIfInBounds_toArray,List.set_cons_zero,List.set_cons_succ]
     refine ph_step (i:=33) rfl (by as_aux_lemma=>kernel_rfl) (by rfl) (fun KK hK=>?_)
     (go_simp;go_at_call 21;(with_reducible refine (C21.out _ _ _ (P.out _ (by first | with_reducible exact BX.out | with_reducible exact below_drew BX.out))).mono ?_);rintro e w5 ⟨rfl,-,hb5⟩;have BX:=Lib.hid hb5.out.2;clear hb5)
     refine hK.out _ _ ?_ (fun hHeld=>?_)
     · (try dsimp only);first | exact HS.out _ BX.out | exact HS.out _ (below_drew BX.out)
     clear hK KK
     try simp only [Act.put,List.setIfInBounds_toArray,List.set_cons_zero,List.set_cons_succ]
     refine ph_take (i:=34) (v:=?_) NS rfl (by as_aux_lemma=>kernel_rfl) (by as_aux_lemma=>kernel_rfl) (fun _ _ _ h=>h) (by rfl) ?_ (by assumption) ?_
     rotate_left
     · (intro w hSw;(try dsimp only at hSw);go_simp;try with_reducible rfl)
     try simp only [Act.put,List.setIfInBounds_toArray,List.set_cons_zero,List.set_cons_succ]
     refine ph_take (i:=35) (v:=?_) NS rfl (by as_aux_lemma=>kernel_rfl) (by as_aux_lemma=>kernel_rfl) (fun _ _ _ h=>h) (by rfl) ?_ (by assumption) ?_
     rotate_left
     · (intro w hSw;(try dsimp only at hSw);go_simp;try with_reducible rfl)
     try simp only [Act.put,List.setIfInBounds_toArray,List.set_cons_zero,List.set_cons_succ]
     refine ph_take (i:=36) (v:=?_) NS rfl (by as_aux_lemma=>kernel_rfl) (by as_aux_lemma=>kernel_rfl) (fun _ _ _ h=>h) (by rfl) ?_ (by assumption) ?_
     rotate_left
     · (intro w hSw;(try dsimp only at hSw);go_simp;try with_reducible rfl)
     try simp only [Act.put,List.setIfInBounds_toArray,List.set_cons_zero,List.set_cons_succ]
     refine ph_take (i:=37) (v:=?_) NS rfl (by as_aux_lemma=>kernel_rfl) (by as_aux_lemma=>kernel_rfl) (fun _ _ _ h=>h) (by rfl) ?_ (by assumption) ?_
     rotate_left
     · (intro w hSw;(try dsimp only at hSw);go_simp;try with_reducible rfl)
     try simp only [Act.put,List.setIfInBounds_toArray,List.set_cons_zero,List.set_cons_succ]
     refine ph_take (i:=38) (v:=?_) NS rfl (by as_aux_lemma=>kernel_rfl) (by as_aux_lemma=>kernel_rfl) (fun _ _ _ h=>h) (by rfl) ?_ (by assumption) ?_
     rotate_left
     · (intro w hSw;(try dsimp only at hSw);go_simp;try with_reducible rfl)
     try simp only [Act.put,List.setIfInBounds_toArray,List.set_cons_zero,List.set_cons_succ]
     refine ph_take (i:=40) (v:=?_) NS rfl (by as_aux_lemma=>kernel_rfl) (by as_aux_lemma=>kernel_rfl) (fun _ _ _ h=>h) (by rfl) ?_ (by assumption) ?_
     rotate_left
     · (intro w hSw;(try dsimp only at hSw);go_simp;try with_reducible rfl)
     try simp only [Act.put,List.setIfInBounds_toArray,List.set_cons_zero,List.set_cons_succ]
     refine ph_take (i:=41) (v:=?_) NS rfl (by as_aux_lemma=>kernel_rfl) (by as_aux_lemma=>kernel_rfl) (fun _ _ _ h=>h) (by rfl) ?_ (by assumption) ?_
     rotate_left
     · (intro w hSw;(try dsimp only at hSw);go_simp;try with_reducible rfl)
     try simp only [Act.put,List.setIfInBounds_toArray,List.set_cons_zero,List.set_cons_succ]
     refine ph_step (i:=39) rfl (by as_aux_lemma=>kernel_rfl) (by rfl) (fun KK hK=>?_)
     (go_simp;go_at_call 22;(with_reducible refine (C22.out _ _ _ (P.out _ (by first | with_reducible exact BX.out | with_reducible exact below_drew BX.out))).mono ?_);rintro e w5 ⟨rfl,-,hb5⟩;have BX:=Lib.hid hb5.out.2;clear hb5)
     refine hK.out _ _ ?_ (fun hHeld=>?_)
     · (try dsimp only);first | exact HS.out _ BX.out | exact HS.out _ (below_drew BX.out)
     clear hK KK
     try simp only [Act.put,List.setIfInBounds_toArray,List.set_cons_zero,List.set_cons_succ]
     refine ph_step (i:=42) rfl (by as_aux_lemma=>kernel_rfl) (by rfl) (fun KK hK=>?_)
     (go_simp;go_at_call 18;(with_reducible refine (C183.out _ _ _ (P.out _ (by first | with_reducible exact BX.out | with_reducible exact below_drew BX.out))).mono ?_);rintro e w5 ⟨rfl,-,hb5⟩;have BX:=Lib.hid hb5.out.2;clear hb5)
     refine hK.out _ _ ?_ (fun hHeld=>?_)
     · (try dsimp only);first | exact HS.out _ BX.out | exact HS.out _ (below_drew BX.out)
     clear hK KK
     try simp only [Act.put,List.setIfInBounds_toArray,List.set_cons_zero,List.set_cons_succ]
     refine ph_take (i:=43) (v:=?_) NS rfl (by as_aux_lemma=>kernel_rfl) (by as_aux_lemma=>kernel_rfl) (fun _ _ _ h=>h) (by rfl) ?_ (by assumption) ?_
     rotate_left
     · (intro w hSw;(try dsimp only at hSw);go_simp;try with_reducible rfl)
     try simp only [Act.put,List.setIfInBounds_toArray,List.set_cons_zero,List.set_cons_succ]
     refine ph_take (i:=44) (v:=?_) NS rfl (by as_aux_lemma=>kernel_rfl) (by as_aux_lemma=>kernel_rfl) (fun _ _ _ h=>h) (by rfl) ?_ (by assumption) ?_
     rotate_left
     · (intro w hSw;(try dsimp only at hSw);go_simp;try with_reducible rfl)
     try simp only [Act.put,List.setIfInBounds_toArray,List.set_cons_zero,List.set_cons_succ]
     refine ph_take (i:=45) (v:=?_) NS rfl (by as_aux_lemma=>kernel_rfl) (by as_aux_lemma=>kernel_rfl) (fun _ _ _ h=>h) (by rfl) ?_ (by assumption) ?_
     rotate_left
     · (intro w hSw;(try dsimp only at hSw);go_simp;try with_reducible rfl)
     try simp only [Act.put,List.setIfInBounds_toArray,List.set_cons_zero,List.set_cons_succ]
     refine ph_take (i:=46) (v:=?_) NS rfl (by as_aux_lemma=>kernel_rfl) (by as_aux_lemma=>kernel_rfl) (fun _ _ _ h=>h) (by rfl) ?_ (by assumption) ?_
     rotate_left
     · (intro w hSw;(try dsimp only at hSw);go_simp;try with_reducible rfl)
     try simp only [Act.put,List.setIfInBounds_toArray,List.set_cons_zero,List.set_cons_succ]
     refine ph_take (i:=47) (v:=?_) NS rfl (by as_aux_lemma=>kernel_rfl) (by as_aux_lemma=>kernel_rfl) (fun _ _ _ h=>h) (by rfl) ?_ (by assumption) ?_
     rotate_left
     · (intro w hSw;(try dsimp only at hSw);go_simp;try with_reducible rfl)
     try simp only [Act.put,List.setIfInBounds_toArray,List.set_cons_zero,List.set_cons_succ]
     refine ph_take (i:=49) (v:=?_) NS rfl (by as_aux_lemma=>kernel_rfl) (by as_aux_lemma=>kernel_rfl) (fun _ _ _ h=>h) (by rfl) ?_ (by assumption) ?_
     rotate_left
     · (intro w hSw;(try dsimp only at hSw);go_simp;try with_reducible rfl)
     try simp only [Act.put,List.setIfInBounds_toArray,List.set_cons_zero,List.set_cons_succ]
     refine ph_take (i:=50) (v:=?_) NS rfl (by as_aux_lemma=>kernel_rfl) (by as_aux_lemma=>kernel_rfl) (fun _ _ _ h=>h) (by rfl) ?_ (by assumption) ?_
     rotate_left
     · (intro w hSw;(try dsimp only at hSw);go_simp;try with_reducible rfl)
     try simp only [Act.put,List.setIfInBounds_toArray,List.set_cons_zero,List.set_cons_succ]
     refine ph_step (i:=48) rfl (by as_aux_lemma=>kernel_rfl) (by rfl) (fun KK hK=>?_)
     (go_simp;go_at_call 23;(with_reducible refine (C23.out _ _ _ (P.out _ (by first | with_reducible exact BX.out | with_reducible exact below_drew BX.out))).mono ?_);rintro e w5 ⟨rfl,-,hb5⟩;have BX:=Lib.hid hb5.out.2;clear hb5)
     refine hK.out _ _ ?_ (fun hHeld=>?_)
     · (try dsimp only);first | exact HS.out _ BX.out | exact HS.out _ (below_drew BX.out)
     clear hK KK
     try simp only [Act.put,List.setIfInBounds_toArray,List.set_cons_zero,List.set_cons_succ]
     refine ph_step (i:=51) rfl (by as_aux_lemma=>kernel_rfl) (by rfl) (fun KK hK=>?_)
     (go_simp;go_at_call 18;(with_reducible refine (C184.out _ _ _ (P.out _ (by first | with_reducible exact BX.out | with_reducible exact below_drew BX.out))).mono ?_);rintro e w5 ⟨rfl,-,hb5⟩;have BX:=Lib.hid hb5.out.2;clear hb5)
     refine hK.out _ _ ?_ (fun hHeld=>?_)
     · (try dsimp only);first | exact HS.out _ BX.out | exact HS.out _ (below_drew BX.out)
     clear hK KK
     try simp only [Act.put,List.setIfInBounds_toArray,List.set_cons_zero,List.set_cons_succ]
     refine ph_take (i:=52) (v:=?_) NS rfl (by as_aux_lemma=>kernel_rfl) (by as_aux_lemma=>kernel_rfl) (fun _ _ _ h=>h) (by rfl) ?_ (by assumption) ?_
     rotate_left
     · (intro w hSw;(try dsimp only at hSw);go_simp;try with_reducible rfl)
     try simp only [Act.put,List.setIfInBounds_toArray,List.set_cons_zero,List.set_cons_succ]
     refine ph_take (i:=53) (v:=?_) NS rfl (by as_aux_lemma=>kernel_rfl) (by as_aux_lemma=>kernel_rfl) (fun _ _ _ h=>h) (by rfl) ?_ (by assumption) ?_
     rotate_left
     · (intro w hSw;(try dsimp only at hSw);go_simp;try with_reducible rfl)
     try simp only [Act.put,List.setIfInBounds_toArray,List.set_cons_zero,List.set_cons_succ]
     refine ph_take (i:=54) (v:=?_) NS rfl (by as_aux_lemma=>kernel_rfl) (by as_aux_lemma=>kernel_rfl) (fun _ _ _ h=>h) (by rfl) ?_ (by assumption) ?_
     rotate_left
     · (intro w hSw;(try dsimp only at hSw);go_simp;try with_reducible rfl)
     try simp only [Act.put,List.setIfInBounds_toArray,List.set_cons_zero,List.set_cons_succ]
     refine ph_take (i:=55) (v:=?_) NS rfl (by as_aux_lemma=>kernel_rfl) (by as_aux_lemma=>kernel_rfl) (fun _ _ _ h=>h) (by rfl) ?_ (by assumption) ?_
     rotate_left
     · (intro w hSw;(try dsimp only at hSw);go_simp;try with_reducible rfl)
     try simp only [Act.put,List.setIfInBounds_toArray,List.set_cons_zero,List.set_cons_succ]
     refine ph_take (i:=56) (v:=?_) NS rfl (by as_aux_lemma=>kernel_rfl) (by as_aux_lemma=>kernel_rfl) (fun _ _ _ h=>h) (by rfl) ?_ (by assumption) ?_
     rotate_left
     · (intro w hSw;(try dsimp only at hSw);go_simp;try with_reducible rfl)
     try simp only [Act.put,List.setIfInBounds_toArray,List.set_cons_zero,List.set_cons_succ]
     refine ph_take (i:=57) (v:=?_) NS rfl (by as_aux_lemma=>kernel_rfl) (by as_aux_lemma=>kernel_rfl) (fun _ _ _ h=>h) (by rfl) ?_ (by assumption) ?_
     rotate_left
     · (intro w hSw;(try dsimp only at hSw);go_simp;try with_reducible rfl)
     try simp only [Act.put,List.setIfInBounds_toArray,List.set_cons_zero,List.set_cons_succ]
     refine ph_take (i:=58) (v:=?_) NS rfl (by as_aux_lemma=>kernel_rfl) (by as_aux_lemma=>kernel_rfl) (fun _ _ _ h=>h) (by rfl) ?_ (by assumption) ?_
     rotate_left
     · (intro w hSw;(try dsimp only at hSw);go_simp;try with_reducible rfl)
     try simp only [Act.put,List.setIfInBounds_toArray,List.set_cons_zero,List.set_cons_succ]
     refine ph_take (i:=59) (v:=?_) NS rfl (by as_aux_lemma=>kernel_rfl) (by as_aux_lemma=>kernel_rfl) (fun _ _ _ h=>h) (by rfl) ?_ (by assumption) ?_
     rotate_left
     · (intro w hSw;(try dsimp only at hSw);go_simp;try with_reducible rfl)
     try simp only [Act.put,List.setIfInBounds_toArray,List.set_cons_zero,List.set_cons_succ]
     refine ph_take (i:=60) (v:=?_) NS rfl (by as_aux_lemma=>kernel_rfl) (by as_aux_lemma=>kernel_rfl) (fun _ _ _ h=>h) (by rfl) ?_ (by assumption) ?_
     rotate_left
     · (intro w hSw;(try dsimp only at hSw);go_simp;try with_reducible rfl)
     try simp only [Act.put,List.setIfInBounds_toArray,List.set_cons_zero,List.set_cons_succ]
     refine ph_take (i:=61) (v:=?_) NS rfl (by as_aux_lemma=>kernel_rfl) (by as_aux_lemma=>kernel_rfl) (fun _ _ _ h=>h) (by rfl) ?_ (by assumption) ?_
     rotate_left
     · (intro w hSw;(try dsimp only at hSw);go_simp;try with_reducible rfl)
     try simp only [Act.put,List.setIfInBounds_toArray,List.set_cons_zero,List.set_cons_succ]
     refine ph_take (i:=62) (v:=?_) NS rfl (by as_aux_lemma=>kernel_rfl) (by as_aux_lemma=>kernel_rfl) (fun _ _ _ h=>h) (by rfl) ?_ (by assumption) ?_
     rotate_left
     · (intro w hSw;(try dsimp only at hSw);go_simp;try with_reducible rfl)
     try simp only [Act.put,List.setIfInBounds_toArray,List.set_cons_zero,List.set_cons_succ]
     refine ph_take (i:=63) (v:=?_) NS rfl (by as_aux_lemma=>kernel_rfl) (by as_aux_lemma=>kernel_rfl) (fun _ _ _ h=>h) (by rfl) ?_ (by assumption) ?_
     rotate_left
     · (intro w hSw;(try dsimp only at hSw);go_simp;try with_reducible rfl)
     try simp only [Act.put,List.setIfInBounds_toArray,List.set_cons_zero,List.set_cons_succ]
     refine ph_step (i:=64) rfl (by as_aux_lemma=>kernel_rfl) (by rfl) (fun KK hK=>?_)
     (go_simp;go_at_call 24;(with_reducible refine (C24'.out _ (by first | with_reducible exact BX.out | with_reducible exact below_drew BX.out)).mono ?_);rintro e w5 ⟨rfl,hb5⟩;have BX:=Lib.hid hb5;clear hb5)
     refine hK.out _ _ ?_ (fun hHeld=>?_)
     · (try dsimp only);first | exact HS.out _ BX.out | exact HS.out _ (below_drew BX.out)
     clear hK KK
     try simp only [Act.put,List.setIfInBounds_toArray,List.set_cons_zero,List.set_cons_succ]
     refine ph_take (i:=65) (v:=?_) NS rfl (by as_aux_lemma=>kernel_rfl) (by as_aux_lemma=>kernel_rfl) (fun _ _ _ h=>h) (by rfl) ?_ (by assumption) ?_
     rotate_left
     · (intro w hSw;(try dsimp only at hSw);go_simp;try with_reducible rfl)
     try simp only [Act.put,List.setIfInBounds_toArray,List.set_cons_zero,List.set_cons_succ]
     refine ph_take (i:=66) (v:=?_) NS rfl (by as_aux_lemma=>kernel_rfl) (by as_aux_lemma=>kernel_rfl) (fun _ _ _ h=>h) (by rfl) ?_ (by assumption) ?_
     rotate_left
     · (intro w hSw;(try dsimp only at hSw);go_simp;try with_reducible rfl)
     try simp only [Act.put,List.setIfInBounds_toArray,List.set_cons_zero,List.set_cons_succ]
     refine ph_take (i:=67) (v:=?_) NS rfl (by as_aux_lemma=>kernel_rfl) (by as_aux_lemma=>kernel_rfl) (fun _ _ _ h=>h) (by rfl) ?_ (by assumption) ?_
     rotate_left
     · (intro w hSw;(try dsimp only at hSw);go_simp;try with_reducible rfl)
     try simp only [Act.put,List.setIfInBounds_toArray,List.set_cons_zero,List.set_cons_succ]
     refine ph_take (i:=68) (v:=?_) NS rfl (by as_aux_lemma=>kernel_rfl) (by as_aux_lemma=>kernel_rfl) (fun _ _ _ h=>h) (by rfl) ?_ (by assumption) ?_
     rotate_left
     · (intro w hSw;(try dsimp only at hSw);go_simp;try with_reducible rfl)
     try simp only [Act.put,List.setIfInBounds_toArray,List.set_cons_zero,List.set_cons_succ]
     refine ph_take (i:=69) (v:=?_) NS rfl (by as_aux_lemma=>kernel_rfl) (by as_aux_lemma=>kernel_rfl) (fun _ _ _ h=>h) (by rfl) ?_ (by assumption) ?_
     rotate_left
     · (intro w hSw;(try dsimp only at hSw);go_simp;try with_reducible rfl)
     try simp only [Act.put,List.setIfInBounds_toArray,List.set_cons_zero,List.set_cons_succ]
     refine ph_take (i:=70) (v:=?_) NS rfl (by as_aux_lemma=>kernel_rfl) (by as_aux_lemma=>kernel_rfl) (fun _ _ _ h=>h) (by rfl) ?_ (by assumption) ?_
     rotate_left
     · (intro w hSw;(try dsimp only at hSw);go_simp;try with_reducible rfl)
     try simp only [Act.put,List.setIfInBounds_toArray,List.set_cons_zero,List.set_cons_succ]
     refine ph_take (i:=71) (v:=?_) NS rfl (by as_aux_lemma=>kernel_rfl) (by as_aux_lemma=>kernel_rfl) (fun _ _ _ h=>h) (by rfl) ?_ (by assumption) ?_
     rotate_left
     · (intro w hSw;(try dsimp only at hSw);go_simp;try with_reducible rfl)
     try simp only [Act.put,List.setIfInBounds_toArray,List.set_cons_zero,List.set_cons_succ]
     refine ph_take (i:=72) (v:=?_) NS rfl (by as_aux_lemma=>kernel_rfl) (by as_aux_lemma=>kernel_rfl) (fun _ _ _ h=>h) (by rfl) ?_ (by assumption) ?_
     rotate_left
     · (intro w hSw;(try dsimp only at hSw);go_simp;try with_reducible rfl)
     try simp only [Act.put,List.setIfInBounds_toArray,List.set_cons_zero,List.set_cons_succ]
     refine ph_take (i:=73) (v:=?_) NS rfl (by as_aux_lemma=>kernel_rfl) (by as_aux_lemma=>kernel_rfl) (fun _ _ _ h=>h) (by rfl) ?_ (by assumption) ?_
     rotate_left
     · (intro w hSw;(try dsimp only at hSw);go_simp;try with_reducible rfl)
     try simp only [Act.put,List.setIfInBounds_toArray,List.set_cons_zero,List.set_cons_succ]
     refine ph_take (i:=74) (v:=?_) NS rfl (by as_aux_lemma=>kernel_rfl) (by as_aux_lemma=>kernel_rfl) (fun _ _ _ h=>h) (by rfl) ?_ (by assumption) ?_
     rotate_left
     · (intro w hSw;(try dsimp only at hSw);go_simp;try with_reducible rfl)
     try simp only [Act.put,List.setIfInBounds_toArray,List.set_cons_zero,List.set_cons_succ]
     refine ph_take (i:=75) (v:=?_) NS rfl (by as_aux_lemma=>kernel_rfl) (by as_aux_lemma=>kernel_rfl) (fun _ _ _ h=>h) (by rfl) ?_ (by assumption) ?_
     rotate_left
     · (intro w hSw;(try dsimp only at hSw);go_simp;try with_reducible rfl)
     try simp only [Act.put,List.setIfInBounds_toArray,List.set_cons_zero,List.set_cons_succ]
     refine ph_take (i:=76) (v:=?_) NS rfl (by as_aux_lemma=>kernel_rfl) (by as_aux_lemma=>kernel_rfl) (fun _ _ _ h=>h) (by rfl) ?_ (by assumption) ?_
     rotate_left
     · (intro w hSw;(try dsimp only at hSw);go_simp;try with_reducible rfl)
     try simp only [Act.put,List.setIfInBounds_toArray,List.set_cons_zero,List.set_cons_succ]
     refine ph_take (i:=77) (v:=?_) NS rfl (by as_aux_lemma=>kernel_rfl) (by as_aux_lemma=>kernel_rfl) (fun _ _ _ h=>h) (by rfl) ?_ (by assumption) ?_
     rotate_left
     · (intro w hSw;(try dsimp only at hSw);go_simp;try with_reducible rfl)
     try simp only [Act.put,List.setIfInBounds_toArray,List.set_cons_zero,List.set_cons_succ]
     refine ph_take (i:=80) (v:=?_) NS rfl (by as_aux_lemma=>kernel_rfl) (by as_aux_lemma=>kernel_rfl) (fun _ _ _ h=>h) (by rfl) ?_ (by assumption) ?_
     rotate_left
     · (intro w hSw;(try dsimp only at hSw);go_simp;try with_reducible rfl)
     try simp only [Act.put,List.setIfInBounds_toArray,List.set_cons_zero,List.set_cons_succ]
     refine ph_take (i:=81) (v:=?_) NS rfl (by as_aux_lemma=>kernel_rfl) (by as_aux_lemma=>kernel_rfl) (fun _ _ _ h=>h) (by rfl) ?_ (by assumption) ?_
     rotate_left
     · (intro w hSw;(try dsimp only at hSw);go_simp;try with_reducible rfl)
     try simp only [Act.put,List.setIfInBounds_toArray,List.set_cons_zero,List.set_cons_succ]
     refine ph_take (i:=82) (v:=?_) NS rfl (by as_aux_lemma=>kernel_rfl) (by as_aux_lemma=>kernel_rfl) (fun _ _ _ h=>h) (by rfl) ?_ (by assumption) ?_
     rotate_left
     · (intro w hSw;(try dsimp only at hSw);go_simp;try with_reducible rfl)
     try simp only [Act.put,List.setIfInBounds_toArray,List.set_cons_zero,List.set_cons_succ]
     refine ph_take (i:=83) (v:=?_) NS rfl (by as_aux_lemma=>kernel_rfl) (by as_aux_lemma=>kernel_rfl) (fun _ _ _ h=>h) (by rfl) ?_ (by assumption) ?_
     rotate_left
     · (intro w hSw;(try dsimp only at hSw);go_simp;try with_reducible rfl)
     try simp only [Act.put,List.setIfInBounds_toArray,List.set_cons_zero,List.set_cons_succ]
     refine ph_take (i:=84) (v:=?_) NS rfl (by as_aux_lemma=>kernel_rfl) (by as_aux_lemma=>kernel_rfl) (fun _ _ _ h=>h) (by rfl) ?_ (by assumption) ?_
     rotate_left
     · (intro w hSw;(try dsimp only at hSw);go_simp;try with_reducible rfl)
     try simp only [Act.put,List.setIfInBounds_toArray,List.set_cons_zero,List.set_cons_succ]
     refine ph_step (i:=78) rfl (by as_aux_lemma=>kernel_rfl) (by rfl) (fun KK hK=>?_)
     (go_simp;go_at_call 25;(with_reducible refine (C25.out _ _ _ (P.out _ (by first | with_reducible exact BX.out | with_reducible exact below_drew BX.out))).mono ?_);rintro e w5 ⟨rfl,-,hb5⟩;have BX:=Lib.hid hb5.out.2;clear hb5)
     refine hK.out _ _ ?_ (fun hHeld=>?_)
     · (try dsimp only);first | exact HS.out _ BX.out | exact HS.out _ (below_drew BX.out)
     clear hK KK
     try simp only [Act.put,List.setIfInBounds_toArray,List.set_cons_zero,List.set_cons_succ]
     refine ph_step (i:=79) rfl (by as_aux_lemma=>kernel_rfl) (by rfl) (fun KK hK=>?_)
     (go_simp;go_at_call 26;(with_reducible refine (C26.out _ _ _ (P.out _ (by first | with_reducible exact BX.out | with_reducible exact below_drew BX.out))).mono ?_);rintro e w5 ⟨rfl,-,hb5⟩;have BX:=Lib.hid hb5.out.2;clear hb5)
     refine hK.out _ _ ?_ (fun hHeld=>?_)
     · (try dsimp only);first | exact HS.out _ BX.out | exact HS.out _ (below_drew BX.out)
     clear hK KK
     try simp only [Act.put,List.setIfInBounds_toArray,List.set_cons_zero,List.set_cons_succ]
     refine ph_take (i:=85) (v:=?_) NS rfl (by as_aux_lemma=>kernel_rfl) (by as_aux_lemma=>kernel_rfl) (fun _ _ _ h=>h) (by rfl) ?_ (by assumption) ?_
     rotate_left
     · (intro w hSw;(try dsimp only at hSw);go_simp;try with_reducible rfl)
     try simp only [Act.put,List.setIfInBounds_toArray,List.set_cons_zero,List.set_cons_succ]
     refine ph_take (i:=86) (v:=?_) NS rfl (by as_aux_lemma=>kernel_rfl) (by as_aux_lemma=>kernel_rfl) (fun _ _ _ h=>h) (by rfl) ?_ (by assumption) ?_
     rotate_left
     · (intro w hSw;(try dsimp only at hSw);go_simp;try with_reducible rfl)
     try simp only [Act.put,List.setIfInBounds_toArray,List.set_cons_zero,List.set_cons_succ]
     refine ph_take (i:=87) (v:=?_) NS rfl (by as_aux_lemma=>kernel_rfl) (by as_aux_lemma=>kernel_rfl) (fun _ _ _ h=>h) (by rfl) ?_ (by assumption) ?_
     rotate_left
     · (intro w hSw;(try dsimp only at hSw);go_simp;try with_reducible rfl)
     try simp only [Act.put,List.setIfInBounds_toArray,List.set_cons_zero,List.set_cons_succ]
     refine wpAnyH_done (by as_aux_lemma=>kernel_rfl) ?_ _
     go_wp2
     go_ret
     exact⟨rfl,BW.out.trans (BX.out.mono BW.out.size)⟩
   · have D9:Hid (∀ W,BnB w W (.slice b0 n0 m0) (.slice b1 n1 m1) (.slice b2 n2 m2) (.slice b3 n3 m3) (.slice b4 n4 m4) (.slice b5 n5 m5) (.slice b6 n6 m6)→Calls Tryz.prog 9 #[.agg #[.slice b0 n0 m0,.slice b1 n1 m1,.slice b2 n2 m2,.slice b3 n3 m3,.slice b4 n4 m4,.slice b5 n5 m5,.slice b6 n6 m6]] W fun e W'=>e=.returned (.tuple #[.pointer none,.pointer none,.bool true])∧Hid (Below w.heap.size w W')):=Lib.hid (fun W hW=>(C9.out W hW).mono (by
      rintro e W' ⟨hw,-,⟨d',b,b',h,rfl,hh⟩ | ⟨hno,rfl⟩⟩
      · exact absurd ⟨d',h⟩ hl
      · exact⟨rfl,Lib.hid hw.2⟩))
     clear C9 hl
     go_enter Tryz.func3,Tryz.ntmps3
     go_wp2_with (first
     | (go_at_call 9;(with_reducible refine (D9.out _ H8.out).mono ?_);rintro e W9 ⟨rfl,H9⟩)
     | (go_at_call 7;(with_reducible refine (C7.out _ H1.out).mono ?_);rintro e W7 ⟨rfl,H7'⟩;have H7:=Lib.hid H7';clear H7';obtain⟨⟨q0,q1,q2,q3,q4,q5,q6⟩,-⟩:=H7.out)
     | (go_at_call 8;(with_reducible refine (C8.out _ H7.out).mono ?_);rintro e W8 ⟨rfl,H8'⟩;have H8:=Lib.hid H8';clear H8';obtain⟨⟨q0,q1,q2,q3,q4,q5,q6⟩,-⟩:=H8.out))
     go_ret
     exact⟨rfl,H9.out⟩
 · rw [decide_eq_false hs] at C8
   clear h0 h1 h2 h3 h4 h5 h6 l0 l1 l2 l3 l4 l5 l6 hf7 hM hH hs
   go_enter Tryz.func3,Tryz.ntmps3
   go_wp2_with (first
   | (go_at_call 7;(with_reducible refine (C7.out _ H8.out).mono ?_);rintro e W9 ⟨rfl,H9'⟩;have H9:=Lib.hid H9';clear H9')
   | (go_at_call 7;(with_reducible refine (C7.out _ H1.out).mono ?_);rintro e W7 ⟨rfl,H7'⟩;have H7:=Lib.hid H7';clear H7';obtain⟨⟨q0,q1,q2,q3,q4,q5,q6⟩,-⟩:=H7.out)
   | (go_at_call 8;(with_reducible refine (C8.out _ H7.out).mono ?_);rintro e W8 ⟨rfl,H8'⟩;have H8:=Lib.hid H8';clear H8';obtain⟨⟨q0,q1,q2,q3,q4,q5,q6⟩,-⟩:=H8.out))
   go_ret
   exact⟨rfl,H9.out.2⟩
end Go.Proofs.YtmellioacefjjaaGreatDoor
