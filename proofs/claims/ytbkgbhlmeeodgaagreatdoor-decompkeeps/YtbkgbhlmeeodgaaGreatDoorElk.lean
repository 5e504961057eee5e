/- keeps5: a law of stage 9 walked. -/
import Derived.Test.YtbkgbhlmeeodgaaGreatDoorQc49
import Derived.Deep.QuietTactic
namespace Go.Proofs.YtbkgbhlmeeodgaaGreatDoor
open Go.RowKit Go.Shelf
attribute [local go_sem] Oper.semAt_some
theorem ph_take {Q:Exit→Act→World→Prop} {l:List Oper} {S:World→Prop} {i:Nat} {oi:Oper} {rest:List Oper} {v:Value} {fuel:Nat} {listed:Array Bool} {a:Act} {w:World} (hs:Hid (Region.noSelect l.toArray=true)) (hd:l.drop i=oi::rest) (hf:Region.free .any l.toArray listed i=true) (hr:(Region.ready .any l.toArray listed).contains i=true)
 (hQ:∀ c a w,Q (.panic c) (a.put oi.dst v) w→Q (.panic c) a w) (hw:Region.wanted oi (yielded l.toArray a.tmps)=true) (hy:∀ w,S w→(execOp a.eval oi).run Tryz.prog w=.ok (.value v) w) (hS:S w) (h:wpAnyH Tryz.prog .any l.toArray Q S fuel (listed.setIfInBounds i true) (a.put oi.dst v) w):wpAnyH Tryz.prog .any l.toArray Q S (fuel+1) listed a w:=
 wpAnyH_take (drop_get hd) hs.out hf hr hQ (.inl ⟨hw,hy⟩) hS h
theorem ph_step {Q:Exit→Act→World→Prop} {l:List Oper} {S:World→Prop} {i:Nat} {oi:Oper} {rest:List Oper} {fuel:Nat} {listed:Array Bool} {a:Act} {w:World} (hd:l.drop i=oi::rest) (hr:Region.ready .any l.toArray listed = [i]) (hw:Region.wanted oi (yielded l.toArray a.tmps)=true)
 (h:∀ K:Act→World→Prop,Shut (∀ a w,S w→(S w→wpAnyH Tryz.prog .any l.toArray Q S fuel (listed.setIfInBounds i true) a w)→K a w)→Oper.wp Tryz.prog oi a w K Q):wpAnyH Tryz.prog .any l.toArray Q S (fuel+1) listed a w:=
 wpAnyH_ready hr (by simp) (AllReadyH.cons (drop_get hd) (fun K hK=>by rw [if_pos hw];exact h K hK) AllReadyH.nil)
theorem ph_open {Q:Exit→Act→World→Prop} {id:Nat} {l:List Oper} {a:Act} {w:World} (S:World→Prop) (hm:Tryz.prog.follows .mixedOrders=true) (hS:S w.drew) (hs:Region.noSelect l.toArray=true)
 (h:Hid (Region.noSelect l.toArray=true)→S w.drew→wpAnyH Tryz.prog .any l.toArray Q S l.toArray.size (Array.replicate l.toArray.size false) a w.drew):(Code.region id l.toArray true).wp Tryz.prog Q a w:=
 wp_region_held_drew (S:=S) hm hS (fun q=>h (Lib.hid hs) q)
theorem ph_skip {Q:Exit→Act→World→Prop} {l:List Oper} {S:World→Prop} {i:Nat} {oi:Oper} {rest:List Oper} {fuel:Nat} {listed:Array Bool} {a:Act} {w:World} (hs:Hid (Region.noSelect l.toArray=true)) (hd:l.drop i=oi::rest) (hf:Region.free .any l.toArray listed i=true) (hr:(Region.ready .any l.toArray listed).contains i=true)
 (hQ:∀ c a w,Q (.panic c) (a.put oi.dst undef) w→Q (.panic c) a w) (hw:Region.wanted oi (yielded l.toArray a.tmps)=false) (hS:S w) (h:wpAnyH Tryz.prog .any l.toArray Q S fuel (listed.setIfInBounds i true) (a.put oi.dst undef) w):wpAnyH Tryz.prog .any l.toArray Q S (fuel+1) listed a w:=
 wpAnyH_take (drop_get hd) hs.out hf hr hQ (.inr ⟨hw,rfl⟩) hS h
def KpI (w X:World) (b:Nat) (ps:List Uc.Pr) (A:Option Addr) (ns:Nat) (T:List Int) (kx:Nat) (s8:Value) (wr:World):Prop:=
 ∃ k:Nat,s8=.int .i64 k∧k≤ns∧ns-k≤kx∧Hid (Below X.heap.size X wr∧Hd w wr b ps∧Vals wr A ns (nums .i64 T))
theorem cell_nums {W:World} {A:Option Addr} {n k:Nat} {T:List Int} {x:Int} (h:Vals W A n (nums .i64 T)) (hx:T[k]? = some x):∃ b off,A=some ⟨b,off,none⟩∧b<W.heap.size∧W.cell? ⟨b,off+k,none⟩=some (.int .i64 x):=by
 have hl:T.length=n:=by have:=h.1;rwa [nlen] at this
 have:=(List.getElem?_eq_some_iff.1 hx).1
 obtain⟨b,off,rfl,hb,hc⟩:=h.2 (by omega)
 exact⟨b,off,rfl,hb,hc k _ (by unfold nums;rw [List.getElem?_map,hx];rfl)⟩
def KpJ (V:World) (κ:Int→Int) (c:Int) (s T:List Int) (ns kx:Nat) (s9 s10 s11:Value) (W:World):Prop:=
 ∃ (k n1 n2:Nat) (A1:Option Addr) (c1:Nat) (A2:Option Addr) (c2:Nat),s9=.slice A1 n1 c1∧s10=.slice A2 n2 c2∧s11=.int .i64 k∧(k≤ns∧ns-k≤kx∧n1≤k∧n2≤k)∧Hid (Two V W (.slice A1 n1 c1) n1 ((s.take k).filter (fun z=>κ z=c)) (.slice A2 n2 c2) n2 ((T.take k).filter (fun z=>κ z=c)))
theorem filt_step {κ:Int→Int} {c:Int} {s:List Int} {k:Nat} {u:Int} (h:s[k]? = some u):(s.take (k+1)).filter (fun z=>κ z=c)=(s.take k).filter (fun z=>κ z=c)++if κ u=c then [u] else []:=by
 rw [List.take_add_one,h,List.filter_append]
 by_cases e:κ u=c <;> simp [e]
set_option maxRecDepth 100000 in
set_option maxHeartbeats 8000000 in
theorem keeps5 (b0 b1 b2 b3 b4 b5 b6:Option Addr) (n0 n1 n2 n3 n4 n5 n6 m0 m1 m2 m3 m4 m5 m6:Nat) (f:Nat→List UInt8) (As:Option Addr) (ns cs:Nat) (s:List Int) (w:World) (h0:Octs w b0 n0 (f 0)) (h1:Octs w b1 n1 (f 1)) (h2:Octs w b2 n2 (f 2)) (h3:Octs w b3 n3 (f 3)) (h4:Octs w b4 n4 (f 4)) (h5:Octs w b5 n5 (f 5)) (h6:Octs w b6 n6 (f 6))
 (l0:n0≤1000000000000000) (l1:n1≤1000000000000000) (l2:n2≤1000000000000000) (l3:n3≤1000000000000000) (l4:n4≤1000000000000000) (l5:n5≤1000000000000000) (l6:n6≤1000000000000000) (hf7:∀ i,7≤i→f i = []) (hM:ML w) (hH:HanT w) (hs:Vals w As ns (nums .i64 s)) (hcp:ns≤cs∧(As=none→cs=0)):
 Calls Tryz.prog 4 #[.agg #[.slice b0 n0 m0,.slice b1 n1 m1,.slice b2 n2 m2,.slice b3 n3 m3,.slice b4 n4 m4,.slice b5 n5 m5,.slice b6 n6 m6],.slice As ns cs] w fun e w'=>e=.returned (.bool true)∧Below w.heap.size w w':=by
 have C7:Hid (∀ W,BnB w W (.slice b0 n0 m0) (.slice b1 n1 m1) (.slice b2 n2 m2) (.slice b3 n3 m3) (.slice b4 n4 m4) (.slice b5 n5 m5) (.slice b6 n6 m6)→Calls Tryz.prog 9 #[] W fun e W'=>e=.returned (.bool true)∧BnB w W' (.slice b0 n0 m0) (.slice b1 n1 m1) (.slice b2 n2 m2) (.slice b3 n3 m3) (.slice b4 n4 m4) (.slice b5 n5 m5) (.slice b6 n6 m6)):=Lib.hid (fun W hW=>(awake7 W (ml_on hM hW.2) (hH.below hH.lt hW.2)).mono (by
  rintro e W' ⟨rfl,hb⟩
  exact⟨rfl,hW.below hb⟩))
 have C8:Hid (∀ W,BnB w W (.slice b0 n0 m0) (.slice b1 n1 m1) (.slice b2 n2 m2) (.slice b3 n3 m3) (.slice b4 n4 m4) (.slice b5 n5 m5) (.slice b6 n6 m6)→Calls Tryz.prog 10 #[.agg #[.slice b0 n0 m0,.slice b1 n1 m1,.slice b2 n2 m2,.slice b3 n3 m3,.slice b4 n4 m4,.slice b5 n5 m5,.slice b6 n6 m6]] W fun e W'=>e=.returned (.bool (decide (n0+n1+n2+n3+n4+n5+n6≤3000)))∧BnB w W' (.slice b0 n0 m0) (.slice b1 n1 m1) (.slice b2 n2 m2) (.slice b3 n3 m3) (.slice b4 n4 m4) (.slice b5 n5 m5) (.slice b6 n6 m6)):=Lib.hid (fun W hW=>(small8 b0 b1 b2 b3 b4 b5 b6 n0 n1 n2 n3 n4 n5 n6 m0 m1 m2 m3 m4 m5 m6 W l0 l1 l2 l3 l4 l5 l6).mono (by
  rintro e W' ⟨rfl,hb⟩
  exact⟨rfl,hW.below hb⟩))
 have H1:=Lib.hid (bnb_new w (.slice b0 n0 m0) (.slice b1 n1 m1) (.slice b2 n2 m2) (.slice b3 n3 m3) (.slice b4 n4 m4) (.slice b5 n5 m5) (.slice b6 n6 m6))
 by_cases hsm:n0+n1+n2+n3+n4+n5+n6≤3000
 · rw [decide_eq_true hsm] at C8
   by_cases hln:ns≤30
   · have hfl:∀ i,(f i).length≤3000:=by
      intro i
      rcases Nat.lt_or_ge i 7 with hi | hi
      · match i,hi with
        | 0,_=>have:=h0.len;omega
        | 1,_=>have:=h1.len;omega
        | 2,_=>have:=h2.len;omega
        | 3,_=>have:=h3.len;omega
        | 4,_=>have:=h4.len;omega
        | 5,_=>have:=h5.len;omega
        | 6,_=>have:=h6.len;omega
      · rw [hf7 i hi];simp
     have hlb:decide (30<(ns:Int))=false:=decide_eq_false (by omega)
     have C9:Hid (∀ W,BnB w W (.slice b0 n0 m0) (.slice b1 n1 m1) (.slice b2 n2 m2) (.slice b3 n3 m3) (.slice b4 n4 m4) (.slice b5 n5 m5) (.slice b6 n6 m6)→Calls Tryz.prog 23 #[.agg #[.slice b0 n0 m0,.slice b1 n1 m1,.slice b2 n2 m2,.slice b3 n3 m3,.slice b4 n4 m4,.slice b5 n5 m5,.slice b6 n6 m6]] W fun e W'=>BnB w W' (.slice b0 n0 m0) (.slice b1 n1 m1) (.slice b2 n2 m2) (.slice b3 n3 m3) (.slice b4 n4 m4) (.slice b5 n5 m5) (.slice b6 n6 m6)∧LoadPost f W e W'):=Lib.hid (fun W hW=>(load29 b0 b1 b2 b3 b4 b5 b6 n0 n1 n2 n3 n4 n5 n6 m0 m1 m2 m3 m4 m5 m6 f W (h0.below hW.2) (h1.below hW.2) (h2.below hW.2) (h3.below hW.2) (h4.below hW.2) (h5.below hW.2) (h6.below hW.2) (by omega) (fun i=>Nat.le_trans (hfl i) (by omega)) (ml_on hM hW.2) (hH.below hH.lt hW.2)).mono (fun e W' h=>⟨hW.below h.1,h⟩))
     by_cases hl:∃ d,loadOf f=(⟨0,0,0⟩,some d)
     · obtain⟨d,hl⟩:=hl
       have HF:Hid (Fit d.ps):=Lib.hid (load_fit hl (Nat.le_trans (hfl 0) (by omega)))
       have D9:Hid (∀ W,BnB w W (.slice b0 n0 m0) (.slice b1 n1 m1) (.slice b2 n2 m2) (.slice b3 n3 m3) (.slice b4 n4 m4) (.slice b5 n5 m5) (.slice b6 n6 m6)→Calls Tryz.prog 23 #[.agg #[.slice b0 n0 m0,.slice b1 n1 m1,.slice b2 n2 m2,.slice b3 n3 m3,.slice b4 n4 m4,.slice b5 n5 m5,.slice b6 n6 m6]] W fun e W'=>∃ b,e=.returned (.tuple #[.pointer (some ⟨b,0,none⟩),.agg #[.int .i64 0,.int .i64 0,.int .i64 0]])∧Hid (Hd w W' b d.ps)):=Lib.hid (fun W hW=>(C9.out W hW).mono (by
        rintro e W' ⟨hw,-,⟨d',b,h,rfl,g1,g2,g3⟩ | ⟨x,h,rfl⟩⟩
        · rw [hl] at h
          injection h with _ h
          injection h with h
          subst h
          exact⟨b,rfl,Lib.hid ⟨hw.2,ddr_pf g1⟩⟩
        · rw [hl] at h;injection h with _ h;cases h))
       have HS:=Lib.hid hs
       have HCP:=Lib.hid hcp
       have HN:Hid (s.length=ns∧ns≤30):=Lib.hid ⟨by have:=hs.1;rwa [nlen] at this,hln⟩
       obtain⟨ps,hps⟩:∃ ps,d.ps=ps:=⟨_,rfl⟩
       rw [hps] at HF D9
       clear C9 hl hps hfl h0 h1 h2 h3 h4 h5 h6 l0 l1 l2 l3 l4 l5 l6 hf7 hM hH hs hcp hsm
       go_enter Tryz.func4,Tryz.ntmps4
       go_upto_region 6 with (first
        | (go_at_call 23;(with_reducible refine (D9.out _ H8.out).mono ?_);rintro e W9 ⟨b,rfl,H9⟩)
        | (go_at_call 9;(with_reducible refine (C7.out _ H1.out).mono ?_);rintro e W7 ⟨rfl,H7'⟩;have H7:=Lib.hid H7';clear H7';obtain⟨⟨q0,q1,q2,q3,q4,q5,q6⟩,-⟩:=H7.out)
        | (go_at_call 10;(with_reducible refine (C8.out _ H7.out).mono ?_);rintro e W8 ⟨rfl,H8'⟩;have H8:=Lib.hid H8';clear H8';obtain⟨⟨q0,q1,q2,q3,q4,q5,q6⟩,-⟩:=H8.out))
       have HX:=Lib.hid (H9.out.on ((Below.refl _ _).alloc (Nat.le_refl _) (.cells #[.int .i64 0,.int .i64 0,.int .i64 0] 42)))
       obtain⟨X,hX⟩:∃ z,W9.alloc (.cells #[.int .i64 0,.int .i64 0,.int .i64 0] 42)=z:=⟨_,rfl⟩
       rw [hX] at HX ⊢
       clear hX H9 H8 H7 H1 C7 C8 D9 q0 q1 q2 q3 q4 q5 q6
       have hTl:(ordL (kc ps) s).length=ns:=by rw [ord_len HF.out.ccc,HN.out.1]
       have c13:=order13 b ps As ns cs s X HX.out.2 HF.out (HS.out.below HX.out.1) (by have:=HN.out;omega)
       have hTn:inB (kc ps) 0 (ordL (kc ps) s)=true:=inB_ord HF.out.ccc s
       have hTz:=sw_zero (ord_sw HF.out.ccc s)
       have hTc:=sw_class (ord_sw HF.out.ccc s)
       have hTk:∀ y,cntL (ordL (kc ps) s) y=cntL s y:=fun y=>sw_count (ord_sw HF.out.ccc s) _
       obtain⟨T,hT⟩:∃ T,ordL (kc ps) s=T:=⟨_,rfl⟩
       rw [hT] at hTl c13 hTn hTz hTc hTk
       have d13:Calls Tryz.prog 15 #[.pointer (some ⟨b,0,none⟩),.slice As ns cs] X fun e W=>∃ A1 c1,e=.returned (.slice A1 ns c1)∧Hid (Below X.heap.size X W∧Hd w W b ps∧Vals W A1 ns (nums .i64 T)):=c13.mono (by
        rintro e W ⟨A1,c1,rfl,h4,h5⟩
        rw [hTl] at h5 ⊢
        exact⟨A1,c1,rfl,Lib.hid ⟨h4,HX.out.on h4,own_now h5.out⟩⟩)
       have E15:Hid (∀ W A1 c1,(Below X.heap.size X W∧Hd w W b ps∧Vals W A1 ns (nums .i64 T))→Calls Tryz.prog 17 #[.pointer (some ⟨b,0,none⟩),.slice A1 ns c1] W fun e W'=>e=.returned (.bool true)∧Hid (Below X.heap.size X W'∧Hd w W' b ps∧Vals W' A1 ns (nums .i64 T))):=Lib.hid (fun W A1 c1 ⟨g1,g2,g3⟩=>(inOrder15 b ps A1 ns c1 T W g2.2 HF.out g3 (by have:=HN.out;omega)).mono (by
        rintro e W' ⟨rfl,hq⟩
        exact⟨by rw [hTn],Lib.hid ⟨g1.trans (hq.mono g1.size),g2.on hq,g3.below hq⟩⟩))
       have HT:=Lib.hid (And.intro hTl (And.intro hTz (And.intro hTc hTk)))
       obtain⟨p,hp1,hp2⟩:=HX.out.2
       have HP:=Lib.hid (And.intro hp1 hp2)
       clear c13 hTl hTn hTz hTc hTk hT hp1 hp2
       go_upto_region 9 with (first
        | (go_at_call 15;(with_reducible refine d13.mono ?_);rintro e W1 ⟨A1,c1,rfl,Y1⟩)
        | (go_at_call 17;(with_reducible refine (E15.out W1 A1 c1 Y1.out).mono ?_);rintro e W4 ⟨rfl,Y4⟩))
       clear d13 E15 Y1
       go_wp2
       go_loopg [8] ns (fun kx s8 wr=>KpI w X b ps A1 ns T kx s8 wr)
       case atStart=>exact⟨0,rfl,Nat.zero_le _,by omega,Y4.out⟩
       case round=>
        clear Y4
        obtain⟨k,rfl,hk,hkx,HI⟩:=hrel
        by_cases hlt:k<ns
        · obtain⟨hI1,hI2,hI3⟩:=HI.out
          obtain⟨x,hx⟩:∃ x,s[k]? = some x:=⟨_,List.getElem?_eq_getElem (by have:=HN.out;omega)⟩
          obtain⟨y,hy⟩:∃ y,T[k]? = some y:=⟨_,List.getElem?_eq_getElem (by have:=HT.out.1;omega)⟩
          have hVs:=(HS.out.below HX.out.1).below hI1
          obtain⟨bs,os,rfl,hbs,hcs⟩:=cell_nums hVs hx
          obtain⟨bt,ot,rfl,hbt,hct⟩:=cell_nums hI3 hy
          have hcd:wr.drew.cell? ⟨bs,os+k,none⟩=some (.int .i64 x)∧wr.drew.cell? ⟨bt,ot+k,none⟩=some (.int .i64 y):=⟨hcs,hct⟩
          obtain⟨v,hv⟩:∃ v,cntL s x=v:=⟨_,rfl⟩
          have E23t:Hid (∀ W,Below wr.heap.size wr W→Calls Tryz.prog 24 #[.slice (some ⟨bt,ot,none⟩) ns c1,.int .i64 x] W fun e W'=>e=.returned (.int .i64 v)∧W=W'):=Lib.hid (fun W hW=>(count23 _ ns c1 T x W (hI3.below hW) (by have:=HN.out;omega)).mono (by
           rintro e W' ⟨rfl,rfl⟩
           exact⟨by rw [HT.out.2.2.2,hv],rfl⟩))
          have E23s:Hid (∀ W,Below wr.heap.size wr W→Calls Tryz.prog 24 #[.slice (some ⟨bs,os,none⟩) ns cs,.int .i64 x] W fun e W'=>e=.returned (.int .i64 v)∧W=W'):=Lib.hid (fun W hW=>(count23 _ ns cs s x W (hVs.below hW) (by have:=HN.out;omega)).mono (by
           rintro e W' ⟨rfl,rfl⟩
           exact⟨by rw [hv],rfl⟩))
          have E24:Hid (∀ W,Below wr.heap.size wr W→Calls Tryz.prog 25 #[.pointer (some ⟨b,0,none⟩)] W fun e W'=>e=.returned (.pointer p)∧W=W'):=Lib.hid (fun W hW=>by
           have q:=hI1.trans (hW.mono hI1.size)
           exact uni24 b p W ((q.cell (p:=⟨b,0,none⟩) (World.block_lt_of_cell? X _ HP.out.1)).trans HP.out.1))
          have E25:∀ z W,Below wr.heap.size wr W→Calls Tryz.prog 26 #[.pointer p,.int .i64 z] W fun e W'=>e=.returned (.int .i64 (kc ps z))∧(W'.cell? ⟨bs,os+k,none⟩=some (.int .i64 x)∧W'.cell? ⟨bt,ot+k,none⟩=some (.int .i64 y))∧Hid (Below wr.heap.size wr W'):=fun z W hW=>(ccc25 p ps z W (HP.out.2.below (hI1.trans (hW.mono hI1.size))) HF.out).mono (by
           rintro e W' ⟨rfl,hq⟩
           have q:=hW.trans (hq.mono hW.size)
           exact⟨rfl,⟨(q.cell (p:=⟨bs,os+k,none⟩) hbs).trans hcs,(q.cell (p:=⟨bt,ot+k,none⟩) hbt).trans hct⟩,q⟩)
          have E25x:=E25 x
          have E25y:=E25 y
          obtain⟨κx,hκx⟩:∃ c,kc ps x=c:=⟨_,rfl⟩
          obtain⟨κy,hκy⟩:∃ c,kc ps y=c:=⟨_,rfl⟩
          rw [hκx] at E25x
          rw [hκy] at E25y
          have hxy:κx=0 ∨ κy=0→x=y:=fun h=>(HT.out.2.1 k y x hy hx (by rcases h with h | h;exact .inr (hκx.trans h);exact .inl (hκy.trans h))).symm
          have HKX:=Lib.hid hκx
          have HKY:=Lib.hid hκy
          have HE25:=Lib.hid E25
          have E25X:=Lib.hid E25x
          have E25Y:=Lib.hid E25y
          have HXX:=Lib.hid (And.intro hx (And.intro hI1 (And.intro hI2 hI3)))
          have hb9:decide (k<ns)=true:=decide_eq_true hlt
          have HB0:Hid (Below wr.heap.size wr wr.drew):=Lib.hid (below_drew (Below.refl _ _))
          have hvv:((v:Int) != (v:Int))=false:=by simp
          have G25:Hid (∀ z W,Below wr.heap.size wr W→Calls Tryz.prog 26 #[.pointer p,.int .i64 z] W fun e W'=>e=.returned (.int .i64 (kc ps z))∧Hid (Below W.heap.size W W')):=Lib.hid (fun z W hW=>(ccc25 p ps z W (HP.out.2.below (hI1.trans (hW.mono hI1.size))) HF.out).mono (by
           rintro e W' ⟨rfl,hq⟩
           exact⟨rfl,hq⟩))
          have HVS:=Lib.hid hVs
          clear hx hy hcs hct hv hκy hκx HI hI1 hI2 hI3 hVs hbs hbt E25 E25x E25y
          go_upto_region 12 with fail
          go_cut [98] from 55 to 98 (fun v98 W=>v98=.bool false∧Hid (Below wr.heap.size wr W))
          case first=>
           by_cases hz:κx=0
           · obtain rfl:x=y:=hxy (.inl hz)
             subst hz
             clear hxy
             refine ph_open (fun W=>W.cell? ⟨bs,os+k,none⟩=some (.int .i64 x)∧W.cell? ⟨bt,ot+k,none⟩=some (.int .i64 x)) (by kernel_rfl) ?_ (by as_aux_lemma=>kernel_rfl) (fun NS hHeld=>?_)
             · (try dsimp only);exact hcd
             refine ph_take (i:=0) (v:=?_) NS rfl (by as_aux_lemma=>kernel_rfl) (by as_aux_lemma=>kernel_rfl) (fun _ _ _ h=>h) (by rfl) ?_ (by assumption) ?_
             rotate_left
             · (intro w hSw;(try dsimp only at hSw);go_simp;try with_reducible rfl)
             try simp only [Act.put,List.setIfInBounds_toArray,List.set_cons_zero,List.set_cons_succ]
             refine ph_take (i:=1) (v:=?_) NS rfl (by as_aux_lemma=>kernel_rfl) (by as_aux_lemma=>kernel_rfl) (fun _ _ _ h=>h) (by rfl) ?_ (by assumption) ?_
             rotate_left
             · (intro w hSw;(try dsimp only at hSw);go_simp;try with_reducible rfl)
             try simp only [Act.put,List.setIfInBounds_toArray,List.set_cons_zero,List.set_cons_succ]
             refine ph_take (i:=2) (v:=?_) NS rfl (by as_aux_lemma=>kernel_rfl) (by as_aux_lemma=>kernel_rfl) (fun _ _ _ h=>h) (by rfl) ?_ (by assumption) ?_
             rotate_left
             · (intro w hSw;(try dsimp only at hSw);go_simp;try with_reducible rfl)
             try simp only [Act.put,List.setIfInBounds_toArray,List.set_cons_zero,List.set_cons_succ]
             refine ph_take (i:=3) (v:=?_) NS rfl (by as_aux_lemma=>kernel_rfl) (by as_aux_lemma=>kernel_rfl) (fun _ _ _ h=>h) (by rfl) ?_ (by assumption) ?_
             rotate_left
             · (intro w hSw;(try dsimp only at hSw);go_simp;try with_reducible rfl)
             try simp only [Act.put,List.setIfInBounds_toArray,List.set_cons_zero,List.set_cons_succ]
             refine ph_take (i:=4) (v:=?_) NS rfl (by as_aux_lemma=>kernel_rfl) (by as_aux_lemma=>kernel_rfl) (fun _ _ _ h=>h) (by rfl) ?_ (by assumption) ?_
             rotate_left
             · (intro w hSw;(try dsimp only at hSw);go_simp;try with_reducible rfl)
             try simp only [Act.put,List.setIfInBounds_toArray,List.set_cons_zero,List.set_cons_succ]
             refine ph_take (i:=6) (v:=?_) NS rfl (by as_aux_lemma=>kernel_rfl) (by as_aux_lemma=>kernel_rfl) (fun _ _ _ h=>h) (by rfl) ?_ (by assumption) ?_
             rotate_left
             · (intro w hSw;(try dsimp only at hSw);go_simp;try with_reducible rfl)
             try simp only [Act.put,List.setIfInBounds_toArray,List.set_cons_zero,List.set_cons_succ]
             refine ph_take (i:=7) (v:=?_) NS rfl (by as_aux_lemma=>kernel_rfl) (by as_aux_lemma=>kernel_rfl) (fun _ _ _ h=>h) (by rfl) ?_ (by assumption) ?_
             rotate_left
             · (intro w hSw;(try dsimp only at hSw);go_simp;try with_reducible rfl)
             try simp only [Act.put,List.setIfInBounds_toArray,List.set_cons_zero,List.set_cons_succ]
             refine ph_take (i:=8) (v:=?_) NS rfl (by as_aux_lemma=>kernel_rfl) (by as_aux_lemma=>kernel_rfl) (fun _ _ _ h=>h) (by rfl) ?_ (by assumption) ?_
             rotate_left
             · (intro w hSw;(try dsimp only at hSw);go_simp;try with_reducible rfl)
             try simp only [Act.put,List.setIfInBounds_toArray,List.set_cons_zero,List.set_cons_succ]
             refine ph_take (i:=9) (v:=?_) NS rfl (by as_aux_lemma=>kernel_rfl) (by as_aux_lemma=>kernel_rfl) (fun _ _ _ h=>h) (by rfl) ?_ (by assumption) ?_
             rotate_left
             · (intro w hSw;(try dsimp only at hSw);go_simp;try with_reducible rfl)
             try simp only [Act.put,List.setIfInBounds_toArray,List.set_cons_zero,List.set_cons_succ]
             refine ph_take (i:=10) (v:=?_) NS rfl (by as_aux_lemma=>kernel_rfl) (by as_aux_lemma=>kernel_rfl) (fun _ _ _ h=>h) (by rfl) ?_ (by assumption) ?_
             rotate_left
             · (intro w hSw;(try dsimp only at hSw);go_simp;try with_reducible rfl)
             try simp only [Act.put,List.setIfInBounds_toArray,List.set_cons_zero,List.set_cons_succ]
             refine ph_step (i:=5) rfl (by as_aux_lemma=>kernel_rfl) (by rfl) (fun KK hK=>?_)
             go_simp
             (go_at_call 24;(with_reducible refine (E23t.out _ HB0.out).mono ?_);rintro e V5 ⟨rfl,rfl⟩)
             refine hK.out _ _ ?_ (fun hHeld=>?_)
             · (try dsimp only);exact hcd
             clear hK KK
             try simp only [Act.put,List.setIfInBounds_toArray,List.set_cons_zero,List.set_cons_succ]
             refine ph_step (i:=11) rfl (by as_aux_lemma=>kernel_rfl) (by rfl) (fun KK hK=>?_)
             go_simp
             (go_at_call 24;(with_reducible refine (E23s.out _ HB0.out).mono ?_);rintro e V11 ⟨rfl,rfl⟩)
             refine hK.out _ _ ?_ (fun hHeld=>?_)
             · (try dsimp only);exact hcd
             clear hK KK
             try simp only [Act.put,List.setIfInBounds_toArray,List.set_cons_zero,List.set_cons_succ]
             refine ph_take (i:=12) (v:=?_) NS rfl (by as_aux_lemma=>kernel_rfl) (by as_aux_lemma=>kernel_rfl) (fun _ _ _ h=>h) (by rfl) ?_ (by assumption) ?_
             rotate_left
             · (intro w hSw;(try dsimp only at hSw);go_simp;try with_reducible rfl)
             try simp only [Act.put,List.setIfInBounds_toArray,List.set_cons_zero,List.set_cons_succ]
             refine ph_take (i:=13) (v:=?_) NS rfl (by as_aux_lemma=>kernel_rfl) (by as_aux_lemma=>kernel_rfl) (fun _ _ _ h=>h) (by rfl) ?_ (by assumption) ?_
             rotate_left
             · (intro w hSw;(try dsimp only at hSw);go_simp;try with_reducible rfl)
             try simp only [Act.put,List.setIfInBounds_toArray,List.set_cons_zero,List.set_cons_succ]
             refine ph_take (i:=14) (v:=?_) NS rfl (by as_aux_lemma=>kernel_rfl) (by as_aux_lemma=>kernel_rfl) (fun _ _ _ h=>h) (by rfl) ?_ (by assumption) ?_
             rotate_left
             · (intro w hSw;(try dsimp only at hSw);go_simp;try with_reducible rfl)
             try simp only [Act.put,List.setIfInBounds_toArray,List.set_cons_zero,List.set_cons_succ]
             refine ph_take (i:=16) (v:=?_) NS rfl (by as_aux_lemma=>kernel_rfl) (by as_aux_lemma=>kernel_rfl) (fun _ _ _ h=>h) (by rfl) ?_ (by assumption) ?_
             rotate_left
             · (intro w hSw;(try dsimp only at hSw);go_simp;try with_reducible rfl)
             try simp only [Act.put,List.setIfInBounds_toArray,List.set_cons_zero,List.set_cons_succ]
             refine ph_take (i:=17) (v:=?_) NS rfl (by as_aux_lemma=>kernel_rfl) (by as_aux_lemma=>kernel_rfl) (fun _ _ _ h=>h) (by rfl) ?_ (by assumption) ?_
             rotate_left
             · (intro w hSw;(try dsimp only at hSw);go_simp;try with_reducible rfl)
             try simp only [Act.put,List.setIfInBounds_toArray,List.set_cons_zero,List.set_cons_succ]
             refine ph_take (i:=18) (v:=?_) NS rfl (by as_aux_lemma=>kernel_rfl) (by as_aux_lemma=>kernel_rfl) (fun _ _ _ h=>h) (by rfl) ?_ (by assumption) ?_
             rotate_left
             · (intro w hSw;(try dsimp only at hSw);go_simp;try with_reducible rfl)
             try simp only [Act.put,List.setIfInBounds_toArray,List.set_cons_zero,List.set_cons_succ]
             refine ph_take (i:=19) (v:=?_) NS rfl (by as_aux_lemma=>kernel_rfl) (by as_aux_lemma=>kernel_rfl) (fun _ _ _ h=>h) (by rfl) ?_ (by assumption) ?_
             rotate_left
             · (intro w hSw;(try dsimp only at hSw);go_simp;try with_reducible rfl)
             try simp only [Act.put,List.setIfInBounds_toArray,List.set_cons_zero,List.set_cons_succ]
             refine ph_step (i:=15) rfl (by as_aux_lemma=>kernel_rfl) (by rfl) (fun KK hK=>?_)
             go_simp
             (go_at_call 25;(with_reducible refine (E24.out _ HB0.out).mono ?_);rintro e V15 ⟨rfl,rfl⟩)
             refine hK.out _ _ ?_ (fun hHeld=>?_)
             · (try dsimp only);exact hcd
             clear hK KK
             try simp only [Act.put,List.setIfInBounds_toArray,List.set_cons_zero,List.set_cons_succ]
             refine ph_step (i:=20) rfl (by as_aux_lemma=>kernel_rfl) (by rfl) (fun KK hK=>?_)
             go_simp
             (go_at_call 26;(with_reducible refine (E25X.out _ HB0.out).mono ?_);rintro e W1 ⟨rfl,z1,Y1⟩)
             refine hK.out _ _ ?_ (fun hHeld=>?_)
             · (try dsimp only);exact z1
             clear hK KK
             try simp only [Act.put,List.setIfInBounds_toArray,List.set_cons_zero,List.set_cons_succ]
             refine ph_take (i:=21) (v:=?_) NS rfl (by as_aux_lemma=>kernel_rfl) (by as_aux_lemma=>kernel_rfl) (fun _ _ _ h=>h) (by rfl) ?_ (by assumption) ?_
             rotate_left
             · (intro w hSw;(try dsimp only at hSw);go_simp;try with_reducible rfl)
             try simp only [Act.put,List.setIfInBounds_toArray,List.set_cons_zero,List.set_cons_succ]
             refine ph_take (i:=22) (v:=?_) NS rfl (by as_aux_lemma=>kernel_rfl) (by as_aux_lemma=>kernel_rfl) (fun _ _ _ h=>h) (by rfl) ?_ (by assumption) ?_
             rotate_left
             · (intro w hSw;(try dsimp only at hSw);go_simp;try with_reducible rfl)
             try simp only [Act.put,List.setIfInBounds_toArray,List.set_cons_zero,List.set_cons_succ]
             refine ph_skip (i:=23) NS rfl (by as_aux_lemma=>kernel_rfl) (by as_aux_lemma=>kernel_rfl) (fun _ _ _ h=>h) (by rfl) (by assumption) ?_
             try simp only [Act.put,List.setIfInBounds_toArray,List.set_cons_zero,List.set_cons_succ]
             refine ph_skip (i:=24) NS rfl (by as_aux_lemma=>kernel_rfl) (by as_aux_lemma=>kernel_rfl) (fun _ _ _ h=>h) (by rfl) (by assumption) ?_
             try simp only [Act.put,List.setIfInBounds_toArray,List.set_cons_zero,List.set_cons_succ]
             refine ph_skip (i:=25) NS rfl (by as_aux_lemma=>kernel_rfl) (by as_aux_lemma=>kernel_rfl) (fun _ _ _ h=>h) (by rfl) (by assumption) ?_
             try simp only [Act.put,List.setIfInBounds_toArray,List.set_cons_zero,List.set_cons_succ]
             refine ph_skip (i:=26) NS rfl (by as_aux_lemma=>kernel_rfl) (by as_aux_lemma=>kernel_rfl) (fun _ _ _ h=>h) (by rfl) (by assumption) ?_
             try simp only [Act.put,List.setIfInBounds_toArray,List.set_cons_zero,List.set_cons_succ]
             refine ph_skip (i:=27) NS rfl (by as_aux_lemma=>kernel_rfl) (by as_aux_lemma=>kernel_rfl) (fun _ _ _ h=>h) (by rfl) (by assumption) ?_
             try simp only [Act.put,List.setIfInBounds_toArray,List.set_cons_zero,List.set_cons_succ]
             refine ph_skip (i:=28) NS rfl (by as_aux_lemma=>kernel_rfl) (by as_aux_lemma=>kernel_rfl) (fun _ _ _ h=>h) (by rfl) (by assumption) ?_
             try simp only [Act.put,List.setIfInBounds_toArray,List.set_cons_zero,List.set_cons_succ]
             refine ph_skip (i:=29) NS rfl (by as_aux_lemma=>kernel_rfl) (by as_aux_lemma=>kernel_rfl) (fun _ _ _ h=>h) (by rfl) (by assumption) ?_
             try simp only [Act.put,List.setIfInBounds_toArray,List.set_cons_zero,List.set_cons_succ]
             refine ph_skip (i:=30) NS rfl (by as_aux_lemma=>kernel_rfl) (by as_aux_lemma=>kernel_rfl) (fun _ _ _ h=>h) (by rfl) (by assumption) ?_
             try simp only [Act.put,List.setIfInBounds_toArray,List.set_cons_zero,List.set_cons_succ]
             refine ph_take (i:=31) (v:=?_) NS rfl (by as_aux_lemma=>kernel_rfl) (by as_aux_lemma=>kernel_rfl) (fun _ _ _ h=>h) (by rfl) ?_ (by assumption) ?_
             rotate_left
             · (intro w hSw;(try dsimp only at hSw);go_simp;try with_reducible rfl)
             try simp only [Act.put,List.setIfInBounds_toArray,List.set_cons_zero,List.set_cons_succ]
             refine ph_take (i:=32) (v:=?_) NS rfl (by as_aux_lemma=>kernel_rfl) (by as_aux_lemma=>kernel_rfl) (fun _ _ _ h=>h) (by rfl) ?_ (by assumption) ?_
             rotate_left
             · (intro w hSw;(try dsimp only at hSw);go_simp;try with_reducible rfl)
             try simp only [Act.put,List.setIfInBounds_toArray,List.set_cons_zero,List.set_cons_succ]
             refine ph_take (i:=33) (v:=?_) NS rfl (by as_aux_lemma=>kernel_rfl) (by as_aux_lemma=>kernel_rfl) (fun _ _ _ h=>h) (by rfl) ?_ (by assumption) ?_
             rotate_left
             · (intro w hSw;(try dsimp only at hSw);go_simp;try with_reducible rfl)
             try simp only [Act.put,List.setIfInBounds_toArray,List.set_cons_zero,List.set_cons_succ]
             refine ph_take (i:=34) (v:=?_) NS rfl (by as_aux_lemma=>kernel_rfl) (by as_aux_lemma=>kernel_rfl) (fun _ _ _ h=>h) (by rfl) ?_ (by assumption) ?_
             rotate_left
             · (intro w hSw;(try dsimp only at hSw);go_simp;try with_reducible rfl)
             try simp only [Act.put,List.setIfInBounds_toArray,List.set_cons_zero,List.set_cons_succ]
             refine ph_take (i:=35) (v:=?_) NS rfl (by as_aux_lemma=>kernel_rfl) (by as_aux_lemma=>kernel_rfl) (fun _ _ _ h=>h) (by rfl) ?_ (by assumption) ?_
             rotate_left
             · (intro w hSw;(try dsimp only at hSw);go_simp;try with_reducible rfl)
             try simp only [Act.put,List.setIfInBounds_toArray,List.set_cons_zero,List.set_cons_succ]
             refine ph_take (i:=36) (v:=?_) NS rfl (by as_aux_lemma=>kernel_rfl) (by as_aux_lemma=>kernel_rfl) (fun _ _ _ h=>h) (by rfl) ?_ (by assumption) ?_
             rotate_left
             · (intro w hSw;(try dsimp only at hSw);go_simp;try with_reducible rfl)
             try simp only [Act.put,List.setIfInBounds_toArray,List.set_cons_zero,List.set_cons_succ]
             refine ph_take (i:=37) (v:=?_) NS rfl (by as_aux_lemma=>kernel_rfl) (by as_aux_lemma=>kernel_rfl) (fun _ _ _ h=>h) (by rfl) ?_ (by assumption) ?_
             rotate_left
             · (intro w hSw;(try dsimp only at hSw);go_simp;try with_reducible rfl)
             try simp only [Act.put,List.setIfInBounds_toArray,List.set_cons_zero,List.set_cons_succ]
             refine ph_take (i:=38) (v:=?_) NS rfl (by as_aux_lemma=>kernel_rfl) (by as_aux_lemma=>kernel_rfl) (fun _ _ _ h=>h) (by rfl) ?_ (by assumption) ?_
             rotate_left
             · (intro w hSw;(try dsimp only at hSw);go_simp;try with_reducible rfl)
             try simp only [Act.put,List.setIfInBounds_toArray,List.set_cons_zero,List.set_cons_succ]
             refine ph_take (i:=39) (v:=?_) NS rfl (by as_aux_lemma=>kernel_rfl) (by as_aux_lemma=>kernel_rfl) (fun _ _ _ h=>h) (by rfl) ?_ (by assumption) ?_
             rotate_left
             · (intro w hSw;(try dsimp only at hSw);go_simp;try with_reducible rfl)
             try simp only [Act.put,List.setIfInBounds_toArray,List.set_cons_zero,List.set_cons_succ]
             refine ph_take (i:=40) (v:=?_) NS rfl (by as_aux_lemma=>kernel_rfl) (by as_aux_lemma=>kernel_rfl) (fun _ _ _ h=>h) (by rfl) ?_ (by assumption) ?_
             rotate_left
             · (intro w hSw;(try dsimp only at hSw);go_simp;try with_reducible rfl)
             try simp only [Act.put,List.setIfInBounds_toArray,List.set_cons_zero,List.set_cons_succ]
             refine ph_take (i:=41) (v:=?_) NS rfl (by as_aux_lemma=>kernel_rfl) (by as_aux_lemma=>kernel_rfl) (fun _ _ _ h=>h) (by rfl) ?_ (by assumption) ?_
             rotate_left
             · (intro w hSw;(try dsimp only at hSw);go_simp;try with_reducible rfl)
             try simp only [Act.put,List.setIfInBounds_toArray,List.set_cons_zero,List.set_cons_succ]
             refine ph_take (i:=42) (v:=?_) NS rfl (by as_aux_lemma=>kernel_rfl) (by as_aux_lemma=>kernel_rfl) (fun _ _ _ h=>h) (by rfl) ?_ (by assumption) ?_
             rotate_left
             · (intro w hSw;(try dsimp only at hSw);go_simp;try with_reducible rfl)
             try simp only [Act.put,List.setIfInBounds_toArray,List.set_cons_zero,List.set_cons_succ]
             refine ph_take (i:=43) (v:=?_) NS rfl (by as_aux_lemma=>kernel_rfl) (by as_aux_lemma=>kernel_rfl) (fun _ _ _ h=>h) (by rfl) ?_ (by assumption) ?_
             rotate_left
             · (intro w hSw;(try dsimp only at hSw);go_simp;try with_reducible rfl)
             try simp only [Act.put,List.setIfInBounds_toArray,List.set_cons_zero,List.set_cons_succ]
             refine wpAnyH_done (by as_aux_lemma=>kernel_rfl) ?_ _
             go_wp2_with fail
             go_meet
             exact⟨rfl,Y1⟩
           · have hbx:(κx==0)=false:=beq_false_of_ne hz
             have hzy:κy≠0:=fun h=>hz (by rw [←HKX.out,hxy (.inr h),HKY.out,h])
             have hby:(κy==0)=false:=beq_false_of_ne hzy
             clear hxy
             refine ph_open (fun W=>W.cell? ⟨bs,os+k,none⟩=some (.int .i64 x)∧W.cell? ⟨bt,ot+k,none⟩=some (.int .i64 y)) (by kernel_rfl) ?_ (by as_aux_lemma=>kernel_rfl) (fun NS hHeld=>?_)
             · (try dsimp only);exact hcd
             refine ph_take (i:=0) (v:=?_) NS rfl (by as_aux_lemma=>kernel_rfl) (by as_aux_lemma=>kernel_rfl) (fun _ _ _ h=>h) (by rfl) ?_ (by assumption) ?_
             rotate_left
             · (intro w hSw;(try dsimp only at hSw);go_simp;try with_reducible rfl)
             try simp only [Act.put,List.setIfInBounds_toArray,List.set_cons_zero,List.set_cons_succ]
             refine ph_take (i:=1) (v:=?_) NS rfl (by as_aux_lemma=>kernel_rfl) (by as_aux_lemma=>kernel_rfl) (fun _ _ _ h=>h) (by rfl) ?_ (by assumption) ?_
             rotate_left
             · (intro w hSw;(try dsimp only at hSw);go_simp;try with_reducible rfl)
             try simp only [Act.put,List.setIfInBounds_toArray,List.set_cons_zero,List.set_cons_succ]
             refine ph_take (i:=2) (v:=?_) NS rfl (by as_aux_lemma=>kernel_rfl) (by as_aux_lemma=>kernel_rfl) (fun _ _ _ h=>h) (by rfl) ?_ (by assumption) ?_
             rotate_left
             · (intro w hSw;(try dsimp only at hSw);go_simp;try with_reducible rfl)
             try simp only [Act.put,List.setIfInBounds_toArray,List.set_cons_zero,List.set_cons_succ]
             refine ph_take (i:=3) (v:=?_) NS rfl (by as_aux_lemma=>kernel_rfl) (by as_aux_lemma=>kernel_rfl) (fun _ _ _ h=>h) (by rfl) ?_ (by assumption) ?_
             rotate_left
             · (intro w hSw;(try dsimp only at hSw);go_simp;try with_reducible rfl)
             try simp only [Act.put,List.setIfInBounds_toArray,List.set_cons_zero,List.set_cons_succ]
             refine ph_take (i:=4) (v:=?_) NS rfl (by as_aux_lemma=>kernel_rfl) (by as_aux_lemma=>kernel_rfl) (fun _ _ _ h=>h) (by rfl) ?_ (by assumption) ?_
             rotate_left
             · (intro w hSw;(try dsimp only at hSw);go_simp;try with_reducible rfl)
             try simp only [Act.put,List.setIfInBounds_toArray,List.set_cons_zero,List.set_cons_succ]
             refine ph_take (i:=6) (v:=?_) NS rfl (by as_aux_lemma=>kernel_rfl) (by as_aux_lemma=>kernel_rfl) (fun _ _ _ h=>h) (by rfl) ?_ (by assumption) ?_
             rotate_left
             · (intro w hSw;(try dsimp only at hSw);go_simp;try with_reducible rfl)
             try simp only [Act.put,List.setIfInBounds_toArray,List.set_cons_zero,List.set_cons_succ]
             refine ph_take (i:=7) (v:=?_) NS rfl (by as_aux_lemma=>kernel_rfl) (by as_aux_lemma=>kernel_rfl) (fun _ _ _ h=>h) (by rfl) ?_ (by assumption) ?_
             rotate_left
             · (intro w hSw;(try dsimp only at hSw);go_simp;try with_reducible rfl)
             try simp only [Act.put,List.setIfInBounds_toArray,List.set_cons_zero,List.set_cons_succ]
             refine ph_take (i:=8) (v:=?_) NS rfl (by as_aux_lemma=>kernel_rfl) (by as_aux_lemma=>kernel_rfl) (fun _ _ _ h=>h) (by rfl) ?_ (by assumption) ?_
             rotate_left
             · (intro w hSw;(try dsimp only at hSw);go_simp;try with_reducible rfl)
             try simp only [Act.put,List.setIfInBounds_toArray,List.set_cons_zero,List.set_cons_succ]
             refine ph_take (i:=9) (v:=?_) NS rfl (by as_aux_lemma=>kernel_rfl) (by as_aux_lemma=>kernel_rfl) (fun _ _ _ h=>h) (by rfl) ?_ (by assumption) ?_
             rotate_left
             · (intro w hSw;(try dsimp only at hSw);go_simp;try with_reducible rfl)
             try simp only [Act.put,List.setIfInBounds_toArray,List.set_cons_zero,List.set_cons_succ]
             refine ph_take (i:=10) (v:=?_) NS rfl (by as_aux_lemma=>kernel_rfl) (by as_aux_lemma=>kernel_rfl) (fun _ _ _ h=>h) (by rfl) ?_ (by assumption) ?_
             rotate_left
             · (intro w hSw;(try dsimp only at hSw);go_simp;try with_reducible rfl)
             try simp only [Act.put,List.setIfInBounds_toArray,List.set_cons_zero,List.set_cons_succ]
             refine ph_step (i:=5) rfl (by as_aux_lemma=>kernel_rfl) (by rfl) (fun KK hK=>?_)
             go_simp
             (go_at_call 24;(with_reducible refine (E23t.out _ HB0.out).mono ?_);rintro e V5 ⟨rfl,rfl⟩)
             refine hK.out _ _ ?_ (fun hHeld=>?_)
             · (try dsimp only);exact hcd
             clear hK KK
             try simp only [Act.put,List.setIfInBounds_toArray,List.set_cons_zero,List.set_cons_succ]
             refine ph_step (i:=11) rfl (by as_aux_lemma=>kernel_rfl) (by rfl) (fun KK hK=>?_)
             go_simp
             (go_at_call 24;(with_reducible refine (E23s.out _ HB0.out).mono ?_);rintro e V11 ⟨rfl,rfl⟩)
             refine hK.out _ _ ?_ (fun hHeld=>?_)
             · (try dsimp only);exact hcd
             clear hK KK
             try simp only [Act.put,List.setIfInBounds_toArray,List.set_cons_zero,List.set_cons_succ]
             refine ph_take (i:=12) (v:=?_) NS rfl (by as_aux_lemma=>kernel_rfl) (by as_aux_lemma=>kernel_rfl) (fun _ _ _ h=>h) (by rfl) ?_ (by assumption) ?_
             rotate_left
             · (intro w hSw;(try dsimp only at hSw);go_simp;try with_reducible rfl)
             try simp only [Act.put,List.setIfInBounds_toArray,List.set_cons_zero,List.set_cons_succ]
             refine ph_take (i:=13) (v:=?_) NS rfl (by as_aux_lemma=>kernel_rfl) (by as_aux_lemma=>kernel_rfl) (fun _ _ _ h=>h) (by rfl) ?_ (by assumption) ?_
             rotate_left
             · (intro w hSw;(try dsimp only at hSw);go_simp;try with_reducible rfl)
             try simp only [Act.put,List.setIfInBounds_toArray,List.set_cons_zero,List.set_cons_succ]
             refine ph_take (i:=14) (v:=?_) NS rfl (by as_aux_lemma=>kernel_rfl) (by as_aux_lemma=>kernel_rfl) (fun _ _ _ h=>h) (by rfl) ?_ (by assumption) ?_
             rotate_left
             · (intro w hSw;(try dsimp only at hSw);go_simp;try with_reducible rfl)
             try simp only [Act.put,List.setIfInBounds_toArray,List.set_cons_zero,List.set_cons_succ]
             refine ph_take (i:=16) (v:=?_) NS rfl (by as_aux_lemma=>kernel_rfl) (by as_aux_lemma=>kernel_rfl) (fun _ _ _ h=>h) (by rfl) ?_ (by assumption) ?_
             rotate_left
             · (intro w hSw;(try dsimp only at hSw);go_simp;try with_reducible rfl)
             try simp only [Act.put,List.setIfInBounds_toArray,List.set_cons_zero,List.set_cons_succ]
             refine ph_take (i:=17) (v:=?_) NS rfl (by as_aux_lemma=>kernel_rfl) (by as_aux_lemma=>kernel_rfl) (fun _ _ _ h=>h) (by rfl) ?_ (by assumption) ?_
             rotate_left
             · (intro w hSw;(try dsimp only at hSw);go_simp;try with_reducible rfl)
             try simp only [Act.put,List.setIfInBounds_toArray,List.set_cons_zero,List.set_cons_succ]
             refine ph_take (i:=18) (v:=?_) NS rfl (by as_aux_lemma=>kernel_rfl) (by as_aux_lemma=>kernel_rfl) (fun _ _ _ h=>h) (by rfl) ?_ (by assumption) ?_
             rotate_left
             · (intro w hSw;(try dsimp only at hSw);go_simp;try with_reducible rfl)
             try simp only [Act.put,List.setIfInBounds_toArray,List.set_cons_zero,List.set_cons_succ]
             refine ph_take (i:=19) (v:=?_) NS rfl (by as_aux_lemma=>kernel_rfl) (by as_aux_lemma=>kernel_rfl) (fun _ _ _ h=>h) (by rfl) ?_ (by assumption) ?_
             rotate_left
             · (intro w hSw;(try dsimp only at hSw);go_simp;try with_reducible rfl)
             try simp only [Act.put,List.setIfInBounds_toArray,List.set_cons_zero,List.set_cons_succ]
             refine ph_step (i:=15) rfl (by as_aux_lemma=>kernel_rfl) (by rfl) (fun KK hK=>?_)
             go_simp
             (go_at_call 25;(with_reducible refine (E24.out _ HB0.out).mono ?_);rintro e V15 ⟨rfl,rfl⟩)
             refine hK.out _ _ ?_ (fun hHeld=>?_)
             · (try dsimp only);exact hcd
             clear hK KK
             try simp only [Act.put,List.setIfInBounds_toArray,List.set_cons_zero,List.set_cons_succ]
             refine ph_step (i:=20) rfl (by as_aux_lemma=>kernel_rfl) (by rfl) (fun KK hK=>?_)
             go_simp
             (go_at_call 26;(with_reducible refine (E25X.out _ HB0.out).mono ?_);rintro e W1 ⟨rfl,z1,Y1⟩)
             refine hK.out _ _ ?_ (fun hHeld=>?_)
             · (try dsimp only);exact z1
             clear hK KK
             try simp only [Act.put,List.setIfInBounds_toArray,List.set_cons_zero,List.set_cons_succ]
             refine ph_take (i:=21) (v:=?_) NS rfl (by as_aux_lemma=>kernel_rfl) (by as_aux_lemma=>kernel_rfl) (fun _ _ _ h=>h) (by rfl) ?_ (by assumption) ?_
             rotate_left
             · (intro w hSw;(try dsimp only at hSw);go_simp;try with_reducible rfl)
             try simp only [Act.put,List.setIfInBounds_toArray,List.set_cons_zero,List.set_cons_succ]
             refine ph_take (i:=22) (v:=?_) NS rfl (by as_aux_lemma=>kernel_rfl) (by as_aux_lemma=>kernel_rfl) (fun _ _ _ h=>h) (by rfl) ?_ (by assumption) ?_
             rotate_left
             · (intro w hSw;(try dsimp only at hSw);go_simp;try with_reducible rfl)
             try simp only [Act.put,List.setIfInBounds_toArray,List.set_cons_zero,List.set_cons_succ]
             refine ph_take (i:=23) (v:=?_) NS rfl (by as_aux_lemma=>kernel_rfl) (by as_aux_lemma=>kernel_rfl) (fun _ _ _ h=>h) (by rfl) ?_ (by assumption) ?_
             rotate_left
             · (intro w hSw;(try dsimp only at hSw);go_simp;try with_reducible rfl)
             try simp only [Act.put,List.setIfInBounds_toArray,List.set_cons_zero,List.set_cons_succ]
             refine ph_take (i:=25) (v:=?_) NS rfl (by as_aux_lemma=>kernel_rfl) (by as_aux_lemma=>kernel_rfl) (fun _ _ _ h=>h) (by rfl) ?_ (by assumption) ?_
             rotate_left
             · (intro w hSw;(try dsimp only at hSw);go_simp;try with_reducible rfl)
             try simp only [Act.put,List.setIfInBounds_toArray,List.set_cons_zero,List.set_cons_succ]
             refine ph_take (i:=26) (v:=?_) NS rfl (by as_aux_lemma=>kernel_rfl) (by as_aux_lemma=>kernel_rfl) (fun _ _ _ h=>h) (by rfl) ?_ (by assumption) ?_
             rotate_left
             · (intro w hSw;(try dsimp only at hSw);go_simp;try with_reducible rfl)
             try simp only [Act.put,List.setIfInBounds_toArray,List.set_cons_zero,List.set_cons_succ]
             refine ph_take (i:=27) (v:=?_) NS rfl (by as_aux_lemma=>kernel_rfl) (by as_aux_lemma=>kernel_rfl) (fun _ _ _ h=>h) (by rfl) ?_ (by assumption) ?_
             rotate_left
             · (intro w hSw;(try dsimp only at hSw);go_simp;try with_reducible rfl)
             try simp only [Act.put,List.setIfInBounds_toArray,List.set_cons_zero,List.set_cons_succ]
             refine ph_take (i:=28) (v:=?_) NS rfl (by as_aux_lemma=>kernel_rfl) (by as_aux_lemma=>kernel_rfl) (fun _ _ _ h=>h) (by rfl) ?_ (by assumption) ?_
             rotate_left
             · (intro w hSw;(try dsimp only at hSw);go_simp;try with_reducible rfl)
             try simp only [Act.put,List.setIfInBounds_toArray,List.set_cons_zero,List.set_cons_succ]
             refine ph_step (i:=24) rfl (by as_aux_lemma=>kernel_rfl) (by rfl) (fun KK hK=>?_)
             go_simp
             (go_at_call 25;(with_reducible refine (E24.out _ Y1.out).mono ?_);rintro e V24 ⟨rfl,rfl⟩)
             refine hK.out _ _ ?_ (fun hHeld=>?_)
             · (try dsimp only);exact z1
             clear hK KK
             try simp only [Act.put,List.setIfInBounds_toArray,List.set_cons_zero,List.set_cons_succ]
             refine ph_step (i:=29) rfl (by as_aux_lemma=>kernel_rfl) (by rfl) (fun KK hK=>?_)
             go_simp
             (go_at_call 26;(with_reducible refine (E25Y.out _ Y1.out).mono ?_);rintro e W2 ⟨rfl,z2,Y2⟩)
             refine hK.out _ _ ?_ (fun hHeld=>?_)
             · (try dsimp only);exact z2
             clear hK KK
             try simp only [Act.put,List.setIfInBounds_toArray,List.set_cons_zero,List.set_cons_succ]
             refine ph_take (i:=30) (v:=?_) NS rfl (by as_aux_lemma=>kernel_rfl) (by as_aux_lemma=>kernel_rfl) (fun _ _ _ h=>h) (by rfl) ?_ (by assumption) ?_
             rotate_left
             · (intro w hSw;(try dsimp only at hSw);go_simp;try with_reducible rfl)
             try simp only [Act.put,List.setIfInBounds_toArray,List.set_cons_zero,List.set_cons_succ]
             refine ph_take (i:=31) (v:=?_) NS rfl (by as_aux_lemma=>kernel_rfl) (by as_aux_lemma=>kernel_rfl) (fun _ _ _ h=>h) (by rfl) ?_ (by assumption) ?_
             rotate_left
             · (intro w hSw;(try dsimp only at hSw);go_simp;try with_reducible rfl)
             try simp only [Act.put,List.setIfInBounds_toArray,List.set_cons_zero,List.set_cons_succ]
             refine ph_take (i:=32) (v:=?_) NS rfl (by as_aux_lemma=>kernel_rfl) (by as_aux_lemma=>kernel_rfl) (fun _ _ _ h=>h) (by rfl) ?_ (by assumption) ?_
             rotate_left
             · (intro w hSw;(try dsimp only at hSw);go_simp;try with_reducible rfl)
             try simp only [Act.put,List.setIfInBounds_toArray,List.set_cons_zero,List.set_cons_succ]
             refine ph_skip (i:=33) NS rfl (by as_aux_lemma=>kernel_rfl) (by as_aux_lemma=>kernel_rfl) (fun _ _ _ h=>h) (by rfl) (by assumption) ?_
             try simp only [Act.put,List.setIfInBounds_toArray,List.set_cons_zero,List.set_cons_succ]
             refine ph_skip (i:=34) NS rfl (by as_aux_lemma=>kernel_rfl) (by as_aux_lemma=>kernel_rfl) (fun _ _ _ h=>h) (by rfl) (by assumption) ?_
             try simp only [Act.put,List.setIfInBounds_toArray,List.set_cons_zero,List.set_cons_succ]
             refine ph_skip (i:=35) NS rfl (by as_aux_lemma=>kernel_rfl) (by as_aux_lemma=>kernel_rfl) (fun _ _ _ h=>h) (by rfl) (by assumption) ?_
             try simp only [Act.put,List.setIfInBounds_toArray,List.set_cons_zero,List.set_cons_succ]
             refine ph_skip (i:=36) NS rfl (by as_aux_lemma=>kernel_rfl) (by as_aux_lemma=>kernel_rfl) (fun _ _ _ h=>h) (by rfl) (by assumption) ?_
             try simp only [Act.put,List.setIfInBounds_toArray,List.set_cons_zero,List.set_cons_succ]
             refine ph_skip (i:=37) NS rfl (by as_aux_lemma=>kernel_rfl) (by as_aux_lemma=>kernel_rfl) (fun _ _ _ h=>h) (by rfl) (by assumption) ?_
             try simp only [Act.put,List.setIfInBounds_toArray,List.set_cons_zero,List.set_cons_succ]
             refine ph_skip (i:=38) NS rfl (by as_aux_lemma=>kernel_rfl) (by as_aux_lemma=>kernel_rfl) (fun _ _ _ h=>h) (by rfl) (by assumption) ?_
             try simp only [Act.put,List.setIfInBounds_toArray,List.set_cons_zero,List.set_cons_succ]
             refine ph_skip (i:=39) NS rfl (by as_aux_lemma=>kernel_rfl) (by as_aux_lemma=>kernel_rfl) (fun _ _ _ h=>h) (by rfl) (by assumption) ?_
             try simp only [Act.put,List.setIfInBounds_toArray,List.set_cons_zero,List.set_cons_succ]
             refine ph_skip (i:=40) NS rfl (by as_aux_lemma=>kernel_rfl) (by as_aux_lemma=>kernel_rfl) (fun _ _ _ h=>h) (by rfl) (by assumption) ?_
             try simp only [Act.put,List.setIfInBounds_toArray,List.set_cons_zero,List.set_cons_succ]
             refine ph_skip (i:=41) NS rfl (by as_aux_lemma=>kernel_rfl) (by as_aux_lemma=>kernel_rfl) (fun _ _ _ h=>h) (by rfl) (by assumption) ?_
             try simp only [Act.put,List.setIfInBounds_toArray,List.set_cons_zero,List.set_cons_succ]
             refine ph_take (i:=42) (v:=?_) NS rfl (by as_aux_lemma=>kernel_rfl) (by as_aux_lemma=>kernel_rfl) (fun _ _ _ h=>h) (by rfl) ?_ (by assumption) ?_
             rotate_left
             · (intro w hSw;(try dsimp only at hSw);go_simp;try with_reducible rfl)
             try simp only [Act.put,List.setIfInBounds_toArray,List.set_cons_zero,List.set_cons_succ]
             refine ph_take (i:=43) (v:=?_) NS rfl (by as_aux_lemma=>kernel_rfl) (by as_aux_lemma=>kernel_rfl) (fun _ _ _ h=>h) (by rfl) ?_ (by assumption) ?_
             rotate_left
             · (intro w hSw;(try dsimp only at hSw);go_simp;try with_reducible rfl)
             try simp only [Act.put,List.setIfInBounds_toArray,List.set_cons_zero,List.set_cons_succ]
             refine wpAnyH_done (by as_aux_lemma=>kernel_rfl) ?_ _
             go_wp2_with fail
             go_meet
             exact⟨rfl,Y2⟩
          case rest=>
           obtain⟨rfl,H12⟩:=hcut
           obtain⟨V,hV⟩:∃ z,wc=z:=⟨_,rfl⟩
           rw [hV] at H12 ⊢
           clear hV E23t E23s E25X E25Y HE25 HB0 hxy hcd hvv
           have F24:Hid (∀ W,Below V.heap.size V W→Calls Tryz.prog 25 #[.pointer (some ⟨b,0,none⟩)] W fun e W'=>e=.returned (.pointer p)∧W=W'):=Lib.hid (fun W hW=>E24.out W (H12.out.trans (hW.mono H12.out.size)))
           have F25:Hid (∀ z W,Below V.heap.size V W→Calls Tryz.prog 26 #[.pointer p,.int .i64 z] W fun e W'=>e=.returned (.int .i64 (kc ps z))∧Hid (Below W.heap.size W W')):=Lib.hid (fun z W hW=>G25.out z W (H12.out.trans (hW.mono H12.out.size)))
           have HVs:Hid (Vals V (some ⟨bs,os,none⟩) ns (nums .i64 s)∧Vals V (some ⟨bt,ot,none⟩) ns (nums .i64 T)):=Lib.hid ⟨HVS.out.below H12.out,HXX.out.2.2.2.below H12.out⟩
           have NX:Hid (∀ W,Below V.heap.size V W→KpI w X b ps (some ⟨bt,ot,none⟩) ns T (ns-(k+1)) (.int .i64 ((k:Int)+1)) W):=Lib.hid (fun W hW=>by
            have q:=H12.out.trans (hW.mono H12.out.size)
            exact⟨k+1,by go_num,by omega,by omega,HXX.out.2.1.trans (q.mono HXX.out.2.1.size),HXX.out.2.2.1.on q,HXX.out.2.2.2.below q⟩)
           clear E24 G25
           go_wp2
           go_loopg [9,10,11] ns (fun kx s9 s10 s11 W=>KpJ V (kc ps) κx s T ns kx s9 s10 s11 W)
           case atStart=>exact⟨0,0,0,none,0,none,0,rfl,rfl,rfl,⟨Nat.zero_le _,by omega,Nat.le_refl _,Nat.le_refl _⟩,World.ownsRow_nil _ _ _ _,World.ownsRow_nil _ _ _ _,.inl rfl,Below.refl _ _⟩
           case round=>
            obtain⟨j,n1',n2',B1,d1,B2,d2,rfl,rfl,rfl,⟨hj,hjx,hn1,hn2⟩,HJ⟩:=hrel
            by_cases hlj:j<ns
            · obtain⟨u,hu⟩:∃ u,s[j]? = some u:=⟨_,List.getElem?_eq_getElem (by have:=HN.out;omega)⟩
              obtain⟨t,ht⟩:∃ t,T[j]? = some t:=⟨_,List.getElem?_eq_getElem (by have:=HT.out.1;omega)⟩
              have hbJ:=HJ.out.2.2.2
              have hqs:∀ W,Below V.heap.size V W→W.cell? ⟨bs,os+j,none⟩=some (.int .i64 u)∧W.cell? ⟨bs,os+k,none⟩=some (.int .i64 x)∧W.cell? ⟨bt,ot+j,none⟩=some (.int .i64 t):=fun W hW=>by
               obtain⟨b',off',e,-,q1⟩:=cell_nums (HVs.out.1.below hW) hu
               cases e
               obtain⟨b',off',e,-,q2⟩:=cell_nums (HVs.out.1.below hW) HXX.out.1
               cases e
               obtain⟨b',off',e,-,q3⟩:=cell_nums (HVs.out.2.below hW) ht
               cases e
               exact⟨q1,q2,q3⟩
              have HQS:=Lib.hid hqs
              obtain⟨κu,hκu⟩:∃ c,kc ps u=c:=⟨_,rfl⟩
              obtain⟨κt,hκt⟩:∃ c,kc ps t=c:=⟨_,rfl⟩
              have FA:∀ z c,kc ps z=c→Hid (∀ W,Below V.heap.size V W→Calls Tryz.prog 26 #[.pointer p,.int .i64 z] W fun e W'=>e=.returned (.int .i64 c)∧(W'.cell? ⟨bs,os+j,none⟩=some (.int .i64 u)∧W'.cell? ⟨bs,os+k,none⟩=some (.int .i64 x)∧W'.cell? ⟨bt,ot+j,none⟩=some (.int .i64 t))∧Hid (Below V.heap.size V W'∧Below W.heap.size W W')):=fun z c hc=>Lib.hid (fun W hW=>(F25.out z W hW).mono (by
               rintro e W' ⟨rfl,hq⟩
               have q:=hW.trans (hq.out.mono hW.size)
               exact⟨by rw [hc],hqs W' q,q,hq.out⟩))
              have FU:=FA u κu hκu
              have FT:=FA t κt hκt
              have FX:=FA x κx HKX.out
              have hs1:=filt_step (κ:=kc ps) (c:=κx) hu
              have hs2:=filt_step (κ:=kc ps) (c:=κx) ht
              rw [hκu] at hs1
              rw [hκt] at hs2
              have HS1:=Lib.hid hs1
              have HS2:=Lib.hid hs2
              have hb9j:decide (j<ns)=true:=decide_eq_true hlj
              have HBd:Hid (Below V.heap.size V wr.drew):=Lib.hid (below_drew hbJ)
              obtain⟨zc1,zc2,zc3⟩:=hqs _ HBd.out
              clear hu ht hqs hκu hκt FA hs1 hs2 hbJ
              go_upto_region 18 with fail
              go_region_held3 (fun W=>W.cell? ⟨bs,os+j,none⟩=some (.int .i64 u)∧W.cell? ⟨bs,os+k,none⟩=some (.int .i64 x))
               (first | exact⟨zc1,zc2⟩ | exact⟨z1.1,z1.2.1⟩ | exact⟨z2.1,z2.2.1⟩)
               (first
                | (go_simp;go_at_call 25;(with_reducible refine (F24.out _ HBd.out).mono ?_);rintro e W2 ⟨rfl,rfl⟩)
                | (go_simp;go_at_call 26;(with_reducible refine (FU.out _ HBd.out).mono ?_);rintro e W3 ⟨rfl,z1,Y1⟩)
                | (go_simp;go_at_call 25;(with_reducible refine (F24.out _ Y1.out.1).mono ?_);rintro e W2 ⟨rfl,rfl⟩)
                | (go_simp;go_at_call 26;(with_reducible refine (FX.out _ Y1.out.1).mono ?_);rintro e W4 ⟨rfl,z2,Y2⟩))
              have HW4:=Lib.hid (((HJ.out.on (below_drew (Below.refl _ _))).on Y1.out.2).on Y2.out.2)
              clear zc1 zc2 zc3 z1 z2 HJ HBd
              by_cases hU:κu = κx
              · have hbu:(κu == κx)=true:=beq_iff_eq.2 hU
                obtain⟨N1,hN1⟩:∃ n,n1'+1=n:=⟨_,rfl⟩
                go_upto_region 20 with (at_builtin;refine list_two V rfl (.tmp 120) (.tmp 125) rfl _ n1' _ _ n2' _ u rfl rfl HW4.out N1 hN1 (by omega) ?_;intro B3 d3 W5 Y5)
                have HBz:Hid (Below V.heap.size V W5.drew):=Lib.hid (below_drew Y5.out.2.2.2)
                obtain⟨y1,y2,y3⟩:=HQS.out _ HBz.out
                go_region_held3 (fun W=>W.cell? ⟨bt,ot+j,none⟩=some (.int .i64 t)∧W.cell? ⟨bs,os+k,none⟩=some (.int .i64 x))
                 (first | exact⟨y3,y2⟩ | exact⟨z3.2.2,z3.2.1⟩ | exact⟨z4.2.2,z4.2.1⟩)
                 (first
                  | (go_simp;go_at_call 25;(with_reducible refine (F24.out _ HBz.out).mono ?_);rintro e W2 ⟨rfl,rfl⟩)
                  | (go_simp;go_at_call 26;(with_reducible refine (FT.out _ HBz.out).mono ?_);rintro e W6 ⟨rfl,z3,Y6⟩)
                  | (go_simp;go_at_call 25;(with_reducible refine (F24.out _ Y6.out.1).mono ?_);rintro e W2 ⟨rfl,rfl⟩)
                  | (go_simp;go_at_call 26;(with_reducible refine (FX.out _ Y6.out.1).mono ?_);rintro e W7 ⟨rfl,z4,Y7⟩))
                have HW7:=Lib.hid ((Y5.out.on (below_drew (Below.refl _ _))).on Y6.out.2 |>.on Y7.out.2)
                clear y1 y2 y3 z3 z4
                by_cases hT':κt = κx
                · have hbt':(κt == κx)=true:=beq_iff_eq.2 hT'
                  obtain⟨N2,hN2⟩:∃ n,n2'+1=n:=⟨_,rfl⟩
                  go_wp2_with (at_builtin;refine list_two V rfl (.tmp 142) (.tmp 147) rfl _ n2' _ _ N1 _ t rfl rfl HW7.out.turn N2 hN2 (by omega) ?_;intro B4 d4 W8 Y8)
                  have R:Hid (KpJ V (kc ps) κx s T ns (ns-(j+1)) (.slice B3 N1 d3) (.slice B4 N2 d4) (.int .i64 ((j:Int)+1)) W8):=Lib.hid ⟨j+1,N1,N2,B3,d3,B4,d4,rfl,rfl,by go_num,⟨by omega,by omega,by omega,by omega⟩,by rw [HS1.out,if_pos hU,HS2.out,if_pos hT'];exact Y8.out.turn⟩
                  clear Y8 HW7 Y6 Y7 F24 F25 FU FT FX HQS
                  go_roundg (ns-(j+1))
                  case measure=>omega
                  case rel=>exact R.out
                · have hbt':(κt == κx)=false:=beq_false_of_ne hT'
                  go_wp2
                  have R:Hid (KpJ V (kc ps) κx s T ns (ns-(j+1)) (.slice B3 N1 d3) (.slice B2 n2' d2) (.int .i64 ((j:Int)+1)) W7):=Lib.hid ⟨j+1,N1,n2',B3,d3,B2,d2,rfl,rfl,by go_num,⟨by omega,by omega,by omega,by omega⟩,by rw [HS1.out,if_pos hU,HS2.out,if_neg hT',List.append_nil];exact HW7.out⟩
                  clear HW7 Y6 Y7 F24 F25 FU FT FX HQS
                  go_roundg (ns-(j+1))
                  case measure=>omega
                  case rel=>exact R.out
              · have hbu:(κu == κx)=false:=beq_false_of_ne hU
                go_upto_region 20 with fail
                have HBz:Hid (Below V.heap.size V W4.drew):=Lib.hid (below_drew HW4.out.2.2.2)
                obtain⟨y1,y2,y3⟩:=HQS.out _ HBz.out
                go_region_held3 (fun W=>W.cell? ⟨bt,ot+j,none⟩=some (.int .i64 t)∧W.cell? ⟨bs,os+k,none⟩=some (.int .i64 x))
                 (first | exact⟨y3,y2⟩ | exact⟨z3.2.2,z3.2.1⟩ | exact⟨z4.2.2,z4.2.1⟩)
                 (first
                  | (go_simp;go_at_call 25;(with_reducible refine (F24.out _ HBz.out).mono ?_);rintro e W2 ⟨rfl,rfl⟩)
                  | (go_simp;go_at_call 26;(with_reducible refine (FT.out _ HBz.out).mono ?_);rintro e W6 ⟨rfl,z3,Y6⟩)
                  | (go_simp;go_at_call 25;(with_reducible refine (F24.out _ Y6.out.1).mono ?_);rintro e W2 ⟨rfl,rfl⟩)
                  | (go_simp;go_at_call 26;(with_reducible refine (FX.out _ Y6.out.1).mono ?_);rintro e W7 ⟨rfl,z4,Y7⟩))
                have HW7:=Lib.hid ((HW4.out.on (below_drew (Below.refl _ _))).on Y6.out.2 |>.on Y7.out.2)
                clear y1 y2 y3 z3 z4
                by_cases hT':κt = κx
                · have hbt':(κt == κx)=true:=beq_iff_eq.2 hT'
                  obtain⟨N2,hN2⟩:∃ n,n2'+1=n:=⟨_,rfl⟩
                  go_wp2_with (at_builtin;refine list_two V rfl (.tmp 142) (.tmp 147) rfl _ n2' _ _ n1' _ t rfl rfl HW7.out.turn N2 hN2 (by omega) ?_;intro B4 d4 W8 Y8)
                  have R:Hid (KpJ V (kc ps) κx s T ns (ns-(j+1)) (.slice B1 n1' d1) (.slice B4 N2 d4) (.int .i64 ((j:Int)+1)) W8):=Lib.hid ⟨j+1,n1',N2,B1,d1,B4,d4,rfl,rfl,by go_num,⟨by omega,by omega,by omega,by omega⟩,by rw [HS1.out,if_neg hU,HS2.out,if_pos hT',List.append_nil];exact Y8.out.turn⟩
                  clear Y8 HW7 Y6 Y7 F24 F25 FU FT FX HQS
                  go_roundg (ns-(j+1))
                  case measure=>omega
                  case rel=>exact R.out
                · have hbt':(κt == κx)=false:=beq_false_of_ne hT'
                  go_wp2
                  have R:Hid (KpJ V (kc ps) κx s T ns (ns-(j+1)) (.slice B1 n1' d1) (.slice B2 n2' d2) (.int .i64 ((j:Int)+1)) W7):=Lib.hid ⟨j+1,n1',n2',B1,d1,B2,d2,rfl,rfl,by go_num,⟨by omega,by omega,by omega,by omega⟩,by rw [HS1.out,if_neg hU,HS2.out,if_neg hT',List.append_nil,List.append_nil];exact HW7.out⟩
                  clear HW7 Y6 Y7 F24 F25 FU FT FX HQS
                  go_roundg (ns-(j+1))
                  case measure=>omega
                  case rel=>exact R.out
            · obtain rfl:j=ns:=by omega
              obtain⟨g1,g2,g3,g4⟩:=HJ.out
              rw [List.take_of_length_le (by have:=HN.out;omega)] at g1
              rw [List.take_of_length_le (by have:=HT.out.1;omega),HT.out.2.2.1 κx] at g2
              have v1:=own_now g1
              have v2:=own_now g2
              obtain rfl:n1'=n2':=by have q1:=v1.1;have q2:=v2.1;omega
              have d10:Calls Tryz.prog 12 #[.slice B1 n1' d1,.slice B2 n1' d2] wr fun e W'=>e=.returned (.bool true)∧Hid (KpI w X b ps (some ⟨bt,ot,none⟩) j T (j-(k+1)) (.int .i64 ((k:Int)+1)) W'):=(same17 B1 B2 n1' d1 d2 _ wr v1 v2 (by omega)).mono (by
               rintro e W' ⟨rfl,q,rfl⟩
               exact⟨rfl,NX.out _ (below_drewN g4 q)⟩)
              have hb9j:decide (j<j)=false:=decide_eq_false hlj
              clear HJ g1 g2 g3 g4 v1 v2 F24 F25 HVs NX HXX
              go_wp2_with (go_at_call 12;(with_reducible refine d10.mono ?_);rintro e W9 ⟨rfl,Y9⟩)
              go_roundg (j-(k+1))
              case measure=>omega
              case rel=>exact Y9.out
        · obtain rfl:k=ns:=by omega
          have hb9:decide (k<k)=false:=decide_eq_false hlt
          have HBE:=Lib.hid HI.out.2.1.1
          clear HI
          go_wp2
          go_ret
          exact⟨rfl,HBE.out⟩
     · rcases hlo:loadOf f with ⟨⟨vf,vl,ve⟩,_ | d⟩
       · have hve:ve≠0:=(load_wrong hlo).1
         have hvb:(ve != 0)=true:=bne_iff_ne.2 hve
         have D9:Hid (∀ W,BnB w W (.slice b0 n0 m0) (.slice b1 n1 m1) (.slice b2 n2 m2) (.slice b3 n3 m3) (.slice b4 n4 m4) (.slice b5 n5 m5) (.slice b6 n6 m6)→Calls Tryz.prog 23 #[.agg #[.slice b0 n0 m0,.slice b1 n1 m1,.slice b2 n2 m2,.slice b3 n3 m3,.slice b4 n4 m4,.slice b5 n5 m5,.slice b6 n6 m6]] W fun e W'=>e=.returned (.tuple #[.pointer none,.agg #[.int .i64 vf,.int .i64 vl,.int .i64 ve]])∧Hid (Below w.heap.size w W')):=Lib.hid (fun W hW=>(C9.out W hW).mono (by
          rintro e W' ⟨hw,-,⟨d',b,h,rfl,g1,g2,g3⟩ | ⟨x,h,rfl⟩⟩
          · rw [hlo] at h;injection h with _ h;cases h
          · rw [hlo] at h;injection h with h _;subst h;exact⟨rfl,Lib.hid hw.2⟩))
         have HB:Hid (∀ W o,Below w.heap.size w W→Below w.heap.size w (W.alloc o)):=Lib.hid (fun W o h=>h.trans ((Below.refl _ _).alloc h.size _))
         clear C9 hl hlo hfl h0 h1 h2 h3 h4 h5 h6 l0 l1 l2 l3 l4 l5 l6 hf7 hM hH hs hcp hsm hve
         go_enter Tryz.func4,Tryz.ntmps4
         go_wp2_with (first
          | (go_at_call 23;(with_reducible refine (D9.out _ H8.out).mono ?_);rintro e W9 ⟨rfl,H9⟩)
          | (go_at_call 9;(with_reducible refine (C7.out _ H1.out).mono ?_);rintro e W7 ⟨rfl,H7'⟩;have H7:=Lib.hid H7';clear H7';obtain⟨⟨q0,q1,q2,q3,q4,q5,q6⟩,-⟩:=H7.out)
          | (go_at_call 10;(with_reducible refine (C8.out _ H7.out).mono ?_);rintro e W8 ⟨rfl,H8'⟩;have H8:=Lib.hid H8';clear H8';obtain⟨⟨q0,q1,q2,q3,q4,q5,q6⟩,-⟩:=H8.out))
         go_ret
         exact⟨rfl,HB.out _ _ H9.out⟩
       · exact absurd ⟨d,by rw [hlo,load_zero hlo]⟩ hl
   · have hlb:decide (30<(ns:Int))=true:=decide_eq_true (by omega)
     clear h0 h1 h2 h3 h4 h5 h6 l0 l1 l2 l3 l4 l5 l6 hf7 hM hH hs hcp hsm
     go_enter Tryz.func4,Tryz.ntmps4
     go_wp2_with (first
      | (go_at_call 9;(with_reducible refine (C7.out _ H8.out).mono ?_);rintro e W9 ⟨rfl,H9'⟩;have H9:=Lib.hid H9';clear H9')
      | (go_at_call 9;(with_reducible refine (C7.out _ H1.out).mono ?_);rintro e W7 ⟨rfl,H7'⟩;have H7:=Lib.hid H7';clear H7';obtain⟨⟨q0,q1,q2,q3,q4,q5,q6⟩,-⟩:=H7.out)
      | (go_at_call 10;(with_reducible refine (C8.out _ H7.out).mono ?_);rintro e W8 ⟨rfl,H8'⟩;have H8:=Lib.hid H8';clear H8';obtain⟨⟨q0,q1,q2,q3,q4,q5,q6⟩,-⟩:=H8.out))
     go_ret
     exact⟨rfl,H9.out.2⟩
 · rw [decide_eq_false hsm] at C8
   clear h0 h1 h2 h3 h4 h5 h6 l0 l1 l2 l3 l4 l5 l6 hf7 hM hH hs hcp hsm
   go_enter Tryz.func4,Tryz.ntmps4
   go_wp2_with (first
    | (go_at_call 9;(with_reducible refine (C7.out _ H8.out).mono ?_);rintro e W9 ⟨rfl,H9'⟩;have H9:=Lib.hid H9';clear H9')
    | (go_at_call 9;(with_reducible refine (C7.out _ H1.out).mono ?_);rintro e W7 ⟨rfl,H7'⟩;have H7:=Lib.hid H7';clear H7';obtain⟨⟨q0,q1,q2,q3,q4,q5,q6⟩,-⟩:=H7.out)
    | (go_at_call 10;(with_reducible refine (C8.out _ H7.out).mono ?_);rintro e W8 ⟨rfl,H8'⟩;have H8:=Lib.hid H8';clear H8';obtain⟨⟨q0,q1,q2,q3,q4,q5,q6⟩,-⟩:=H8.out))
   go_ret
   exact⟨rfl,H9.out.2⟩
end Go.Proofs.YtbkgbhlmeeodgaaGreatDoor
