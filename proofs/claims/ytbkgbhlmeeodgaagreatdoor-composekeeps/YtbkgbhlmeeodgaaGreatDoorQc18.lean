/- A part. -/
import Derived.Test.YtbkgbhlmeeodgaaGreatDoorQc17
import Derived.Deep.RegionLaw
namespace Go.Proofs.YtbkgbhlmeeodgaaGreatDoor.Uc
open Go.RowKit Go.Shelf Go.Sort
theorem TkW.below {w:World} {num:Int} {R eb:Nat} {v:Value} {n1:Int} {m1:ByteArray} {b1:Bool} {s1:Rw} {nm:ByteArray} {bare:Bool} {t:Rw} {W W':World} (h:TkW w num R eb v n1 m1 b1 s1 nm bare t W) (hb:Below W.heap.size W W'):TkW w num R eb v n1 m1 b1 s1 nm bare t W':=by
 obtain⟨⟨l0,bx⟩,hx,hB,h1,h2⟩:=h
 exact⟨⟨(hb.cell (p:=⟨w.heap.size,0,none⟩) (by show w.heap.size<_;omega)).trans l0,bx.below h2 hb⟩,hx.below hb,hB.trans (hb.mono hB.size),h1,Nat.lt_of_lt_of_le h2 hb.size⟩
theorem box9_block {w w':World} {b:Nat} {v0 v1 v2 v3 v4 v5 v6 v7 v8:Value} (h:Box9 w b v0 v1 v2 v3 v4 v5 v6 v7 v8) (he:w'.heap[b]? = w.heap[b]?):Box9 w' b v0 v1 v2 v3 v4 v5 v6 v7 v8:=by
 obtain⟨⟨h0,h1,h2,h3,h4,h5,h6,h7,h8⟩,hf⟩:=h
 have c:∀ i u,w.cell? ⟨b,i,none⟩=some u→w'.cell? ⟨b,i,none⟩=some u:=fun i u hu=>(World.cell?_of_block (a:=⟨b,i,none⟩) he).trans hu
 exact⟨⟨c _ _ h0,c _ _ h1,c _ _ h2,c _ _ h3,c _ _ h4,c _ _ h5,c _ _ h6,c _ _ h7,c _ _ h8⟩,fun i=>(World.frozen?_of_block (a:=⟨b,i,none⟩) he).trans (hf i)⟩
theorem grow_block {W w3:World} {ob:Obj} {row:Option Nat} {R:Nat} (hg:((W.alloc ob).drew).grownBy w3 row) (hR:R<W.heap.size) (hne:row≠some R):w3.heap[R]? = W.heap[R]?:=
 (hg.block R (by simp [World.drew];omega) (fun e=>hne e.symm)).trans (Below.heap_alloc W ob R hR)
theorem grow_cell {W w3:World} {ob:Obj} {row:Option Nat} {R i:Nat} {v:Value} (hg:((W.alloc ob).drew).grownBy w3 row) (hR:R<W.heap.size) (hne:row≠some R) (hc:W.cell? ⟨R,i,none⟩=some v):w3.cell? ⟨R,i,none⟩=some v:=by
 have e:=hg.block R (by simp [World.drew];omega) (fun e=>hne e.symm)
 exact (World.cell?_of_block (a:=⟨R,i,none⟩) (e.trans (Below.heap_alloc W ob R hR))).trans hc
theorem grow_frozen {W w3:World} {ob:Obj} {row:Option Nat} {R i:Nat} (hg:((W.alloc ob).drew).grownBy w3 row) (hR:R<W.heap.size) (hne:row≠some R) (hc:W.frozen? ⟨R,i,none⟩=false):w3.frozen? ⟨R,i,none⟩=false:=by
 have e:=hg.block R (by simp [World.drew];omega) (fun e=>hne e.symm)
 exact (World.frozen?_of_block (a:=⟨R,i,none⟩) (e.trans (Below.heap_alloc W ob R hR))).trans hc
def TakeAdd (R base:Nat) (ps:List Pr) (y:Ln) (w:World) (e:Ending) (w':World):Prop:=
 e=.returned (.tuple #[.int .i64 0,.int .i64 0])∧Hold (GA R) w w'∧Below R w w'∧RdrI R base (ps ++ [rowVal y.2]) (if namedB (fld y.2 1) nmF=true then some y else none) w'
theorem own_slice {w:World} {base n:Nat} {e:TypeId} {size:Nat} {v:Value} {xs:List Value} (h:w.ownsRow base e size v n xs):∃ A c,v=.slice A n c:=by
 rcases h.2 with ⟨rfl,h0⟩ | ⟨g,cap,cur,rfl,-⟩
 · exact⟨none,0,by rw [h0]⟩
 · exact⟨_,cap,rfl⟩
theorem not_twice {ls:List Rw} {ps:List Pr} {w:World} {r:Pr} (hi:Ist w ls ps) (ht:¬twice ps r=true):ls = []∨∃ m tl,ls=m ++ [tl]∧¬r.a≤tl.b:=by
 rcases Nat.eq_zero_or_pos ls.length with h | h
 · exact .inl (List.eq_nil_of_length_eq_zero h)
 · obtain⟨m,tl,rfl⟩:=snoc_of h
   obtain⟨qs,q,rfl,-,hq⟩:=hi.unsnoc
   refine .inr ⟨m,tl,rfl,fun hle=>ht ?_⟩
   unfold twice
   rw [lastB_snoc]
   exact decide_eq_true (by rw [←hq.2.1];exact hle)
set_option maxRecDepth 100000 in
set_option maxHeartbeats 4000000 in
theorem take20_add (R base:Nat) (ps:List Pr) (num:Int) (F:Option Addr) (n:Nat) (f:List (List UInt8)) (w:World) (c34:∀ W,Below w.heap.size w W→Calls Tryz.prog 138 #[.agg #[.int .i64 num,.slice F n n]] W (EntOk num f W)) (hI:RdrI R base ps none w) (hp:ps.length≤1000000) (hl:(fld f 1).length≤1000000) (ht:¬twice ps (rowVal f)=true) (hbase:base≤w.heap.size):
 Calls Tryz.prog 111 #[.pointer (some ⟨R,0,none⟩),.agg #[.int .i64 num,.slice F n n]] w (TakeAdd R base ps (num,f) w):=by
 obtain⟨i0,hi,hz0,hz1,hz2⟩:=info_parts info36
 have hb:Below w.heap.size w (w.alloc (.cells #[.int .i64 num,.slice F n n] 164)):=(Below.refl _ _).alloc (Nat.le_refl _) _
 have k34:=c34 _ hb
 unfold EntOk at k34
 obtain⟨v,ls,n1,m1,b1,s1,hx,hr,-,-⟩:=hI
 have hlen:=hr.2.1.len
 obtain⟨A,ca,rfl⟩:=own_slice hr.1
 have hcase:=not_twice hr.2.1 ht
 have hlast:∀ m tl,ls=m ++ [tl]→∃ g,A=some ⟨g,0,none⟩∧g<w.heap.size∧w.cell? ⟨g,m.length*6+1,none⟩=some (.int .i64 tl.b):=by
  rintro m tl rfl
  obtain⟨g,cap,e,-,-⟩:=hr.1.form (by simp)
  cases e
  refine⟨g,rfl,(hr.1.lt g rfl).2,?_⟩
  rw [hr.1.cellAt _ (by simp;omega)]
  exact (rwvs_get (ls:=m ++ [tl]) (j:=m.length) (s:=tl) (by simp)).2.1
 have hvw:∀ k,(Value.slice A ls.length ca).ownBlock=some k→k<w.heap.size:=fun k e=>(hr.1.lt k e).2
 have hRw:=hx.lt
 have hRb:=hr.2.2.2
 have c36:=fun W=>named36 (fld f 1) nmF W hl
 have eF:bs nmF=⟨#[44,32,70,105,114,115,116,62]⟩:=rfl
 simp only [eF] at c36
 have HX:=Lib.hid hx
 have HR:=Lib.hid hr
 have HVW:=Lib.hid hvw
 have HLS:=Lib.hid hlast
 have HDN:=fun (W w3:World) (gg cap:Nat) (t:Rw) (ob:Obj) hx hr hwW hown hg hat hi hfr=>@add_done w W w3 R base ls.length gg cap (.slice A ls.length ca) ls t ps num n1 (bs m1) b1 false (namedB (fld f 1) nmF) s1 f ob hx rfl hr hvw hRw hwW hown hg hat hi hfr rfl
 have HDN:=Lib.hid HDN
 obtain⟨N,hN⟩:∃ N,ls.length=N:=⟨_,rfl⟩
 have hNb:N≤1000000:=by omega
 have HNN:=Lib.hid hN
 rw [hN] at HX HR HDN
 obtain⟨S1,hS1⟩:∃ S,bs (fld f 1)=S:=⟨_,rfl⟩
 obtain⟨B5,hB5⟩:∃ B,decide (fld f 5 = [])=B:=⟨_,rfl⟩
 obtain⟨NB,hNB⟩:∃ B,namedB (fld f 1) nmF=B:=⟨_,rfl⟩
 rw [hS1,hB5] at k34
 simp only [hS1] at c36
 simp only [hNB] at c36
 have HS1:=Lib.hid hS1
 have HB5:=Lib.hid hB5
 have HNB:=Lib.hid hNB
 have C36:=Lib.hid c36
 clear c34 hr ht hx hlen hp c36 eF hvw hlast hS1 hB5 hNB hN hb
 have m3:N+1≤maxLen:=by unfold maxLen;omega
 have m4:(N+1)*80≤140737488355328:=by omega
 have hst:(N=0∨∃ (M g:Nat) (tl:Rw),N=M+1∧A=some ⟨g,0,none⟩∧g<w.heap.size∧w.cell? ⟨g,M*6+1,none⟩=some (.int .i64 tl.b)∧¬(rowVal f).a≤tl.b):=by
  rcases hcase with rfl | ⟨m,tl,rfl,hnle⟩
  · exact .inl (by have:=HNN.out;simpa using this.symm)
  · obtain⟨g,h1,h2,h3⟩:=HLS.out m tl rfl
    exact .inr ⟨m.length,g,tl,by have:=HNN.out;rw [←this];simp,h1,h2,h3,hnle⟩
 clear hcase HLS
 rcases hst with rfl | ⟨M,g,tl,rfl,rfl,hg,hcl,hnle⟩
 · go_enter Tryz.func111,Tryz.ntmps111
   go_wp2_with (go_at_call 138;(with_reducible refine k34.mono ?_);rintro e w1 ⟨hb1,t,rfl,hIs⟩;have TK:=Lib.hid (tk_first (nm:=S1) (bare:=B5) (t:=t) HX.out hb1);obtain⟨⟨l0,⟨⟨y0,y1,y2,y3,y4,y5,y6,y7,y8⟩,yf⟩⟩,⟨⟨x0,x1,-⟩,xf⟩,hbw,hel,heb⟩:=TK.out;clear hbw;unfold enV)
   go_quiet (fail)
   go_wp2_with fail
   obtain⟨W,hW⟩:∃ W,(w1.alloc (.cells #[.int .i64 num,.string S1,.bool B5,.int .i64 t.a,.int .i64 t.b,.string (bs t.gc),.int .i64 t.ccc,.string (bs t.bd),.slice t.dp t.dm t.dc] 158)).drewN nq=W:=⟨_,rfl⟩
   have TK2:=Lib.hid (TK.out.below (below_drewN (Below.refl _ _) nq))
   have hb12:Below w1.heap.size w1 ((w1.alloc (.cells #[.int .i64 num,.string S1,.bool B5,.int .i64 t.a,.int .i64 t.b,.string (bs t.gc),.int .i64 t.ccc,.string (bs t.bd),.slice t.dp t.dm t.dc] 158)).drewN nq):=below_drewN ((Below.refl _ _).alloc (Nat.le_refl _) _) nq
   rw [hW] at TK2 hb12 ⊢
   have HIS:=Lib.hid (hIs.out.1.below hb12)
   have HFR:Hid (∀ a,t.dp=some a→w.heap.size≤a.block):=Lib.hid (fun a e=>by have h1:=hIs.out.2 a e;rw [World.size_alloc] at h1;omega)
   obtain⟨eb,heq⟩:∃ eb,w1.heap.size=eb:=⟨_,rfl⟩
   rw [heq] at TK2 ⊢
   clear hW heq hb12 hb1 hIs TK l0 y0 y1 y2 y3 y4 y5 y6 y7 y8 yf x0 x1 xf hel heb k34
   obtain⟨⟨-,hbx⟩,hxW,hbw,hel,heb⟩:=TK2.out
   have HRW:=Lib.hid (HR.out.below hbw)
   have HXW:=Lib.hid hxW
   have HBX:=Lib.hid hbx
   have HBW:=Lib.hid hbw
   obtain⟨⟨y0,y1,y2,y3,y4,y5,y6,y7,y8⟩,yf⟩:=hbx
   obtain⟨⟨x0,x1,x2,x3,x4,x5,x6,x7,x8,x9,x10⟩,xf⟩:=hxW
   have hown:=HRW.out.1
   rw [HNN.out] at hown
   have hwl:=hbw.size
   have hRe:¬R=eb:=by omega
   have heR:¬eb=R:=by omega
   have hRW:R<W.heap.size:=by omega
   have ag:(Value.slice A 0 ca).ownBlock≠some eb:=fun e=>by have:=HVW.out eb (by rw [HNN.out];exact e);omega
   have agR:(Value.slice A 0 ca).ownBlock≠some R:=fun e=>by have:=(hown.lt R e).1;omega
   have hbs:base≤W.heap.size:=by omega
   obtain⟨T,hT⟩:∃ S,bs t.gc=S:=⟨_,rfl⟩
   obtain⟨U,hU⟩:∃ S,bs t.bd=S:=⟨_,rfl⟩
   rw [hT] at y5
   rw [hU] at y7
   have HT:=Lib.hid hT
   have HU:=Lib.hid hU
   clear hT hU hbw HR HX TK2 hel x2 x3 x4 x5 x6 x7 x8 x9 x10
   go_region_law (refine step_append_lies _ ?a0 (.tmp 56) (.tmp 59) 84 ?a01 base 65 i0 (.agg #[.int .i64 0,.int .i64 0,.string ⟨#[]⟩,.int .i64 0,.string ⟨#[]⟩,.slice none 0 0]) 6 80 ?a1 ?a2 ?a3 ?a4 ?a5 ?a6 ?a7 (.slice A 0 ca) 0 (rwvs ls) ?a8 ?a9 ⟨W.heap.size,0,none⟩ 1 1 [.int .i64 t.a,.int .i64 t.b,.string T,.int .i64 t.ccc,.string U,.slice t.dp t.dm t.dc] ?b1 ?b2 ?b3 ?b4 ?b5 ?b6 ?b7 ?b8 (W.heap.size+1) ?b9 ?_;(case a0=>rfl);(case a01=>rfl);(case a1=>exact Tryz.underlying84);(case a2=>exact hi);(case a3=>exact hz0);(case a4=>exact hz1);(case a5=>exact hz2);(case a6=>rfl);(case a7=>omega);(case a8=>first | rfl | (simp [Act.eval,Act.put];done));(case a9=>exact ((hown.alloc _).drew));(case b1=>first | rfl | (simp [Act.eval,Act.put];done));(case b2=>rfl);(case b3=>exact (World.news_of_block (cs:=#[.int .i64 t.a,.int .i64 t.b,.string T,.int .i64 t.ccc,.string U,.slice t.dp t.dm t.dc]) (t:=65) (fr:=(0,0)) (heap_alloc_new W _)));(case b4=>simp [Value.oneCell'];done);(case b5=>omega);(case b6=>exact m3);(case b7=>exact m4);(case b8=>simp;omega);(case b9=>simp;done);intro gg cap w3 hown3 hgrow hat hlt3;have q0:=grow_cell hgrow hRW agR x0;have qf:=grow_frozen hgrow hRW agR (xf 0))
   all_goals
    have hx3:=rbx_block HXW.out (grow_block hgrow hRW agR)
    have hy3:=box9_block HBX.out (grow_block hgrow heb ag)
    have HD:=Lib.hid (HDN.out W w3 gg cap t _ HXW.out HRW.out hwl (by rw [HT.out,HU.out];exact hown3) hgrow hat HIS.out HFR.out)
    rw [HS1.out,HB5.out,HNB.out] at HD
    clear q0 qf hown3 hgrow hat x0 x1 xf y0 y1 y2 y3 y4 y5 y6 y7 y8 yf hown
    obtain⟨⟨y0,y1,y2,y3,y4,y5,y6,y7,y8⟩,yf⟩:=hy3
    obtain⟨⟨x0,x1,x2,x3,x4,x5,x6,x7,x8,x9,x10⟩,xf⟩:=hx3
    go_wp2_with (go_at_call 140;(with_reducible refine (C36.out _).mono ?_);rintro e w' ⟨rfl,rfl⟩)
    go_ret2
    refine⟨rfl,(Hold.of_below (ga_lets R) HBW.out).trans ?_,(HBW.out.mono (by omega)).trans ?_,?_⟩
    · exact HD.out.2.1
    · exact HD.out.2.2
    · rw [HNB.out]
      exact HD.out.1
 · have HNL:=Lib.hid hnle
   clear hnle
   go_enter Tryz.func111,Tryz.ntmps111
   go_wp2_with (go_at_call 138;(with_reducible refine k34.mono ?_);rintro e w1 ⟨hb1,t,rfl,hIs⟩;have TK:=Lib.hid (tk_first (nm:=S1) (bare:=B5) (t:=t) HX.out hb1);obtain⟨⟨l0,⟨⟨y0,y1,y2,y3,y4,y5,y6,y7,y8⟩,yf⟩⟩,⟨⟨x0,x1,-⟩,xf⟩,hbw,hel,heb⟩:=TK.out;have hcl2:=(hbw.cell (p:=⟨g,M*6+1,none⟩) hg).trans hcl;have hd:decide (t.a≤tl.b)=false:=decide_eq_false (by rw [hIs.out.1.1];exact HNL.out);clear hbw;unfold enV)
   go_quiet (fail)
   go_wp2_with fail
   obtain⟨W,hW⟩:∃ W,(w1.alloc (.cells #[.int .i64 num,.string S1,.bool B5,.int .i64 t.a,.int .i64 t.b,.string (bs t.gc),.int .i64 t.ccc,.string (bs t.bd),.slice t.dp t.dm t.dc] 158)).drewN nq=W:=⟨_,rfl⟩
   have TK2:=Lib.hid (TK.out.below (below_drewN (Below.refl _ _) nq))
   have hb12:Below w1.heap.size w1 ((w1.alloc (.cells #[.int .i64 num,.string S1,.bool B5,.int .i64 t.a,.int .i64 t.b,.string (bs t.gc),.int .i64 t.ccc,.string (bs t.bd),.slice t.dp t.dm t.dc] 158)).drewN nq):=below_drewN ((Below.refl _ _).alloc (Nat.le_refl _) _) nq
   rw [hW] at TK2 hb12 ⊢
   have HIS:=Lib.hid (hIs.out.1.below hb12)
   have HFR:Hid (∀ a,t.dp=some a→w.heap.size≤a.block):=Lib.hid (fun a e=>by have h1:=hIs.out.2 a e;rw [World.size_alloc] at h1;omega)
   obtain⟨eb,heq⟩:∃ eb,w1.heap.size=eb:=⟨_,rfl⟩
   rw [heq] at TK2 ⊢
   clear hW heq hb12 hb1 hIs TK l0 y0 y1 y2 y3 y4 y5 y6 y7 y8 yf x0 x1 xf hel heb k34 hcl hcl2 hd HNL
   obtain⟨⟨-,hbx⟩,hxW,hbw,hel,heb⟩:=TK2.out
   have HRW:=Lib.hid (HR.out.below hbw)
   have HXW:=Lib.hid hxW
   have HBX:=Lib.hid hbx
   have HBW:=Lib.hid hbw
   obtain⟨⟨y0,y1,y2,y3,y4,y5,y6,y7,y8⟩,yf⟩:=hbx
   obtain⟨⟨x0,x1,x2,x3,x4,x5,x6,x7,x8,x9,x10⟩,xf⟩:=hxW
   have hown:=HRW.out.1
   rw [HNN.out] at hown
   have hwl:=hbw.size
   have hRe:¬R=eb:=by omega
   have heR:¬eb=R:=by omega
   have hRW:R<W.heap.size:=by omega
   have ag:(Value.slice (some ⟨g,0,none⟩) (M+1) ca).ownBlock≠some eb:=fun e=>by have:=HVW.out eb (by rw [HNN.out];exact e);omega
   have agR:(Value.slice (some ⟨g,0,none⟩) (M+1) ca).ownBlock≠some R:=fun e=>by have:=(hown.lt R e).1;omega
   have hbs:base≤W.heap.size:=by omega
   obtain⟨T,hT⟩:∃ S,bs t.gc=S:=⟨_,rfl⟩
   obtain⟨U,hU⟩:∃ S,bs t.bd=S:=⟨_,rfl⟩
   rw [hT] at y5
   rw [hU] at y7
   have HT:=Lib.hid hT
   have HU:=Lib.hid hU
   clear hT hU hbw HR HX TK2 hel x2 x3 x4 x5 x6 x7 x8 x9 x10
   go_region_law (refine step_append_lies _ ?a0 (.tmp 56) (.tmp 59) 84 ?a01 base 65 i0 (.agg #[.int .i64 0,.int .i64 0,.string ⟨#[]⟩,.int .i64 0,.string ⟨#[]⟩,.slice none 0 0]) 6 80 ?a1 ?a2 ?a3 ?a4 ?a5 ?a6 ?a7 (.slice (some ⟨g,0,none⟩) (M+1) ca) (M+1) (rwvs ls) ?a8 ?a9 ⟨W.heap.size,0,none⟩ 1 1 [.int .i64 t.a,.int .i64 t.b,.string T,.int .i64 t.ccc,.string U,.slice t.dp t.dm t.dc] ?b1 ?b2 ?b3 ?b4 ?b5 ?b6 ?b7 ?b8 (W.heap.size+1) ?b9 ?_;(case a0=>rfl);(case a01=>rfl);(case a1=>exact Tryz.underlying84);(case a2=>exact hi);(case a3=>exact hz0);(case a4=>exact hz1);(case a5=>exact hz2);(case a6=>rfl);(case a7=>omega);(case a8=>first | rfl | (simp [Act.eval,Act.put];done));(case a9=>exact ((hown.alloc _).drew));(case b1=>first | rfl | (simp [Act.eval,Act.put];done));(case b2=>rfl);(case b3=>exact (World.news_of_block (cs:=#[.int .i64 t.a,.int .i64 t.b,.string T,.int .i64 t.ccc,.string U,.slice t.dp t.dm t.dc]) (t:=65) (fr:=(0,0)) (heap_alloc_new W _)));(case b4=>simp [Value.oneCell'];done);(case b5=>omega);(case b6=>exact m3);(case b7=>exact m4);(case b8=>simp;omega);(case b9=>simp;done);intro gg cap w3 hown3 hgrow hat hlt3;have q0:=grow_cell hgrow hRW agR x0;have qf:=grow_frozen hgrow hRW agR (xf 0))
   all_goals
    have hx3:=rbx_block HXW.out (grow_block hgrow hRW agR)
    have hy3:=box9_block HBX.out (grow_block hgrow heb ag)
    have HD:=Lib.hid (HDN.out W w3 gg cap t _ HXW.out HRW.out hwl (by rw [HT.out,HU.out];exact hown3) hgrow hat HIS.out HFR.out)
    rw [HS1.out,HB5.out,HNB.out] at HD
    clear q0 qf hown3 hgrow hat x0 x1 xf y0 y1 y2 y3 y4 y5 y6 y7 y8 yf hown
    obtain⟨⟨y0,y1,y2,y3,y4,y5,y6,y7,y8⟩,yf⟩:=hy3
    obtain⟨⟨x0,x1,x2,x3,x4,x5,x6,x7,x8,x9,x10⟩,xf⟩:=hx3
    go_wp2_with (go_at_call 140;(with_reducible refine (C36.out _).mono ?_);rintro e w' ⟨rfl,rfl⟩)
    go_ret2
    refine⟨rfl,(Hold.of_below (ga_lets R) HBW.out).trans ?_,(HBW.out.mono (by omega)).trans ?_,?_⟩
    · exact HD.out.2.1
    · exact HD.out.2.2
    · rw [HNB.out]
      exact HD.out.1
end Go.Proofs.YtbkgbhlmeeodgaaGreatDoor.Uc
namespace Go.Proofs.YtbkgbhlmeeodgaaGreatDoor.Uc
open Go.RowKit
theorem cell_set {w:World} {b o r i:Nat} {x v:Value} (h:w.cell? ⟨b,o,none⟩=some x) (hne:b≠r):(w.setCell ⟨r,i,none⟩ v).cell? ⟨b,o,none⟩=some x:=by
 rw [World.cell?_setCell_other _ _ _ _ (by intro e;injection e with e1;exact hne e1.symm)]
 exact h
theorem cell_six {w:World} {b o r:Nat} {x v0 v1 v2 v3 v4 v5:Value} (h:w.cell? ⟨b,o,none⟩=some x) (hne:b≠r):
 ((((((w.setCell ⟨r,0,none⟩ v0).setCell ⟨r,1,none⟩ v1).setCell ⟨r,2,none⟩ v2).setCell ⟨r,3,none⟩ v3).setCell ⟨r,4,none⟩ v4).setCell ⟨r,5,none⟩ v5).cell? ⟨b,o,none⟩=some x:=
 cell_set (cell_set (cell_set (cell_set (cell_set (cell_set h hne) hne) hne) hne) hne) hne
theorem six_boxd {w w1:World} {v0 v1 v2 v3 v4 v5:Value} {t:TypeId} (h:Below (w.alloc (.cells #[v0,v1,v2,v3,v4,v5] t)).drew.heap.size (w.alloc (.cells #[v0,v1,v2,v3,v4,v5] t)).drew w1):Box6 w1 w.heap.size v0 v1 v2 v3 v4 v5:=six_box (below_of_drew h)
theorem six_boxn {w w1:World} {v0 v1 v2 v3 v4 v5:Value} {t:TypeId} (h:Below (w.alloc (.cells #[v0,v1,v2,v3,v4,v5] t)).heap.size (w.alloc (.cells #[v0,v1,v2,v3,v4,v5] t)) w1):Box6 w1 w.heap.size v0 v1 v2 v3 v4 v5:=six_box h
theorem is_mk {W:World} {a b ccc:Int} {gc bd:List UInt8} {A:Option Addr} {n dc:Nat} {cs:List Nat} (h1:n=cs.length) (h2:Vals W A n (nums .i64 (cs.map fun c:Nat=>(c:Int)))):Is W ⟨a,b,gc,ccc,bd,A,n,dc⟩ ⟨a,b,gc,ccc,bd,cs⟩:=⟨rfl,rfl,rfl,rfl,rfl,h1,h2⟩
def EntCut (w w3:World) (num:Int) (b off:Nat) (S0 S1 S2 S3 S4 S5:ByteArray) (r:Nat) (v0 v1 v2 v3 v4 v5:Value) (W:World):Prop:=
 EntW w num b off S0 S1 S2 S3 S4 S5 W∧Box6 W r v0 v1 v2 v3 v4 v5∧w3.heap.size≤r∧Below w3.heap.size w3 W
theorem bel_next {w3 W W1 W':World} (h:Below w3.heap.size w3 W) (hb:Below W1.heap.size W1 W') (h1:Below W.heap.size W W1:=by first | (with_reducible exact Below.refl _ _) | (with_reducible exact below_drew (Below.refl _ _)) | (with_reducible exact (Below.refl _ _).alloc (Nat.le_refl _) _) | (with_reducible exact below_drew ((Below.refl _ _).alloc (Nat.le_refl _) _))):Below w3.heap.size w3 W':=h.trans ((h1.trans (hb.mono h1.size)).mono h.size)
theorem entW_set {w:World} {num:Int} {b off:Nat} {S0 S1 S2 S3 S4 S5:ByteArray} {W:World} (h:EntW w num b off S0 S1 S2 S3 S4 S5 W) {r:Nat} (hr:w.heap.size+1<r) (hb:b<r) (i:Nat) (v:Value):EntW w num b off S0 S1 S2 S3 S4 S5 (W.setCell ⟨r,i,none⟩ v):=by
 obtain⟨⟨⟨⟨y0,y1,y2,y3,y4,y5,y6,y7,y8⟩,yf⟩,yn⟩,⟨f0,f1,f2,f3,f4,f5⟩,⟨m,hm⟩,hB,hs,hbb⟩:=h
 have n1:w.heap.size+1≠r:=by omega
 have n2:w.heap.size≠r:=by omega
 have n3:b≠r:=by omega
 exact⟨⟨⟨⟨cell_set y0 n1,cell_set y1 n1,cell_set y2 n1,cell_set y3 n1,cell_set y4 n1,cell_set y5 n1,cell_set y6 n1,cell_set y7 n1,cell_set y8 n1⟩,fun i=>by rw [World.frozen?_setCell];exact yf i⟩,cell_set yn n2⟩,⟨cell_set f0 n3,cell_set f1 n3,cell_set f2 n3,cell_set f3 n3,cell_set f4 n3,cell_set f5 n3⟩,⟨m,cell_set hm (by omega)⟩,below_set hB (by omega) _ _,by rw [World.size_setCell];exact hs,by rw [World.size_setCell];exact hbb⟩
theorem box6_six {W:World} {r:Nat} {u0 u1 u2 u3 u4 u5 v0 v1 v2 v3 v4 v5:Value} (h:Box6 W r u0 u1 u2 u3 u4 u5):
 Box6 ((((((W.setCell ⟨r,0,none⟩ v0).setCell ⟨r,1,none⟩ v1).setCell ⟨r,2,none⟩ v2).setCell ⟨r,3,none⟩ v3).setCell ⟨r,4,none⟩ v4).setCell ⟨r,5,none⟩ v5) r v0 v1 v2 v3 v4 v5:=by
 obtain⟨⟨r0,r1,r2,r3,r4,r5⟩,hf⟩:=h
 exact⟨⟨by simp [go_sem,r0],by simp [go_sem,r1],by simp [go_sem,r2],by simp [go_sem,r3],by simp [go_sem,r4],by simp [go_sem,r5]⟩,fun i=>by simp only [World.frozen?_setCell];exact hf i⟩
theorem cut_six {w w3:World} {num:Int} {b off:Nat} {S0 S1 S2 S3 S4 S5:ByteArray} {r:Nat} {u0 u1 u2 u3 u4 u5 v0 v1 v2 v3 v4 v5:Value} {W:World} (h:EntW w num b off S0 S1 S2 S3 S4 S5 W) (hx:Box6 W r u0 u1 u2 u3 u4 u5) (hr:w3.heap.size≤r) (hB:Below w3.heap.size w3 W) (h1:w.heap.size+1<w3.heap.size) (h2:b<w3.heap.size):
 EntCut w w3 num b off S0 S1 S2 S3 S4 S5 r v0 v1 v2 v3 v4 v5 ((((((W.setCell ⟨r,0,none⟩ v0).setCell ⟨r,1,none⟩ v1).setCell ⟨r,2,none⟩ v2).setCell ⟨r,3,none⟩ v3).setCell ⟨r,4,none⟩ v4).setCell ⟨r,5,none⟩ v5):=by
 have a1:w.heap.size+1<r:=by omega
 have a2:b<r:=by omega
 exact⟨entW_set (entW_set (entW_set (entW_set (entW_set (entW_set h a1 a2 _ _) a1 a2 _ _) a1 a2 _ _) a1 a2 _ _) a1 a2 _ _) a1 a2 _ _,box6_six hx,hr,below_set (below_set (below_set (below_set (below_set (below_set hB hr _ _) hr _ _) hr _ _) hr _ _) hr _ _) hr _ _⟩
theorem cut_new {w w3:World} {num:Int} {b off:Nat} {S0 S1 S2 S3 S4 S5:ByteArray} {v0 v1 v2 v3 v4 v5:Value} {W:World} {t:TypeId} (h:EntW w num b off S0 S1 S2 S3 S4 S5 W) (hB:Below w3.heap.size w3 W):
 EntCut w w3 num b off S0 S1 S2 S3 S4 S5 W.heap.size v0 v1 v2 v3 v4 v5 (W.alloc (.cells #[v0,v1,v2,v3,v4,v5] t)):=
 ⟨h.below ((Below.refl _ _).alloc (Nat.le_refl _) _),six_boxn (Below.refl _ _),hB.size,hB.alloc hB.size _⟩
set_option maxRecDepth 100000 in
set_option maxHeartbeats 4000000 in
theorem ent34_ok (num : Int) (F : Option Addr) (cf : Nat) (f : List (List UInt8)) (w : World) (hV : Vals w F 15 (strs f)) (hfl : ∀ x ∈ f, x.length ≤ 4000) (hM : ML w) (c : Nat) (hp : point (fld f 0) = some c) (ho : okB f = true) (hx : decErr (fld f 5) = 0) :
    Calls Tryz.prog 138 #[.agg #[.int .i64 num, .slice F 15 cf]] w (EntOk num f w) := by
  have hl : f.length = 15 := by have := hV.1; rwa [strs_length] at this
  obtain ⟨b, off, rfl, hbl, q0, q1, q2, q3, q4, q5⟩ := flds hV rfl
  have c56 := fun W => point11 (fld f 0) W (by have := fld_len hfl 0; omega)
  have c57 := fun W => ccc57 (fld f 3) W (by have := fld_len hfl 3; omega)
  have c58 := fun W => gc58 (fld f 2) W (by have := fld_len hfl 2; omega)
  have c59 := fun W => bd59 (fld f 4) W (by have := fld_len hfl 4; omega)
  have c60 := fun W => dec60 (fld f 5) W (fld_len hfl 5)
  have hs2 := bs_size (fld f 2)
  have hs4 := bs_size (fld f 4)
  have hl2 := fld_len hfl 2
  have hl4 := fld_len hfl 4
  have hem := bs_emp (fld f 5)
  obtain ⟨S0, hS0⟩ : ∃ S, bs (fld f 0) = S := ⟨_, rfl⟩
  obtain ⟨S1, hS1⟩ : ∃ S, bs (fld f 1) = S := ⟨_, rfl⟩
  obtain ⟨S2, hS2⟩ : ∃ S, bs (fld f 2) = S := ⟨_, rfl⟩
  obtain ⟨S3, hS3⟩ : ∃ S, bs (fld f 3) = S := ⟨_, rfl⟩
  obtain ⟨S4, hS4⟩ : ∃ S, bs (fld f 4) = S := ⟨_, rfl⟩
  obtain ⟨S5, hS5⟩ : ∃ S, bs (fld f 5) = S := ⟨_, rfl⟩
  rw [hS0] at q0
  rw [hS1] at q1
  rw [hS2] at q2 hs2
  rw [hS3] at q3
  rw [hS4] at q4 hs4
  rw [hS5] at q5 hem
  simp only [hS0] at c56
  simp only [hS3] at c57
  simp only [hS2] at c58
  simp only [hS4] at c59
  simp only [hS5] at c60
  have hz2 : S2.size ≤ 4000 := by omega
  have hz4 : S4.size ≤ 4000 := by omega
  have EW0 := Lib.hid (entW_first w num cf b off S0 S1 S2 S3 S4 S5 hbl q0 q1 q2 q3 q4 q5 hM)
  obtain ⟨⟨⟨⟨y0, y1, y2, y3, y4, y5, y6, y7, y8⟩, yf⟩, yn⟩, ⟨f0, f1, f2, f3, f4, f5⟩, -, -, ys, yb⟩ := EW0.out
  have HRV : Hid (rowVal f = ⟨c, c, fld f 2, cccOf (fld f 3), fld f 4, decVal (fld f 5)⟩) := Lib.hid (by unfold rowVal; rw [hp]; rfl)
  simp only [hp, ptVal] at c56
  have hok := ho
  unfold okB at hok
  rw [Bool.and_eq_true, Bool.and_eq_true, decide_eq_true_eq] at hok
  obtain ⟨hg, hc, hd⟩ := hok
  unfold cccP at c57
  simp only [hg] at c58
  simp only [hd] at c59
  simp only [if_pos hc] at c57
  unfold DecPost at c60
  obtain ⟨N, hN⟩ : ∃ N, cccOf (fld f 3) = N := ⟨_, rfl⟩
  rw [hN] at HRV
  simp only [hN] at c57
  simp only [hx, true_implies] at c60
  clear hg hd hc hN hx
  have C56 := Lib.hid c56
  have C57 := Lib.hid c57
  have C58 := Lib.hid c58
  have C59 := Lib.hid c59
  have C60 := Lib.hid c60
  have HS2 := Lib.hid hS2
  have HS4 := Lib.hid hS4
  have HS1 := Lib.hid hS1
  clear hV hfl hl hp ho hS0 hS1 hS2 hS3 hS4 hS5 c56 c57 c58 c59 c60 hs2 hs4 hl2 hl4 q0 q1 q2 q3 q4 q5 hM
  have c61 := fun W S (hs : S.size ≤ 4000) => clone61 S W (by omega)
  have C61 := Lib.hid c61
  clear c61
  go_enter Tryz.func138, Tryz.ntmps138
  go_upto_region 13 with (first
    | (go_at_call 153; (with_reducible refine (C56.out _).mono ?_); rintro e w' ⟨rfl, rfl⟩)
    | (go_at_call 174; (with_reducible refine (C57.out _).mono ?_); rintro e w1 ⟨rfl, hb1⟩; have EW1 := Lib.hid (EW0.out.below hb1); obtain ⟨⟨⟨⟨y0, y1, y2, y3, y4, y5, y6, y7, y8⟩, yf⟩, yn⟩, ⟨f0, f1, f2, f3, f4, f5⟩, -, -, ys, yb⟩ := EW1.out)
    | (go_at_call 175; (with_reducible refine (C58.out _).mono ?_); rintro e w' ⟨rfl, rfl⟩)
    | (go_at_call 176; (with_reducible refine (C59.out _).mono ?_); rintro e w2 ⟨rfl, hb2⟩; have EW2 := Lib.hid (EW1.out.below hb2); have hM2 := Lib.hid EW2.out.2.2.1; obtain ⟨⟨⟨⟨y0, y1, y2, y3, y4, y5, y6, y7, y8⟩, yf⟩, yn⟩, ⟨f0, f1, f2, f3, f4, f5⟩, -, -, ys, yb⟩ := EW2.out)
    | (go_at_call 177; (with_reducible refine (C60.out _ hM2.out).mono ?_); rintro e w3 ⟨hb3, A3, n3, ca3, rfl, hV3⟩; have EW3 := Lib.hid (EW2.out.below hb3); obtain ⟨⟨⟨⟨y0, y1, y2, y3, y4, y5, y6, y7, y8⟩, yf⟩, yn⟩, ⟨f0, f1, f2, f3, f4, f5⟩, -, -, ys, yb⟩ := EW3.out))
  have hs2w := EW2.out.2.2.2.2.1
  clear C56 C57 C58 C59 C60 EW0 EW1 EW2 hb1 hb2 hM2
  have EWL := EW3
  have B3 := Lib.hid (Below.refl w3.heap.size w3)
  have ys3 := ys
  have yb3 := yb
  go_cut [10] (fun s10 wx => ∃ r : Nat, s10 = .pointer (some ⟨r, 0, none⟩) ∧ EntCut w w3 num b off S0 S1 S2 S3 S4 S5 r (.int .i64 (c : Int)) (.int .i64 (c : Int)) (.string S2) (.int .i64 N) (.string S4) (.slice A3 n3 ca3) wx)
  case first =>
    go_region_held3 (fun w' => w'.cell? ⟨b, off + 2, none⟩ = some (.string S2) ∧ w'.cell? ⟨b, off + 4, none⟩ = some (.string S4))
      (first
        | (go_split_ands
           refine ⟨?_, ?_⟩
           · (first | (with_reducible exact f2) | (with_reducible exact (World.cell?_alloc_lt _ _ _ yb).trans f2) | (with_reducible exact cell_six f2 hbr))
           · (first | (with_reducible exact f4) | (with_reducible exact (World.cell?_alloc_lt _ _ _ yb).trans f4) | (with_reducible exact cell_six f4 hbr)))
        | go_keep)
      ((go_simp; go_at_call 145; (first | (with_reducible refine (C61.out _ S2 hz2).mono ?_) | (with_reducible refine (C61.out _ S4 hz4).mono ?_)); rintro e w4 ⟨rfl, hb4⟩; have yold := Nat.ne_of_lt yb; have EWL := Lib.hid (entW_next EWL.out hb4); have hle3 := B3.out.size; have B3 := Lib.hid (bel_next B3.out hb4); have f2 := EWL.out.2.1.2.2.1; have f4 := EWL.out.2.1.2.2.2.2.1; have yb := EWL.out.2.2.2.2.2; (first | (have RB := (by with_reducible exact six_boxd hb4); have hbr := yold; have hrr := hle3) | (have RB := (by with_reducible exact six_boxn hb4); have hbr := yold; have hrr := hle3) | (have RB := RB.below (World.block_lt_of_cell? _ _ RB.1.1) hb4) | skip); (try obtain ⟨⟨r0, r1, r2, r3, r4, r5⟩, rf⟩ := id RB)))
    all_goals
      go_wp2_with fail
      go_meet
      refine ⟨_, rfl, ?_⟩
      first
        | (with_reducible exact cut_new EWL.out B3.out)
        | (with_reducible exact cut_six EWL.out RB hrr B3.out ys3 yb3)
  case rest =>
    obtain ⟨r, rfl, hE, ⟨⟨r0, r1, r2, r3, r4, r5⟩, rf⟩, hr3, hB3⟩ := hcut
    have HEC := Lib.hid hE
    obtain ⟨⟨⟨⟨y0, y1, y2, y3, y4, y5, y6, y7, y8⟩, yf⟩, yn⟩, ⟨f0, f1, f2, f3, f4, f5⟩, -, -, ys, yb⟩ := hE
    obtain ⟨B5, hB5⟩ : ∃ B, decide (fld f 5 = []) = B := ⟨_, rfl⟩
    rw [hB5] at hem
    have HB5 := Lib.hid hB5
    clear hB5
    go_wp2_with fail
    go_region
    go_wp2
    have hV4 := vals_set9 (b := w.heap.size + 1) (v0 := .int .i64 num) (v1 := .string S1) (v2 := .bool B5) (v3 := .int .i64 (c : Int)) (v4 := .int .i64 (c : Int)) (v5 := .string S2) (v6 := .int .i64 N) (v7 := .string S4) (v8 := .slice A3 n3 ca3) (hV3.out.2.1.below hB3) (fun a e => by have := hV3.out.2.2 a e; omega)
    have hV5 := hV4.below (below_drew (Below.refl _ _))
    unfold i64s at hV5
    have HIS := Lib.hid (is_mk (a := c) (b := c) (gc := fld f 2) (ccc := N) (bd := fld f 4) (dc := ca3) hV3.out.1 hV5)
    have HFR : Hid (∀ a, A3 = some a → w.heap.size ≤ a.block) := Lib.hid (fun a e => by have := hV3.out.2.2 a e; omega)
    have HBL := Lib.hid (below_drew (below_nine (v0 := .int .i64 num) (v1 := .string S1) (v2 := .bool B5) (v3 := .int .i64 (c : Int)) (v4 := .int .i64 (c : Int)) (v5 := .string S2) (v6 := .int .i64 N) (v7 := .string S4) (v8 := .slice A3 n3 ca3) HEC.out.2.2.2.1 (show w.heap.size ≤ w.heap.size + 1 by omega)))
    clear hV4 hV5 HEC
    refine bodyPost_ret (v := .tuple #[enV num S1 B5 ⟨c, c, fld f 2, N, fld f 4, A3, n3, ca3⟩, .int .i64 0]) (by simp [results, Tryz.results138, go_sem, y0, y1, y2, y3, y4, y5, y6, y7, y8, enV, HS2.out, HS4.out]) rfl ?_
    refine ⟨by with_reducible exact HBL.out, ⟨c, c, fld f 2, N, fld f 4, A3, n3, ca3⟩, by rw [HS1.out, HB5.out], Lib.hid ⟨?_, by with_reducible exact HFR.out⟩⟩
    rw [HRV.out]
    with_reducible exact HIS.out
end Go.Proofs.YtbkgbhlmeeodgaaGreatDoor.Uc
namespace Go.Proofs.YtbkgbhlmeeodgaaGreatDoor.Uc
open Go.RowKit Go.Shelf Go.Sort
theorem ent_any_bad (num:Int) (F:Option Addr) (n:Nat) (f:List (List UInt8)) (w:World) (hV:Vals w F n (strs f)) (hfl:∀ x∈f,x.length≤4000) (hM:ML w) (he:¬rowErr f=0):Calls Tryz.prog 138 #[.agg #[.int .i64 num,.slice F n n]] w (EntBad f w):=by
 by_cases hn:n=15
 · subst hn
   have hl:f.length=15:=by have:=hV.1;rwa [strs_length] at this
   cases hp:point (fld f 0) with
   | none=>exact ent34_hex num F 15 f w hV hfl hM hp
   | some c=>
    cases ho:okB f with
    | false=>exact ent34_val num F 15 f w hV hfl hM c hp ho
    | true=>exact ent34_dec num F 15 f w hV hfl hM c hp ho (by rw [←row_dec hl hp ho];exact he)
 · exact ent34_len num F n n f w hV hn
theorem ent_any_ok (num:Int) (F:Option Addr) (n:Nat) (f:List (List UInt8)) (w:World) (hV:Vals w F n (strs f)) (hfl:∀ x∈f,x.length≤4000) (hM:ML w) (he:rowErr f=0):Calls Tryz.prog 138 #[.agg #[.int .i64 num,.slice F n n]] w (EntOk num f w):=by
 have hl:f.length=n:=by have:=hV.1;rwa [strs_length] at this
 obtain⟨h1,⟨c,h2⟩,h3,h4⟩:=row_ok he
 obtain rfl:n=15:=by omega
 exact ent34_ok num F 15 f w hV hfl hM c h2 h3 h4
def StepTo (R base:Nat) (a b:Int) (W:World):St→Prop
 | .bad e n=>a=e∧b=n∧¬e=0
 | .at ps op=>a=0∧b=0∧RdrI R base ps op W
def TakePost (R base:Nat) (s:St) (w:World) (e:Ending) (w':World):Prop:=
 Hold (GA R) w w'∧Below R w w'∧∃ a b,e=.returned (.tuple #[.int .i64 a,.int .i64 b])∧Hid (StepTo R base a b w' s)
theorem take_any (R base:Nat) (ps:List Pr) (op:Option Ln) (num:Int) (F:Option Addr) (n:Nat) (f:List (List UInt8)) (w:World) (hI:RdrI R base ps op w) (hV:Vals w F n (strs f)) (hfl:∀ x∈f,x.length≤4000) (hM:ML w) (hp:ps.length≤1000000) (hbase:base≤w.heap.size):
 Calls Tryz.prog 111 #[.pointer (some ⟨R,0,none⟩),.agg #[.int .i64 num,.slice F n n]] w (TakePost R base (step (.at ps op) (num,f)) w):=by
 have hR:R<w.heap.size:=by obtain⟨v,ls,n1,nm,bare,s,hx,-⟩:=hI;exact hx.lt
 have hl1:(fld f 1).length≤1000000:=by have:=fld_len hfl 1;omega
 by_cases he:rowErr f=0
 · have c34:=fun W (hW:Below w.heap.size w W)=>ent_any_ok num F n f W (hV.below hW) hfl (hM.below hW) he
   cases op with
   | some x=>
    refine (take20_open R base ps x num F n f w c34 hI hl1 hp).mono ?_
    rintro e w' ⟨h1,h2,h3⟩
    refine⟨h1,h2,?_⟩
    rcases h3 with ⟨hj,rfl⟩ | ⟨hj,rfl,h4⟩
    · exact⟨_,_,rfl,Lib.hid (by simp only [step];rw [if_neg (by simp [he]),if_pos hj];exact⟨rfl,rfl,by decide⟩)⟩
    · exact⟨_,_,rfl,Lib.hid (by simp only [step];rw [if_neg (by simp [he]),if_neg (by rw [hj];decide)];exact⟨rfl,rfl,h4⟩)⟩
   | none=>
    by_cases ht:twice ps (rowVal f)=true
    · refine (take20_twice R base ps num F n f w c34 hI hp ht).mono ?_
      rintro e w' ⟨rfl,hb⟩
      exact⟨Hold.of_below (ga_lets R) hb,hb.mono (Nat.le_of_lt hR),_,_,rfl,Lib.hid (by simp only [step];rw [if_neg (by simp [he]),if_pos ht];exact⟨rfl,rfl,by decide⟩)⟩
    · refine (take20_add R base ps num F n f w c34 hI hp hl1 ht hbase).mono ?_
      rintro e w' ⟨rfl,h1,h2,h3⟩
      exact⟨h1,h2,_,_,rfl,Lib.hid (by simp only [step];rw [if_neg (by simp [he]),if_neg ht];exact⟨rfl,rfl,h3⟩)⟩
 · have c34:=fun W (hW:Below w.heap.size w W)=>ent_any_bad num F n f W (hV.below hW) hfl (hM.below hW) he
   refine (take20_err R num F n f w c34 he).mono ?_
   rintro e w' ⟨rfl,hb⟩
   refine⟨Hold.of_below (ga_lets R) hb,hb.mono (Nat.le_of_lt hR),_,_,rfl,Lib.hid ?_⟩
   cases op with
   | some x=>simp only [step];rw [if_pos he];exact⟨rfl,rfl,he⟩
   | none=>simp only [step];rw [if_pos he];exact⟨rfl,rfl,he⟩
end Go.Proofs.YtbkgbhlmeeodgaaGreatDoor.Uc
