/- A part. -/
import Derived.Test.YtmellioacefjjaaGreatDoorQB20
namespace Go.Proofs.YtmellioacefjjaaGreatDoor.Uc
open Go.RowKit Go.Shelf Go.Sort
attribute [local go_sem] Oper.semAt_some
theorem append_row {P:Program} {w:World} {ops:Array Oper} {rest:List Oper} {o:Oper} {a:Act} {Q:Exit→Act→World→Prop} (hgd:o.guard=none) (s x:Operand) (t:TypeId)
 (ho:o.op=.call { callee:=.builtin .append,args:=#[s,x],argTypes:=#[t,t] })
 (base:Nat) (e:TypeId) (i:TypeInfo) (z:Value) (size bytes:Nat) (ht:P.underlying t=some (.slice e)) (hi:P.info? e=some i) (hz:i.zero=some z)
 (hsize:i.size=size) (hby:i.bytes=bytes) (hzs:z.cells.size=size) (hsz:0<size)
 (v:Value) (n:Nat) (xs:List Value) (hs:a.eval s=v) (hown:w.ownsRow base e size v n xs) (us:List Value) (hus:us.length=size) (hone:∀ u∈us,u.oneCell'=true)
 (hx:a.eval x=.slice (some ⟨w.heap.size,0,none⟩) 1 1) (h63:n+1≤maxLen) (hbytes:(n+1)*bytes≤140737488355328) (hbase:base≤w.heap.size)
 (h:∀ g cap w',w'.ownsRow base e size (.slice (some ⟨g,0,none⟩) (n+1) cap) (n+1) (xs++us)→(w.alloc (.cells us.toArray e)).grownBy w' v.ownBlock→(v.ownBlock=some g∨g=w.heap.size+1)→wpList P ops Q rest (a.put o.dst (.slice (some ⟨g,0,none⟩) (n+1) cap)) w'):wpList P ops Q (o::rest) a (w.alloc (.cells us.toArray e)):=
 wpList_append_lies _ hgd s x t ho base e i z size bytes ht hi hz hsize hby hzs hsz v n xs hs (hown.alloc _) ⟨w.heap.size,0,none⟩ 1 1 us hx (by rw [hus,Nat.one_mul]) (lit_cells w us e) hone (by decide) h63 hbytes (by simp;omega) (w.heap.size+1) (by simp)
  (fun g cap w' h1 h2 h3 _=>h g cap w' h1 h2 h3)
theorem append_row2 {P:Program} {w:World} {ops:Array Oper} {rest:List Oper} {o:Oper} {a:Act} {Q:Exit→Act→World→Prop} (hgd:o.guard=none) (s x:Operand) (t:TypeId)
 (ho:o.op=.call { callee:=.builtin .append,args:=#[s,x],argTypes:=#[t,t] })
 (base:Nat) (e:TypeId) (i:TypeInfo) (z:Value) (size bytes:Nat) (ht:P.underlying t=some (.slice e)) (hi:P.info? e=some i) (hz:i.zero=some z)
 (hsize:i.size=size) (hby:i.bytes=bytes) (hzs:z.cells.size=size) (hsz:0<size)
 (v:Value) (n:Nat) (xs:List Value) (hs:a.eval s=v) (hown:w.ownsRow base e size v n xs) (us:List Value) (hus:us.length=size) (hone:∀ u∈us,u.oneCell'=true)
 (H:Nat) (hH:w.heap.size=H) (hx:a.eval x=.slice (some ⟨H,0,none⟩) 1 1) (h63:n+1≤maxLen) (hbytes:(n+1)*bytes≤140737488355328) (hbase:base≤H)
 (h:∀ g cap w',w'.ownsRow base e size (.slice (some ⟨g,0,none⟩) (n+1) cap) (n+1) (xs++us)→(w.alloc (.cells us.toArray e)).grownBy w' v.ownBlock→(v.ownBlock=some g∨g=H+1)→wpList P ops Q rest (a.put o.dst (.slice (some ⟨g,0,none⟩) (n+1) cap)) w'):wpList P ops Q (o::rest) a (w.alloc (.cells us.toArray e)):=by
 subst hH
 exact append_row hgd s x t ho base e i z size bytes ht hi hz hsize hby hzs hsz v n xs hs hown us hus hone hx h63 hbytes hbase h
set_option maxRecDepth 100000 in
set_option maxHeartbeats 4000000 in
theorem refparse9 (l:List UInt8) (w:World) (hl:l.length≤4000) (hxl:∀ x∈linesIn l,∀ f∈x.2,f.length≤4000):Calls Tryz.prog 55 #[.string (bs l)] w (RefPost (linesIn l) w):=by
 obtain⟨i0,hi,hz0,hz1,hz2⟩:=info_parts info36
 have c21:=lines8 l w (by omega)
 obtain⟨L,hL⟩:∃ L,linesIn l=L:=⟨_,rfl⟩
 rw [hL]
 go_enter Tryz.func55,Tryz.ntmps55
 go_wp2_with (go_at_call 75;(with_reducible refine c21.mono ?_);rintro e w1 ⟨hb1,A,ca,rfl,hca,hLA⟩)
 clear c21
 have hlen:(linesIn l).length≤4001:=by
  rw [←lines_pieces]
  have h1:=List.length_filterMap_le lineOf (numbered 1 (pieces l))
  rw [numbered_length] at h1
  have h2:=pieces_length l
  omega
 rw [hL] at hlen hLA hca hxl
 obtain⟨N,hN⟩:∃ N,L.length=N:=⟨_,rfl⟩
 rw [hN] at hlen hLA hca ⊢
 have HN:=Lib.hid hN
 have HXL:=Lib.hid hxl
 have HLA:=Lib.hid hLA
 have HB1:=Lib.hid hb1
 clear hL hN hxl hLA hb1 hl
 go_wp2
 go_loopw [6,7] (fun v i wr=>RpI w1 L i v wr) (fun _ i _=>N-(intOf i).toNat)
 case atStart=>exact rp_start w1 L
 case round=>
  obtain⟨k,ls,ps,rfl,hk,⟨href,hpl⟩,hrows,hbw⟩:=hrel
  have hbww:Below w.heap.size w wr:=HB1.out.trans (hbw.mono HB1.out.size)
  by_cases hlt:k<N
  · have hkL:k<L.length:=by rw [HN.out];exact hlt
    obtain⟨bL,rfl,hbL,hcell⟩:=HLA.out.2 (by omega)
    obtain⟨x,hx⟩:∃ x,L[k]? = some x:=⟨_,List.getElem?_eq_getElem hkL⟩
    obtain⟨e1,F,cf,e2,hVF⟩:=hcell k x hx
    rw [Nat.mul_comm] at e1 e2
    have d1:wr.cell? ⟨bL,k*2,none⟩=some (.int .i64 x.1):=(hbw.cell (p:=⟨bL,k*2,none⟩) hbL).trans e1
    have d2:wr.cell? ⟨bL,k*2+1,none⟩=some (.slice F x.2.length cf):=(hbw.cell (p:=⟨bL,k*2+1,none⟩) hbL).trans e2
    have hbLw:bL<wr.heap.size:=Nat.lt_of_lt_of_le hbL hbw.size
    have hdrop:L.drop k=x::L.drop (k+1):=by rw [List.drop_eq_getElem_cons hkL];congr 1;have:=(List.getElem?_eq_some_iff.1 hx).2;exact this
    have hxm:=List.mem_of_getElem? hx
    have c22:=row22_any F x.2.length cf x.2 wr (hVF.below hbw) (HXL.out x hxm)
    rw [hdrop] at href
    by_cases hr1:rowErr x.2=0
    · have hrv:rowRef x.2=rowVal x.2:=by unfold rowRef;rw [if_pos hr1]
      have hf15:=(row_ok hr1).1
      obtain⟨bF,oF,rfl,hbF,-,q1,-,-,-,q5⟩:=flds (hVF.below hbw) hf15
      rw [hf15] at d2 c22
      have c22':Calls Tryz.prog 76 #[.slice (some ⟨bF,oF,none⟩) 15 cf] wr fun e w'=>∃ s,e=.returned (.tuple #[rwV s,.int .i64 0])∧Below wr.heap.size wr w'∧Hid (Is w' s (rowVal x.2)∧∀ a,s.dp=some a→wr.heap.size≤a.block):=by
       refine c22.mono ?_
       rintro e w' ⟨hb,s,rfl,h1,h2⟩
       rw [hr1]
       rw [hrv] at h1
       exact⟨s,rfl,hb,Lib.hid ⟨h1,h2⟩⟩
      obtain⟨Av,cv,rfl⟩:=own_slice hrows.1
      have hlast:∀ m tl,ls=m ++ [tl]→∃ g,Av=some ⟨g,0,none⟩∧g<wr.heap.size∧wr.cell? ⟨g,m.length*6+1,none⟩=some (.int .i64 tl.b):=by
       rintro m tl rfl
       obtain⟨g,cap,e,-,-⟩:=hrows.1.form (by simp)
       cases e
       refine⟨g,rfl,(hrows.1.lt g rfl).2,?_⟩
       rw [hrows.1.cellAt _ (by simp;omega)]
       exact (rwvs_get (ls:=m ++ [tl]) (j:=m.length) (s:=tl) (by simp)).2.1
      have HL:=Lib.hid hlast
      have HBW:=Lib.hid hbww
      unfold rwV at c22'
      clear c22 hVF e1 e2 hcell hdrop hlast hrv hbww
      cases htw:twice ps (rowVal x.2)
      · have hcase:=not_twice hrows.2.1 (by rw [htw];simp)
        have c23:=fun W=>show Calls Tryz.prog 77 #[.string (bs (fld x.2 1)),.string (bs nmF)] W fun r w'=>r=.returned (.bool (namedB (fld x.2 1) nmF))∧W=w' from (named24 (fld x.2 1) nmF W (by have:=fld_len (HXL.out x hxm) 1;omega) (by decide)).mono fun _ _ h=>⟨h.1,h.2.symm⟩
        have eF:bs nmF=⟨#[44,32,70,105,114,115,116,62]⟩:=rfl
        simp only [eF] at c23
        have hls:ls.length≤8000:=by have:=hrows.2.1.len;omega
        obtain⟨Nl,hNl⟩:∃ Nl,ls.length=Nl:=⟨_,rfl⟩
        have HLN:=Lib.hid hNl
        have HRR:=Lib.hid hrows
        have HBW1:=Lib.hid hbw
        cases hnb:namedB (fld x.2 1) nmF
        · have href2:=href
          rw [refp_one hr1 htw hnb] at href2
          have hnext:∀ (W w3:World) (gg cap:Nat) (t:Rw) (ob:Obj),RpRows w1.heap.size (.slice Av ls.length cv) ls ps W→Below wr.heap.size wr W→w3.ownsRow w1.heap.size 33 6 (.slice (some ⟨gg,0,none⟩) (ls.length+1) cap) (ls.length+1) (rwvs ls ++ [.int .i64 t.a,.int .i64 t.b,.string (bs t.gc),.int .i64 t.ccc,.string (bs t.bd),.slice t.dp t.dm t.dc])→(W.alloc ob).grownBy w3 (Value.slice Av ls.length cv).ownBlock→((Value.slice Av ls.length cv).ownBlock=some gg∨gg=W.heap.size+1)→Is W t (rowVal x.2)→(∀ a,t.dp=some a→wr.heap.size≤a.block)→RpI w1 L (.int .i64 ((k:Int)+1)) (.slice (some ⟨gg,0,none⟩) (ls.length+1) cap) w3:=by
           intro W w3 gg cap t ob h1 h2 h3 h4 h5 h6 h7
           obtain⟨r1,r2⟩:=rp_add (nw:=W.heap.size+1) (wO:=wr.heap.size) rfl h1 (fun j e=>(HRR.out.1.lt j e).2) ((Below.refl _ _).alloc (Nat.le_refl _) ob) (Nat.le_trans HBW1.out.size h2.size) h3 h4 h5 (by omega) h6 h7
           exact⟨k+1,ls ++ [t],ps ++ [rowVal x.2],by go_num,hkL,⟨href2,by rw [List.length_append,List.length_singleton];omega⟩,by have:=r1;rw [←List.length_singleton (a:=t),←List.length_append] at this;exact r1,(HBW1.out.trans (h2.mono HBW1.out.size)).trans r2⟩
          simp only [hnb] at c23
          obtain⟨S1,hS1⟩:∃ S,bs (fld x.2 1)=S:=⟨_,rfl⟩
          rw [hS1] at q1
          simp only [hS1] at c23
          have C23:=Lib.hid c23
          have HNX:=Lib.hid hnext
          have m3:Nl+1≤maxLen:=by unfold maxLen;omega
          have m4:(Nl+1)*80≤140737488355328:=by omega
          have hst:(Nl=0∨∃ (M g:Nat) (tl:Rw),Nl=M+1∧Av=some ⟨g,0,none⟩∧g<wr.heap.size∧wr.cell? ⟨g,M*6+1,none⟩=some (.int .i64 tl.b)∧¬(rowVal x.2).a≤tl.b):=by
           rcases hcase with rfl | ⟨m,tl,rfl,hnle⟩
           · exact .inl (by simpa using hNl.symm)
           · obtain⟨g,h1,h2,h3⟩:=HL.out m tl rfl
             exact .inr ⟨m.length,g,tl,by rw [←hNl];simp,h1,h2,h3,hnle⟩
          rw [hNl] at HRR HNX ⊢
          clear c23 hnext href href2 hcase hrows hbw hx hxm htw hnb HL hS1 eF hr1 hf15 q5
          rcases hst with rfl | ⟨M,g,tl,rfl,rfl,hg,hcl,hnle⟩
          · clear hNl
            go_wp2_with (go_at_call 76;(with_reducible refine c22'.mono ?_);rintro e w2 ⟨s,rfl,hb2,hIs⟩;have d3:=(hb2.cell (p:=⟨bL,k*2,none⟩) hbLw).trans d1;have d4:=fun o=>box_cell (W:=w2) o d3;have d5:=(hb2.cell (p:=⟨bL,k*2+1,none⟩) hbLw).trans d2;have d6:=fun o=>box_cell (W:=w2) o d5;have d7:=(hb2.cell (p:=⟨bF,oF+1,none⟩) hbF).trans q1;have d8:=fun o=>box_cell (W:=w2) o d7;have hl2:bL<w2.heap.size:=Nat.lt_of_lt_of_le hbLw hb2.size;clear c22')
            go_quiet (fail)
            go_wp2_with fail
            obtain⟨W,hW⟩:∃ W,(w2.alloc (.cells #[.int .i64 s.a,.int .i64 s.b,.string (bs s.gc),.int .i64 s.ccc,.string (bs s.bd),.slice s.dp s.dm s.dc] 33)).drewN nq=W:=⟨_,rfl⟩
            have hbx:=six_box (w:=w2) (w1:=(w2.alloc (.cells #[.int .i64 s.a,.int .i64 s.b,.string (bs s.gc),.int .i64 s.ccc,.string (bs s.bd),.slice s.dp s.dm s.dc] 33)).drewN nq) (t:=33) (below_drewN (Below.refl _ _) nq)
            have b12:Below w2.heap.size w2 ((w2.alloc (.cells #[.int .i64 s.a,.int .i64 s.b,.string (bs s.gc),.int .i64 s.ccc,.string (bs s.bd),.slice s.dp s.dm s.dc] 33)).drewN nq):=below_drewN ((Below.refl _ _).alloc (Nat.le_refl _) _) nq
            rw [hW] at hbx b12 ⊢
            have b1W:Below wr.heap.size wr W:=hb2.trans (b12.mono hb2.size)
            have y2:=(b1W.cell (p:=⟨bL,k*2+1,none⟩) hbLw).trans d2
            have yq:=(b1W.cell (p:=⟨bF,oF+1,none⟩) hbF).trans q1
            have HIS:=Lib.hid (hIs.out.1.below b12)
            have HFR:=Lib.hid hIs.out.2
            have HRW:=Lib.hid (HRR.out.below b1W)
            have HB1W:=Lib.hid b1W
            obtain⟨eb,heq⟩:∃ eb,w2.heap.size=eb:=⟨_,rfl⟩
            rw [heq] at hbx ⊢
            obtain⟨⟨y10,y11,y12,y13,y14,y15⟩,yf⟩:=hbx
            have hown:=HRW.out.1
            rw [HLN.out] at hown
            have hbs:w1.heap.size≤W.heap.size:=Nat.le_trans HBW1.out.size b1W.size
            obtain⟨T,hT⟩:∃ S,bs s.gc=S:=⟨_,rfl⟩
            obtain⟨U,hU⟩:∃ S,bs s.bd=S:=⟨_,rfl⟩
            rw [hT] at y12
            rw [hU] at y14
            have HT:=Lib.hid hT
            have HU:=Lib.hid hU
            clear hT hU hW heq b12 b1W d3 d4 d5 d6 d7 d8 hl2 hIs hb2
            go_wp2_with (first
             | (go_at_call 77;(with_reducible refine (C23.out _).mono ?_);rintro e w' ⟨rfl,rfl⟩)
             | (at_builtin;refine append_row rfl _ _ 49 rfl w1.heap.size 33 i0 (.agg #[.int .i64 0,.int .i64 0,.string ⟨#[]⟩,.int .i64 0,.string ⟨#[]⟩,.slice none 0 0]) 6 80 Tryz.underlying49 hi hz0 hz1 hz2 rfl (by decide) (.slice Av 0 cv) 0 _ rfl hown [.int .i64 s.a,.int .i64 s.b,.string T,.int .i64 s.ccc,.string U,.slice s.dp s.dm s.dc] rfl (by simp [Value.oneCell']) rfl m3 m4 hbs ?_;intro gg cap w3 hown3 hg3 hat3))
            go_roundw
            case rel=>exact HNX.out W w3 gg cap s _ HRW.out HB1W.out (by rw [HT.out,HU.out];exact hown3) hg3 hat3 HIS.out HFR.out
            case measure=>simp [intOf];omega
          · have HNL:=Lib.hid hnle
            clear hnle hNl
            go_wp2_with (go_at_call 76;(with_reducible refine c22'.mono ?_);rintro e w2 ⟨s,rfl,hb2,hIs⟩;have d3:=(hb2.cell (p:=⟨bL,k*2,none⟩) hbLw).trans d1;have d4:=fun o=>box_cell (W:=w2) o d3;have d5:=(hb2.cell (p:=⟨bL,k*2+1,none⟩) hbLw).trans d2;have d6:=fun o=>box_cell (W:=w2) o d5;have d7:=(hb2.cell (p:=⟨bF,oF+1,none⟩) hbF).trans q1;have d8:=fun o=>box_cell (W:=w2) o d7;have hl2:bL<w2.heap.size:=Nat.lt_of_lt_of_le hbLw hb2.size;have hcl2:=(hb2.cell (p:=⟨g,M*6+1,none⟩) hg).trans hcl;have hcl3:=fun o=>box_cell (W:=w2) o hcl2;have hd:decide (s.a≤tl.b)=false:=decide_eq_false (by rw [hIs.out.1.1];exact HNL.out);clear c22')
            go_quiet (fail)
            go_wp2_with fail
            obtain⟨W,hW⟩:∃ W,(w2.alloc (.cells #[.int .i64 s.a,.int .i64 s.b,.string (bs s.gc),.int .i64 s.ccc,.string (bs s.bd),.slice s.dp s.dm s.dc] 33)).drewN nq=W:=⟨_,rfl⟩
            have hbx:=six_box (w:=w2) (w1:=(w2.alloc (.cells #[.int .i64 s.a,.int .i64 s.b,.string (bs s.gc),.int .i64 s.ccc,.string (bs s.bd),.slice s.dp s.dm s.dc] 33)).drewN nq) (t:=33) (below_drewN (Below.refl _ _) nq)
            have b12:Below w2.heap.size w2 ((w2.alloc (.cells #[.int .i64 s.a,.int .i64 s.b,.string (bs s.gc),.int .i64 s.ccc,.string (bs s.bd),.slice s.dp s.dm s.dc] 33)).drewN nq):=below_drewN ((Below.refl _ _).alloc (Nat.le_refl _) _) nq
            rw [hW] at hbx b12 ⊢
            have b1W:Below wr.heap.size wr W:=hb2.trans (b12.mono hb2.size)
            have y2:=(b1W.cell (p:=⟨bL,k*2+1,none⟩) hbLw).trans d2
            have yq:=(b1W.cell (p:=⟨bF,oF+1,none⟩) hbF).trans q1
            have HIS:=Lib.hid (hIs.out.1.below b12)
            have HFR:=Lib.hid hIs.out.2
            have HRW:=Lib.hid (HRR.out.below b1W)
            have HB1W:=Lib.hid b1W
            obtain⟨eb,heq⟩:∃ eb,w2.heap.size=eb:=⟨_,rfl⟩
            rw [heq] at hbx ⊢
            obtain⟨⟨y10,y11,y12,y13,y14,y15⟩,yf⟩:=hbx
            have hown:=HRW.out.1
            rw [HLN.out] at hown
            have hbs:w1.heap.size≤W.heap.size:=Nat.le_trans HBW1.out.size b1W.size
            obtain⟨T,hT⟩:∃ S,bs s.gc=S:=⟨_,rfl⟩
            obtain⟨U,hU⟩:∃ S,bs s.bd=S:=⟨_,rfl⟩
            rw [hT] at y12
            rw [hU] at y14
            have HT:=Lib.hid hT
            have HU:=Lib.hid hU
            clear hT hU hW heq b12 b1W d3 d4 d5 d6 d7 d8 hl2 hIs hb2 hcl2 hcl3 hd HNL hcl
            go_wp2_with (first
             | (go_at_call 77;(with_reducible refine (C23.out _).mono ?_);rintro e w' ⟨rfl,rfl⟩)
             | (at_builtin;refine append_row rfl _ _ 49 rfl w1.heap.size 33 i0 (.agg #[.int .i64 0,.int .i64 0,.string ⟨#[]⟩,.int .i64 0,.string ⟨#[]⟩,.slice none 0 0]) 6 80 Tryz.underlying49 hi hz0 hz1 hz2 rfl (by decide) (.slice (some ⟨g,0,none⟩) (M+1) cv) (M+1) _ rfl hown [.int .i64 s.a,.int .i64 s.b,.string T,.int .i64 s.ccc,.string U,.slice s.dp s.dm s.dc] rfl (by simp [Value.oneCell']) rfl m3 m4 hbs ?_;intro gg cap w3 hown3 hg3 hat3))
            go_roundw
            case rel=>exact HNX.out W w3 gg cap s _ HRW.out HB1W.out (by rw [HT.out,HU.out];exact hown3) hg3 hat3 HIS.out HFR.out
            case measure=>simp [intOf];omega
        · simp only [hnb] at c23
          obtain⟨S1,hS1⟩:∃ S,bs (fld x.2 1)=S:=⟨_,rfl⟩
          rw [hS1] at q1
          simp only [hS1] at c23
          have C23:=Lib.hid c23
          have hst:(Nl=0∨∃ (M g:Nat) (tl:Rw),Nl=M+1∧Av=some ⟨g,0,none⟩∧g<wr.heap.size∧wr.cell? ⟨g,M*6+1,none⟩=some (.int .i64 tl.b)∧¬(rowVal x.2).a≤tl.b):=by
           rcases hcase with rfl | ⟨m,tl,rfl,hnle⟩
           · exact .inl (by simpa using hNl.symm)
           · obtain⟨g,h1,h2,h3⟩:=HL.out m tl rfl
             exact .inr ⟨m.length,g,tl,by rw [←hNl];simp,h1,h2,h3,hnle⟩
          by_cases hend:k+1=N
          · have hd0:L.drop (k+1) = []:=List.drop_eq_nil_of_le (by rw [HN.out];omega)
            rw [hd0] at href
            have hres:parseOf L=⟨[],14,x.1⟩:=by rw [←href];exact refp_end hr1 htw hnb
            have HP:=Lib.hid (fun W (hb:Below w.heap.size w W)=>ref_bad (w:=w) (w':=W) hres hb)
            have hq1:((k:Int)+1==(N:Int))=true:=beq_iff_eq.2 (by omega)
            have hMb:Nl≤8000:=by omega
            rw [hNl]
            clear c23 href hres hd0 hcase hrows hbw hx hxm htw hnb HL hS1 eF hr1 hf15 q5 HRR
            rcases hst with rfl | ⟨M,g,tl,rfl,rfl,hg,hcl,hnle⟩
            · clear hNl
              go_wp2_with (go_at_call 76;(with_reducible refine c22'.mono ?_);rintro e w2 ⟨s,rfl,hb2,hIs⟩;have d3:=(hb2.cell (p:=⟨bL,k*2,none⟩) hbLw).trans d1;have d4:=fun o=>box_cell (W:=w2) o d3;have d5:=(hb2.cell (p:=⟨bL,k*2+1,none⟩) hbLw).trans d2;have d6:=fun o=>box_cell (W:=w2) o d5;have d7:=(hb2.cell (p:=⟨bF,oF+1,none⟩) hbF).trans q1;have d8:=fun o=>box_cell (W:=w2) o d7;have hl2:bL<w2.heap.size:=Nat.lt_of_lt_of_le hbLw hb2.size;clear c22')
              go_quiet (fail)
              go_wp2_with fail
              obtain⟨W,hW⟩:∃ W,(w2.alloc (.cells #[.int .i64 s.a,.int .i64 s.b,.string (bs s.gc),.int .i64 s.ccc,.string (bs s.bd),.slice s.dp s.dm s.dc] 33)).drewN nq=W:=⟨_,rfl⟩
              have b12:Below w2.heap.size w2 ((w2.alloc (.cells #[.int .i64 s.a,.int .i64 s.b,.string (bs s.gc),.int .i64 s.ccc,.string (bs s.bd),.slice s.dp s.dm s.dc] 33)).drewN nq):=below_drewN ((Below.refl _ _).alloc (Nat.le_refl _) _) nq
              rw [hW] at b12 ⊢
              have b1W:Below wr.heap.size wr W:=hb2.trans (b12.mono hb2.size)
              have y1:=(b1W.cell (p:=⟨bL,k*2,none⟩) hbLw).trans d1
              have y2:=(b1W.cell (p:=⟨bL,k*2+1,none⟩) hbLw).trans d2
              have yq:=(b1W.cell (p:=⟨bF,oF+1,none⟩) hbF).trans q1
              have HB1W:=Lib.hid b1W
              obtain⟨eb,heq⟩:∃ eb,w2.heap.size=eb:=⟨_,rfl⟩
              rw [heq] at ⊢
              clear hW heq b12 b1W d3 d4 d5 d6 d7 d8 hl2 hIs hb2
              go_wp2_with (go_at_call 77;(with_reducible refine (C23.out _).mono ?_);rintro e w' ⟨rfl,rfl⟩)
              go_quiet (fail)
              go_wp2
              go_ret3
              exact HP.out _ (below_drewN (HBW.out.trans (HB1W.out.mono HBW.out.size)) _)
            · have HNL:=Lib.hid hnle
              clear hnle hNl
              go_wp2_with (go_at_call 76;(with_reducible refine c22'.mono ?_);rintro e w2 ⟨s,rfl,hb2,hIs⟩;have d3:=(hb2.cell (p:=⟨bL,k*2,none⟩) hbLw).trans d1;have d4:=fun o=>box_cell (W:=w2) o d3;have d5:=(hb2.cell (p:=⟨bL,k*2+1,none⟩) hbLw).trans d2;have d6:=fun o=>box_cell (W:=w2) o d5;have d7:=(hb2.cell (p:=⟨bF,oF+1,none⟩) hbF).trans q1;have d8:=fun o=>box_cell (W:=w2) o d7;have hl2:bL<w2.heap.size:=Nat.lt_of_lt_of_le hbLw hb2.size;have hcl2:=(hb2.cell (p:=⟨g,M*6+1,none⟩) hg).trans hcl;have hcl3:=fun o=>box_cell (W:=w2) o hcl2;have hd:decide (s.a≤tl.b)=false:=decide_eq_false (by rw [hIs.out.1.1];exact HNL.out);clear c22')
              go_quiet (fail)
              go_wp2_with fail
              obtain⟨W,hW⟩:∃ W,(w2.alloc (.cells #[.int .i64 s.a,.int .i64 s.b,.string (bs s.gc),.int .i64 s.ccc,.string (bs s.bd),.slice s.dp s.dm s.dc] 33)).drewN nq=W:=⟨_,rfl⟩
              have b12:Below w2.heap.size w2 ((w2.alloc (.cells #[.int .i64 s.a,.int .i64 s.b,.string (bs s.gc),.int .i64 s.ccc,.string (bs s.bd),.slice s.dp s.dm s.dc] 33)).drewN nq):=below_drewN ((Below.refl _ _).alloc (Nat.le_refl _) _) nq
              rw [hW] at b12 ⊢
              have b1W:Below wr.heap.size wr W:=hb2.trans (b12.mono hb2.size)
              have y1:=(b1W.cell (p:=⟨bL,k*2,none⟩) hbLw).trans d1
              have y2:=(b1W.cell (p:=⟨bL,k*2+1,none⟩) hbLw).trans d2
              have yq:=(b1W.cell (p:=⟨bF,oF+1,none⟩) hbF).trans q1
              have HB1W:=Lib.hid b1W
              obtain⟨eb,heq⟩:∃ eb,w2.heap.size=eb:=⟨_,rfl⟩
              rw [heq] at ⊢
              clear hW heq b12 b1W d3 d4 d5 d6 d7 d8 hl2 hIs hb2 hcl2 hcl3 hd HNL hcl
              go_wp2_with (go_at_call 77;(with_reducible refine (C23.out _).mono ?_);rintro e w' ⟨rfl,rfl⟩)
              go_quiet (fail)
              go_wp2
              go_ret3
              exact HP.out _ (below_drewN (HBW.out.trans (HB1W.out.mono HBW.out.size)) _)
          · have hk2:k+1<L.length:=by rw [HN.out];omega
            obtain⟨y,hy⟩:∃ y,L[k+1]? = some y:=⟨_,List.getElem?_eq_getElem hk2⟩
            obtain⟨bL',e',-,hcell⟩:=HLA.out.2 (by omega)
            cases e'
            obtain⟨e1,Fy,cfy,e2,hVy⟩:=hcell (k+1) y hy
            rw [Nat.mul_comm] at e1 e2
            have g1:wr.cell? ⟨bL,(k+1)*2,none⟩=some (.int .i64 y.1):=(hbw.cell (p:=⟨bL,(k+1)*2,none⟩) hbL).trans e1
            have g2:wr.cell? ⟨bL,(k+1)*2+1,none⟩=some (.slice Fy y.2.length cfy):=(hbw.cell (p:=⟨bL,(k+1)*2+1,none⟩) hbL).trans e2
            have hVyw:=hVy.below hbw
            have hdrop2:L.drop (k+1)=y::L.drop (k+1+1):=by rw [List.drop_eq_getElem_cons hk2];congr 1;exact (List.getElem?_eq_some_iff.1 hy).2
            rw [hdrop2] at href
            have hym:=List.mem_of_getElem? hy
            have c22y:=fun W (hb:Below wr.heap.size wr W)=>row22_any Fy y.2.length cfy y.2 W (hVyw.below hb) (HXL.out y hym)
            have hq1:((k:Int)+1==(N:Int))=false:=beq_false_of_ne (by omega)
            have hMb:Nl≤8000:=by omega
            have hkN:k+1<N:=by omega
            clear e1 e2 hcell hdrop2 hym hVy
            by_cases hr2:rowErr y.2=0
            · have q1c:=q1
              clear q1
              have hfy15:=(row_ok hr2).1
              have hrvy:rowRef y.2=rowVal y.2:=by unfold rowRef;rw [if_pos hr2]
              obtain⟨bY,oY,rfl,hbY,-,p1,-,-,-,p5⟩:=flds hVyw hfy15
              rw [hfy15] at g2
              have C22:Hid (∀ W,Below wr.heap.size wr W→Calls Tryz.prog 76 #[.slice (some ⟨bY,oY,none⟩) 15 cfy] W fun e w'=>∃ u:Rw,e=.returned (.tuple #[.agg #[.int .i64 u.a,.int .i64 u.b,.string (bs u.gc),.int .i64 u.ccc,.string (bs u.bd),.slice u.dp u.dm u.dc],.int .i64 0])∧Below W.heap.size W w'∧Hid (Is w' u (rowVal y.2))):=Lib.hid (fun W hb=>by
               have c:=c22y W hb
               rw [hfy15] at c
               refine c.mono ?_
               rintro e w' ⟨hb,u,rfl,h1,-⟩
               rw [hr2]
               rw [hrvy] at h1
               exact⟨u,rfl,hb,Lib.hid h1⟩)
              have c23L:=fun W=>show Calls Tryz.prog 77 #[.string (bs (fld y.2 1)),.string (bs nmL)] W fun r w'=>r=.returned (.bool (namedB (fld y.2 1) nmL))∧W=w' from (named24 (fld y.2 1) nmL W (by have:=fld_len (HXL.out y (List.mem_of_getElem? hy)) 1;omega) (by decide)).mono fun _ _ h=>⟨h.1,h.2.symm⟩
              have eL:bs nmL=⟨#[44,32,76,97,115,116,62]⟩:=rfl
              simp only [eL] at c23L
              have HJ:Hid (joinB x.2 y.2=(namedB (fld y.2 1) nmL&&(decide ((rowVal x.2).gc=(rowVal y.2).gc)&&(decide ((rowVal x.2).ccc=(rowVal y.2).ccc)&&(decide ((rowVal x.2).bd=(rowVal y.2).bd)&&(decide (fld x.2 5 = [])&&(decide (fld y.2 5 = [])&&decide ((rowVal x.2).a<(rowVal y.2).a)))))))):=Lib.hid rfl
              have t5:=bs_emp (fld x.2 5)
              have t5':=bs_emp (fld y.2 5)
              have HP14:Hid (joinB x.2 y.2=false→∀ W,Below w.heap.size w W→RefPost L w (.returned (.tuple #[.slice none 0 0,.int .i64 14,.int .i64 x.1])) W):=Lib.hid (fun hj W hb=>ref_bad (w:=w) (w':=W) (by rw [←href];exact refp_join hr1 htw hnb hr2 hj) hb)
              have HNX:Hid (joinB x.2 y.2=true→∀ (U w3:World) (gg cap:Nat) (t:Rw) (ob:Obj),RpRows w1.heap.size (.slice Av ls.length cv) ls ps U→Below wr.heap.size wr U→w3.ownsRow w1.heap.size 33 6 (.slice (some ⟨gg,0,none⟩) (ls.length+1) cap) (ls.length+1) (rwvs ls ++ [.int .i64 t.a,.int .i64 t.b,.string (bs t.gc),.int .i64 t.ccc,.string (bs t.bd),.slice t.dp t.dm t.dc])→(U.alloc ob).grownBy w3 (Value.slice Av ls.length cv).ownBlock→((Value.slice Av ls.length cv).ownBlock=some gg∨gg=U.heap.size+1)→Is U t { rowVal x.2 with b:=(rowVal y.2).a } → (∀ a,t.dp=some a→wr.heap.size≤a.block)→RpI w1 L (.int .i64 ((k:Int)+1+1)) (.slice (some ⟨gg,0,none⟩) (ls.length+1) cap) w3):=Lib.hid (by
               intro hj U w3 gg cap t ob h1 h2 h3 h4 h5 h6 h7
               obtain⟨r1,r2⟩:=rp_add (nw:=U.heap.size+1) (wO:=wr.heap.size) rfl h1 (fun j e=>(HRR.out.1.lt j e).2) ((Below.refl _ _).alloc (Nat.le_refl _) ob) (Nat.le_trans HBW1.out.size h2.size) h3 h4 h5 (by omega) h6 h7
               exact⟨k+1+1,ls ++ [t],ps ++ [{ rowVal x.2 with b:=(rowVal y.2).a }],by go_num,hk2,⟨by rw [←href];exact (refp_two hr1 htw hnb hr2 hj).symm,by rw [List.length_append,List.length_singleton];omega⟩,r1,(HBW1.out.trans (h2.mono HBW1.out.size)).trans r2⟩)
              obtain⟨nB,hnB⟩:∃ q,namedB (fld y.2 1) nmL=q:=⟨_,rfl⟩
              obtain⟨S1y,hS1y⟩:∃ S,bs (fld y.2 1)=S:=⟨_,rfl⟩
              obtain⟨S5,hS5⟩:∃ S,bs (fld x.2 5)=S:=⟨_,rfl⟩
              obtain⟨S5y,hS5y⟩:∃ S,bs (fld y.2 5)=S:=⟨_,rfl⟩
              obtain⟨b5,hb5⟩:∃ q,decide (fld x.2 5 = [])=q:=⟨_,rfl⟩
              obtain⟨b5y,hb5y⟩:∃ q,decide (fld y.2 5 = [])=q:=⟨_,rfl⟩
              obtain⟨q1,hqg⟩:∃ q,decide ((rowVal x.2).gc=(rowVal y.2).gc)=q:=⟨_,rfl⟩
              obtain⟨q2,hqc⟩:∃ q,decide ((rowVal x.2).ccc=(rowVal y.2).ccc)=q:=⟨_,rfl⟩
              obtain⟨q3,hqd⟩:∃ q,decide ((rowVal x.2).bd=(rowVal y.2).bd)=q:=⟨_,rfl⟩
              obtain⟨q4,hqa⟩:∃ q,decide ((rowVal x.2).a<(rowVal y.2).a)=q:=⟨_,rfl⟩
              rw [hnB,hqg,hqc,hqd,hb5,hb5y,hqa] at HJ
              rw [hS5,hb5] at t5
              rw [hS5y,hb5y] at t5'
              rw [hS1y] at p1
              rw [hS5y] at p5
              rw [hS5] at q5
              simp only [hnB] at c23L
              simp only [hS1y] at c23L
              have C23L:=Lib.hid c23L
              have HQ:Hid (∀ (s u:Rw) (w5 w6:World),Is w5 s (rowVal x.2)→Is w6 u (rowVal y.2)→((bs u.gc).toList==(bs s.gc).toList)=q1∧((u.ccc==s.ccc)=q2)∧((bs u.bd).toList==(bs s.bd).toList)=q3∧decide (u.a≤s.a) = !q4):=Lib.hid (by
               intro s u w5 w6 h1 h2
               refine⟨?_,?_,?_,?_⟩
               · rw [str_eq,h1.2.2.1,h2.2.2.1,←hqg,Bool.eq_iff_iff,decide_eq_true_eq,decide_eq_true_eq,eq_comm]
               · rw [←hqc,h1.2.2.2.1,h2.2.2.2.1,Bool.eq_iff_iff,beq_iff_eq,decide_eq_true_eq,eq_comm]
               · rw [str_eq,h1.2.2.2.2.1,h2.2.2.2.2.1,←hqd,Bool.eq_iff_iff,decide_eq_true_eq,decide_eq_true_eq,eq_comm]
               · rw [←hqa,h1.1,h2.1,Bool.eq_iff_iff,decide_eq_true_eq,Bool.not_eq_true',decide_eq_false_iff_not,Int.not_lt])
              have m3:Nl+1≤maxLen:=by unfold maxLen;omega
              have m4:(Nl+1)*80≤140737488355328:=by omega
              have HK2:=Lib.hid hk2
              rw [hNl] at HRR HNX ⊢
              have T5:=Lib.hid t5
              have T5':=Lib.hid t5'
              clear t5 t5' c23 c23L c22y href hcase hrows hbw hx hxm htw hnb HL hS1 eF eL hr1 hf15 hVyw hy hr2 hfy15 hrvy hnB hS1y hS5 hS5y hb5 hb5y hqg hqc hqd hqa hk2
              rcases hst with rfl | ⟨M,g,tl,rfl,rfl,hg,hcl,hnle⟩
              · clear hNl
                go_wp2_with (go_at_call 76;(with_reducible refine c22'.mono ?_);rintro e w2 ⟨s,rfl,hb2,hIs⟩;have d3:=(hb2.cell (p:=⟨bL,k*2,none⟩) hbLw).trans d1;have d4:=fun o=>box_cell (W:=w2) o d3;have d5:=(hb2.cell (p:=⟨bL,k*2+1,none⟩) hbLw).trans d2;have d6:=fun o=>box_cell (W:=w2) o d5;have d7:=(hb2.cell (p:=⟨bF,oF+1,none⟩) hbF).trans q1c;have d8:=fun o=>box_cell (W:=w2) o d7;have hl2:bL<w2.heap.size:=Nat.lt_of_lt_of_le hbLw hb2.size;clear c22')
                go_quiet (fail)
                go_wp2_with fail
                obtain⟨W,hW⟩:∃ W,(w2.alloc (.cells #[.int .i64 s.a,.int .i64 s.b,.string (bs s.gc),.int .i64 s.ccc,.string (bs s.bd),.slice s.dp s.dm s.dc] 33)).drewN nq=W:=⟨_,rfl⟩
                have hbx:Box6 ((w2.alloc (.cells #[.int .i64 s.a,.int .i64 s.b,.string (bs s.gc),.int .i64 s.ccc,.string (bs s.bd),.slice s.dp s.dm s.dc] 33)).drewN nq) w2.heap.size (.int .i64 s.a) (.int .i64 s.b) (.string (bs s.gc)) (.int .i64 s.ccc) (.string (bs s.bd)) (.slice s.dp s.dm s.dc):=six_box (w:=w2) (t:=33) (below_drewN (Below.refl _ _) nq)
                have b12:Below w2.heap.size w2 ((w2.alloc (.cells #[.int .i64 s.a,.int .i64 s.b,.string (bs s.gc),.int .i64 s.ccc,.string (bs s.bd),.slice s.dp s.dm s.dc] 33)).drewN nq):=below_drewN ((Below.refl _ _).alloc (Nat.le_refl _) _) nq
                have hebW:w2.heap.size<((w2.alloc (.cells #[.int .i64 s.a,.int .i64 s.b,.string (bs s.gc),.int .i64 s.ccc,.string (bs s.bd),.slice s.dp s.dm s.dc] 33)).drewN nq).heap.size:=by rw [World.heap_drewN];simp
                rw [hW] at hbx b12 hebW ⊢
                have b1W:Below wr.heap.size wr W:=hb2.trans (b12.mono hb2.size)
                have y2:=(b1W.cell (p:=⟨bL,k*2+1,none⟩) hbLw).trans d2
                have yq:=(b1W.cell (p:=⟨bF,oF+1,none⟩) hbF).trans q1c
                have z1:=(b1W.cell (p:=⟨bL,(k+1)*2,none⟩) hbLw).trans g1
                have z2:=(b1W.cell (p:=⟨bL,(k+1)*2+1,none⟩) hbLw).trans g2
                have k22:=C22.out W b1W
                have HB1W:=Lib.hid b1W
                have HB12:=Lib.hid b12
                have HIS:=Lib.hid hIs.out.1
                have HFR:=Lib.hid hIs.out.2
                have HBX:=Lib.hid hbx
                have HEB:=Lib.hid hebW
                have HEB2:Hid (wr.heap.size≤w2.heap.size):=Lib.hid hb2.size
                obtain⟨eb,heq⟩:∃ eb,w2.heap.size=eb:=⟨_,rfl⟩
                have HEQ:=Lib.hid heq
                rw [heq] at HBX HEB HEB2 ⊢
                clear hW heq b12 b1W hbx hebW d3 d4 d5 d6 d7 d8 hl2 hIs hb2 C22
                go_wp2_with (first
                 | (go_at_call 77;(with_reducible refine (C23.out _).mono ?_);rintro e w' ⟨rfl,rfl⟩)
                 | (go_at_call 76;(with_reducible refine k22.mono ?_);rintro e w4 ⟨u,rfl,hb4,hIu⟩;have z4:=(hb4.cell (p:=⟨bL,(k+1)*2+1,none⟩) (Nat.lt_of_lt_of_le hbLw HB1W.out.size)).trans z2;have z5:=fun o=>box_cell (W:=w4) o z4;have z6:=(hb4.cell (p:=⟨bY,oY+1,none⟩) (Nat.lt_of_lt_of_le hbY HB1W.out.size)).trans ((HB1W.out.cell (p:=⟨bY,oY+1,none⟩) hbY).trans p1);have z7:=fun o=>box_cell (W:=w4) o z6;clear k22))
                obtain⟨V,hV⟩:∃ V,w4.alloc (.cells #[.int .i64 u.a,.int .i64 u.b,.string (bs u.gc),.int .i64 u.ccc,.string (bs u.bd),.slice u.dp u.dm u.dc] 33)=V:=⟨_,rfl⟩
                have hby:Box6 (w4.alloc (.cells #[.int .i64 u.a,.int .i64 u.b,.string (bs u.gc),.int .i64 u.ccc,.string (bs u.bd),.slice u.dp u.dm u.dc] 33)) w4.heap.size (.int .i64 u.a) (.int .i64 u.b) (.string (bs u.gc)) (.int .i64 u.ccc) (.string (bs u.bd)) (.slice u.dp u.dm u.dc):=six_box (w:=w4) (t:=33) (Below.refl _ _)
                have b4V:Below w4.heap.size w4 (w4.alloc (.cells #[.int .i64 u.a,.int .i64 u.b,.string (bs u.gc),.int .i64 u.ccc,.string (bs u.bd),.slice u.dp u.dm u.dc] 33)):=(Below.refl _ _).alloc (Nat.le_refl _) _
                rw [hV] at hby b4V ⊢
                have bWV:Below W.heap.size W V:=hb4.trans (b4V.mono hb4.size)
                have brV:Below wr.heap.size wr V:=HB1W.out.trans (bWV.mono HB1W.out.size)
                have hne:¬w4.heap.size=eb:=by have h1:=HEB.out;have h2:=hb4.size;omega
                obtain⟨eY,heqY⟩:∃ e,w4.heap.size=e:=⟨_,rfl⟩
                rw [heqY] at hby hne ⊢
                obtain⟨⟨c0,-,c2,c3,c4,-⟩,-⟩:=hby
                obtain⟨⟨a0,a1,a2,a3,a4,a5⟩,af⟩:=HBX.out.below HEB.out bWV
                have af1:=af 1
                have v0:=(brV.cell (p:=⟨bL,k*2,none⟩) hbLw).trans d1
                have v1:=(brV.cell (p:=⟨bL,k*2+1,none⟩) hbLw).trans d2
                have v2:=(brV.cell (p:=⟨bL,(k+1)*2+1,none⟩) hbLw).trans g2
                have v3:=(brV.cell (p:=⟨bF,oF+5,none⟩) hbF).trans q5
                have v4:=(brV.cell (p:=⟨bY,oY+1,none⟩) hbY).trans p1
                have v5:=(brV.cell (p:=⟨bY,oY+5,none⟩) hbY).trans p5
                obtain⟨f1,f2,f3,f4⟩:=HQ.out s u _ _ HIS.out hIu.out
                have t5:=T5.out
                have t5':=T5'.out
                have HIU:=Lib.hid hIu.out.1
                obtain⟨T,hT⟩:∃ S,bs s.gc=S:=⟨_,rfl⟩
                obtain⟨U,hU⟩:∃ S,bs s.bd=S:=⟨_,rfl⟩
                obtain⟨Tu,hTu⟩:∃ S,bs u.gc=S:=⟨_,rfl⟩
                obtain⟨Uu,hUu⟩:∃ S,bs u.bd=S:=⟨_,rfl⟩
                rw [hT] at a2
                rw [hU] at a4
                rw [hTu] at c2
                rw [hUu] at c4
                rw [hTu,hT] at f1
                rw [hUu,hU] at f3
                have HT:=Lib.hid hT
                have HU:=Lib.hid hU
                have HBV:=Lib.hid brV
                have HB2V:Hid (Below w2.heap.size w2 V):=Lib.hid (HB12.out.trans (bWV.mono HB12.out.size))
                clear hT hU hTu hUu hV heqY b4V bWV brV z4 z5 z6 z7 af hIu hb4 HBX HEB HQ T5 T5' HB12
                cases nB with
                | false=>
                 go_wp2_with (go_at_call 77;(with_reducible refine (C23L.out _).mono ?_);rintro e w' ⟨rfl,rfl⟩)
                 go_quiet (fail)
                 go_wp2
                 go_ret3
                 exact HP14.out (by rw [HJ.out];simp) _ (below_drewN (HBW.out.trans (HBV.out.mono HBW.out.size)) _)
                | true=>
                 cases b5 with
                 | false=>
                  go_wp2_with (go_at_call 77;(with_reducible refine (C23L.out _).mono ?_);rintro e w' ⟨rfl,rfl⟩)
                  go_quiet (fail)
                  go_wp2
                  go_ret3
                  exact HP14.out (by rw [HJ.out];simp) _ (below_drewN (HBW.out.trans (HBV.out.mono HBW.out.size)) _)
                 | true=>
                  cases b5y with
                  | false=>
                   go_wp2_with (go_at_call 77;(with_reducible refine (C23L.out _).mono ?_);rintro e w' ⟨rfl,rfl⟩)
                   go_quiet (fail)
                   go_wp2
                   go_ret3
                   exact HP14.out (by rw [HJ.out];simp) _ (below_drewN (HBW.out.trans (HBV.out.mono HBW.out.size)) _)
                  | true=>
                   cases q1 with
                   | false=>
                    have f1':(Tu.toList != T.toList)=true:=by rw [bne,f1];rfl
                    go_wp2_with (go_at_call 77;(with_reducible refine (C23L.out _).mono ?_);rintro e w' ⟨rfl,rfl⟩)
                    go_quiet (fail)
                    go_wp2
                    go_ret3
                    exact HP14.out (by rw [HJ.out];simp) _ (below_drewN (HBW.out.trans (HBV.out.mono HBW.out.size)) _)
                   | true=>
                    have f1':(Tu.toList != T.toList)=false:=by rw [bne,f1];rfl
                    cases q2 with
                    | false=>
                     have f2':(u.ccc != s.ccc)=true:=by rw [bne,f2];rfl
                     go_wp2_with (go_at_call 77;(with_reducible refine (C23L.out _).mono ?_);rintro e w' ⟨rfl,rfl⟩)
                     go_quiet (fail)
                     go_wp2
                     go_ret3
                     exact HP14.out (by rw [HJ.out];simp) _ (below_drewN (HBW.out.trans (HBV.out.mono HBW.out.size)) _)
                    | true=>
                     have f2':(u.ccc != s.ccc)=false:=by rw [bne,f2];rfl
                     cases q3 with
                     | false=>
                      have f3':(Uu.toList != U.toList)=true:=by rw [bne,f3];rfl
                      go_wp2_with (go_at_call 77;(with_reducible refine (C23L.out _).mono ?_);rintro e w' ⟨rfl,rfl⟩)
                      go_quiet (fail)
                      go_wp2
                      go_ret3
                      exact HP14.out (by rw [HJ.out];simp) _ (below_drewN (HBW.out.trans (HBV.out.mono HBW.out.size)) _)
                     | true=>
                      have f3':(Uu.toList != U.toList)=false:=by rw [bne,f3];rfl
                      cases q4 with
                      | false=>
                       replace f4:decide (u.a≤s.a)=true:=f4
                       go_wp2_with (go_at_call 77;(with_reducible refine (C23L.out _).mono ?_);rintro e w' ⟨rfl,rfl⟩)
                       go_quiet (fail)
                       go_wp2
                       go_ret3
                       exact HP14.out (by rw [HJ.out];simp) _ (below_drewN (HBW.out.trans (HBV.out.mono HBW.out.size)) _)
                      | true=>
                       replace f4:decide (u.a≤s.a)=false:=f4
                       have HUW:Hid (∀ v,Below wr.heap.size wr (V.setCell ⟨eb,1,none⟩ v)):=Lib.hid (fun v=>Below.setCell HBV.out HEB2.out _)
                       have HOWN:Hid (∀ v,(V.setCell ⟨eb,1,none⟩ v).ownsRow w1.heap.size 33 6 (.slice Av (0) cv) (0) (rwvs ls)):=Lib.hid (fun v=>by have h:=(HRR.out.below (HUW.out v)).1;rw [HLN.out] at h;exact h)
                       have HISU:Hid (Is (V.setCell ⟨eb,1,none⟩ (.int .i64 u.a)) ⟨s.a,u.a,s.gc,s.ccc,s.bd,s.dp,s.dm,s.dc⟩ { rowVal x.2 with b:=(rowVal y.2).a }):=Lib.hid (by
                        obtain⟨i1,i2,i3,i4,i5,i6,i7⟩:=HIS.out
                        exact⟨i1,HIU.out,i3,i4,i5,i6,i7.below (Below.setCell HB2V.out (Nat.le_of_eq HEQ.out) _)⟩)
                       have hbs:w1.heap.size≤V.heap.size:=Nat.le_trans HBW1.out.size HBV.out.size
                       go_wp2_with (first
                        | (go_at_call 77;(with_reducible refine (C23L.out _).mono ?_);rintro e w' ⟨rfl,rfl⟩)
                        | (at_builtin;refine append_row2 rfl _ _ 49 rfl w1.heap.size 33 i0 (.agg #[.int .i64 0,.int .i64 0,.string ⟨#[]⟩,.int .i64 0,.string ⟨#[]⟩,.slice none 0 0]) 6 80 Tryz.underlying49 hi hz0 hz1 hz2 rfl (by decide) (.slice Av (0) cv) (0) _ rfl (HOWN.out _) [.int .i64 s.a,.int .i64 u.a,.string T,.int .i64 s.ccc,.string U,.slice s.dp s.dm s.dc] rfl (by simp [Value.oneCell']) V.heap.size (World.size_setCell _ _ _) rfl m3 m4 hbs ?_;intro gg cap w3 hown3 hg3 hat3))
                       go_roundw
                       case rel=>exact HNX.out (by rw [HJ.out];rfl) _ w3 gg cap ⟨s.a,u.a,s.gc,s.ccc,s.bd,s.dp,s.dm,s.dc⟩ _ (HRR.out.below (HUW.out _)) (HUW.out _) (by rw [HT.out,HU.out];exact hown3) hg3 (by rw [World.size_setCell];exact hat3) HISU.out HFR.out
                       case measure=>have:=HK2.out;have:=HN.out;simp [intOf];omega
              · have HNL:=Lib.hid hnle
                clear hnle hNl
                go_wp2_with (go_at_call 76;(with_reducible refine c22'.mono ?_);rintro e w2 ⟨s,rfl,hb2,hIs⟩;have d3:=(hb2.cell (p:=⟨bL,k*2,none⟩) hbLw).trans d1;have d4:=fun o=>box_cell (W:=w2) o d3;have d5:=(hb2.cell (p:=⟨bL,k*2+1,none⟩) hbLw).trans d2;have d6:=fun o=>box_cell (W:=w2) o d5;have d7:=(hb2.cell (p:=⟨bF,oF+1,none⟩) hbF).trans q1c;have d8:=fun o=>box_cell (W:=w2) o d7;have hl2:bL<w2.heap.size:=Nat.lt_of_lt_of_le hbLw hb2.size;have hcl2:=(hb2.cell (p:=⟨g,M*6+1,none⟩) hg).trans hcl;have hcl3:=fun o=>box_cell (W:=w2) o hcl2;have hd:decide (s.a≤tl.b)=false:=decide_eq_false (by rw [hIs.out.1.1];exact HNL.out);clear c22')
                go_quiet (fail)
                go_wp2_with fail
                obtain⟨W,hW⟩:∃ W,(w2.alloc (.cells #[.int .i64 s.a,.int .i64 s.b,.string (bs s.gc),.int .i64 s.ccc,.string (bs s.bd),.slice s.dp s.dm s.dc] 33)).drewN nq=W:=⟨_,rfl⟩
                have hbx:Box6 ((w2.alloc (.cells #[.int .i64 s.a,.int .i64 s.b,.string (bs s.gc),.int .i64 s.ccc,.string (bs s.bd),.slice s.dp s.dm s.dc] 33)).drewN nq) w2.heap.size (.int .i64 s.a) (.int .i64 s.b) (.string (bs s.gc)) (.int .i64 s.ccc) (.string (bs s.bd)) (.slice s.dp s.dm s.dc):=six_box (w:=w2) (t:=33) (below_drewN (Below.refl _ _) nq)
                have b12:Below w2.heap.size w2 ((w2.alloc (.cells #[.int .i64 s.a,.int .i64 s.b,.string (bs s.gc),.int .i64 s.ccc,.string (bs s.bd),.slice s.dp s.dm s.dc] 33)).drewN nq):=below_drewN ((Below.refl _ _).alloc (Nat.le_refl _) _) nq
                have hebW:w2.heap.size<((w2.alloc (.cells #[.int .i64 s.a,.int .i64 s.b,.string (bs s.gc),.int .i64 s.ccc,.string (bs s.bd),.slice s.dp s.dm s.dc] 33)).drewN nq).heap.size:=by rw [World.heap_drewN];simp
                rw [hW] at hbx b12 hebW ⊢
                have b1W:Below wr.heap.size wr W:=hb2.trans (b12.mono hb2.size)
                have y2:=(b1W.cell (p:=⟨bL,k*2+1,none⟩) hbLw).trans d2
                have yq:=(b1W.cell (p:=⟨bF,oF+1,none⟩) hbF).trans q1c
                have z1:=(b1W.cell (p:=⟨bL,(k+1)*2,none⟩) hbLw).trans g1
                have z2:=(b1W.cell (p:=⟨bL,(k+1)*2+1,none⟩) hbLw).trans g2
                have k22:=C22.out W b1W
                have HB1W:=Lib.hid b1W
                have HB12:=Lib.hid b12
                have HIS:=Lib.hid hIs.out.1
                have HFR:=Lib.hid hIs.out.2
                have HBX:=Lib.hid hbx
                have HEB:=Lib.hid hebW
                have HEB2:Hid (wr.heap.size≤w2.heap.size):=Lib.hid hb2.size
                obtain⟨eb,heq⟩:∃ eb,w2.heap.size=eb:=⟨_,rfl⟩
                have HEQ:=Lib.hid heq
                rw [heq] at HBX HEB HEB2 ⊢
                clear hW heq b12 b1W hbx hebW d3 d4 d5 d6 d7 d8 hl2 hIs hb2 C22 hcl2 hcl3 hd HNL hcl
                go_wp2_with (first
                 | (go_at_call 77;(with_reducible refine (C23.out _).mono ?_);rintro e w' ⟨rfl,rfl⟩)
                 | (go_at_call 76;(with_reducible refine k22.mono ?_);rintro e w4 ⟨u,rfl,hb4,hIu⟩;have z4:=(hb4.cell (p:=⟨bL,(k+1)*2+1,none⟩) (Nat.lt_of_lt_of_le hbLw HB1W.out.size)).trans z2;have z5:=fun o=>box_cell (W:=w4) o z4;have z6:=(hb4.cell (p:=⟨bY,oY+1,none⟩) (Nat.lt_of_lt_of_le hbY HB1W.out.size)).trans ((HB1W.out.cell (p:=⟨bY,oY+1,none⟩) hbY).trans p1);have z7:=fun o=>box_cell (W:=w4) o z6;clear k22))
                obtain⟨V,hV⟩:∃ V,w4.alloc (.cells #[.int .i64 u.a,.int .i64 u.b,.string (bs u.gc),.int .i64 u.ccc,.string (bs u.bd),.slice u.dp u.dm u.dc] 33)=V:=⟨_,rfl⟩
                have hby:Box6 (w4.alloc (.cells #[.int .i64 u.a,.int .i64 u.b,.string (bs u.gc),.int .i64 u.ccc,.string (bs u.bd),.slice u.dp u.dm u.dc] 33)) w4.heap.size (.int .i64 u.a) (.int .i64 u.b) (.string (bs u.gc)) (.int .i64 u.ccc) (.string (bs u.bd)) (.slice u.dp u.dm u.dc):=six_box (w:=w4) (t:=33) (Below.refl _ _)
                have b4V:Below w4.heap.size w4 (w4.alloc (.cells #[.int .i64 u.a,.int .i64 u.b,.string (bs u.gc),.int .i64 u.ccc,.string (bs u.bd),.slice u.dp u.dm u.dc] 33)):=(Below.refl _ _).alloc (Nat.le_refl _) _
                rw [hV] at hby b4V ⊢
                have bWV:Below W.heap.size W V:=hb4.trans (b4V.mono hb4.size)
                have brV:Below wr.heap.size wr V:=HB1W.out.trans (bWV.mono HB1W.out.size)
                have hne:¬w4.heap.size=eb:=by have h1:=HEB.out;have h2:=hb4.size;omega
                obtain⟨eY,heqY⟩:∃ e,w4.heap.size=e:=⟨_,rfl⟩
                rw [heqY] at hby hne ⊢
                obtain⟨⟨c0,-,c2,c3,c4,-⟩,-⟩:=hby
                obtain⟨⟨a0,a1,a2,a3,a4,a5⟩,af⟩:=HBX.out.below HEB.out bWV
                have af1:=af 1
                have v0:=(brV.cell (p:=⟨bL,k*2,none⟩) hbLw).trans d1
                have v1:=(brV.cell (p:=⟨bL,k*2+1,none⟩) hbLw).trans d2
                have v2:=(brV.cell (p:=⟨bL,(k+1)*2+1,none⟩) hbLw).trans g2
                have v3:=(brV.cell (p:=⟨bF,oF+5,none⟩) hbF).trans q5
                have v4:=(brV.cell (p:=⟨bY,oY+1,none⟩) hbY).trans p1
                have v5:=(brV.cell (p:=⟨bY,oY+5,none⟩) hbY).trans p5
                obtain⟨f1,f2,f3,f4⟩:=HQ.out s u _ _ HIS.out hIu.out
                have t5:=T5.out
                have t5':=T5'.out
                have HIU:=Lib.hid hIu.out.1
                obtain⟨T,hT⟩:∃ S,bs s.gc=S:=⟨_,rfl⟩
                obtain⟨U,hU⟩:∃ S,bs s.bd=S:=⟨_,rfl⟩
                obtain⟨Tu,hTu⟩:∃ S,bs u.gc=S:=⟨_,rfl⟩
                obtain⟨Uu,hUu⟩:∃ S,bs u.bd=S:=⟨_,rfl⟩
                rw [hT] at a2
                rw [hU] at a4
                rw [hTu] at c2
                rw [hUu] at c4
                rw [hTu,hT] at f1
                rw [hUu,hU] at f3
                have HT:=Lib.hid hT
                have HU:=Lib.hid hU
                have HBV:=Lib.hid brV
                have HB2V:Hid (Below w2.heap.size w2 V):=Lib.hid (HB12.out.trans (bWV.mono HB12.out.size))
                clear hT hU hTu hUu hV heqY b4V bWV brV z4 z5 z6 z7 af hIu hb4 HBX HEB HQ T5 T5' HB12
                cases nB with
                | false=>
                 go_wp2_with (go_at_call 77;(with_reducible refine (C23L.out _).mono ?_);rintro e w' ⟨rfl,rfl⟩)
                 go_quiet (fail)
                 go_wp2
                 go_ret3
                 exact HP14.out (by rw [HJ.out];simp) _ (below_drewN (HBW.out.trans (HBV.out.mono HBW.out.size)) _)
                | true=>
                 cases b5 with
                 | false=>
                  go_wp2_with (go_at_call 77;(with_reducible refine (C23L.out _).mono ?_);rintro e w' ⟨rfl,rfl⟩)
                  go_quiet (fail)
                  go_wp2
                  go_ret3
                  exact HP14.out (by rw [HJ.out];simp) _ (below_drewN (HBW.out.trans (HBV.out.mono HBW.out.size)) _)
                 | true=>
                  cases b5y with
                  | false=>
                   go_wp2_with (go_at_call 77;(with_reducible refine (C23L.out _).mono ?_);rintro e w' ⟨rfl,rfl⟩)
                   go_quiet (fail)
                   go_wp2
                   go_ret3
                   exact HP14.out (by rw [HJ.out];simp) _ (below_drewN (HBW.out.trans (HBV.out.mono HBW.out.size)) _)
                  | true=>
                   cases q1 with
                   | false=>
                    have f1':(Tu.toList != T.toList)=true:=by rw [bne,f1];rfl
                    go_wp2_with (go_at_call 77;(with_reducible refine (C23L.out _).mono ?_);rintro e w' ⟨rfl,rfl⟩)
                    go_quiet (fail)
                    go_wp2
                    go_ret3
                    exact HP14.out (by rw [HJ.out];simp) _ (below_drewN (HBW.out.trans (HBV.out.mono HBW.out.size)) _)
                   | true=>
                    have f1':(Tu.toList != T.toList)=false:=by rw [bne,f1];rfl
                    cases q2 with
                    | false=>
                     have f2':(u.ccc != s.ccc)=true:=by rw [bne,f2];rfl
                     go_wp2_with (go_at_call 77;(with_reducible refine (C23L.out _).mono ?_);rintro e w' ⟨rfl,rfl⟩)
                     go_quiet (fail)
                     go_wp2
                     go_ret3
                     exact HP14.out (by rw [HJ.out];simp) _ (below_drewN (HBW.out.trans (HBV.out.mono HBW.out.size)) _)
                    | true=>
                     have f2':(u.ccc != s.ccc)=false:=by rw [bne,f2];rfl
                     cases q3 with
                     | false=>
                      have f3':(Uu.toList != U.toList)=true:=by rw [bne,f3];rfl
                      go_wp2_with (go_at_call 77;(with_reducible refine (C23L.out _).mono ?_);rintro e w' ⟨rfl,rfl⟩)
                      go_quiet (fail)
                      go_wp2
                      go_ret3
                      exact HP14.out (by rw [HJ.out];simp) _ (below_drewN (HBW.out.trans (HBV.out.mono HBW.out.size)) _)
                     | true=>
                      have f3':(Uu.toList != U.toList)=false:=by rw [bne,f3];rfl
                      cases q4 with
                      | false=>
                       replace f4:decide (u.a≤s.a)=true:=f4
                       go_wp2_with (go_at_call 77;(with_reducible refine (C23L.out _).mono ?_);rintro e w' ⟨rfl,rfl⟩)
                       go_quiet (fail)
                       go_wp2
                       go_ret3
                       exact HP14.out (by rw [HJ.out];simp) _ (below_drewN (HBW.out.trans (HBV.out.mono HBW.out.size)) _)
                      | true=>
                       replace f4:decide (u.a≤s.a)=false:=f4
                       have HUW:Hid (∀ v,Below wr.heap.size wr (V.setCell ⟨eb,1,none⟩ v)):=Lib.hid (fun v=>Below.setCell HBV.out HEB2.out _)
                       have HOWN:Hid (∀ v,(V.setCell ⟨eb,1,none⟩ v).ownsRow w1.heap.size 33 6 (.slice (some ⟨g,0,none⟩) (M+1) cv) (M+1) (rwvs ls)):=Lib.hid (fun v=>by have h:=(HRR.out.below (HUW.out v)).1;rw [HLN.out] at h;exact h)
                       have HISU:Hid (Is (V.setCell ⟨eb,1,none⟩ (.int .i64 u.a)) ⟨s.a,u.a,s.gc,s.ccc,s.bd,s.dp,s.dm,s.dc⟩ { rowVal x.2 with b:=(rowVal y.2).a }):=Lib.hid (by
                        obtain⟨i1,i2,i3,i4,i5,i6,i7⟩:=HIS.out
                        exact⟨i1,HIU.out,i3,i4,i5,i6,i7.below (Below.setCell HB2V.out (Nat.le_of_eq HEQ.out) _)⟩)
                       have hbs:w1.heap.size≤V.heap.size:=Nat.le_trans HBW1.out.size HBV.out.size
                       go_wp2_with (first
                        | (go_at_call 77;(with_reducible refine (C23L.out _).mono ?_);rintro e w' ⟨rfl,rfl⟩)
                        | (at_builtin;refine append_row2 rfl _ _ 49 rfl w1.heap.size 33 i0 (.agg #[.int .i64 0,.int .i64 0,.string ⟨#[]⟩,.int .i64 0,.string ⟨#[]⟩,.slice none 0 0]) 6 80 Tryz.underlying49 hi hz0 hz1 hz2 rfl (by decide) (.slice (some ⟨g,0,none⟩) (M+1) cv) (M+1) _ rfl (HOWN.out _) [.int .i64 s.a,.int .i64 u.a,.string T,.int .i64 s.ccc,.string U,.slice s.dp s.dm s.dc] rfl (by simp [Value.oneCell']) V.heap.size (World.size_setCell _ _ _) rfl m3 m4 hbs ?_;intro gg cap w3 hown3 hg3 hat3))
                       go_roundw
                       case rel=>exact HNX.out (by rw [HJ.out];rfl) _ w3 gg cap ⟨s.a,u.a,s.gc,s.ccc,s.bd,s.dp,s.dm,s.dc⟩ _ (HRR.out.below (HUW.out _)) (HUW.out _) (by rw [HT.out,HU.out];exact hown3) hg3 (by rw [World.size_setCell];exact hat3) HISU.out HFR.out
                       case measure=>have:=HK2.out;have:=HN.out;simp [intOf];omega
            · have hres:parseOf L=⟨[],rowErr y.2,y.1⟩:=by rw [←href];exact refp_err2 hr1 htw hnb hr2
              have HP:=Lib.hid (fun W (hb:Below w.heap.size w W)=>ref_bad (w:=w) (w':=W) hres hb)
              obtain⟨E,hE⟩:∃ E,rowErr y.2=E:=⟨_,rfl⟩
              unfold RowPost at c22y
              simp only [hE] at c22y
              rw [hE] at HP hr2
              have hx1:(E==0)=false:=beq_false_of_ne hr2
              have hx2:(E != 0)=true:=bne_iff_ne.2 hr2
              unfold rwV at c22y
              have C22:=Lib.hid c22y
              rw [hNl]
              clear c23 c22y href hres hcase hrows hbw hx hxm htw hnb HL hS1 eF hr1 hf15 q5 HRR hVyw hy hE
              rcases hst with rfl | ⟨M,g,tl,rfl,rfl,hg,hcl,hnle⟩
              · clear hNl
                go_wp2_with (go_at_call 76;(with_reducible refine c22'.mono ?_);rintro e w2 ⟨s,rfl,hb2,hIs⟩;have d3:=(hb2.cell (p:=⟨bL,k*2,none⟩) hbLw).trans d1;have d4:=fun o=>box_cell (W:=w2) o d3;have d5:=(hb2.cell (p:=⟨bL,k*2+1,none⟩) hbLw).trans d2;have d6:=fun o=>box_cell (W:=w2) o d5;have d7:=(hb2.cell (p:=⟨bF,oF+1,none⟩) hbF).trans q1;have d8:=fun o=>box_cell (W:=w2) o d7;have hl2:bL<w2.heap.size:=Nat.lt_of_lt_of_le hbLw hb2.size;clear c22')
                go_quiet (fail)
                go_wp2_with fail
                obtain⟨W,hW⟩:∃ W,(w2.alloc (.cells #[.int .i64 s.a,.int .i64 s.b,.string (bs s.gc),.int .i64 s.ccc,.string (bs s.bd),.slice s.dp s.dm s.dc] 33)).drewN nq=W:=⟨_,rfl⟩
                have b12:Below w2.heap.size w2 ((w2.alloc (.cells #[.int .i64 s.a,.int .i64 s.b,.string (bs s.gc),.int .i64 s.ccc,.string (bs s.bd),.slice s.dp s.dm s.dc] 33)).drewN nq):=below_drewN ((Below.refl _ _).alloc (Nat.le_refl _) _) nq
                rw [hW] at b12 ⊢
                have b1W:Below wr.heap.size wr W:=hb2.trans (b12.mono hb2.size)
                have y2:=(b1W.cell (p:=⟨bL,k*2+1,none⟩) hbLw).trans d2
                have yq:=(b1W.cell (p:=⟨bF,oF+1,none⟩) hbF).trans q1
                have z1:=(b1W.cell (p:=⟨bL,(k+1)*2,none⟩) hbLw).trans g1
                have z2:=(b1W.cell (p:=⟨bL,(k+1)*2+1,none⟩) hbLw).trans g2
                have hlW:bL<W.heap.size:=Nat.lt_of_lt_of_le hbLw b1W.size
                have k22:=C22.out W b1W
                have HB1W:=Lib.hid b1W
                obtain⟨eb,heq⟩:∃ eb,w2.heap.size=eb:=⟨_,rfl⟩
                rw [heq] at ⊢
                clear hW heq b12 b1W d3 d4 d5 d6 d7 d8 hl2 hIs hb2 C22
                go_wp2_with (first
                 | (go_at_call 77;(with_reducible refine (C23.out _).mono ?_);rintro e w' ⟨rfl,rfl⟩)
                 | (go_at_call 76;(with_reducible refine k22.mono ?_);rintro e w4 ⟨hb4,s4,rfl,-,-⟩;have z3:=(hb4.cell (p:=⟨bL,(k+1)*2,none⟩) hlW).trans z1;have z4:=fun o=>box_cell (W:=w4) o z3;have hl4:bL<w4.heap.size:=Nat.lt_of_lt_of_le hlW hb4.size;clear k22))
                go_quiet (fail)
                go_wp2
                go_ret3
                exact HP.out _ (below_drewN (((HBW.out.trans (HB1W.out.mono HBW.out.size)).trans (hb4.mono (HBW.out.trans (HB1W.out.mono HBW.out.size)).size)).alloc ((HBW.out.trans (HB1W.out.mono HBW.out.size)).trans (hb4.mono (HBW.out.trans (HB1W.out.mono HBW.out.size)).size)).size _) _)
              · have HNL:=Lib.hid hnle
                clear hnle hNl
                go_wp2_with (go_at_call 76;(with_reducible refine c22'.mono ?_);rintro e w2 ⟨s,rfl,hb2,hIs⟩;have d3:=(hb2.cell (p:=⟨bL,k*2,none⟩) hbLw).trans d1;have d4:=fun o=>box_cell (W:=w2) o d3;have d5:=(hb2.cell (p:=⟨bL,k*2+1,none⟩) hbLw).trans d2;have d6:=fun o=>box_cell (W:=w2) o d5;have d7:=(hb2.cell (p:=⟨bF,oF+1,none⟩) hbF).trans q1;have d8:=fun o=>box_cell (W:=w2) o d7;have hl2:bL<w2.heap.size:=Nat.lt_of_lt_of_le hbLw hb2.size;have hcl2:=(hb2.cell (p:=⟨g,M*6+1,none⟩) hg).trans hcl;have hcl3:=fun o=>box_cell (W:=w2) o hcl2;have hd:decide (s.a≤tl.b)=false:=decide_eq_false (by rw [hIs.out.1.1];exact HNL.out);clear c22')
                go_quiet (fail)
                go_wp2_with fail
                obtain⟨W,hW⟩:∃ W,(w2.alloc (.cells #[.int .i64 s.a,.int .i64 s.b,.string (bs s.gc),.int .i64 s.ccc,.string (bs s.bd),.slice s.dp s.dm s.dc] 33)).drewN nq=W:=⟨_,rfl⟩
                have b12:Below w2.heap.size w2 ((w2.alloc (.cells #[.int .i64 s.a,.int .i64 s.b,.string (bs s.gc),.int .i64 s.ccc,.string (bs s.bd),.slice s.dp s.dm s.dc] 33)).drewN nq):=below_drewN ((Below.refl _ _).alloc (Nat.le_refl _) _) nq
                rw [hW] at b12 ⊢
                have b1W:Below wr.heap.size wr W:=hb2.trans (b12.mono hb2.size)
                have y2:=(b1W.cell (p:=⟨bL,k*2+1,none⟩) hbLw).trans d2
                have yq:=(b1W.cell (p:=⟨bF,oF+1,none⟩) hbF).trans q1
                have z1:=(b1W.cell (p:=⟨bL,(k+1)*2,none⟩) hbLw).trans g1
                have z2:=(b1W.cell (p:=⟨bL,(k+1)*2+1,none⟩) hbLw).trans g2
                have hlW:bL<W.heap.size:=Nat.lt_of_lt_of_le hbLw b1W.size
                have k22:=C22.out W b1W
                have HB1W:=Lib.hid b1W
                obtain⟨eb,heq⟩:∃ eb,w2.heap.size=eb:=⟨_,rfl⟩
                rw [heq] at ⊢
                clear hW heq b12 b1W d3 d4 d5 d6 d7 d8 hl2 hIs hb2 C22 hcl2 hcl3 hd HNL hcl
                go_wp2_with (first
                 | (go_at_call 77;(with_reducible refine (C23.out _).mono ?_);rintro e w' ⟨rfl,rfl⟩)
                 | (go_at_call 76;(with_reducible refine k22.mono ?_);rintro e w4 ⟨hb4,s4,rfl,-,-⟩;have z3:=(hb4.cell (p:=⟨bL,(k+1)*2,none⟩) hlW).trans z1;have z4:=fun o=>box_cell (W:=w4) o z3;have hl4:bL<w4.heap.size:=Nat.lt_of_lt_of_le hlW hb4.size;clear k22))
                go_quiet (fail)
                go_wp2
                go_ret3
                exact HP.out _ (below_drewN (((HBW.out.trans (HB1W.out.mono HBW.out.size)).trans (hb4.mono (HBW.out.trans (HB1W.out.mono HBW.out.size)).size)).alloc ((HBW.out.trans (HB1W.out.mono HBW.out.size)).trans (hb4.mono (HBW.out.trans (HB1W.out.mono HBW.out.size)).size)).size _) _)
      · have hres:parseOf L=⟨[],15,x.1⟩:=by rw [←href];exact refp_twice hr1 htw
        have HP:=Lib.hid (fun W (hb:Below w.heap.size w W)=>ref_bad (w:=w) (w':=W) hres hb)
        have hpos:0<ls.length:=by
         rw [hrows.2.1.len]
         cases ps with
         | nil=>cases htw
         | cons=>simp
        obtain⟨m,tl,rfl⟩:=snoc_of hpos
        obtain⟨qs,q,rfl,-,hq⟩:=hrows.2.1.unsnoc
        have hle:(rowVal x.2).a≤tl.b:=by
         unfold twice at htw
         rw [lastB_snoc] at htw
         rw [hq.2.1]
         simpa using htw
        obtain⟨g,rfl,hg,hcl⟩:=HL.out m tl rfl
        have hml:m.length≤8000:=by have:=hrows.2.1.len;simp at this hpl;omega
        obtain⟨M,hM⟩:∃ M,m.length=M:=⟨_,rfl⟩
        rw [List.length_append,List.length_singleton]
        rw [hM] at hcl hml ⊢
        have HLE:=Lib.hid hle
        clear href hres hrows hbw hx hxm htw hpos hq HL hle hM hpl hr1
        go_wp2_with (go_at_call 76;(with_reducible refine c22'.mono ?_);rintro e w2 ⟨s,rfl,hb2,hIs⟩;have d3:=(hb2.cell (p:=⟨bL,k*2,none⟩) hbLw).trans d1;have d4:=fun o=>box_cell (W:=w2) o d3;have hl2:bL<w2.heap.size:=Nat.lt_of_lt_of_le hbLw hb2.size;have hcl2:=(hb2.cell (p:=⟨g,M*6+1,none⟩) hg).trans hcl;have hcl3:=fun o=>box_cell (W:=w2) o hcl2;have hd:decide (s.a≤tl.b)=true:=decide_eq_true (by rw [hIs.out.1.1];exact HLE.out);clear c22')
        go_quiet (fail)
        go_wp2
        go_quiet (fail)
        go_wp2
        go_ret3
        exact HP.out _ (by first | exact below_drewN (below_drewN ((HBW.out.trans (hb2.mono HBW.out.size)).alloc (HBW.out.trans (hb2.mono HBW.out.size)).size _) _) _ | exact below_drewN ((HBW.out.trans (hb2.mono HBW.out.size)).alloc (HBW.out.trans (hb2.mono HBW.out.size)).size _) _)
    · have hres:parseOf L=⟨[],rowErr x.2,x.1⟩:=by rw [←href];exact refp_err hr1
      have HP:=Lib.hid (fun W (hb:Below w.heap.size w W)=>ref_bad (w:=w) (w':=W) hres hb)
      obtain⟨E,hE⟩:∃ E,rowErr x.2=E:=⟨_,rfl⟩
      unfold RowPost at c22
      rw [hE] at HP hr1 c22
      have hx1:(E==0)=false:=beq_false_of_ne hr1
      have hx2:(E != 0)=true:=bne_iff_ne.2 hr1
      have HBW:=Lib.hid hbww
      clear href hres hrows hbw hbww hx hVF e1 e2 hcell hdrop hxm hE
      unfold rwV at c22
      go_wp2_with (go_at_call 76;(with_reducible refine c22.mono ?_);rintro e w2 ⟨hb2,s,rfl,-,-⟩;have d3:=(hb2.cell (p:=⟨bL,k*2,none⟩) hbLw).trans d1;have d4:=fun o=>box_cell (W:=w2) o d3;have hl2:bL<w2.heap.size:=Nat.lt_of_lt_of_le hbLw hb2.size;clear c22)
      go_quiet (fail)
      go_wp2
      go_ret3
      exact HP.out _ (below_drewN ((HBW.out.trans (hb2.mono HBW.out.size)).alloc (HBW.out.trans (hb2.mono HBW.out.size)).size _) _)
  · have hke:k=N:=by have:=HN.out;omega
    subst hke
    have hd0:L.drop k = []:=List.drop_eq_nil_of_le (by rw [HN.out];exact Nat.le_refl _)
    rw [hd0] at href
    have hres:parseOf L=⟨ps,0,0⟩:=by rw [←href,refP]
    obtain⟨Ao,co,rfl,-,hrat,-⟩:=own_rat hrows.1
    have HP:Hid (RefPost L w (.returned (.tuple #[.slice Ao ls.length co,.int .i64 0,.int .i64 0])) wr):=Lib.hid ⟨hbww,Ao,co,ls,by rw [hres],hrat,by rw [hres];exact hrows.2.1⟩
    clear href hres hrows hbw hbww hrat hd0 hpl
    go_wp2
    go_ret3
    exact HP.out
end Go.Proofs.YtmellioacefjjaaGreatDoor.Uc
