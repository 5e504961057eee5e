/- A part. -/
import Derived.Test.YtmellioacefjjaaGreatDoorQB05
import Derived.Laws.AppendOwnNone
namespace Go.Proofs.YtmellioacefjjaaGreatDoor
open Go.RowKit
attribute [local go_sem] Oper.semAt_some
def dcf (ps:List Uc.Pr) (c:Int):List Int:=(Uc.patOf ps c).dec.map fun n:Nat=>(n:Int)
theorem infoI:(Tryz.prog.info? 3).map (fun i=>(i.zero,i.size,i.bytes))=some (some (.int .i64 0),1,8):=by kernel_rfl
theorem nums_one' {zs:List Int}:∀ u∈nums .i64 zs,u.oneCell'=true:=by
 intro u hu
 unfold nums at hu
 obtain⟨z,-,rfl⟩:=List.mem_map.1 hu
 rfl
theorem nums_len (zs:List Int):(nums .i64 zs).length=zs.length:=List.length_map _
theorem vals_cells {w:World} {ad:Addr} {m:Nat} {vs:List Value} (h:Vals w (some ad) m vs):∀ j u,vs[j]? = some u→w.cell? (ad.add j)=some u:=by
 intro j u hj
 have hm:0<m:=by have:=(List.getElem?_eq_some_iff.1 hj).1;have:=h.1;omega
 obtain⟨b,off,e,-,hc⟩:=h.2 hm
 cases e
 have:=hc j u hj
 have e2:(⟨b,off,none⟩:Addr).add j=⟨b,off+j,none⟩:=by unfold Addr.add;split <;> simp_all
 rw [e2]
 exact this
theorem run_append_nil {P:Program} {w:World} (base:Nat) (t ty e:TypeId) (i:TypeInfo) (size c:Nat) (ht:P.underlying t=some (.slice e)) (hi:P.info? e=some i) (v:Value) (n:Nat) (xs:List Value) (hown:w.ownsRow base e size v n xs):
 (Builtin.append_ #[t,t] ty #[v,.slice none 0 c]).run P w=.ok v w:=by
 rcases hown.2 with ⟨rfl,rfl⟩ | ⟨g,cap,cur,rfl,_,_,hnc,_⟩
 · simp [Builtin.append_,run_underlying ht,sizeOf,typeInfo,hi,Builtin.lenOf,Builtin.firstCells]
 · simp [Builtin.append_,run_underlying ht,sizeOf,typeInfo,hi,Builtin.lenOf,Builtin.firstCells,hnc,storeCells]
theorem append_nil_any {P:Program} {w:World} {ops:Array Oper} {rest:List Oper} {o:Oper} {a:Act} {Q:Exit→Act→World→Prop} (hgd:o.guard=none) (s x:Operand) (t:TypeId)
 (ho:o.op=.call { callee:=.builtin .append,args:=#[s,x],argTypes:=#[t,t] })
 (base:Nat) (e:TypeId) (i:TypeInfo) (size c:Nat) (ht:P.underlying t=some (.slice e)) (hi:P.info? e=some i)
 (v:Value) (n:Nat) (xs:List Value) (hs:a.eval s=v) (hown:w.ownsRow base e size v n xs) (hx:a.eval x=.slice none 0 c)
 (h:wpList P ops Q rest (a.put o.dst v) w):wpList P ops Q (o::rest) a w:=by
 refine wpList_plain hgd fun K hK=>?_
 have hrun:=run_append_nil (P:=P) (w:=w) base t o.type e i size c ht hi v n xs hown
 unfold Oper.wp
 simp [execOp,ho,resolve,invoke,builtin,hs,hx,hrun,Result.andThen]
 exact hK _ _ h
theorem append_ints {P:Program} {w:World} {ops:Array Oper} {rest:List Oper} {o:Oper} {a:Act} {Q:Exit→Act→World→Prop} (hgd:o.guard=none) (s x:Operand) (t:TypeId)
 (ho:o.op=.call { callee:=.builtin .append,args:=#[s,x],argTypes:=#[t,t] })
 (base:Nat) (e:TypeId) (i:TypeInfo) (z:Value) (bytes:Nat) (ht:P.underlying t=some (.slice e)) (hi:P.info? e=some i) (hz:i.zero=some z)
 (hsize:i.size=1) (hby:i.bytes=bytes) (hzs:z.cells.size=1)
 (v:Value) (n:Nat) (xs:List Value) (hs:a.eval s=v) (hown:w.ownsRow base e 1 v n xs)
 (A:Option Addr) (m c:Nat) (zs:List Int) (hx:a.eval x=.slice A m c) (hN:Vals w A m (nums .i64 zs))
 (h63:n+m≤maxLen) (hbytes:(n+m)*bytes≤140737488355328) (hbase:base≤w.heap.size)
 (h:∀ v' w',w'.ownsRow base e 1 v' (n+m) (xs++nums .i64 zs)→w.grownBy w' v.ownBlock→wpList P ops Q rest (a.put o.dst v') w'):wpList P ops Q (o::rest) a w:=by
 cases A with
 | none=>
  have hm:m=0:=by
   rcases Nat.eq_zero_or_pos m with h0 | h0
   · exact h0
   · obtain⟨b,off,e,_⟩:=hN.2 h0
     cases e
  subst hm
  obtain rfl:zs = []:=List.eq_nil_of_length_eq_zero (by have:=hN.1;rwa [nums_len] at this)
  refine append_nil_any hgd s x t ho base e i 1 c ht hi v n xs hs hown hx (h v w ?_ (World.grownBy.refl w _))
  simpa [nums] using hown
 | some ad=>
  exact wpList_append_own w hgd s x t ho base e i z 1 bytes ht hi hz hsize hby hzs (by decide) v n xs hs hown ad m c (nums .i64 zs) hx (by rw [nums_len,Nat.mul_one];have:=hN.1;rwa [nums_len] at this) (vals_cells hN) nums_one' h63 hbytes hbase (fun v' w' h1 h2 _=>h v' w' h1 h2)
def RowsIn (w:World) (A:Option Addr) (n:Nat) (ls:List Uc.Rw) (ps:List Uc.Pr):Prop:=Uc.RAt w A n ls∧Uc.Ist w ls ps
theorem RowsIn.below {w w':World} {A:Option Addr} {n:Nat} {ls:List Uc.Rw} {ps:List Uc.Pr} (h:RowsIn w A n ls ps) (hb:Below w.heap.size w w'):RowsIn w' A n ls ps:=⟨h.1.below hb,h.2.below hb⟩
theorem dec_is {w:World} {A:Option Addr} {n:Nat} {ls:List Uc.Rw} {ps:List Uc.Pr} (h:RowsIn w A n ls ps) (c:Int):(Uc.atOf ls c).dm=(dcf ps c).length∧Vals w (Uc.atOf ls c).dp (Uc.atOf ls c).dm (nums .i64 (dcf ps c)):=by
 have hi:=Uc.ist_at c h.2
 exact⟨by rw [hi.2.2.2.2.2.1];simp [dcf],hi.2.2.2.2.2.2⟩
theorem at_dec {w:World} {A:Option Addr} {n ca:Nat} {ls:List Uc.Rw} {ps:List Uc.Pr} (h:RowsIn w A n ls ps) (hn:n≤1000000) (c:Int):
 Calls Tryz.prog 36 #[.slice A n ca,.int .i64 c] w fun e w'=>∃ s:Uc.Rw,e=.returned (Uc.rwV s)∧Hid (Below w.heap.size w w'∧s.dm=(dcf ps c).length∧Vals w' s.dp s.dm (nums .i64 (dcf ps c))∧s.ccc=(Uc.patOf ps c).ccc):=
 (Uc.at13 A n ca ls c w h.1 hn).mono (by
  rintro e w' ⟨rfl,hb⟩
  obtain⟨h1,h2⟩:=dec_is h c
  exact⟨_,rfl,Lib.hid ⟨hb,h1,h2.below hb,(Uc.ist_at c h.2).2.2.2.1⟩⟩)
theorem at_dec0 {w:World} {A:Option Addr} {n ca:Nat} {ls:List Uc.Rw} {ps:List Uc.Pr} (h:RowsIn w A n ls ps) (hn:n≤1000000) {c:Int} (hd:dcf ps c = []):
 Calls Tryz.prog 36 #[.slice A n ca,.int .i64 c] w fun e w'=>∃ (sa sb cc:Int) (T U:ByteArray) (dp:Option Addr) (dc:Nat),e=.returned (.agg #[.int .i64 sa,.int .i64 sb,.string T,.int .i64 cc,.string U,.slice dp 0 dc])∧Hid (Below w.heap.size w w'):=
 (at_dec (ca:=ca) h hn c).mono (by
  rintro e w' ⟨s,rfl,hs⟩
  have h0:s.dm=0:=by have:=hs.out.2.1;rwa [hd] at this
  exact⟨s.a,s.b,s.ccc,bs s.gc,bs s.bd,s.dp,s.dc,by unfold Uc.rwV;rw [h0],Lib.hid hs.out.1⟩)
theorem at_dec1 {w:World} {A:Option Addr} {n ca:Nat} {ls:List Uc.Rw} {ps:List Uc.Pr} (h:RowsIn w A n ls ps) (hn:n≤1000000) {c d:Int} (hd:dcf ps c = [d]):
 Calls Tryz.prog 36 #[.slice A n ca,.int .i64 c] w fun e w'=>∃ (sa sb cc:Int) (T U:ByteArray) (b off dc:Nat),e=.returned (.agg #[.int .i64 sa,.int .i64 sb,.string T,.int .i64 cc,.string U,.slice (some ⟨b,off,none⟩) 1 dc])∧w'.cell? ⟨b,off,none⟩=some (.int .i64 d)∧Hid (Below w.heap.size w w'):=
 (at_dec (ca:=ca) h hn c).mono (by
  rintro e w' ⟨s,rfl,hs⟩
  obtain⟨hb,h1,hv,-⟩:=hs.out
  rw [hd] at h1 hv
  have h1:s.dm=1:=h1
  obtain⟨b,off,hdp,-,hc⟩:=hv.2 (by omega)
  exact⟨s.a,s.b,s.ccc,bs s.gc,bs s.bd,b,off,s.dc,by unfold Uc.rwV;rw [h1,hdp],hc 0 _ rfl,Lib.hid hb⟩)
theorem at_dec2 {w:World} {A:Option Addr} {n ca:Nat} {ls:List Uc.Rw} {ps:List Uc.Pr} (h:RowsIn w A n ls ps) (hn:n≤1000000) {c d f:Int} (hd:dcf ps c = [d,f]):
 Calls Tryz.prog 36 #[.slice A n ca,.int .i64 c] w fun e w'=>∃ (sa sb cc:Int) (T U:ByteArray) (b off dc:Nat),e=.returned (.agg #[.int .i64 sa,.int .i64 sb,.string T,.int .i64 cc,.string U,.slice (some ⟨b,off,none⟩) 2 dc])∧(w'.cell? ⟨b,off,none⟩=some (.int .i64 d)∧w'.cell? ⟨b,off+1,none⟩=some (.int .i64 f))∧Hid (Below w.heap.size w w'):=
 (at_dec (ca:=ca) h hn c).mono (by
  rintro e w' ⟨s,rfl,hs⟩
  obtain⟨hb,h1,hv,-⟩:=hs.out
  rw [hd] at h1 hv
  have h1:s.dm=2:=h1
  obtain⟨b,off,hdp,-,hc⟩:=hv.2 (by omega)
  exact⟨s.a,s.b,s.ccc,bs s.gc,bs s.bd,b,off,s.dc,by unfold Uc.rwV;rw [h1,hdp],⟨hc 0 _ rfl,hc 1 _ rfl⟩,Lib.hid hb⟩)
theorem field_row (sa sb cc:Int) (T U:ByteArray) (v:Value) (W:World):(Instr.field 33 (.agg #[.int .i64 sa,.int .i64 sb,.string T,.int .i64 cc,.string U,v]) 5).run Tryz.prog W=.ok v W:=by kernel_rfl
theorem parts_none (A:Option Addr) (n ca:Nat) (ls:List Uc.Rw) (ps:List Uc.Pr) (hn:n≤1000000) (c:Int) (w:World) (hR:RowsIn w A n ls ps) (hd:dcf ps c = []):
 Calls Tryz.prog 62 #[.slice A n ca,.int .i64 c,.int .i64 4] w fun e w'=>e=.returned (.int .i64 1)∧Below w.heap.size w w':=by
 have c36:=at_dec0 (ca:=ca) hR hn hd
 have hfd:=field_row
 clear hR hd
 go_enter Tryz.func62,Tryz.ntmps62
 go_wp2_with (go_at_call 36;(with_reducible refine c36.mono ?_);rintro e w1 ⟨sa,sb,cc,T,U,dp,dc,rfl,hb⟩)
 go_ret
 exact⟨rfl,hb.out⟩
set_option maxRecDepth 100000 in
set_option maxHeartbeats 2000000 in
theorem parts59 (A:Option Addr) (n ca:Nat) (ls:List Uc.Rw) (ps:List Uc.Pr) (hn:n≤1000000) (h2:∀ c,(dcf ps c).length≤2):∀ (k:Nat) (c:Int) (w:World),k≤1000000→RowsIn w A n ls ps→Ends (dcf ps) k c →
 Calls Tryz.prog 62 #[.slice A n ca,.int .i64 c,.int .i64 4] w fun e w'=>e=.returned (.int .i64 (prt (dcf ps) k c:Nat))∧Below w.heap.size w w':=by
 intro k
 induction k with
 | zero=>
  intro c w _ hR hE
  exact parts_none A n ca ls ps hn c w hR hE
 | succ k ih=>
  intro c w hk hR hE
  have hE:∀ d∈dcf ps c,Ends (dcf ps) k d:=hE
  have hl:=h2 c
  match hd:dcf ps c with
  | []=>
   have e1:prt (dcf ps) (k+1) c=1:=by rw [prt,hd]
   rw [e1]
   exact parts_none A n ca ls ps hn c w hR hd
  | [d]=>
   have e1:prt (dcf ps) (k+1) c=prt (dcf ps) k d:=by rw [prt,hd]
   have c36:=at_dec1 (ca:=ca) hR hn hd
   have c59:=fun W (hb:Below w.heap.size w W)=>ih d W (by omega) (hR.below hb) (hE d (by rw [hd];simp))
   obtain⟨x,hx⟩:∃ x,prt (dcf ps) k d=x:=⟨_,rfl⟩
   rw [e1,hx]
   simp only [hx] at c59
   have C59:=Lib.hid c59
   have hfd:=field_row
   clear hR hE hl hd e1 hx ih c59
   go_enter Tryz.func62,Tryz.ntmps62
   go_wp2_with (first
    | (go_at_call 36;(with_reducible refine c36.mono ?_);rintro e w1 ⟨sa,sb,cc,T,U,b,off,dc,rfl,hc0,hb⟩;have k59:=C59.out w1 hb.out)
    | (go_at_call 62;(with_reducible refine k59.mono ?_);rintro e w2 ⟨rfl,hb2⟩))
   go_ret
   exact⟨rfl,hb.out.trans (hb2.mono hb.out.size)⟩
  | [d,f]=>
   have c36:=at_dec2 (ca:=ca) hR hn hd
   have c59:=fun W (hb:Below w.heap.size w W)=>ih d W (by omega) (hR.below hb) (hE d (by rw [hd];simp))
   have c59f:=fun W (hb:Below w.heap.size w W)=>ih f W (by omega) (hR.below hb) (hE f (by rw [hd];simp))
   obtain⟨x,hx⟩:∃ x,prt (dcf ps) k d=x:=⟨_,rfl⟩
   obtain⟨y,hy⟩:∃ x,prt (dcf ps) k f=x:=⟨_,rfl⟩
   have hyl:y≤4000001:=by have:=prt_le (dec:=dcf ps) k f;omega
   have e1:prt (dcf ps) (k+1) c=if x≤4 then x+y else x:=by rw [prt,hd];simp only;rw [hx,hy]
   rw [e1]
   simp only [hx] at c59
   simp only [hy] at c59f
   have C59:=Lib.hid c59
   have C59F:=Lib.hid c59f
   have hfd:=field_row
   clear hR hE hl hd e1 hx hy ih c59 c59f
   by_cases h4:x≤4
   · rw [if_pos h4]
     have h4':decide ((x:Int)≤4)=true:=decide_eq_true (by omega)
     go_enter Tryz.func62,Tryz.ntmps62
     go_wp2_with (first
      | (go_at_call 36;(with_reducible refine c36.mono ?_);rintro e w1 ⟨sa,sb,cc,T,U,b,off,dc,rfl,⟨hc0,hc1⟩,hb⟩;have k59:=C59.out w1 hb.out)
      | (go_at_call 62;(with_reducible refine k59.mono ?_);rintro e w2 ⟨rfl,hb2⟩;have z2:=hb.out.trans (hb2.mono hb.out.size);have k59f:=C59F.out w2 z2;have hc1':w2.cell? ⟨b,off+1,none⟩=some (.int .i64 f):=(hb2.cell (p:=⟨b,off+1,none⟩) (World.block_lt_of_cell? w1 _ hc1)).trans hc1)
      | (go_at_call 62;(with_reducible refine k59f.mono ?_);rintro e w3 ⟨rfl,hb3⟩))
     go_ret
     exact⟨by push_cast;rfl,z2.trans (hb3.mono z2.size)⟩
   · rw [if_neg h4]
     have h4':decide ((x:Int)≤4)=false:=decide_eq_false (by omega)
     go_enter Tryz.func62,Tryz.ntmps62
     go_wp2_with (first
      | (go_at_call 36;(with_reducible refine c36.mono ?_);rintro e w1 ⟨sa,sb,cc,T,U,b,off,dc,rfl,⟨hc0,hc1⟩,hb⟩;have k59:=C59.out w1 hb.out)
      | (go_at_call 62;(with_reducible refine k59.mono ?_);rintro e w2 ⟨rfl,hb2⟩))
     go_ret
     exact⟨rfl,hb.out.trans (hb2.mono hb.out.size)⟩
  | d::f::g::t=>rw [hd] at hl;simp at hl
theorem rch_go {dec:Int→List Int} {k:Nat} {all:List Int} {c:Int} (hk:k<5000) (hc:all[k]? = some c):rch dec (5000-k) k all=rch dec (5000-(k+1)) (k+1) (addL all (dec c)):=by
 rw [show 5000-k=(5000-(k+1))+1 by omega,rch,hc]
theorem rch_end {dec:Int→List Int} {k:Nat} {all:List Int} (h:¬(k<all.length∧k<5000)):rch dec (5000-k) k all=all:=by
 by_cases h5:k<5000
 · have hc:all[k]? = none:=List.getElem?_eq_none_iff.2 (by omega)
   rw [show 5000-k=(5000-(k+1))+1 by omega,rch,hc]
 · rw [show 5000-k=0 by omega]
   rfl
theorem addL_take {all ds:List Int} {j:Nat} {d:Int} (h:ds[j]? = some d):addL all (ds.take (j+1))=addN (addL all (ds.take j)) d:=by
 have hlt:=(List.getElem?_eq_some_iff.1 h).1
 have e:ds[j]=d:=(List.getElem?_eq_some_iff.1 h).2
 rw [List.take_succ_eq_append_getElem hlt,e]
 unfold addL
 rw [List.foldl_append]
 rfl
theorem addN_len (all:List Int) (d:Int):(addN all d).length≤all.length+1:=by
 unfold addN
 split <;> simp
theorem addL_len:∀ (ds all:List Int),(addL all ds).length≤all.length+ds.length
 | [],all=>by simp [addL]
 | d::ds,all=>by
  have h1:=addL_len ds (addN all d)
  have h2:=addN_len all d
  show (addL (addN all d) ds).length≤_
  simp
  omega
def RcO (ps:List Uc.Pr) (fr:List Int) (w:World) (v i:Value) (wr:World):Prop:=
 ∃ (k:Nat) (all:List Int),(i=.int .i64 k∧k≤5000)∧(rch (dcf ps) (5000-k) k all=rch (dcf ps) 5000 0 fr∧all.length≤fr.length+2*k)∧wr.ownsRow w.heap.size 3 1 v all.length (nums .i64 all)∧Below w.heap.size w wr
def RcI (all ds:List Int) (w:World) (v j:Value) (wr:World):Prop:=
 ∃ (q:Nat),(j=.int .i64 q∧q≤ds.length)∧wr.ownsRow w.heap.size 3 1 v (addL all (ds.take q)).length (nums .i64 (addL all (ds.take q)))∧Below w.heap.size w wr
theorem own_fresh0 (w:World) (e:TypeId):(w.alloc (.cells #[] e)).ownsRow w.heap.size e 1 (.slice (some ⟨w.heap.size,0,none⟩) 0 0) 0 []:=by
 refine⟨rfl,.inr ⟨w.heap.size,0,#[],rfl,Nat.le_refl _,World.alloc_heap_new w _,Nat.le_refl _,Nat.zero_le _,rfl,rfl⟩⟩
theorem rc_put {all ds:List Int} {w wr w2:World} {v':Value} {q:Nat} {d:Int} (hq:ds[q]? = some d) (hn:¬d∈addL all (ds.take q)) (hb:Below w.heap.size w wr)
 (ho':w2.ownsRow w.heap.size 3 1 v' ((addL all (ds.take q)).length+1) (nums .i64 (addL all (ds.take q)) ++ [.int .i64 d])) (hg:Grew w.heap.size wr w2):RcI all ds w v' (.int .i64 ((q:Int)+1)) w2:=by
 have hlt:=(List.getElem?_eq_some_iff.1 hq).1
 refine⟨q+1,⟨by go_num,hlt⟩,?_,hg _ _ hb (Nat.le_refl _)⟩
 have e:addL all (ds.take (q+1))=addL all (ds.take q) ++ [d]:=by rw [addL_take hq];unfold addN;rw [if_neg hn]
 rw [e]
 have e2:nums .i64 (addL all (ds.take q) ++ [d])=nums .i64 (addL all (ds.take q)) ++ [.int .i64 d]:=by simp [nums]
 rw [e2,List.length_append]
 exact ho'
theorem rc_skip {all ds:List Int} {w wr:World} {v:Value} {q:Nat} {d:Int} (hq:ds[q]? = some d) (hn:d∈addL all (ds.take q)) (ho:wr.ownsRow w.heap.size 3 1 v (addL all (ds.take q)).length (nums .i64 (addL all (ds.take q)))) (hb:Below w.heap.size w wr):RcI all ds w v (.int .i64 ((q:Int)+1)) wr:=by
 have hlt:=(List.getElem?_eq_some_iff.1 hq).1
 have e:addL all (ds.take (q+1))=addL all (ds.take q):=by rw [addL_take hq];unfold addN;rw [if_pos hn]
 exact⟨q+1,⟨by go_num,hlt⟩,by rw [e];exact ho,hb⟩
set_option maxRecDepth 100000 in
set_option maxHeartbeats 4000000 in
theorem reach58 (A:Option Addr) (n ca:Nat) (ls:List Uc.Rw) (ps:List Uc.Pr) (F:Option Addr) (m cf:Nat) (fr:List Int) (w:World) (hn:n≤1000000) (h2:∀ c,(dcf ps c).length≤2) (hR:RowsIn w A n ls ps) (hF:Vals w F m (nums .i64 fr)) (hm:m≤2):
 Calls Tryz.prog 61 #[.slice A n ca,.slice F m cf,.int .i64 5000] w fun e w'=>∃ A2 c2,e=.returned (.slice A2 (rch (dcf ps) 5000 0 fr).length c2)∧Hid (Below w.heap.size w w'∧Vals w' A2 (rch (dcf ps) 5000 0 fr).length (nums .i64 (rch (dcf ps) 5000 0 fr))):=by
 obtain⟨i0,hi,hz0,hz1,hz2⟩:=info_parts infoI
 have hfl:fr.length=m:=by have:=hF.1;rwa [nums_len] at this
 have hb0:Below w.heap.size w (w.alloc (.cells #[] 3)):=(Below.refl _ _).alloc (Nat.le_refl _) _
 have hF0:=hF.below hb0
 have m1:0+m≤maxLen:=by simp only [maxLen];omega
 have m2:(0+m)*8≤140737488355328:=by omega
 have HR:=Lib.hid hR
 have H2:=Lib.hid h2
 have HL:=Lib.hid hfl
 have HB0:=Lib.hid hb0
 have HF0:=Lib.hid hF0
 have H00:=Lib.hid (own_fresh0 w 3)
 clear hR h2 hF hfl hF0 hb0
 go_enter Tryz.func61,Tryz.ntmps61
 go_wp2_with (at_builtin;refine append_ints rfl _ _ 31 rfl w.heap.size 3 i0 (.int .i64 0) 8 Tryz.underlying31 hi hz0 hz1 hz2 rfl _ 0 [] rfl H00.out F m cf fr rfl HF0.out m1 m2 (by simp) ?_;intro v1 w1 ho1 hg1)
 have hB1:Below w.heap.size w w1:=HB0.out.grown hg1 (by simp) (fun g e=>(H00.out.lt g e).1)
 have h0:RcO ps fr w v1 (.int .i64 (0:Nat)) w1:=⟨0,fr,⟨rfl,by omega⟩,⟨rfl,by omega⟩,by rw [HL.out];simpa using ho1,hB1⟩
 have HH0:=Lib.hid h0
 clear ho1 hg1 hB1 h0 HF0 HB0 H00
 go_wp2
 go_loopw [7,8] (fun v i wr=>RcO ps fr w v i wr) (fun _ i _=>5000-(intOf i).toNat)
 case atStart=>exact HH0.out
 case round=>
  clear HH0
  obtain⟨k,all,⟨rfl,hk5⟩,⟨hrch,hal⟩,ho,hb⟩:=hrel
  rw [HL.out] at hal
  obtain⟨Av,cv,rfl,-,hV,-⟩:=own_vals ho
  by_cases hc:k<all.length∧k<5000
  · obtain⟨hk1,hk2⟩:=hc
    obtain⟨c,hck⟩:∃ c,all[k]? = some c:=⟨_,List.getElem?_eq_getElem hk1⟩
    obtain⟨b,off,rfl,hbl,hcell⟩:=hV.2 (by omega)
    have hc1:wr.cell? ⟨b,off+k,none⟩=some (.int .i64 c):=hcell k _ (by unfold nums;rw [List.getElem?_map,hck];rfl)
    have c36:=Uc.at13 A n ca ls c wr (HR.out.1.below hb) hn
    have hdl:=H2.out c
    obtain⟨sa,sb,cc,T,U,dp,dm,dc,hs,hdm,hdv⟩:∃ (sa sb cc:Int) (T U:ByteArray) (dp:Option Addr) (dm dc:Nat),Uc.rwV (Uc.atOf ls c)=.agg #[.int .i64 sa,.int .i64 sb,.string T,.int .i64 cc,.string U,.slice dp dm dc]∧dm=(dcf ps c).length∧Vals w dp dm (nums .i64 (dcf ps c)):=⟨_,_,_,_,_,_,_,_,rfl,(dec_is HR.out c).1,(dec_is HR.out c).2⟩
    rw [hs] at c36
    have hnext:=rch_go (dec:=dcf ps) hk2 hck
    obtain⟨ds,hds⟩:∃ ds,dcf ps c=ds:=⟨_,rfl⟩
    rw [hds] at hdm hdv hdl hnext
    obtain⟨an,han⟩:∃ m,all.length=m:=⟨_,rfl⟩
    have HRC:=Lib.hid (hnext.symm.trans hrch)
    have HAN:=Lib.hid han
    have HO:=Lib.hid ho
    have HDV:=Lib.hid hdv
    have HDM:=Lib.hid hdm
    have hfd:=field_row
    rw [han] at hk1 hal ⊢
    have hka:decide ((k:Int)<(an:Int))=true:=decide_eq_true (by omega)
    have hkb:decide ((k:Int)<5000)=true:=decide_eq_true (by omega)
    clear hV hcell hck hs hdv hdm hnext hrch ho hds han
    go_wp2_with (go_at_call 36;(with_reducible refine c36.mono ?_);rintro e w2 ⟨rfl,hb2⟩)
    clear c36
    have hB2:=hb.trans (hb2.mono hb.size)
    have hdm2:dm≤2:=by rw [HDM.out];exact hdl
    have hI0:RcI all ds w (.slice (some ⟨b,off,none⟩) an cv) (.int .i64 (0:Nat)) w2:=⟨0,⟨rfl,Nat.zero_le _⟩,by rw [←HAN.out];exact own_below HO.out hb2 (Nat.le_refl _),hB2⟩
    have HI0:=Lib.hid hI0
    clear hI0 HO hc1
    obtain⟨w0,rfl⟩:∃ w0,w0=wr:=⟨_,rfl⟩
    go_loopw [7,10] (fun v j wr=>RcI all ds w v j wr) (fun _ j _=>dm-(intOf j).toNat)
    case atStart=>exact HI0.out
    case round=>
     clear HI0
     obtain⟨q,⟨rfl,hq⟩,hoq,hbq⟩:=hrel
     have hql:=addL_len (ds.take q) all
     have hqt:(ds.take q).length≤2:=by rw [List.length_take];omega
     obtain⟨aq,haq⟩:∃ m,(addL all (ds.take q)).length=m:=⟨_,rfl⟩
     have HAQ:=Lib.hid haq
     rw [HAN.out] at hql
     rw [haq] at hql hoq
     obtain⟨Aq,cq,rfl,-,hVq,-⟩:=own_vals hoq
     by_cases hlt:q<dm
     · have hqd:q<ds.length:=by rw [←HDM.out];exact hlt
       obtain⟨d,hd⟩:∃ d,ds[q]? = some d:=⟨_,List.getElem?_eq_getElem hqd⟩
       obtain⟨b3,off3,rfl,hbl3,hcell3⟩:=HDV.out.2 (by omega)
       have hcd:wr.cell? ⟨b3,off3+q,none⟩=some (.int .i64 d):=(hbq.cell (p:=⟨b3,off3+q,none⟩) hbl3).trans (hcell3 q _ (by unfold nums;rw [List.getElem?_map,hd];rfl))
       have c57:=has57 Aq aq cq (addL all (ds.take q)) d wr hVq (by omega)
       have hbase:=hbq.size
       by_cases hmem:d∈addL all (ds.take q)
       · rw [decide_eq_true hmem] at c57
         have R:=Lib.hid (rc_skip (w:=w) (wr:=wr) (v:=.slice Aq aq cq) hd hmem (by rw [haq];exact hoq) hbq)
         clear hcell3 hd hmem hoq hVq haq hqd hq
         go_wp2_with (go_at_call 60;(with_reducible refine c57.mono ?_);rintro e w4 ⟨rfl,rfl⟩)
         go_roundw
         case rel=>exact R.out
         case measure=>simp [intOf];omega
       · rw [decide_eq_false hmem] at c57
         have R:=Lib.hid (fun w5 v'=>rc_put (w:=w) (wr:=wr) (w2:=w5) (v':=v') hd hmem hbq)
         have g63:aq+1≤maxLen:=by simp only [maxLen];omega
         have g47:(aq+1)*8≤140737488355328:=by omega
         have HOQ:=Lib.hid hoq
         clear hcell3 hd hmem hoq hVq haq hqd hq
         go_wp2_with (first
          | (go_at_call 60;(with_reducible refine c57.mono ?_);rintro e w4 ⟨rfl,rfl⟩)
          | (at_builtin;refine append_lit rfl _ _ 31 rfl w.heap.size 3 i0 (.int .i64 0) 1 8 Tryz.underlying31 hi hz0 hz1 hz2 rfl (by decide) _ _ _ rfl HOQ.out [.int .i64 d] rfl (by simp [Value.oneCell']) rfl g63 g47 hbase ?_;intro v' w5 hown' hg'))
         go_roundw
         case rel=>exact R.out w5 v' (by rw [HAQ.out];exact hown') hg'
         case measure=>simp [intOf];omega
     · have hqe:ds.take q=ds:=List.take_of_length_le (by rw [←HDM.out];omega)
       rw [hqe] at haq HAQ hoq
       have R:Hid (RcO ps fr w (.slice Aq aq cq) (.int .i64 ((k:Int)+1)) wr):=Lib.hid ⟨k+1,addL all ds,⟨by go_num,by omega⟩,⟨HRC.out,by rw [HAQ.out,HL.out];omega⟩,by rw [HAQ.out];exact hoq,hbq⟩
       clear hoq hVq haq hqe hbq hq
       go_wp2
       go_roundw
       case rel=>exact R.out
       case measure=>simp [intOf];omega
  · have hfin:=rch_end (dec:=dcf ps) hc
    rw [hrch] at hfin
    have HFIN:=Lib.hid hfin
    have R:Hid (Below w.heap.size w wr∧Vals wr Av all.length (nums .i64 all)):=Lib.hid ⟨hb,hV⟩
    obtain⟨an,han⟩:∃ m,all.length=m:=⟨_,rfl⟩
    have HAN:=Lib.hid han
    rw [han] at hc hal R ⊢
    clear hrch hfin hV ho han
    by_cases h1:k<an
    · have hka:decide ((k:Int)<(an:Int))=true:=decide_eq_true (by omega)
      have hkb:decide ((k:Int)<5000)=false:=decide_eq_false (by omega)
      go_wp2
      go_ret
      rw [HFIN.out,HAN.out]
      exact⟨_,_,rfl,R⟩
    · have hka:decide ((k:Int)<(an:Int))=false:=decide_eq_false (by omega)
      go_wp2
      go_ret
      rw [HFIN.out,HAN.out]
      exact⟨_,_,rfl,R⟩
end Go.Proofs.YtmellioacefjjaaGreatDoor
namespace Go.Proofs.YtmellioacefjjaaGreatDoor.Pq
open Go.RowKit
structure Sp where
 a:Int
 b:Int
 v:List UInt8
deriving DecidableEq
def meets (s t:Sp):Bool:=decide (s.a≤t.b)&&decide (t.a≤s.b)
def check (l:List Sp) (s:Sp):Int:=if s.a<0∨1114111<s.b∨s.b<s.a then 14 else if s.v = [] then 16 else if l.any (meets · s) then 15 else 0
def ins (s:Sp) (l:List Sp):List Sp:=l.takeWhile (fun t=>decide (t.a≤s.a))++s::l.dropWhile (fun t=>decide (t.a≤s.a))
def sorted (l:List Sp):List Sp:=l.foldl (fun acc s=>ins s acc) []
def addAll:List Sp→List Sp→Except Int (List Sp)
 | acc,[]=>.ok acc
 | acc,s::l=>if check acc s=0 then addAll (ins s acc) l else .error (check acc s)
def came:List Sp→List Sp→Except Int (List Sp)
 | acc,[]=>.ok acc
 | acc,s::l=>if check acc s=0 then came (acc ++ [s]) l else .error (check acc s)
def Fit (s:Sp):Prop:=0≤s.a∧s.b≤1114111∧s.a≤s.b∧s.v ≠ []
def Rises (l:List Sp):Prop:=l.Pairwise fun s t=>s.b<t.a
def Good (l:List Sp):Prop:=Rises l∧∀ s∈l,Fit s
theorem meets_comm (s t:Sp):meets s t=meets t s:=by unfold meets;rw [Bool.and_comm]
theorem ins_mem {s t:Sp} {l:List Sp}:t∈ins s l↔t=s∨t∈l:=by
 unfold ins
 have e:=List.takeWhile_append_dropWhile (p:=fun t:Sp=>decide (t.a≤s.a)) (l:=l)
 constructor
 · intro h
   rcases List.mem_append.1 h with h | h
   · exact .inr (by rw [←e];exact List.mem_append_left _ h)
   · rcases List.mem_cons.1 h with h | h
     · exact .inl h
     · exact .inr (by rw [←e];exact List.mem_append_right _ h)
 · rintro (rfl | h)
   · simp
   · rw [←e] at h
     rcases List.mem_append.1 h with h | h
     · exact List.mem_append_left _ h
     · exact List.mem_append_right _ (List.mem_cons_of_mem _ h)
theorem ins_length (s:Sp) (l:List Sp):(ins s l).length=l.length+1:=by
 unfold ins
 have e:=congrArg List.length (List.takeWhile_append_dropWhile (p:=fun t:Sp=>decide (t.a≤s.a)) (l:=l))
 rw [List.length_append] at e
 rw [List.length_append,List.length_cons]
 omega
theorem sorted_snoc (l:List Sp) (s:Sp):sorted (l ++ [s])=ins s (sorted l):=by unfold sorted;rw [List.foldl_append];rfl
theorem sorted_mem:∀ (l:List Sp) (t:Sp),t∈sorted l↔t∈l:=by
 intro l
 generalize hn:l.length=n
 induction n generalizing l with
 | zero=>intro t;rw [List.eq_nil_of_length_eq_zero hn];rfl
 | succ n ih=>
  intro t
  rcases List.eq_nil_or_concat l with rfl | ⟨m,s,rfl⟩
  · simp at hn
  · rw [List.concat_eq_append] at hn ⊢
    rw [List.length_append] at hn
    rw [sorted_snoc,ins_mem,ih m (by simpa using hn) t]
    simp [or_comm]
theorem sorted_length:∀ (l:List Sp),(sorted l).length=l.length:=by
 intro l
 generalize hn:l.length=n
 induction n generalizing l with
 | zero=>rw [List.eq_nil_of_length_eq_zero hn];rfl
 | succ n ih=>
  rcases List.eq_nil_or_concat l with rfl | ⟨m,s,rfl⟩
  · simp at hn
  · rw [List.concat_eq_append] at hn ⊢
    rw [List.length_append] at hn
    rw [sorted_snoc,ins_length,ih m (by simpa using hn)]
theorem check_same {l m:List Sp} (h:∀ t,t∈l↔t∈m) (s:Sp):check l s=check m s:=by
 unfold check
 have e:l.any (meets · s)=m.any (meets · s):=by
  rw [Bool.eq_iff_iff,List.any_eq_true,List.any_eq_true]
  exact⟨fun ⟨x,hx,h2⟩=>⟨x,(h x).1 hx,h2⟩,fun ⟨x,hx,h2⟩=>⟨x,(h x).2 hx,h2⟩⟩
 rw [e]
theorem check_ok {l:List Sp} {s:Sp}:check l s=0↔Fit s∧∀ t∈l,meets t s=false:=by
 unfold check Fit
 constructor
 · intro h
   split at h
   · cases h
   · rename_i h1
     split at h
     · cases h
     · rename_i h2
       split at h
       · cases h
       · rename_i h3
         refine⟨⟨by omega,by omega,by omega,h2⟩,fun t ht=>?_⟩
         rw [List.any_eq_true] at h3
         cases hm:meets t s with
         | false=>rfl
         | true=>exact absurd ⟨t,ht,hm⟩ h3
 · rintro⟨⟨h1,h2,h3,h4⟩,h5⟩
   rw [if_neg (by omega),if_neg h4,if_neg]
   rw [List.any_eq_true]
   rintro⟨t,ht,hm⟩
   rw [h5 t ht] at hm
   cases hm
theorem addAll_came:∀ (l acc:List Sp),addAll (sorted acc) l=(came acc l).map sorted
 | [],acc=>rfl
 | s::l,acc=>by
  rw [addAll,came,check_same (sorted_mem acc) s]
  split
  · rw [←sorted_snoc,addAll_came l (acc ++ [s])]
  · rfl
theorem takeW_rises {s:Sp} {l:List Sp} (hr:Rises l) (hf:∀ t∈l,t.a≤t.b):∀ t∈l.dropWhile (fun t=>decide (t.a≤s.a)),s.a<t.a:=by
 induction l with
 | nil=>intro t ht;cases ht
 | cons x l ih=>
  intro t ht
  rw [List.dropWhile_cons] at ht
  split at ht
  · exact ih (List.pairwise_cons.1 hr).2 (fun t ht=>hf t (List.mem_cons_of_mem _ ht)) t ht
  · rename_i hx
    simp at hx
    rcases List.mem_cons.1 ht with rfl | ht
    · exact hx
    · have h1:=(List.pairwise_cons.1 hr).1 t ht
      have h2:=hf x (by simp)
      omega
theorem takeW_all {s:Sp}:∀ {l:List Sp},∀ t∈l.takeWhile (fun t=>decide (t.a≤s.a)),t.a≤s.a
 | [],t,ht=>by cases ht
 | x::l,t,ht=>by
  rw [List.takeWhile_cons] at ht
  split at ht
  · rename_i hx
    rcases List.mem_cons.1 ht with rfl | ht
    · simpa using hx
    · exact takeW_all t ht
  · cases ht
theorem ins_good {s:Sp} {l:List Sp} (hg:Good l) (hc:check l s=0):Good (ins s l):=by
 obtain⟨hfit,hno⟩:=check_ok.1 hc
 have hf:∀ t∈l,t.a≤t.b:=fun t ht=>(hg.2 t ht).2.2.1
 refine⟨?_,fun t ht=>?_⟩
 · unfold Rises ins
   have e:=List.takeWhile_append_dropWhile (p:=fun t:Sp=>decide (t.a≤s.a)) (l:=l)
   have hr:=hg.1
   unfold Rises at hr
   rw [←e,List.pairwise_append] at hr
   have hsub1:∀ t∈l.takeWhile (fun t=>decide (t.a≤s.a)),t∈l:=fun t ht=>by rw [←e];exact List.mem_append_left _ ht
   have hsub2:∀ t∈l.dropWhile (fun t=>decide (t.a≤s.a)),t∈l:=fun t ht=>by rw [←e];exact List.mem_append_right _ ht
   have hlow:∀ t∈l.takeWhile (fun t=>decide (t.a≤s.a)),t.b<s.a:=fun t ht=>by
    have h1:=takeW_all t ht
    have h2:=hno t (hsub1 t ht)
    have h3:=hf t (hsub1 t ht)
    have h4:=hfit.2.2.1
    unfold meets at h2
    simp at h2
    exact h2 (by omega)
   have hhigh:∀ t∈l.dropWhile (fun t=>decide (t.a≤s.a)),s.b<t.a:=fun t ht=>by
    have h1:=takeW_rises hg.1 hf t ht
    have h2:=hno t (hsub2 t ht)
    have h3:=hf t (hsub2 t ht)
    unfold meets at h2
    simp at h2
    apply Classical.byContradiction
    intro h
    have:=h2 (by omega)
    omega
   rw [List.pairwise_append]
   refine⟨hr.1,List.pairwise_cons.2 ⟨hhigh,hr.2.1⟩,fun t ht u hu=>?_⟩
   rcases List.mem_cons.1 hu with rfl | hu
   · exact hlow t ht
   · exact hr.2.2 t ht u hu
 · rcases ins_mem.1 ht with rfl | ht
   · exact hfit
   · exact hg.2 t ht
theorem ins_at {s:Sp} {l:List Sp} {k:Nat} (hk:k≤l.length) (h1:∀ t∈l.take k,t.a≤s.a) (h2:∀ t,(l.drop k).head? = some t→s.a<t.a):ins s l=l.take k++s::l.drop k:=by
 induction l generalizing k with
 | nil=>simp [ins]
 | cons x l ih=>
  cases k with
  | zero=>
   have:=h2 x rfl
   unfold ins
   rw [List.takeWhile_cons,List.dropWhile_cons,if_neg (by simp;omega),if_neg (by simp;omega)]
   rfl
  | succ k=>
   have hx:=h1 x (by simp)
   have e:=ih (k:=k) (by simpa using hk) (fun t ht=>h1 t (by simp [ht])) (fun t ht=>h2 t (by simpa using ht))
   unfold ins at e ⊢
   rw [List.takeWhile_cons,List.dropWhile_cons,if_pos (by simpa using hx),if_pos (by simpa using hx),List.cons_append,e]
   rfl
theorem addAll_good:∀ (l acc:List Sp) (r:List Sp),Good acc→addAll acc l=.ok r→Good r∧(∀ t,t∈r↔t∈acc∨t∈l)∧r.length=acc.length+l.length
 | [],acc,r,hg,h=>by
  rw [addAll] at h
  cases h
  exact⟨hg,by simp,by simp⟩
 | s::l,acc,r,hg,h=>by
  rw [addAll] at h
  split at h
  · rename_i hc
    obtain⟨h1,h2,h3⟩:=addAll_good l (ins s acc) r (ins_good hg hc) h
    refine⟨h1,fun t=>?_,?_⟩
    · rw [h2 t,ins_mem,List.mem_cons]
      constructor
      · rintro ((h | h) | h)
        · exact .inr (.inl h)
        · exact .inl h
        · exact .inr (.inr h)
      · rintro (h | h | h)
        · exact .inl (.inr h)
        · exact .inl (.inl h)
        · exact .inr h
    · rw [h3,ins_length,List.length_cons]
      omega
  · cases h
theorem good_nil:Good []:=⟨List.Pairwise.nil,fun s h=>by cases h⟩
theorem addAll_ok:∀ (l acc:List Sp),(∃ r,addAll acc l=.ok r)↔(∀ s∈l,Fit s)∧(∀ s∈l,∀ t∈acc,meets t s=false)∧l.Pairwise (fun s t=>meets s t=false)
 | [],acc=>by simp [addAll]
 | s::l,acc=>by
  rw [addAll]
  have ih:=addAll_ok l (ins s acc)
  constructor
  · rintro⟨r,h⟩
    split at h
    · rename_i hc
      obtain⟨hf,hn⟩:=check_ok.1 hc
      obtain⟨h1,h2,h3⟩:=ih.1 ⟨r,h⟩
      refine⟨fun t ht=>?_,fun t ht u hu=>?_,List.pairwise_cons.2 ⟨fun t ht=>h2 t ht s (ins_mem.2 (.inl rfl)),h3⟩⟩
      · rcases List.mem_cons.1 ht with rfl | ht
        · exact hf
        · exact h1 t ht
      · rcases List.mem_cons.1 ht with rfl | ht
        · exact hn u hu
        · exact h2 t ht u (ins_mem.2 (.inr hu))
    · cases h
  · rintro⟨h1,h2,h3⟩
    have hc:check acc s=0:=check_ok.2 ⟨h1 s (by simp),h2 s (by simp)⟩
    rw [if_pos hc]
    refine ih.2 ⟨fun t ht=>h1 t (by simp [ht]),fun t ht u hu=>?_,(List.pairwise_cons.1 h3).2⟩
    rcases ins_mem.1 hu with rfl | hu
    · exact (List.pairwise_cons.1 h3).1 t ht
    · exact h2 t (by simp [ht]) u hu
theorem good_eq:∀ (l m:List Sp),Good l→Good m→(∀ t,t∈l↔t∈m)→l=m
 | [],[],_,_,_=>rfl
 | [],x::m,_,_,h=>absurd ((h x).2 (by simp)) (by simp)
 | x::l,[],_,_,h=>absurd ((h x).1 (by simp)) (by simp)
 | x::l,y::m,hl,hm,h=>by
  have pl:=List.pairwise_cons.1 hl.1
  have pm:=List.pairwise_cons.1 hm.1
  have fx:=(hl.2 x (by simp)).2.2.1
  have fy:=(hm.2 y (by simp)).2.2.1
  have exy:x=y:=by
   rcases List.mem_cons.1 ((h x).1 (by simp)) with e | hx
   · exact e
   · rcases List.mem_cons.1 ((h y).2 (by simp)) with e | hy
     · exact e.symm
     · have h1:=pl.1 y hy
       have h2:=pm.1 x hx
       omega
  subst exy
  have nx1:x∉l:=fun hx=>by have:=pl.1 x hx;omega
  have nx2:x∉m:=fun hx=>by have:=pm.1 x hx;omega
  rw [good_eq l m ⟨pl.2,fun t ht=>hl.2 t (by simp [ht])⟩ ⟨pm.2,fun t ht=>hm.2 t (by simp [ht])⟩ (fun t=>?_)]
  have ht:=h t
  rw [List.mem_cons,List.mem_cons] at ht
  constructor
  · intro h1
    rcases ht.1 (.inr h1) with e | h2
    · subst e;exact absurd h1 nx1
    · exact h2
  · intro h1
    rcases ht.2 (.inr h1) with e | h2
    · subst e;exact absurd h1 nx2
    · exact h2
theorem addAll_perm {l m r:List Sp} (hp:l.Perm m) (h:addAll [] l=.ok r):addAll [] m=.ok r:=by
 obtain⟨h1,h2,h3⟩:=(addAll_ok l []).1 ⟨r,h⟩
 obtain⟨r2,hr2⟩:=(addAll_ok m []).2 ⟨fun s hs=>h1 s (hp.mem_iff.2 hs),fun s _ t ht=>(by cases ht),hp.pairwise h3 (fun {a b} hab=>by rw [meets_comm];exact hab)⟩
 obtain⟨g1,g2,_⟩:=addAll_good l [] r good_nil h
 obtain⟨k1,k2,_⟩:=addAll_good m [] r2 good_nil hr2
 rw [hr2,good_eq r r2 g1 k1 (fun t=>by rw [g2 t,k2 t,hp.mem_iff])]
def valueOf (l:List Sp) (c:Int):List UInt8:=match l.find? (fun s=>decide (s.a≤c)&&decide (c≤s.b)) with | some s=>s.v | none=>[]
theorem value_cons (s:Sp) (l:List Sp) (c:Int):valueOf (s::l) c=if s.a≤c∧c≤s.b then s.v else valueOf l c:=by
 unfold valueOf
 rw [List.find?_cons]
 by_cases h:s.a≤c∧c≤s.b
 · simp [h]
 · rw [if_neg h]
   have e:(decide (s.a≤c)&&decide (c≤s.b))=false:=by
    rw [Bool.eq_false_iff]
    simp
    omega
   rw [e]
theorem value_gap:∀ {l:List Sp} {c:Int},(∀ s∈l,¬(s.a≤c∧c≤s.b))→valueOf l c = []
 | [],_,_=>rfl
 | s::l,c,h=>by
  rw [value_cons,if_neg (h s (by simp))]
  exact value_gap fun t ht=>h t (by simp [ht])
theorem value_at:∀ {l:List Sp} {c:Int} {s:Sp},Rises l→s∈l→s.a≤c→c≤s.b→valueOf l c=s.v
 | [],_,_,_,h,_,_=>by cases h
 | x::l,c,s,hr,h,h1,h2=>by
  rw [value_cons]
  rcases List.mem_cons.1 h with rfl | h
  · rw [if_pos ⟨h1,h2⟩]
  · have:=(List.pairwise_cons.1 hr).1 s h
    rw [if_neg (by omega)]
    exact value_at (List.pairwise_cons.1 hr).2 h h1 h2
end Go.Proofs.YtmellioacefjjaaGreatDoor.Pq
