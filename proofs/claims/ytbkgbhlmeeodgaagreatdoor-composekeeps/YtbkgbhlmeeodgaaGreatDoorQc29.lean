/- A part. -/
import Derived.Test.YtbkgbhlmeeodgaaGreatDoorQc28
namespace Go.Proofs.YtbkgbhlmeeodgaaGreatDoor.Pq
open Go.RowKit Go.Shelf Go.Sort
attribute [local go_sem] Oper.semAt_some
def NewOk:Prop:=∀ (A:Option Addr) (n c:Nat) (ls:List Sp) (W:World),SAt W A n ls→Flat A→(A=none→c=0)→n≤c→n≤100000→∀ r,addAll [] ls=.ok r →
 Calls Tryz.prog 117 #[.slice A n c] W fun e w'=>∃ b,e=.returned (.tuple #[.pointer (some ⟨b,0,none⟩),.int .i64 0])∧Hid (Below W.heap.size W w'∧∃ A c,TIn w' (some ⟨b,0,none⟩) A c r∧(W.heap.size≤b∧∀ a,A=some a→W.heap.size≤a.block))
def LBox (x:LnV) (b:Nat) (W:World):Prop:=W.cell? ⟨b,0,none⟩=some (.int .i64 x.1)∧W.cell? ⟨b,1,none⟩=some (.slice x.2.1 x.2.2.length x.2.2.length)
theorem lbox_abide (x:LnV) (b B:Nat):Abide 0 0 B (fun (_:Unit) W=>LBox x b W):=Abide.and (cell_abide _ _) (cell_abide _ _)
theorem flnRd_abide (n N0:Nat) (x:LnV) (B:Nat):Abide 0 0 B (fun (_:Unit) W=>FLnRd n N0 x W):=
 Abide.and (lnRd_abide x B) (Abide.and (fun _ _ _ _ h hg _=>Nat.le_trans h hg.size) (Abide.pure _ _ _ _))
theorem rs_any {x:LnV} {n N0:Nat} {W:World} (hR:FLnRd n N0 x W) (hn:n≤4000) (hM:ML W):Calls Tryz.prog 114 #[.slice x.2.1 x.2.2.length x.2.2.length] W (RsPost x.2.2 W):=
 readspan22 x.2.1 x.2.2.length x.2.2.length x.2.2 W hR.1.1 (fun f hf=>Nat.le_trans (hR.2.2 f hf) (by omega)) (Nat.le_trans hR.1.2 (by omega)) (fun X hX=>by
  obtain⟨m,hm⟩:=hM.below hX
  refine range13 (pfld x.2.2 0) m X ?_ hm
  unfold pfld
  rw [List.getD_eq_getElem?_getD]
  cases hq:x.2.2[0]? with
  | none=>simp
  | some y=>exact Nat.le_trans (hR.2.2 y (List.mem_of_getElem? hq)) (by omega))
theorem rs_good {x:LnV} {n N0:Nat} {W:World} (hR:FLnRd n N0 x W) (hn:n≤4000) (hM:ML W) (h:lineErr x.2.2=0) {a b:Nat} (ha:(spOf x.2.2).a=a) (hb:(spOf x.2.2).b=b):
 Calls Tryz.prog 114 #[.slice x.2.1 x.2.2.length x.2.2.length] W fun e w'=>e=.returned (.tuple #[.agg #[.int .i64 (a:Int),.int .i64 (b:Int),.string (bs (pfld x.2.2 1))],.int .i64 0])∧Below W.heap.size W w':=by
 refine (rs_any hR hn hM).mono ?_
 rintro e w' ⟨hb',s,rfl,hs⟩
 rw [hs.out h,h]
 exact⟨by unfold spV;rw [ha,hb];rfl,hb'⟩
theorem rs_wrong {x:LnV} {n N0:Nat} {W:World} (hR:FLnRd n N0 x W) (hn:n≤4000) (hM:ML W) {E:Int} (h:lineErr x.2.2=E):
 Calls Tryz.prog 114 #[.slice x.2.1 x.2.2.length x.2.2.length] W fun e w'=>∃ (a b:Int) (S:ByteArray),e=.returned (.tuple #[.agg #[.int .i64 a,.int .i64 b,.string S],.int .i64 E])∧Below W.heap.size W w':=by
 refine (rs_any hR hn hM).mono ?_
 rintro e w' ⟨hb',s,rfl,hs⟩
 rw [h]
 exact⟨s.a,s.b,bs s.v,rfl,hb'⟩
theorem pl_fit {vs:List (List UInt8)} {pre:List LnV} {ws:List Nat} {out:List Sp} (h:Pl vs pre ws out):∀ t∈out,t.a≤t.b∧0≤t.a:=fun t ht=>⟨(h.2.2 t ht).2.2.1,(h.2.2 t ht).1⟩
theorem add_yes {tb base a b:Nat} {ws:List Nat} {out:List Sp} {s:Sp} {vs:List (List UInt8)} {pre:List LnV} {W:World} (hp:Pl vs pre ws out) (hR:RowAt tb base 224 1 ws.length (words ws) W) (hs:Fit s) (ha:s.a=a) (hb:s.b=b) (hab:a≤b) (hb2:b≤1114111) (htb:tb<base) (hbase:base≤W.heap.size) (hc:check out s=0):
 Calls Tryz.prog 116 #[.pointer (some ⟨tb,0,none⟩),.int .i64 (a:Int),.int .i64 (b:Int)] W fun e W'=>e=.returned (.bool true)∧∃ ws',Hid ((Tells ws' (out ++ [s])∧ws'.length≤17408)∧RowAt tb base 224 1 ws'.length (words ws') W'∧Hold (GA tb) W W'∧Below tb W W'):=by
 refine (add24 tb base a b ws W hR hp.2.1.2 hp.2.1.1.1 hab hb2 htb hbase).mono ?_
 rintro e W' ⟨f,ws',rfl,hh⟩
 obtain⟨h1,h2,h3⟩:=hh.out
 cases f with
 | true=>exact⟨rfl,ws',Lib.hid ⟨⟨(adds_ok hp.2.1.1 (pl_fit hp) ha hb hab hs h1).2,h2⟩,h3⟩⟩
 | false=>exact absurd hc (by rw [adds_no hp.2.1.1 ha hb hs h1];decide)
theorem add_no {tb base a b:Nat} {ws:List Nat} {out:List Sp} {s:Sp} {vs:List (List UInt8)} {pre:List LnV} {W:World} (hp:Pl vs pre ws out) (hR:RowAt tb base 224 1 ws.length (words ws) W) (hs:Fit s) (ha:s.a=a) (hb:s.b=b) (hab:a≤b) (hb2:b≤1114111) (htb:tb<base) (hbase:base≤W.heap.size) (hc:¬check out s=0):
 Calls Tryz.prog 116 #[.pointer (some ⟨tb,0,none⟩),.int .i64 (a:Int),.int .i64 (b:Int)] W fun e W'=>e=.returned (.bool false)∧∃ ws',Hid (check out s=15∧RowAt tb base 224 1 ws'.length (words ws') W'∧Hold (GA tb) W W'∧Below tb W W'):=by
 refine (add24 tb base a b ws W hR hp.2.1.2 hp.2.1.1.1 hab hb2 htb hbase).mono ?_
 rintro e W' ⟨f,ws',rfl,hh⟩
 obtain⟨h1,h2,h3⟩:=hh.out
 cases f with
 | true=>exact absurd (adds_ok hp.2.1.1 (pl_fit hp) ha hb hab hs h1).1 hc
 | false=>exact⟨rfl,ws',Lib.hid ⟨adds_no hp.2.1.1 ha hb hs h1,h3⟩⟩
theorem pl_skip {vs:List (List UInt8)} {pre:List LnV} {ws:List Nat} {out:List Sp} {x:LnV} (h:Pl vs pre ws out) (hl:lineErr x.2.2=0) (ha:amongB vs (pfld x.2.2 1)=false):Pl vs (pre ++ [x]) ws out:=
 ⟨⟨by rw [st_snoc,h.1.1];exact step_skip (x:=view x) hl ha,by have:=h.1.2;simp;omega⟩,h.2⟩
theorem pl_add {vs:List (List UInt8)} {pre:List LnV} {ws ws':List Nat} {out:List Sp} {x:LnV} (h:Pl vs pre ws out) (hl:lineErr x.2.2=0) (ha:amongB vs (pfld x.2.2 1)=true) (hc:check out (spOf x.2.2)=0) (hf:Fit (spOf x.2.2)) (ht:Tells ws' (out ++ [spOf x.2.2])∧ws'.length≤17408):Pl vs (pre ++ [x]) ws' (out ++ [spOf x.2.2]):=
 ⟨⟨by rw [st_snoc,h.1.1];exact step_add (x:=view x) hl ha hc,by have:=h.1.2;simp;omega⟩,ht,fun t ht=>by
  rcases List.mem_append.1 ht with h' | h'
  · exact h.2.2 t h'
  · rw [List.mem_singleton.1 h'];exact hf⟩
theorem par_first (W2:World) (Aq:Option Addr) (nv cq base:Nat) (vs:List (List UInt8)) (hv:Vals W2 Aq nv (strs (ascOf vs))):
 AskW W2.heap.size Aq nv cq (ascOf vs) (((W2.alloc (.cells #[.slice Aq nv cq] 95)).alloc (.cells #[.slice none 0 0] 174)).alloc (.cells #[.slice none 0 0] 175)) ∧
 Two (W2.heap.size+1) (W2.heap.size+2) base [] [] (((W2.alloc (.cells #[.slice Aq nv cq] 95)).alloc (.cells #[.slice none 0 0] 174)).alloc (.cells #[.slice none 0 0] 175)) ∧
 Below W2.heap.size W2 (((W2.alloc (.cells #[.slice Aq nv cq] 95)).alloc (.cells #[.slice none 0 0] 174)).alloc (.cells #[.slice none 0 0] 175)) ∧
 (((W2.alloc (.cells #[.slice Aq nv cq] 95)).alloc (.cells #[.slice none 0 0] 174)).alloc (.cells #[.slice none 0 0] 175)).heap.size=W2.heap.size+3:=by
 have n1:=box_new W2 (.slice Aq nv cq) 95
 have n2:=box_new (W2.alloc (.cells #[.slice Aq nv cq] 95)) (.slice none 0 0) 174
 have n3:=box_new ((W2.alloc (.cells #[.slice Aq nv cq] 95)).alloc (.cells #[.slice none 0 0] 174)) (.slice none 0 0) 175
 rw [World.size_alloc] at n2
 rw [World.size_alloc,World.size_alloc] at n3
 have hb:Below W2.heap.size W2 (((W2.alloc (.cells #[.slice Aq nv cq] 95)).alloc (.cells #[.slice none 0 0] 174)).alloc (.cells #[.slice none 0 0] 175)):=(((Below.refl _ _).alloc (Nat.le_refl _) _).alloc (by simp) _).alloc (by simp;omega) _
 exact⟨⟨box_cell _ (box_cell _ n1.1),hv.below hb⟩,⟨_,_,⟨⟨box_cell _ n2.1,box_frozen _ n2.1 n2.2⟩,World.ownsRow_nil _ _ _ _⟩,⟨n3,World.ownsRow_nil _ _ _ _⟩,fun k e=>by cases e⟩,hb,by simp⟩
theorem leave9 {Rp:Ending→World→Prop} {Wf:World} {D m H:Nat} {tmps:Array Value} {p:Option Addr} {e n:Int} (t2:tmps[4]?.getD undef=.pointer (some ⟨H,0,none⟩)) (t3:tmps[5]?.getD undef=.pointer (some ⟨H+1,0,none⟩)) (t4:tmps[6]?.getD undef=.pointer (some ⟨H+2,0,none⟩)) (hk:Wf.heap[D]? = some (.deferred (some [])))
 (hr:RB3 H p e n Wf) (h:Rp (.returned (.tuple #[.pointer p,.int .i64 e,.int .i64 n])) (Wf.putObj D (.deferred none))):
 LeavesInM Fence.wide m Tryz.prog Tryz.f78 tmps Rp [{ target:=.collected D,args:=#[] }] .returning Wf:=by
 refine⟨by simp,.inl ⟨_,_,rfl,run_takeDeferred hk,?_⟩⟩
 have k1:=cell_kept hr.1.1 (grownBy_putObj' _ D (.deferred none)) (fun r e=>by cases e;exact⟨_,hk,rfl⟩)
 have k2:=cell_kept hr.2.1.1 (grownBy_putObj' _ D (.deferred none)) (fun r e=>by cases e;exact⟨_,hk,rfl⟩)
 have k3:=cell_kept hr.2.2.1 (grownBy_putObj' _ D (.deferred none)) (fun r e=>by cases e;exact⟨_,hk,rfl⟩)
 refine⟨.tuple #[.pointer p,.int .i64 e,.int .i64 n],?_,h⟩
 simp [results,Tryz.results78,go_sem,k1,k2,k3,t2,t3,t4]
theorem wrong_end {w Wb X:World} {tb sb:Nat} {vs:List (List UInt8)} {pre:List LnV} {E num:Int} (hH:Hold (PA w.heap.size tb sb) Wb X) (hrX:RB3 w.heap.size none 0 0 X) (hbX:Below w.heap.size w X) (htb:w.heap.size+2<tb) (hsb:w.heap.size+2<sb) (hst:stOf vs pre=.bad E num) (hne:¬E=0):
 Hold (PA w.heap.size tb sb) Wb (rb3_set w.heap.size none E num X.drew)∧PpX w vs .ret pre (rb3_set w.heap.size none E num X.drew):=by
 have hd:Below X.heap.size X X.drew:=below_drew (Below.refl _ _)
 have hrd:RB3 w.heap.size none 0 0 X.drew:=hrX
 exact⟨(hH.trans (Hold.of_below (pa_lets _ _ _) hd)).trans (rb3_hold ⟨by omega,by omega,by omega⟩ ⟨by omega,by omega,by omega⟩),(E,num),⟨rfl,hst,hne⟩,rb3_new hrd,rb3_below (below_drew hbX)⟩
theorem box_drew (w1:World) (a b:Int) (S:ByteArray) (q:Nat):((w1.alloc (.cells #[.int .i64 a,.int .i64 b,.string S] 176)).drewN q).cell? ⟨w1.heap.size,0,none⟩=some (.int .i64 a)∧((w1.alloc (.cells #[.int .i64 a,.int .i64 b,.string S] 176)).drewN q).cell? ⟨w1.heap.size,1,none⟩=some (.int .i64 b)∧((w1.alloc (.cells #[.int .i64 a,.int .i64 b,.string S] 176)).drewN q).cell? ⟨w1.heap.size,2,none⟩=some (.string S):=by
 refine⟨?_,?_,?_⟩
 · show (w1.alloc (.cells #[.int .i64 a,.int .i64 b,.string S] 176)).cell? ⟨w1.heap.size,0,none⟩=_;simp
 · show (w1.alloc (.cells #[.int .i64 a,.int .i64 b,.string S] 176)).cell? ⟨w1.heap.size,1,none⟩=_;simp
 · show (w1.alloc (.cells #[.int .i64 a,.int .i64 b,.string S] 176)).cell? ⟨w1.heap.size,2,none⟩=_;simp
theorem added_at {w Wb W X:World} {qb base nv cq:Nat} {Aq:Option Addr} {vs:List (List UInt8)} {ws ws':List Nat} {out:List Sp} (ht:Two (qb+1) (qb+2) base ws out Wb) (hrb:RB3 w.heap.size none 0 0 Wb) (hak:AskW qb Aq nv cq (ascOf vs) Wb) (hM:ML Wb) (hbb:Below w.heap.size w Wb)
 (hq1:w.heap.size+2<qb) (hq2:qb+2<base) (hA:∀ a,Aq=some a→a.block<qb) (hW:Below Wb.heap.size Wb W) (hr:RowAt (qb+1) base 224 1 ws'.length (words ws') X) (hh:Hold (GA (qb+1)) W X) (hb:Below (qb+1) W X):
 Two (qb+1) (qb+2) base ws' out X∧Hold (PA w.heap.size (qb+1) (qb+2)) Wb X∧RB3 w.heap.size none 0 0 X∧AskW qb Aq nv cq (ascOf vs) X∧ML X∧Below w.heap.size w X:=by
 have htW:=ht.below hW
 obtain⟨k1,k2⟩:=two_add htW (by omega) (by omega) (by omega) hr hh
 have hrW:=hrb.below (rb3_lt hrb) hW
 have hakW:=(ask_abide (β:=Unit) (B:=Wb.heap.size)).below (s:=()) hak hW
 refine⟨k1,(Hold.of_below (pa_lets _ _ _) hW).trans (pa_hold k2),hrW.below (by omega) hb,hakW.under (by omega) (fun a e=>by have:=hA a e;omega) hb hh.1,?_,(hbb.trans (hW.mono hbb.size)).trans (hb.mono (by omega))⟩
 obtain⟨m,hm⟩:=hM.below hW
 exact⟨m,(hb.cell (p:=⟨1,0,none⟩) (by show 1<qb+1;omega)).trans hm⟩
theorem app_end {w Wb X w2:World} {qb base nv cq:Nat} {Aq:Option Addr} {vs:List (List UInt8)} {pre:List LnV} {x:LnV} {ws:List Nat} {out:List Sp} {v v':Value} {a b:Nat} {S:ByteArray}
 (hpl:Pl vs (pre ++ [x]) ws (out ++ [spOf x.2.2])) (ha:(spOf x.2.2).a=a) (hb:(spOf x.2.2).b=b) (hS:bs (pfld x.2.2 1)=S) (ht:Two (qb+1) (qb+2) base ws out X) (hH:Hold (PA w.heap.size (qb+1) (qb+2)) Wb X) (hrX:RB3 w.heap.size none 0 0 X) (hak:AskW qb Aq nv cq (ascOf vs) X) (hM:ML X) (hbX:Below w.heap.size w X)
 (hq1:w.heap.size+2<qb) (hq2:qb+2<base) (hA:∀ a,Aq=some a→a.block<qb) (hv:X.cell? ⟨qb+2,0,none⟩=some v)
 (ho':w2.ownsRow base 176 3 v' (out.length+1) (spvs out ++ [.int .i64 (a:Int),.int .i64 (b:Int),.string S])) (hg:X.grownBy w2 v.ownBlock) (hnew:∀ k,k<X.heap.size→v'.ownBlock=some k→v.ownBlock=some k):
 (w2.cell? ⟨qb+2,0,none⟩=some v∧w2.frozen? ⟨qb+2,0,none⟩=false)∧Hold (PA w.heap.size (qb+1) (qb+2)) Wb (w2.setCell ⟨qb+2,0,none⟩ v')∧PqI w qb base Aq nv cq vs (pre ++ [x]) (w2.setCell ⟨qb+2,0,none⟩ v'):=by
 obtain⟨u,⟨hu,hf⟩,ho⟩:=ht.row
 rw [hv] at hu
 cases hu
 obtain⟨h1,h2,h3,h4⟩:=row_put hv hf ho (by omega) ho' hg hnew
 have e:spvs out ++ [.int .i64 (a:Int),.int .i64 (b:Int),.string S]=spvs (out ++ [spOf x.2.2]):=by
  rw [←spvs_snoc,ha,hb,←hS]
  rfl
 rw [e,show out.length+1=(out ++ [spOf x.2.2]).length by simp] at h2
 obtain⟨k1,k2⟩:=two_app ht (by omega) (by omega) (by omega) h2 h3
 refine⟨h1,hH.trans (pa_hold k2),(ws,out ++ [spOf x.2.2]),hpl,k1,hrX.below (by omega) h4,hak.under (by omega) (fun a e=>by have:=hA a e;omega) h4 h3.1,?_,hbX.trans (h4.mono (by omega))⟩
 obtain⟨m,hm⟩:=hM
 exact⟨m,(h4.cell (p:=⟨1,0,none⟩) (by show 1<qb+2;omega)).trans hm⟩
theorem tin_blocks {W W':World} {b:Nat} {A:Option Addr} {c:Nat} {ls:List Sp} (h:TIn W (some ⟨b,0,none⟩) A c ls) (hs:W.heap.size≤W'.heap.size) (hb:W'.heap[b]? = W.heap[b]?) (hA:∀ a,A=some a→a.block<W.heap.size→W'.heap[a.block]? = W.heap[a.block]?):TIn W' (some ⟨b,0,none⟩) A c ls:=by
 rcases h with ⟨h,-⟩ | ⟨b',e,hlt,hc,hS,hl⟩
 · cases h
 · cases e
   refine .inr ⟨b,rfl,by omega,(World.cell?_of_block (a:=⟨b,0,none⟩) hb).trans hc,⟨hS.1,fun hn=>?_⟩,hl⟩
   obtain⟨g,off,rfl,hlt',hcs⟩:=hS.2 hn
   have e:=hA _ rfl hlt'
   refine⟨g,off,rfl,by omega,fun j s hj=>?_⟩
   obtain⟨h1,h2,h3⟩:=hcs j s hj
   exact⟨(World.cell?_of_block (a:=⟨g,off+j*3,none⟩) e).trans h1,(World.cell?_of_block (a:=⟨g,off+j*3+1,none⟩) e).trans h2,(World.cell?_of_block (a:=⟨g,off+j*3+2,none⟩) e).trans h3⟩
theorem done_end {w W3 W5:World} {D b:Nat} {l:List UInt8} {vs:List (List UInt8)} {out:List Sp} (hfin:propOf vs (linesIn l)=⟨out,0,0⟩) (hrb:RB3 w.heap.size none 0 0 W3) (hbb:Below w.heap.size w W3) (hKD:W3.heap[D]? = some (.deferred (some []))) (hD:w.heap.size+2<D)
 (h5:Below W3.heap.size W3 W5) (hT:∃ A c,TIn W5 (some ⟨b,0,none⟩) A c (sorted out)∧(W3.heap.size≤b∧∀ a,A=some a→W3.heap.size≤a.block)):
 (RB3 w.heap.size none 0 0 W5∧(rb3_set w.heap.size (some ⟨b,0,none⟩) 0 0 W5).heap[D]? = some (.deferred (some [])))∧RB3 w.heap.size (some ⟨b,0,none⟩) 0 0 (rb3_set w.heap.size (some ⟨b,0,none⟩) 0 0 W5) ∧
 PrPost vs l w (.returned (.tuple #[.pointer (some ⟨b,0,none⟩),.int .i64 0,.int .i64 0])) ((rb3_set w.heap.size (some ⟨b,0,none⟩) 0 0 W5).putObj D (.deferred none)):=by
 have hDl:D<W3.heap.size:=(Array.getElem?_eq_some_iff.1 hKD).1
 have hl:=rb3_lt hrb
 have hr5:=hrb.below hl h5
 have hk:(rb3_set w.heap.size (some ⟨b,0,none⟩) 0 0 W5).heap[D]? = some (.deferred (some [])):=by
  rw [rb3_other ⟨by omega,by omega,by omega⟩]
  exact (h5.block D hDl).trans hKD
 have hb5:=hbb.trans (h5.mono hbb.size)
 refine⟨⟨hr5,hk⟩,rb3_new hr5,(rb3_below hb5).trans (belowK_b (w:=w) (Nat.le_refl _) _ D _ _ (by omega) hk rfl rfl),.inl ⟨by rw [hfin],?_⟩⟩
 obtain⟨A,c,hT,hb,hA⟩:=hT
 refine⟨b,A,c,rfl,?_⟩
 rw [hfin]
 refine tin_blocks hT (by rw [World.putObj_size,rb3_size];exact Nat.le_refl _) ?_ (fun a e hlt=>?_)
 · rw [World.putObj_heap_other (by omega),rb3_other ⟨by omega,by omega,by omega⟩]
 · have:=hA a e
   rw [World.putObj_heap_other (by omega),rb3_other ⟨by omega,by omega,by omega⟩]
theorem new_at {hN:NewOk} {vs:List (List UInt8)} {xs:List LnV} {out:List Sp} {base:Nat} {v:Value} {W:World} (hst:stOf vs xs=.at out) (ho:W.ownsRow base 176 3 v out.length (spvs out)) (hl:out.length≤100000):
 ∃ A c,v=.slice A out.length c∧Calls Tryz.prog 117 #[.slice A out.length c] W fun e w'=>∃ b,e=.returned (.tuple #[.pointer (some ⟨b,0,none⟩),.int .i64 0])∧Hid (Below W.heap.size W w'∧∃ A c,TIn w' (some ⟨b,0,none⟩) A c (sorted out)∧(W.heap.size≤b∧∀ a,A=some a→W.heap.size≤a.block)):=by
 have hfl:∀ A n c,v=.slice A n c→Flat A:=fun A n c e=>by
  rcases ho.2 with ⟨h,-⟩ | ⟨g,cap,cur,h,-⟩
  · rw [h] at e;cases e;exact .inl rfl
  · rw [h] at e;cases e;exact .inr ⟨g,0,rfl⟩
 obtain⟨A,c,e,hc,hS,h0⟩:=own_sat ho
 exact⟨A,c,e,hN A out.length c out W hS (hfl _ _ _ e) h0 hc hl (sorted out) (came_at hst)⟩
set_option maxRecDepth 100000 in
set_option maxHeartbeats 4000000 in
theorem pparse_of (hNew:NewOk) (A:Option Addr) (n c:Nat) (l:List UInt8) (V:Option Addr) (nv cv:Nat) (vs:List (List UInt8)) (w:World) (hO:Octs w A n l) (hn:n≤4000) (hV:Vals w V nv (strs vs)) (hnv:nv≤1000) (hM:ML w):Calls Tryz.prog 78 #[.slice A n c,.slice V nv cv] w (PrPost vs l w):=by
 obtain⟨i0,hi,hz0,hz1,hz2⟩:=info_parts info41
 have hlv:vs.length=nv:=by have:=hV.1;rwa [strs_length] at this
 have h0w:1<w.heap.size:=by obtain⟨mm,hmm⟩:=hM;exact World.block_lt_of_cell? w _ hmm
 have hb3:Below w.heap.size w (((w.alloc (.cells #[.pointer none] 74)).alloc (.cells #[.int .i64 0] 40)).alloc (.cells #[.int .i64 0] 3)):=(((Below.refl _ _).alloc (Nat.le_refl _) _).alloc (by simp) _).alloc (by simp;omega) _
 have hs3:(((w.alloc (.cells #[.pointer none] 74)).alloc (.cells #[.int .i64 0] 40)).alloc (.cells #[.int .i64 0] 3)).heap.size=w.heap.size+3:=by simp
 have hrb3:RB3 w.heap.size none 0 0 (((w.alloc (.cells #[.pointer none] 74)).alloc (.cells #[.int .i64 0] 40)).alloc (.cells #[.int .i64 0] 3)):=by
  have n1:=box_new w (.pointer none) 74
  have n2:=box_new (w.alloc (.cells #[.pointer none] 74)) (.int .i64 0) 40
  have n3:=box_new ((w.alloc (.cells #[.pointer none] 74)).alloc (.cells #[.int .i64 0] 40)) (.int .i64 0) 3
  rw [World.size_alloc] at n2
  rw [World.size_alloc,World.size_alloc] at n3
  exact⟨⟨box_cell _ (box_cell _ n1.1),box_frozen _ (box_cell _ n1.1) (box_frozen _ n1.1 n1.2)⟩,⟨box_cell _ n2.1,box_frozen _ n2.1 n2.2⟩,n3⟩
 obtain⟨W0,hW0⟩:∃ W0,((w.alloc (.cells #[.pointer none] 74)).alloc (.cells #[.int .i64 0] 40)).alloc (.cells #[.int .i64 0] 3)=W0:=⟨_,rfl⟩
 rw [hW0] at hb3 hs3 hrb3
 have c20:=callsIn_wide (n:=8) |>.2 (values20 V nv cv W0)
 have hb4:Below W0.heap.size W0 (W0.alloc (.cells #[.slice V nv cv] 95)):=(Below.refl _ _).alloc (Nat.le_refl _) _
 have c19:=callsIn_wide (n:=8) |>.2 (sorted19 W0.heap.size nv cv V vs (W0.alloc (.cells #[.slice V nv cv] 95)) (by omega) (by simp) (by simp) ((hV.below hb3).below hb4))
 rw [hlv.symm] at hnv
 have HV:=Lib.hid hV
 have HO:=Lib.hid hO
 have HOL:Hid (l.length≤4000):=Lib.hid (by rw [hO.len];exact hn)
 have HM:=Lib.hid hM
 have HN:=Lib.hid hNew
 have HB:=Lib.hid (And.intro hb3 (And.intro hs3 (And.intro hrb3 hb4)))
 clear hV hO hM hNew hb3 hs3 hrb3 hb4
 unfold StPost at c19
 rw [hlv] at c19
 refine (callsIn_wide (n:=9)).1 ?_
 refine callsIn_of_wp_marks Tryz.func78 rfl trivial ?_ rfl
 simp only [Tryz.ntmps78,List.size_toArray,List.length_cons,List.length_nil,Nat.reduceAdd,Nat.reduceSub,Array.replicate_succ,Array.replicate_zero,List.push_toArray,List.append_toArray,List.nil_append,List.cons_append]
 gi_wp2_with (first
  | (refine⟨trivial,?_⟩;gi_at_call 113;(with_reducible refine c20.mono ?_);rintro e w' ⟨rfl,rfl⟩)
  | (refine⟨trivial,?_⟩;gi_at_call 112;(with_reducible refine c19.mono ?_);rintro e W2 ⟨hb2,Aq,cq,rfl,hvq⟩))
 clear c20 c19
 obtain⟨hb3,hs3,hrb3,hb4⟩:=HB.out
 have hbW2:Below w.heap.size w W2:=(hb3.trans (hb4.mono hb3.size)).trans (hb2.mono (by rw [World.size_alloc];omega))
 have hs2:w.heap.size+4≤W2.heap.size:=by have:=hb2.size;rw [World.size_alloc] at this;omega
 have hrb2:RB3 w.heap.size none 0 0 W2:=(hrb3.below (by omega) hb4).below (by rw [World.size_alloc];omega) hb2
 obtain⟨pa1,-,pa3,pa4⟩:=par_first W2 Aq nv cq 0 vs hvq.out.1
 have pa2:=fun base=>(par_first W2 Aq nv cq base vs hvq.out.1).2.1
 have hb23:Below w.heap.size w (((W2.alloc (.cells #[.slice Aq nv cq] 95)).alloc (.cells #[.slice none 0 0] 174)).alloc (.cells #[.slice none 0 0] 175)):=hbW2.trans (pa3.mono hbW2.size)
 have c21:=callsIn_wide (n:=8) |>.2 (lines9 A n c l _ (HO.out.below hb23) (by omega))
 have hrb23:=hrb2.below (by omega) pa3
 have HP2:=Lib.hid pa2
 have HP1:=Lib.hid (And.intro pa1 (And.intro hb23 (And.intro hrb23 (And.intro pa4 hs2))))
 have HQ2:Hid (∀ a,Aq=some a→a.block<W2.heap.size):=Lib.hid (fun a e=>(hvq.out.2 a e).2)
 clear pa1 pa2 pa3 hb23 hrb23 hrb2 hbW2 hb2 hvq hb3 hs3 hrb3 hb4 HB HO HV hW0
 refine⟨trivial,?_⟩
 refine c21.mono ?_
 rintro e W4 ⟨hb1,B,P,c',rfl,hB0,hB1,hBc,hOc,hcc,hPc,hPb⟩
 clear c21
 gi_wp2
 obtain⟨ha1,hbW,hrb,hsz,hs2⟩:=HP1.out
 have hs1:=hb1.size
 rw [hsz] at hs1 hB0 hPb
 have ha4:=ha1.under (B:=W2.heap.size+3) (by omega) (fun a e=>by have:=HQ2.out a e;omega) (by rw [←hsz];exact hb1) hb1.size
 have ht4:=(HP2.out (W4.heap.size+2)).below hb1
 have hr4:=hrb.below (by omega) hb1
 have hb4:Below w.heap.size w W4:=hbW.trans (hb1.mono hbW.size)
 have hm4:ML W4:=HM.out.below hb4
 have hga:∀ k,k≠w.heap.size→k≠w.heap.size+1→k≠w.heap.size+2→k≠W2.heap.size+1→k≠W2.heap.size+2→PA w.heap.size (W2.heap.size+1) (W2.heap.size+2) W4 k:=fun k h1 h2 h3 h4 h5=>by
  obtain⟨vt,vp,⟨⟨q1,-⟩,o1⟩,⟨⟨q2,-⟩,o2⟩,-⟩:=ht4
  have e1:vt=.slice none 0 0:=by
   rcases o1.2 with ⟨e,-⟩ | ⟨g,cap,cur,e,hg,hgg,-⟩
   · exact e
   · have:=(Array.getElem?_eq_some_iff.1 hgg).1;omega
  have e2:vp=.slice none 0 0:=by
   rcases o2.2 with ⟨e,-⟩ | ⟨g,cap,cur,e,hg,hgg,-⟩
   · exact e
   · have:=(Array.getElem?_eq_some_iff.1 hgg).1;omega
  exact⟨⟨⟨vt,q1,h4,fun e=>by rw [e1] at e;cases e⟩,vp,q2,h5,fun e=>by rw [e2] at e;cases e⟩,h1,h2,h3⟩
 have hq:=fiter30 8 B n c' P l (PA w.heap.size (W2.heap.size+1) (W2.heap.size+2)) W4 (pa_lets _ _ _) (by omega) (by omega) hB1 hBc hOc (fun a e=>by have:=hPb a e;exact⟨hga _ (by omega) (by omega) (by omega) (by omega) (by omega),this.2⟩) (hga 1 (by omega) (by omega) (by omega) (by omega) (by omega)) hm4 hPc hcc
 have h0:PqI w W2.heap.size (W4.heap.size+2) Aq nv cq vs [] W4:=⟨([],[]),⟨⟨rfl,Nat.le_refl _⟩,⟨tells_nil,by decide⟩,fun t h=>by cases h⟩,ht4,hr4,ha4,hm4,hb4⟩
 have HQ:=Lib.hid hq
 have H0:=Lib.hid h0
 have HSZ:Hid (w.heap.size+4≤W2.heap.size∧W2.heap.size+3≤W4.heap.size):=Lib.hid ⟨hs2,hs1⟩
 clear hq h0 hs1 ha4 ht4 hr4 hb4 hm4 hga ha1 hbW hrb hsz hs2 HP1 HP2 hb1 hB0 hB1 hBc hOc hcc hPc hPb pa4
 refine range_free2 rfl (by omega) rfl trivial (enters_of Tryz.func134 (by kernel_rfl) rfl) HQ.out (pa_lets _ _ _) (fun _=>rfl) (fun x=>flnRd_abide _ _ x _)
  (PqI w W2.heap.size (W4.heap.size+2) Aq nv cq vs) (PpX w vs) (pqi_abide w _ _ _ _ _ _ _ (by have:=HSZ.out;omega)) (ppx_abide w _ _ (by have:=HSZ.out;omega)) ?fr H0.out (fun x b W=>(LBox x b W∧PA w.heap.size (W2.heap.size+1) (W2.heap.size+2) W b)∧w.heap.size+2<b) (fun x b=>((lbox_abide x b _).and ((pa_lets _ _ _).abide b _)).and (Abide.pure _ _ _ _)) ?a1 ?assign ?body ?done ?stop
 case fr=>
  rintro pre W ⟨s,-,ht,hrb,-⟩ k hk
  have h1:=two_free ht k hk
  have h2:=rb3_lt hrb
  exact⟨h1,by omega,by omega,by omega⟩
 case assign=>
  rintro lq pre x W' K hi hr hK
  simp only [lnVal]
  gi_wp2
  obtain⟨b',hb'⟩:∃ b',W'.heap.size=b':=⟨_,rfl⟩
  rw [hb']
  have hbo:∀ o,Below W'.heap.size W' (W'.alloc o):=fun o=>(Below.refl _ _).alloc (Nat.le_refl _) o
  refine hK b' _ (Hold.of_below (pa_lets _ _ _) (hbo _)) ((pqi_abide w _ _ _ _ _ _ W4.heap.size (by have:=HSZ.out;omega)).below hi (hbo _)) ((flnRd_abide _ _ x W4.heap.size).below (s:=()) hr (hbo _)) ?_
  rw [←hb']
  obtain⟨s,-,ht,hrb,-⟩:=hi
  have h2:=rb3_lt hrb
  exact⟨⟨⟨by simp,by simp⟩,(pa_lets _ _ _).below ⟨two_free ht _ (Nat.le_refl _),by omega,by omega,by omega⟩ (hbo _)⟩,h2⟩
 case body=>
  rintro lq pre x b' Wb ⟨⟨ws,out⟩,hpl,ht,hrb,hak,hMb,hbb⟩ hR hC hlen
  dsimp only at hpl ht
  obtain⟨⟨⟨l0,l1⟩,hPAb⟩,hbw⟩:=hC
  have hsz2:=HSZ.out
  have hbl:b'<Wb.heap.size:=World.block_lt_of_cell? Wb _ l0
  have hrl:=rb3_lt hrb
  by_cases hle:lineErr x.2.2=0
  · obtain⟨hfit,a,b,hsa,hsb,hab,hb2⟩:=range_fit hle
    have c22:=rs_good hR hn hMb hle hsa hsb
    have hqs:∀ W,Below Wb.heap.size Wb W→AskW W2.heap.size Aq nv cq (ascOf vs) W:=fun W hW=>(ask_abide (β:=Unit) (B:=Wb.heap.size)).below (s:=()) hak hW
    have c23:=fun W hW=>isasked23 Aq nv cq (ascOf vs) (pfld x.2.2 1) W (hqs W hW).2 (asc_asc vs) (by omega)
    simp only [among_perm (asc_perm vs)] at c23
    have hq0:=hak.1
    have hql:W2.heap.size<Wb.heap.size:=World.block_lt_of_cell? Wb _ hq0
    obtain⟨F,hF⟩:∃ F,x.2.1=F:=⟨_,rfl⟩
    obtain⟨m,hm⟩:∃ m,x.2.2.length=m:=⟨_,rfl⟩
    obtain⟨S,hS⟩:∃ S,bs (pfld x.2.2 1)=S:=⟨_,rfl⟩
    have l1':=l1
    rw [hF,hm] at l1' c22
    rw [hS] at c22
    simp only [hS] at c23
    cases ham:amongB vs (pfld x.2.2 1) with
    | false=>
     have hend:∀ W,Below Wb.heap.size Wb W→Hold (PA w.heap.size (W2.heap.size+1) (W2.heap.size+2)) Wb W∧PqI w W2.heap.size (W4.heap.size+2) Aq nv cq vs (pre ++ [x]) W:=fun W hW=>
      ⟨Hold.of_below (pa_lets _ _ _) hW,(pqi_abide w _ _ _ _ _ _ W4.heap.size (by omega)).below ⟨(ws,out),pl_skip hpl hle ham,ht,hrb,hak,hMb,hbb⟩ hW⟩
     rw [ham] at c23
     have C23:=Lib.hid c23
     have HEND:=Lib.hid hend
     clear hend c23 hqs hpl ht hrb hak hMb hbb hR hlen hF hm hS ham hPAb hfit hsa hsb hle l1 hab hb2
     gi_wp2_with (first
      | (refine⟨trivial,?_⟩;gi_at_call 114;refine (CallsIn.inRound lq (callsIn_wide.2 c22)).mono ?_;rintro e w1 ⟨rfl,hb1⟩;have hx1:Below Wb.heap.size Wb (w1.alloc (.cells #[.int .i64 (a:Int),.int .i64 (b:Int),.string S] 176)):=hb1.alloc hb1.size _;have k23:=C23.out _ hx1;have HX1:=Lib.hid hx1;have q1:=(hb1.cell (p:=⟨W2.heap.size,0,none⟩) hql).trans hq0;have q2:=(hx1.cell (p:=⟨W2.heap.size,0,none⟩) hql).trans hq0;clear hb1 hx1)
      | (refine⟨trivial,?_⟩;gi_at_call 115;refine (CallsIn.inRound lq (callsIn_wide.2 k23)).mono ?_;rintro e w2 ⟨rfl,q,rfl⟩))
     exact HEND.out _ (below_drewN HX1.out q)
    | true=>
     rw [ham] at c23
     have hbs:W4.heap.size+2≤Wb.heap.size:=hR.2.1
     have HT:=Lib.hid ht
     have hlo:out.length≤200001:=by have:=hpl.1.2;omega
     by_cases hck:check out (spOf x.2.2)=0
     · have c24:=fun W (hW:Below Wb.heap.size Wb W)=>add_yes hpl (ht.below hW).set hfit hsa hsb hab hb2 (show W2.heap.size+1<W4.heap.size+2 by omega) (by have:=hW.size;omega) hck
       have hat:=fun W X ws' hW hr hh hb=>added_at (w:=w) (X:=X) (W:=W) (ws':=ws') ht hrb hak hMb hbb (by omega) (show W2.heap.size+2<W4.heap.size+2 by omega) HQ2.out hW hr hh hb
       have hplA:=fun ws' h=>pl_add (ws':=ws') hpl hle ham hck hfit h
       have C23:=Lib.hid c23
       have C24:=Lib.hid c24
       have HAT:=Lib.hid hat
       have HPL:=Lib.hid hplA
       have HSS:=Lib.hid (And.intro hsa (And.intro hsb hS))
       have m3:out.length+1≤maxLen:=by simp only [maxLen];omega
       have m4:(out.length+1)*32≤140737488355328:=by omega
       clear c24 hat hplA c23 hqs hpl ht hrb hak hMb hbb hR hlen hF hm hS ham hPAb hfit hsa hsb hle l1 hab hb2 hck
       gi_wp2_with (first
        | (refine⟨trivial,?_⟩;gi_at_call 114;refine (CallsIn.inRound lq (callsIn_wide.2 c22)).mono ?_;rintro e w1 ⟨rfl,hb1⟩;have hx1:Below Wb.heap.size Wb (w1.alloc (.cells #[.int .i64 (a:Int),.int .i64 (b:Int),.string S] 176)):=hb1.alloc hb1.size _;have k23:=C23.out _ hx1;have HX1:=Lib.hid hx1;have HGA:=Lib.hid ((ga_lets (W2.heap.size+1)).below (two_free (HT.out.below hb1) w1.heap.size (Nat.le_refl _)).1 ((Below.refl _ w1).alloc (Nat.le_refl _) (.cells #[.int .i64 (a:Int),.int .i64 (b:Int),.string S] 176)));have q1:=(hb1.cell (p:=⟨W2.heap.size,0,none⟩) hql).trans hq0;have q2:=(hx1.cell (p:=⟨W2.heap.size,0,none⟩) hql).trans hq0;clear hb1 hx1)
        | (refine⟨trivial,?_⟩;gi_at_call 115;refine (CallsIn.inRound lq (callsIn_wide.2 k23)).mono ?_;rintro e w2 ⟨rfl,q,rfl⟩;have k24:=C24.out _ (below_drewN HX1.out q))
        | (refine⟨trivial,?_⟩;gi_at_call 116;refine (CallsIn.inRound lq (callsIn_wide.2 k24)).mono ?_;rintro e X ⟨rfl,ws',hh⟩;obtain⟨htl,hrow,hhold,hbel⟩:=hh.out;have hA:=HAT.out _ X ws' (below_drewN HX1.out q) hrow hhold hbel;have hgw:=(ga_lets (W2.heap.size+1)).below HGA.out (below_drewN (Below.refl _ _) q);have y0:=hhold.cell (a:=⟨w1.heap.size,0,none⟩) hgw (box_drew w1 a b S q).1;have y1:=hhold.cell (a:=⟨w1.heap.size,1,none⟩) hgw (box_drew w1 a b S q).2.1;have y2:=hhold.cell (a:=⟨w1.heap.size,2,none⟩) hgw (box_drew w1 a b S q).2.2;obtain⟨u,⟨hv,hf⟩,ho⟩:=hA.1.row;have HOW:=Lib.hid ho;have HEND:=Lib.hid (fun w3 v' ho' hg hnew=>app_end (w2:=w3) (v':=v') (HPL.out ws' htl) HSS.out.1 HSS.out.2.1 HSS.out.2.2 hA.1 hA.2.1 hA.2.2.1 hA.2.2.2.1 hA.2.2.2.2.1 hA.2.2.2.2.2 (by omega) (by omega) HQ2.out hv ho' hg hnew);have hbX:W4.heap.size+2≤X.heap.size:=Nat.le_trans hbs hA.2.1.1;obtain⟨Av,cv,rfl,-⟩:=own_shape ho;have hv':X.cell? ⟨W2.heap.size+1+1,0,none⟩=some (.slice Av out.length cv):=hv;clear hh htl hrow hhold hbel hA hgw ho hf hv k24 k23 c22)
        | (gi_at_builtin;refine append_lit_at rfl _ _ 175 rfl (W4.heap.size+2) 176 i0 (.agg #[.int .i64 0,.int .i64 0,.string ⟨#[]⟩]) 3 32 Tryz.underlying175 hi hz0 hz1 hz2 rfl (by decide) _ _ _ rfl HOW.out [.int .i64 (a:Int),.int .i64 (b:Int),.string S] rfl (by simp [Value.oneCell']) rfl m3 m4 hbX ?_;intro v' w3 hown' hg' hnw';obtain⟨⟨kc1,kc2⟩,R1⟩:=HEND.out w3 v' hown' hg' hnw';have HR:=Lib.hid R1;have kc1':w3.cell? ⟨W2.heap.size+1+1,0,none⟩=some (.slice Av out.length cv):=kc1;have kc2':w3.frozen? ⟨W2.heap.size+1+1,0,none⟩=false:=kc2;obtain⟨Av2,cv2,rfl,-⟩:=own_shape hown';clear hown' hg' hnw' R1 kc1 kc2))
       exact HR.out
     · have c24:=fun W (hW:Below Wb.heap.size Wb W)=>add_no hpl (ht.below hW).set hfit hsa hsb hab hb2 (show W2.heap.size+1<W4.heap.size+2 by omega) (by have:=hW.size;omega) hck
       have hat:=fun W X ws' hW hr hh hb=>added_at (w:=w) (X:=X) (W:=W) (ws':=ws') ht hrb hak hMb hbb (by omega) (show W2.heap.size+2<W4.heap.size+2 by omega) HQ2.out hW hr hh hb
       have hst:check out (spOf x.2.2)=15→stOf vs (pre ++ [x])=.bad 15 x.1:=fun e=>by rw [st_snoc,hpl.1.1,←e];exact step_bad (x:=view x) hle ham hck
       obtain⟨num,hnum⟩:∃ m,x.1=m:=⟨_,rfl⟩
       rw [hnum] at l0 hst
       have C23:=Lib.hid c23
       have C24:=Lib.hid c24
       have HAT:=Lib.hid hat
       have HST:=Lib.hid hst
       have HPAB:=Lib.hid hPAb
       clear c24 hat hst c23 hqs hpl ht hrb hak hMb hbb hR hlen hF hm hS ham hPAb hfit hsa hsb hle l1 hab hb2 hck hnum
       gi_wp2_with (first
        | (refine⟨trivial,?_⟩;gi_at_call 114;refine (CallsIn.inRound lq (callsIn_wide.2 c22)).mono ?_;rintro e w1 ⟨rfl,hb1⟩;have hx1:Below Wb.heap.size Wb (w1.alloc (.cells #[.int .i64 (a:Int),.int .i64 (b:Int),.string S] 176)):=hb1.alloc hb1.size _;have k23:=C23.out _ hx1;have HX1:=Lib.hid hx1;have q1:=(hb1.cell (p:=⟨W2.heap.size,0,none⟩) hql).trans hq0;have q2:=(hx1.cell (p:=⟨W2.heap.size,0,none⟩) hql).trans hq0;clear hb1 hx1)
        | (refine⟨trivial,?_⟩;gi_at_call 115;refine (CallsIn.inRound lq (callsIn_wide.2 k23)).mono ?_;rintro e w2 ⟨rfl,q,rfl⟩;have k24:=C24.out _ (below_drewN HX1.out q))
        | (refine⟨trivial,?_⟩;gi_at_call 116;refine (CallsIn.inRound lq (callsIn_wide.2 k24)).mono ?_;rintro e X ⟨rfl,ws',hh⟩;have HHH:=Lib.hid hh;clear hh k24 k23 c22))
       have hmx:Tryz.prog.follows .mixedOrders=true:=by kernel_rfl
       obtain⟨hc15,hrow,hhold,hbel⟩:=HHH.out.out
       have hA:=HAT.out _ X ws' (below_drewN HX1.out q) hrow hhold hbel
       have l0':=hA.2.1.cell (a:=⟨b',0,none⟩) HPAB.out l0
       have HEND:=Lib.hid (wrong_end (vs:=vs) (pre:=pre ++ [x]) hA.2.1 hA.2.2.1 hA.2.2.2.2.2 (by omega) (by omega) (HST.out hc15) (by decide))
       obtain⟨⟨r1,r2⟩,⟨r3,r4⟩,r5,r6⟩:=hA.2.2.1
       have l0d:X.drew.cell? ⟨b',0,none⟩=some (.int .i64 num):=l0'
       have r1d:X.drew.cell? ⟨w.heap.size,0,none⟩=some (.pointer none):=r1
       have r2d:X.drew.frozen? ⟨w.heap.size,0,none⟩=false:=r2
       have r3d:X.drew.cell? ⟨w.heap.size+1,0,none⟩=some (.int .i64 0):=r3
       have r4d:X.drew.frozen? ⟨w.heap.size+1,0,none⟩=false:=r4
       have r5d:X.drew.cell? ⟨w.heap.size+1+1,0,none⟩=some (.int .i64 0):=r5
       have r6d:X.drew.frozen? ⟨w.heap.size+1+1,0,none⟩=false:=r6
       have r5e:X.cell? ⟨w.heap.size+1+1,0,none⟩=some (.int .i64 0):=r5
       have r6e:X.frozen? ⟨w.heap.size+1+1,0,none⟩=false:=r6
       clear hA hrow hhold hbel hc15 HHH HAT HST HPAB HX1 C23 C24 HT l0
       have n0:¬b'=w.heap.size:=by omega
       have n1:¬b'=w.heap.size+1:=by omega
       have n2:¬b'=w.heap.size+1+1:=by omega
       have n3:¬w.heap.size=b':=by omega
       have n4:¬w.heap.size+1=b':=by omega
       have n5:¬w.heap.size+1+1=b':=by omega
       gi_region_elder_o
       all_goals (gi_wp2;exact HEND.out)
  · obtain⟨E,hE⟩:∃ E,lineErr x.2.2=E:=⟨_,rfl⟩
    have c22:=rs_wrong hR hn hMb hE
    have hst:stOf vs (pre ++ [x])=.bad E x.1:=by rw [st_snoc,hpl.1.1,←hE];exact step_err (x:=view x) hle
    rw [hE] at hle
    have hx1:(E==0)=false:=beq_false_of_ne hle
    have hx2:(E != 0)=true:=bne_iff_ne.2 hle
    have HRB:=Lib.hid hrb
    have HT:=Lib.hid ht
    have HPAB:=Lib.hid hPAb
    have HST:=Lib.hid (And.intro hst hle)
    have HBB:=Lib.hid hbb
    obtain⟨F,hF⟩:∃ F,x.2.1=F:=⟨_,rfl⟩
    obtain⟨m,hm⟩:∃ m,x.2.2.length=m:=⟨_,rfl⟩
    obtain⟨num,hnum⟩:∃ m,x.1=m:=⟨_,rfl⟩
    rw [hF,hm] at l1 c22
    rw [hnum] at l0 HST
    clear hpl ht hrb hak hMb hbb hR hlen hst hE hle hF hm hnum hPAb
    gi_wp2_with (refine⟨trivial,?_⟩;gi_at_call 114;refine (CallsIn.inRound lq (callsIn_wide.2 c22)).mono ?_;rintro e w1 ⟨sa,sb,S,rfl,hb1⟩;have HB1:=Lib.hid hb1;have HRB2:=Lib.hid (HRB.out.below hrl hb1);obtain⟨⟨r1,r2⟩,⟨r3,r4⟩,r5,r6⟩:=HRB2.out;have l0':=(hb1.cell (p:=⟨b',0,none⟩) hbl).trans l0;clear hb1)
    have hmx:Tryz.prog.follows .mixedOrders=true:=by kernel_rfl
    have hba:Below w1.heap.size w1 (w1.alloc (.cells #[.int .i64 sa,.int .i64 sb,.string S] 176)):=(Below.refl _ _).alloc (Nat.le_refl _) _
    have hX:=HB1.out.trans (hba.mono HB1.out.size)
    clear hba
    obtain⟨X,hXe⟩:∃ X,w1.alloc (.cells #[.int .i64 sa,.int .i64 sb,.string S] 176)=X:=⟨_,rfl⟩
    rw [hXe] at hX ⊢
    have HEND:=Lib.hid (wrong_end (vs:=vs) (pre:=pre ++ [x]) (Hold.of_below (pa_lets w.heap.size (W2.heap.size+1) (W2.heap.size+2)) hX) (HRB.out.below hrl hX) (HBB.out.trans (hX.mono HBB.out.size)) (by omega) (by omega) HST.out.1 HST.out.2)
    have HRX:=Lib.hid (HRB.out.below hrl hX)
    clear r1 r2 r3 r4 r5 r6 l0' HRB2
    obtain⟨⟨r1,r2⟩,⟨r3,r4⟩,r5,r6⟩:=HRX.out
    have l0':=(hX.cell (p:=⟨b',0,none⟩) hbl).trans l0
    have l0d:X.drew.cell? ⟨b',0,none⟩=some (.int .i64 num):=l0'
    have r1d:X.drew.cell? ⟨w.heap.size,0,none⟩=some (.pointer none):=r1
    have r2d:X.drew.frozen? ⟨w.heap.size,0,none⟩=false:=r2
    have r3d:X.drew.cell? ⟨w.heap.size+1,0,none⟩=some (.int .i64 0):=r3
    have r4d:X.drew.frozen? ⟨w.heap.size+1,0,none⟩=false:=r4
    have r5d:X.drew.cell? ⟨w.heap.size+1+1,0,none⟩=some (.int .i64 0):=r5
    have r6d:X.drew.frozen? ⟨w.heap.size+1+1,0,none⟩=false:=r6
    have r5e:X.cell? ⟨w.heap.size+1+1,0,none⟩=some (.int .i64 0):=r5
    have r6e:X.frozen? ⟨w.heap.size+1+1,0,none⟩=false:=r6
    clear hX hXe l0 l1 HB1 c22 HPAB HT HST HBB HRB HRX
    have n0:¬b'=w.heap.size:=by omega
    have n1:¬b'=w.heap.size+1:=by omega
    have n2:¬b'=w.heap.size+1+1:=by omega
    have n3:¬w.heap.size=b':=by omega
    have n4:¬w.heap.size+1=b':=by omega
    have n5:¬w.heap.size+1+1=b':=by omega
    gi_region_elder_o
    all_goals (gi_wp2;exact HEND.out)
 case done=>
  rintro D xs W3 hD hxs ⟨⟨ws,out⟩,hpl,ht,hrb,hak,hMb,hbb⟩ hKD
  dsimp only at hpl ht
  have hsz:=HSZ.out
  have hlx:xs.length=(linesIn l).length:=by rw [←hxs,List.length_map]
  have hlo:out.length≤100000:=by have h1:=hpl.1.2;have h2:=lines_few (l:=l);have h3:=HOL.out;omega
  obtain⟨v,⟨hv,-⟩,ho⟩:=ht.row
  obtain⟨Ap,cp,rfl,c25⟩:=new_at (hN:=HN.out) hpl.1.1 ho hlo
  have hend:=fun W5 b h5 hT=>done_end (W5:=W5) (b:=b) (st_all hpl.1.1 hxs) hrb hbb hKD (by omega) h5 hT
  have HEND:=Lib.hid hend
  have hv':W3.cell? ⟨W2.heap.size+1+1,0,none⟩=some (.slice Ap out.length cp):=hv
  clear hend hpl ht hrb hak hMb hbb hxs hlx ho hv hsz
  gi_wp2_with (refine⟨trivial,?_⟩;gi_at_call 117;refine (callsIn_wide.2 c25).mono ?_;rintro e W5 ⟨b,rfl,hT⟩;have HE:=Lib.hid (HEND.out W5 b hT.out.1 hT.out.2);obtain⟨⟨r1,r2⟩,⟨r3,r4⟩,r5,r6⟩:=HE.out.1.1;have r5':W5.cell? ⟨w.heap.size+1+1,0,none⟩=some (.int .i64 0):=r5;have r6':W5.frozen? ⟨w.heap.size+1+1,0,none⟩=false:=r6;clear r5 r6 hT)
  exact leave9 rfl rfl rfl HE.out.1.2 HE.out.2.1 HE.out.2.2
 case stop=>
  rintro D c2 pre W3 hD hpre ⟨s,⟨rfl,hst,hne⟩,hrb,hbw⟩ hKD
  have hres:=st_bad hst hpre
  have HP:Hid (PrPost vs l w (.returned (.tuple #[.pointer none,.int .i64 s.1,.int .i64 s.2])) (W3.putObj D (.deferred none))):=Lib.hid ⟨hbw.trans (belowK_b (w:=w) (Nat.le_refl _) W3 D _ _ (by have:=HSZ.out;omega) hKD rfl rfl),.inr ⟨by rw [hres];exact hne,by rw [hres]⟩⟩
  have HRB:=Lib.hid hrb
  clear hst hne hrb hbw hres hpre
  gi_wp2
  exact leave9 rfl rfl rfl hKD HRB.out HP.out
end Go.Proofs.YtbkgbhlmeeodgaaGreatDoor.Pq
