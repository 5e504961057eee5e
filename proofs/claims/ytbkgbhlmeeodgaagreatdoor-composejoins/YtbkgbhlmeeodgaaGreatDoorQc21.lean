/- A part. -/
import Derived.Test.YtbkgbhlmeeodgaaGreatDoorQc20
namespace Go.Proofs.YtbkgbhlmeeodgaaGreatDoor.Pq
open Go.RowKit Go.Shelf
attribute [local go_sem] Oper.semAt_some
def GA (bo:Nat) (W:World) (k:Nat):Prop:=∃ v,W.cell? ⟨bo,0,none⟩=some v∧k≠bo∧v.ownBlock≠some k
theorem ga_lets (bo:Nat):Lets (GA bo):=fun _ _ _ _ ⟨v,h1,h2⟩ hg hr=>⟨v,cell_kept h1 hg hr,h2⟩
def RowAt (t base:Nat) (e:TypeId) (size n:Nat) (xs:List Value) (W:World):Prop:=
 ∃ v,(W.cell? ⟨t,0,none⟩=some v∧W.frozen? ⟨t,0,none⟩=false)∧W.ownsRow base e size v n xs
theorem hold_two {R:Nat} {v:Value} {W W':World} (hv:W.cell? ⟨R,0,none⟩=some v) (hs:W.heap.size≤W'.heap.size) (hk:∀ k,k<W.heap.size→k≠R→v.ownBlock≠some k→W'.heap[k]? = W.heap[k]?)
 {v':Value} (hv':W'.cell? ⟨R,0,none⟩=some v') (ho:∀ k,k<W.heap.size→v'.ownBlock=some k→v.ownBlock=some k):Hold (GA R) W W':=by
 refine⟨hs,fun k ⟨u,h1,h2,h3⟩ hlt=>?_⟩
 rw [hv] at h1
 cases h1
 exact⟨hk k hlt h2 h3,v',hv',h2,fun e=>h3 (ho k hlt e)⟩
theorem info101:(Tryz.prog.info? 224).map (fun i=>(i.zero,i.size,i.bytes))=some (some (.int .u64 0),1,8):=by kernel_rfl
theorem row_put {t base:Nat} {e:TypeId} {size n m:Nat} {xs ys:List Value} {v v':Value} {W W2:World} (hv:W.cell? ⟨t,0,none⟩=some v) (hf:W.frozen? ⟨t,0,none⟩=false) (ho:W.ownsRow base e size v n xs) (htb:t<base)
 (ho':W2.ownsRow base e size v' m ys) (hg:W.grownBy W2 v.ownBlock) (hnew:∀ k,k<W.heap.size→v'.ownBlock=some k→v.ownBlock=some k):
 (W2.cell? ⟨t,0,none⟩=some v∧W2.frozen? ⟨t,0,none⟩=false)∧RowAt t base e size m ys (W2.setCell ⟨t,0,none⟩ v')∧Hold (GA t) W (W2.setCell ⟨t,0,none⟩ v')∧Below t W (W2.setCell ⟨t,0,none⟩ v'):=by
 have htl:t<W.heap.size:=World.block_lt_of_cell? W _ hv
 have hgb:∀ g,v.ownBlock=some g→base≤g:=fun g e=>(ho.lt g e).1
 have e0:W2.heap[t]? = W.heap[t]?:=hg.block t htl (fun e=>by have:=hgb t e.symm;omega)
 have c0:W2.cell? ⟨t,0,none⟩=some v:=(World.cell?_of_block e0).trans hv
 have f0:W2.frozen? ⟨t,0,none⟩=false:=(World.frozen?_of_block (a:=⟨t,0,none⟩) e0).trans hf
 have c1:(W2.setCell ⟨t,0,none⟩ v').cell? ⟨t,0,none⟩=some v':=World.cell?_setCell_same' _ _ _ (by rw [c0];rfl)
 refine⟨⟨c0,f0⟩,⟨v',⟨c1,by rw [World.frozen?_setCell];exact f0⟩,?_⟩,hold_two hv (by rw [World.size_setCell];exact hg.size) (fun k hk hkt hkv=>?_) c1 hnew,?_⟩
 · exact ho'.kept (grownBy_setCell' W2 t v') (by
    cases hq:v'.ownBlock with
    | none=>exact .inl rfl
    | some g=>exact .inr (fun h=>by cases h;have:=(ho'.lt t hq).1;omega))
 · rw [heap_setCell_other _ ⟨t,0,none⟩ k _ (fun e=>hkt (by simpa using e))]
   exact hg.block k hk (fun e=>hkv e.symm)
 · have hb:Below t W W2:=(Below.refl t W).grown hg (by omega) (fun g e=>by have:=hgb g e;omega)
   exact hb.setCell (p:=⟨t,0,none⟩) (Nat.le_refl _) _
theorem row_some {base:Nat} {e:TypeId} {size n:Nat} {v:Value} {xs:List Value} {W:World} (h:W.ownsRow base e size v n xs) (hx:0<n):∃ g c,v=.slice (some ⟨g,0,none⟩) n c∧base≤g∧g<W.heap.size:=by
 rcases h.2 with ⟨-,h0⟩ | ⟨g,cap,cur,rfl,hb,hg,-⟩
 · omega
 · exact⟨g,cap,rfl,hb,(Array.getElem?_eq_some_iff.1 hg).1⟩
theorem mx' {n:Nat} (h:n≤100000):n≤maxLen:=by simp only [maxLen];omega
def GrPost (t base b:Nat) (ws:List Nat) (W:World) (e:Ending) (W':World):Prop:=
 e=.returned (.tuple #[])∧∃ ws',Hid ((∃ m,ws'=moreW ws m)∧(b/64<ws'.length∧ws'.length≤17408)∧RowAt t base 224 1 ws'.length (words ws') W'∧Hold (GA t) W W'∧Below t W W')
set_option maxRecDepth 100000 in
set_option maxHeartbeats 2000000 in
theorem grow46 (t base b:Nat) (ws:List Nat) (W:World) (hR:RowAt t base 224 1 ws.length (words ws) W) (hw:ws.length≤17408) (hb:b≤1114111) (htb:t<base) (hbase:base≤W.heap.size):
 Calls Tryz.prog 147 #[.pointer (some ⟨t,0,none⟩),.int .i64 (b:Int)] W (GrPost t base b ws W):=by
 obtain⟨v,⟨hv,hf⟩,ho⟩:=hR
 obtain⟨i0,hi,hz0,hz1,hz2⟩:=info_parts info101
 have HO:=Lib.hid ho
 obtain⟨A,c,rfl,-⟩:=own_shape ho
 clear ho
 obtain⟨q,hq⟩:∃ q:Nat,b/64=q:=⟨_,rfl⟩
 have hq2:(b:Int)/64=(q:Int):=by omega
 have hqb:q≤17407:=by omega
 obtain⟨n,hn⟩:∃ n,ws.length=n:=⟨_,rfl⟩
 rw [hn] at hv hw HO
 by_cases hm:n<q+1
 · have hk0:0<q+1-n:=by omega
   obtain⟨v',w',hr,ho',hg',hnw⟩:=run_append_own_zeros (P:=Tryz.prog) W base 174 3 174 224 i0 (.int .u64 0) 8 .i64 .i64 Tryz.underlying174 Tryz.underlying3 hi hz0 hz1 hz2 rfl rfl _ n _ HO.out (q+1-n) hk0 (mx' (by omega)) (by omega) hbase
   have hall:=row_put hv hf HO.out htb ho' hg' hnw
   have h1:=hall.1.1
   have h2:=hall.1.2
   have HALL:=Lib.hid hall
   obtain⟨A',c',rfl,-⟩:=own_shape ho'
   rw [show ((q+1-n:Nat):Int)=(q:Int)+1-(n:Int) by omega] at hr
   clear hall ho' hg' hnw
   go_enter Tryz.func147,Tryz.ntmps147
   go_wp2_with (at_builtin;refine Lib.wpList_append_run _ rfl _ _ _ _ rfl _ _ rfl rfl _ _ hr ?_)
   go_end0
   refine⟨rfl,moreW ws (q+1-n),Lib.hid ⟨⟨_,rfl⟩,⟨by rw [more_len];omega,by rw [more_len];omega⟩,?_,HALL.out.2.2⟩⟩
   rw [more_words,more_len,hn]
   exact HALL.out.2.1
 · have HB:=Lib.hid (And.intro hq (And.intro hqb hm))
   go_enter Tryz.func147,Tryz.ntmps147
   go_wp2
   go_end0
   refine⟨rfl,ws,Lib.hid ⟨⟨0,by simp [moreW]⟩,⟨by omega,by omega⟩,?_,Hold.refl _ _,Below.refl _ _⟩⟩
   rw [hn]
   exact⟨_,⟨hv,hf⟩,HO.out⟩
end Go.Proofs.YtbkgbhlmeeodgaaGreatDoor.Pq
namespace Go.Proofs.YtbkgbhlmeeodgaaGreatDoor.Pq
open Go.RowKit
theorem info41:(Tryz.prog.info? 176).map (fun i=>(i.zero,i.size,i.bytes))=some (some (.agg #[.int .i64 0,.int .i64 0,.string ⟨#[]⟩]),3,32):=by kernel_rfl
def Flat (A:Option Addr):Prop:=A=none∨∃ b off,A=some ⟨b,off,none⟩
end Go.Proofs.YtbkgbhlmeeodgaaGreatDoor.Pq
namespace Go.Proofs.YtbkgbhlmeeodgaaGreatDoor.Pq
open Go.RowKit Go.Shelf
attribute [local go_sem] Oper.semAt_some
theorem append_lit_at {F:Fence} {m:Nat} {P:Program} {w:World} {ops:Array Oper} {rest:List Oper} {o:Oper} {a:Act} {Q:Exit→Act→World→Prop} (hgd:o.guard=none) (s x:Operand) (t:TypeId)
 (ho:o.op=.call { callee:=.builtin .append,args:=#[s,x],argTypes:=#[t,t] })
 (base:Nat) (e:TypeId) (i:TypeInfo) (z:Value) (size bytes:Nat) (ht:P.underlying t=some (.slice e)) (hi:P.info? e=some i) (hz:i.zero=some z)
 (hsize:i.size=size) (hby:i.bytes=bytes) (hzs:z.cells.size=size) (hsz:0<size)
 (v:Value) (n:Nat) (xs:List Value) (hs:a.eval s=v) (hown:w.ownsRow base e size v n xs) (us:List Value) (hus:us.length=size) (hone:∀ u∈us,u.oneCell'=true)
 (hx:a.eval x=.slice (some ⟨w.heap.size,0,none⟩) 1 1) (h63:n+1≤maxLen) (hbytes:(n+1)*bytes≤140737488355328) (hbase:base≤w.heap.size)
 (h:∀ v' w',w'.ownsRow base e size v' (n+1) (xs++us)→w.grownBy w' v.ownBlock→(∀ k,k<w.heap.size→v'.ownBlock=some k→v.ownBlock=some k)→wpListIn F m P ops Q rest (a.put o.dst v') w'):wpListIn F m P ops Q (o::rest) a (w.alloc (.cells us.toArray e)):=
 wpListIn_append_own_at _ hgd s x t ho base e i z size bytes ht hi hz hsize hby hzs hsz v n xs hs (hown.alloc _) ⟨w.heap.size,0,none⟩ 1 1 us hx (by rw [hus,Nat.one_mul]) (lit_cells w us e) hone h63 hbytes (by simp;omega)
  (fun v' w' h1 h2 _ h4=>h v' w' h1 ⟨h2.os,h2.tape,h2.output,Nat.le_trans (by simp) h2.size,fun k hk hr=>(h2.block k (by simp;omega) hr).trans (Below.heap_alloc w _ k hk)⟩ (fun k hk e=>by
   rcases h4 with h4 | h4
   · rw [←h4];exact e
   · rw [h4] at e
     injection e with e
     simp at e
     omega))
theorem row_free {t base:Nat} {e:TypeId} {size n:Nat} {xs:List Value} {W:World} (h:RowAt t base e size n xs W):∀ k,W.heap.size≤k→GA t W k:=by
 obtain⟨v,⟨h1,-⟩,h2⟩:=h
 intro k hk
 have hl:=World.block_lt_of_cell? W _ h1
 exact⟨v,h1,by simp only at hl;omega,fun e=>by have:=(h2.lt k e).2;omega⟩
end Go.Proofs.YtbkgbhlmeeodgaaGreatDoor.Pq
