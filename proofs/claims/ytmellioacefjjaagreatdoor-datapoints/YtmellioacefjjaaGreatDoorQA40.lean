/- A part. -/
import Derived.Lib.AppendZerosOnto
import Derived.Test.YtmellioacefjjaaGreatDoorQA39
namespace Go.Proofs.YtmellioacefjjaaGreatDoor
open Go.RowKit
theorem zero_cells (z:Value) (hz:z.cells=#[z]) (n:Nat):(Builtin.zeroCells z.cells n).toList=List.replicate n z:=by
 rw [hz]
 apply List.ext_getElem?
 intro j
 by_cases hj:j<n
 · simp [Builtin.zeroCells,hj,Nat.mod_one]
 · simp [Builtin.zeroCells,hj]
theorem run_zeros_room {P:Program} (w:World) (t tn ty e:TypeId) (i:TypeInfo) (z:Value) (kq kn:IntKind) (ht:P.underlying t=some (.slice e)) (htn:P.underlying tn=some (.int kn)) (hi:P.info? e=some i) (hz:i.zero=some z) (hsize:i.size=1) (hz1:z.cells=#[z]) (ho1:z.oneCell'=true)
 (g sLen sCap k:Nat) (cur:Array Value) (hg:w.heap[g]? = some (.cells cur e (0,0))) (h0:0<k) (h63:(k:Int)≤9223372036854775807) (h48:k*i.bytes≤281474976710656) (hroom:sLen+k≤sCap) (hfit:sLen+k≤cur.size):
 (Builtin.append_ #[t,tn] ty #[.slice (some ⟨g,0,none⟩) sLen sCap,.int kq k]).run P w =
  .ok (.slice (some ⟨g,0,none⟩) (sLen+k) sCap) (w.setRow g (cur.toList.take sLen++List.replicate k z++cur.toList.drop (sLen+k)).toArray):=by
 have hst:=run_storeCells_at P g sLen e (List.replicate k z) 0 cur w hg (by simpa using hfit) (fun u hu=>by rw [List.eq_of_mem_replicate hu];exact ho1)
 simp only [Nat.add_zero,List.length_replicate] at hst
 have hk:k≠0:=by omega
 have hw:IntKind.i64.wrap (k:Int)=k:=by rw [IntKind.wrap_i64];omega
 have h48i:¬(281474976710656<(k:Int)*(i.bytes:Int)):=by
  rw [←Int.natCast_mul]
  omega
 have hneg:¬((k:Int)<0):=by omega
 have hzc:=zero_cells z hz1 k
 simp [Builtin.append_,run_underlying ht,run_underlying htn,sizeOf,typeInfo,zeroValue,hi,hz,asInt,asIntOf,hw,hk,hneg,hsize,h48i,hroom,Addr.add_lit,hzc,hst]
theorem run_append_own_zeros {P:Program} (w:World) (base:Nat) (t tn ty e:TypeId) (i:TypeInfo) (z:Value) (bytes:Nat) (kq kn:IntKind) (ht:P.underlying t=some (.slice e)) (htn:P.underlying tn=some (.int kn)) (hi:P.info? e=some i) (hz:i.zero=some z)
 (hsize:i.size=1) (hby:i.bytes=bytes) (hz1:z.cells=#[z]) (ho1:z.oneCell'=true)
 (v:Value) (n:Nat) (xs:List Value) (hown:w.ownsRow base e 1 v n xs) (k:Nat) (h0:0<k) (h63:n+k≤maxLen) (hbytes:(n+k)*bytes≤140737488355328) (hbase:base≤w.heap.size):
 ∃ v' w',(Builtin.append_ #[t,tn] ty #[v,.int kq k]).run P w=.ok v' w'∧w'.ownsRow base e 1 v' (n+k) (xs++List.replicate k z)∧w.grownBy w' v.ownBlock∧∀ j,j<w.heap.size→v'.ownBlock=some j→v.ownBlock=some j:=by
 subst hby
 have hsmall:n+k≤9223372036854775807:=by simp only [maxLen] at h63;omega
 have hxs:xs.length=n:=by have:=hown.1;omega
 have hkb:k*i.bytes≤281474976710656:=by
  have:k*i.bytes≤(n+k)*i.bytes:=Nat.mul_le_mul_right _ (by omega)
  omega
 have hlen:(xs++List.replicate k z).length=(n+k)*1:=by rw [List.length_append,hxs,List.length_replicate];omega
 have hzk:=zero_cells z hz1
 have grown:∀ (old:Nat),old<n+k→∀ (row:Option Nat),
  (w.drew.alloc (.cells (xs.toArray++Builtin.zeroCells z.cells k++Builtin.zeroCells z.cells (grownCap w (n+k) old e-(n+k))) e)).ownsRow base e 1
   (.slice (some ⟨w.heap.size,0,none⟩) (n+k) (grownCap w (n+k) old e)) (n+k) (xs++List.replicate k z) ∧
  w.grownBy (w.drew.alloc (.cells (xs.toArray++Builtin.zeroCells z.cells k++Builtin.zeroCells z.cells (grownCap w (n+k) old e-(n+k))) e)) row:=by
  intro old ho row
  have hge:=grownCap_ge w (n+k) old e
  have hcm:grownCap w (n+k) old e≤maxLen:=grownCap_le_maxLen w (n+k) old e h63
  refine⟨⟨hlen,.inr ⟨w.heap.size,_,_,rfl,hbase,heap_alloc_new w.drew _,hge,hcm,?_,?_⟩⟩,⟨rfl,rfl,rfl,by simp,fun k hk _=>Below.heap_alloc w.drew _ k hk⟩⟩
  · simp only [Array.size_append,List.size_toArray,size_zeroCells,hz1,hxs,List.length_cons,List.length_nil]
    omega
  · simp only [Array.toList_append,List.append_assoc,hzk]
    rw [←List.append_assoc,←hlen]
    exact List.take_left
 rcases hown.2 with ⟨rfl,rfl⟩ | ⟨g,cap,cur,rfl,hbg,hg,hnc,hcm,hcs,htake⟩
 · have hx:xs = []:=List.eq_nil_of_length_eq_zero hxs
   subst hx
   have hr:=Lib.run_append_nil_zeros (P:=P) w t tn ty e i z kq kn ht htn hi hz k h0 (by omega) (by omega) hkb
   have hgr:=grown 0 (by omega) (Value.ownBlock (.slice none 0 0))
   simp only [Nat.zero_add,List.nil_append,Array.empty_append] at hgr ⊢
   exact⟨_,_,hr,hgr.1,hgr.2,fun j hj e=>by cases e;exact absurd hj (Nat.lt_irrefl _)⟩
 · by_cases hroom:n+k≤cap
   · have hr:=run_zeros_room (P:=P) w t tn ty e i z kq kn ht htn hi hz hsize hz1 ho1 g n cap k cur hg h0 (by omega) hkb hroom (by omega)
     refine⟨_,_,hr,⟨hlen,.inr ⟨g,cap,_,rfl,hbg,setRow_heap w g cur _ e _ hg,hroom,hcm,?_,?_⟩⟩,⟨rfl,rfl,rfl,by simp,fun k _ hk=>setRow_other w g k _ (fun e=>hk (by simp [Value.ownBlock,e]))⟩,fun j _ e=>e⟩
     · simp only [List.size_toArray,List.length_append,List.length_take,List.length_drop,Array.length_toList,List.length_replicate]
       omega
     · rw [Nat.mul_one] at htake
       rw [htake,←hlen]
       exact List.take_left
   · have hold:(Builtin.firstCells i.size n (.slice (some ⟨g,0,none⟩) n cap)).run P w.drew=.ok xs.toArray w.drew:=run_firstCells_some (P:=P) w.drew i.size n ⟨g,0,none⟩ n cap xs (by rw [hsize];omega) (fun j u hj=>hown.cells (g:=g) rfl j u hj)
     have hr:=Lib.run_append_grow_zeros (P:=P) w t tn ty e i z kq kn ht htn hi hz (some ⟨g,0,none⟩) n cap xs hold k h0 (by omega) (by omega) (by omega) hkb (growslice_fits (by omega) hbytes)
     have hgr:=grown cap (by omega) (Value.ownBlock (.slice (some ⟨g,0,none⟩) n cap))
     exact⟨_,_,hr,hgr.1,hgr.2,fun j hj e=>by cases e;exact absurd hj (Nat.lt_irrefl _)⟩
end Go.Proofs.YtmellioacefjjaaGreatDoor
namespace Go.Proofs.YtmellioacefjjaaGreatDoor.Pq
open Go.RowKit Go.Shelf
attribute [local go_sem] Oper.semAt_some
def GA (bo:Nat) (W:World) (k:Nat):Prop:=∃ v,W.cell? ⟨bo,0,none⟩=some v∧k≠bo∧v.ownBlock≠some k
theorem ga_lets (bo:Nat):Lets (GA bo):=fun _ _ _ _ ⟨v,h1,h2⟩ hg hr=>⟨v,cell_kept h1 hg hr,h2⟩
def RowAt (t base:Nat) (e:TypeId) (size n:Nat) (xs:List Value) (W:World):Prop:=
 ∃ v,(W.cell? ⟨t,0,none⟩=some v∧W.frozen? ⟨t,0,none⟩=false)∧W.ownsRow base e size v n xs
theorem hold_two {R:Nat} {v:Value} {W W':World} (hv:W.cell? ⟨R,0,none⟩=some v) (hs:W.heap.size≤W'.heap.size) (hk:∀ k,k<W.heap.size→k≠R→v.ownBlock≠some k→W'.heap[k]? = W.heap[k]?)
 {v':Value} (hv':W'.cell? ⟨R,0,none⟩=some v') (ho:∀ k,k<W.heap.size→v'.ownBlock=some k→v.ownBlock=some k):Hold (GA R) W W':=by
 refine⟨hs,fun k ⟨u,h1,h2,h3⟩ hlt=>?_⟩
 rw [hv] at h1
 cases h1
 exact⟨hk k hlt h2 h3,v',hv',h2,fun e=>h3 (ho k hlt e)⟩
theorem info101:(Tryz.prog.info? 206).map (fun i=>(i.zero,i.size,i.bytes))=some (some (.int .u64 0),1,8):=by kernel_rfl
theorem row_put {t base:Nat} {e:TypeId} {size n m:Nat} {xs ys:List Value} {v v':Value} {W W2:World} (hv:W.cell? ⟨t,0,none⟩=some v) (hf:W.frozen? ⟨t,0,none⟩=false) (ho:W.ownsRow base e size v n xs) (htb:t<base)
 (ho':W2.ownsRow base e size v' m ys) (hg:W.grownBy W2 v.ownBlock) (hnew:∀ k,k<W.heap.size→v'.ownBlock=some k→v.ownBlock=some k):
 (W2.cell? ⟨t,0,none⟩=some v∧W2.frozen? ⟨t,0,none⟩=false)∧RowAt t base e size m ys (W2.setCell ⟨t,0,none⟩ v')∧Hold (GA t) W (W2.setCell ⟨t,0,none⟩ v')∧Below t W (W2.setCell ⟨t,0,none⟩ v'):=by
 have htl:t<W.heap.size:=World.block_lt_of_cell? W _ hv
 have hgb:∀ g,v.ownBlock=some g→base≤g:=fun g e=>(ho.lt g e).1
 have e0:W2.heap[t]? = W.heap[t]?:=hg.block t htl (fun e=>by have:=hgb t e.symm;omega)
 have c0:W2.cell? ⟨t,0,none⟩=some v:=(World.cell?_of_block e0).trans hv
 have f0:W2.frozen? ⟨t,0,none⟩=false:=(World.frozen?_of_block (a:=⟨t,0,none⟩) e0).trans hf
 have c1:(W2.setCell ⟨t,0,none⟩ v').cell? ⟨t,0,none⟩=some v':=World.cell?_setCell_same' _ _ _ (by rw [c0];rfl)
 refine⟨⟨c0,f0⟩,⟨v',⟨c1,by rw [World.frozen?_setCell];exact f0⟩,?_⟩,hold_two hv (by rw [World.size_setCell];exact hg.size) (fun k hk hkt hkv=>?_) c1 hnew,?_⟩
 · exact ho'.kept (grownBy_setCell' W2 t v') (by
    cases hq:v'.ownBlock with
    | none=>exact .inl rfl
    | some g=>exact .inr (fun h=>by cases h;have:=(ho'.lt t hq).1;omega))
 · rw [heap_setCell_other _ ⟨t,0,none⟩ k _ (fun e=>hkt (by simpa using e))]
   exact hg.block k hk (fun e=>hkv e.symm)
 · have hb:Below t W W2:=(Below.refl t W).grown hg (by omega) (fun g e=>by have:=hgb g e;omega)
   exact hb.setCell (p:=⟨t,0,none⟩) (Nat.le_refl _) _
theorem row_some {base:Nat} {e:TypeId} {size n:Nat} {v:Value} {xs:List Value} {W:World} (h:W.ownsRow base e size v n xs) (hx:0<n):∃ g c,v=.slice (some ⟨g,0,none⟩) n c∧base≤g∧g<W.heap.size:=by
 rcases h.2 with ⟨-,h0⟩ | ⟨g,cap,cur,rfl,hb,hg,-⟩
 · omega
 · exact⟨g,cap,rfl,hb,(Array.getElem?_eq_some_iff.1 hg).1⟩
theorem mx' {n:Nat} (h:n≤100000):n≤maxLen:=by simp only [maxLen];omega
def GrPost (t base b:Nat) (ws:List Nat) (W:World) (e:Ending) (W':World):Prop:=
 e=.returned (.tuple #[])∧∃ ws',Hid ((∃ m,ws'=moreW ws m)∧(b/64<ws'.length∧ws'.length≤17408)∧RowAt t base 206 1 ws'.length (words ws') W'∧Hold (GA t) W W'∧Below t W W')
set_option maxRecDepth 100000 in
set_option maxHeartbeats 2000000 in
theorem grow46 (t base b:Nat) (ws:List Nat) (W:World) (hR:RowAt t base 206 1 ws.length (words ws) W) (hw:ws.length≤17408) (hb:b≤1114111) (htb:t<base) (hbase:base≤W.heap.size):
 Calls Tryz.prog 119 #[.pointer (some ⟨t,0,none⟩),.int .i64 (b:Int)] W (GrPost t base b ws W):=by
 obtain⟨v,⟨hv,hf⟩,ho⟩:=hR
 obtain⟨i0,hi,hz0,hz1,hz2⟩:=info_parts info101
 have HO:=Lib.hid ho
 obtain⟨A,c,rfl,-⟩:=own_shape ho
 clear ho
 obtain⟨q,hq⟩:∃ q:Nat,b/64=q:=⟨_,rfl⟩
 have hq2:(b:Int)/64=(q:Int):=by omega
 have hqb:q≤17407:=by omega
 obtain⟨n,hn⟩:∃ n,ws.length=n:=⟨_,rfl⟩
 rw [hn] at hv hw HO
 by_cases hm:n<q+1
 · have hk0:0<q+1-n:=by omega
   obtain⟨v',w',hr,ho',hg',hnw⟩:=run_append_own_zeros (P:=Tryz.prog) W base 168 3 168 206 i0 (.int .u64 0) 8 .i64 .i64 Tryz.underlying168 Tryz.underlying3 hi hz0 hz1 hz2 rfl rfl _ n _ HO.out (q+1-n) hk0 (mx' (by omega)) (by omega) hbase
   have hall:=row_put hv hf HO.out htb ho' hg' hnw
   have h1:=hall.1.1
   have h2:=hall.1.2
   have HALL:=Lib.hid hall
   obtain⟨A',c',rfl,-⟩:=own_shape ho'
   rw [show ((q+1-n:Nat):Int)=(q:Int)+1-(n:Int) by omega] at hr
   clear hall ho' hg' hnw
   go_enter Tryz.func119,Tryz.ntmps119
   go_wp2_with (at_builtin;refine Lib.wpList_append_run _ rfl _ _ _ _ rfl _ _ rfl rfl _ _ hr ?_)
   go_end0
   refine⟨rfl,moreW ws (q+1-n),Lib.hid ⟨⟨_,rfl⟩,⟨by rw [more_len];omega,by rw [more_len];omega⟩,?_,HALL.out.2.2⟩⟩
   rw [more_words,more_len,hn]
   exact HALL.out.2.1
 · have HB:=Lib.hid (And.intro hq (And.intro hqb hm))
   go_enter Tryz.func119,Tryz.ntmps119
   go_wp2
   go_end0
   refine⟨rfl,ws,Lib.hid ⟨⟨0,by simp [moreW]⟩,⟨by omega,by omega⟩,?_,Hold.refl _ _,Below.refl _ _⟩⟩
   rw [hn]
   exact⟨_,⟨hv,hf⟩,HO.out⟩
end Go.Proofs.YtmellioacefjjaaGreatDoor.Pq
namespace Go.Proofs.YtmellioacefjjaaGreatDoor.Pq
open Go.RowKit
theorem info41:(Tryz.prog.info? 89).map (fun i=>(i.zero,i.size,i.bytes))=some (some (.agg #[.int .i64 0,.int .i64 0,.string ⟨#[]⟩]),3,32):=by kernel_rfl
def Flat (A:Option Addr):Prop:=A=none∨∃ b off,A=some ⟨b,off,none⟩
end Go.Proofs.YtmellioacefjjaaGreatDoor.Pq
namespace Go.Proofs.YtmellioacefjjaaGreatDoor.Pq
open Go.RowKit Go.Shelf
attribute [local go_sem] Oper.semAt_some
theorem append_lit_at {F:Fence} {m:Nat} {P:Program} {w:World} {ops:Array Oper} {rest:List Oper} {o:Oper} {a:Act} {Q:Exit→Act→World→Prop} (hgd:o.guard=none) (s x:Operand) (t:TypeId)
 (ho:o.op=.call { callee:=.builtin .append,args:=#[s,x],argTypes:=#[t,t] })
 (base:Nat) (e:TypeId) (i:TypeInfo) (z:Value) (size bytes:Nat) (ht:P.underlying t=some (.slice e)) (hi:P.info? e=some i) (hz:i.zero=some z)
 (hsize:i.size=size) (hby:i.bytes=bytes) (hzs:z.cells.size=size) (hsz:0<size)
 (v:Value) (n:Nat) (xs:List Value) (hs:a.eval s=v) (hown:w.ownsRow base e size v n xs) (us:List Value) (hus:us.length=size) (hone:∀ u∈us,u.oneCell'=true)
 (hx:a.eval x=.slice (some ⟨w.heap.size,0,none⟩) 1 1) (h63:n+1≤maxLen) (hbytes:(n+1)*bytes≤140737488355328) (hbase:base≤w.heap.size)
 (h:∀ v' w',w'.ownsRow base e size v' (n+1) (xs++us)→w.grownBy w' v.ownBlock→(∀ k,k<w.heap.size→v'.ownBlock=some k→v.ownBlock=some k)→wpListIn F m P ops Q rest (a.put o.dst v') w'):wpListIn F m P ops Q (o::rest) a (w.alloc (.cells us.toArray e)):=
 wpListIn_append_own_at _ hgd s x t ho base e i z size bytes ht hi hz hsize hby hzs hsz v n xs hs (hown.alloc _) ⟨w.heap.size,0,none⟩ 1 1 us hx (by rw [hus,Nat.one_mul]) (lit_cells w us e) hone h63 hbytes (by simp;omega)
  (fun v' w' h1 h2 _ h4=>h v' w' h1 ⟨h2.os,h2.tape,h2.output,Nat.le_trans (by simp) h2.size,fun k hk hr=>(h2.block k (by simp;omega) hr).trans (Below.heap_alloc w _ k hk)⟩ (fun k hk e=>by
   rcases h4 with h4 | h4
   · rw [←h4];exact e
   · rw [h4] at e
     injection e with e
     simp at e
     omega))
theorem row_abide {β:Type} {B t base:Nat} {e:TypeId} {size:Nat} (n:β → Nat) (xs:β → List Value):Abide 0 0 B (fun s W=>RowAt t base e size (n s) (xs s) W):=by
 intro s W W' row ⟨v,h2,h3⟩ hg hr
 exact⟨v,abide_cell (β:=Unit) (B:=B) (fun _=>⟨t,0,none⟩) (fun _=>v) (fun _=>by omega) () W W' row h2 hg hr,own_abide (β:=Unit) (B:=B) () W W' row h3 hg hr⟩
theorem row_free {t base:Nat} {e:TypeId} {size n:Nat} {xs:List Value} {W:World} (h:RowAt t base e size n xs W):∀ k,W.heap.size≤k→GA t W k:=by
 obtain⟨v,⟨h1,-⟩,h2⟩:=h
 intro k hk
 have hl:=World.block_lt_of_cell? W _ h1
 exact⟨v,h1,by simp only at hl;omega,fun e=>by have:=(h2.lt k e).2;omega⟩
theorem nums_snocP (zs:List Int) (x:Int):nums .i64 (zs ++ [x])=nums .i64 zs ++ [.int .i64 x]:=by unfold nums;rw [List.map_append];rfl
theorem pt_next {w W w2:World} {base:Nat} {pre:List Int} {x:Int} {v v':Value} (hv:W.cell? ⟨w.heap.size,0,none⟩=some v) (hf:W.frozen? ⟨w.heap.size,0,none⟩=false) (ho:W.ownsRow base 3 1 v pre.length (nums .i64 pre)) (htb:w.heap.size<base) (hb:Below w.heap.size w W)
 (ho':w2.ownsRow base 3 1 v' (pre.length+1) (nums .i64 pre ++ [.int .i64 x])) (hg:W.grownBy w2 v.ownBlock) (hnew:∀ k,k<W.heap.size→v'.ownBlock=some k→v.ownBlock=some k):
 (w2.cell? ⟨w.heap.size,0,none⟩=some v∧w2.frozen? ⟨w.heap.size,0,none⟩=false)∧(w2.setCell ⟨w.heap.size,0,none⟩ v').cell? ⟨w.heap.size,0,none⟩=some v'∧Hold (GA w.heap.size) W (w2.setCell ⟨w.heap.size,0,none⟩ v')∧RowAt w.heap.size base 3 1 (pre ++ [x]).length (nums .i64 (pre ++ [x])) (w2.setCell ⟨w.heap.size,0,none⟩ v')∧Below w.heap.size w (w2.setCell ⟨w.heap.size,0,none⟩ v'):=by
 obtain⟨h1,h2,h3,h4⟩:=row_put hv hf ho htb ho' hg hnew
 rw [nums_snocP,List.length_append]
 refine⟨h1,?_,h3,h2,hb.trans h4⟩
 exact World.cell?_setCell_same' _ _ _ (by rw [h1.1];rfl)
end Go.Proofs.YtmellioacefjjaaGreatDoor.Pq
namespace Go.Proofs.YtmellioacefjjaaGreatDoor
open Go.RowKit Go.Shelf
attribute [local go_sem] Oper.semAt_some
def firstK (w:World):World:=((((w.alloc (.map #[] 0)).alloc (.map #[] 0)).alloc (.map #[] 0)).alloc (.cells #[.map (some w.heap.size),.map (some (w.heap.size+1)),.map (some (w.heap.size+1+1))] 185)).alloc (.cells #[.slice none 0 0] 31)
theorem firstK_size (w:World):(firstK w).heap.size=w.heap.size+5:=by unfold firstK;simp
theorem firstK_below (w:World):Below w.heap.size w (firstK w):=by
 unfold firstK
 exact (((((Below.refl _ _).alloc (Nat.le_refl _) _).alloc (by simp) _).alloc (by simp;omega) _).alloc (by simp;omega) _).alloc (by simp;omega) _
theorem ck_start (w:World) (A:Option Addr) (n c:Nat) (dec:Int→List Int):CkS w.heap.size (w.heap.size+8) dec [] ((firstK w).alloc (.cells #[.slice A n c] 49)) 0 0 (.map []) (.map []) (fun _=>.slice none 0 0) (.slice none 0 0):=by
 have m1:=World.ownsMap_made w Tryz.prog (3) Cf.tokE
 have m2:=World.ownsMap_made (w.alloc (.map #[] 0)) Tryz.prog (3) Cf.tokE
 have m3:=World.ownsMap_made ((w.alloc (.map #[] 0)).alloc (.map #[] 0)) Tryz.prog (3) (plainElem (H:=Value) Tryz.prog (3))
 rw [World.size_alloc] at m2
 rw [World.size_alloc,World.size_alloc] at m3
 have c4:∀ i,(firstK w).cell? ⟨w.heap.size+3,i,none⟩=(#[.map (some w.heap.size),.map (some (w.heap.size+1)),.map (some (w.heap.size+1+1))]:Array Value)[i]?:=fun i=>by
  unfold firstK
  rw [old_at _ _ _ _ (by simp),new_at _ _ _ _ _ (by simp)]
 have c5:∀ i,(firstK w).cell? ⟨w.heap.size+4,i,none⟩=(#[.slice none 0 0]:Array Value)[i]?:=fun i=>by
  unfold firstK
  rw [new_at _ _ _ _ _ (by simp)]
 have f5:∀ i,(firstK w).frozen? ⟨w.heap.size+4,i,none⟩=false:=fun i=>by
  unfold firstK
  exact new_fro _ _ _ _ _ (by simp)
 have hs:=firstK_size w
 refine⟨⟨(((((m1.alloc _).alloc _).alloc _).alloc _).alloc _),fun c=>rfl,rfl,List.nodup_nil⟩,fun c h=>(by cases h),⟨((((m2.alloc _).alloc _).alloc _).alloc _),fun c=>rfl,fun c=>World.ownsInts_nil _ _ _ _,fun _ _ _=>.inl rfl⟩,⟨(((m3.alloc _).alloc _).alloc _),fun c=>rfl⟩,World.ownsRow_nil _ _ _ _,fun _=>.inl rfl,⟨?_,?_,?_⟩,⟨?_,?_⟩,Nat.le_refl _,Nat.le_refl _⟩
 · rw [old_at _ _ _ _ (by omega),c4];rfl
 · rw [old_at _ _ _ _ (by omega),c4];rfl
 · rw [old_at _ _ _ _ (by omega),c4];rfl
 · rw [old_at _ _ _ _ (by omega),c5];rfl
 · rw [old_fro _ _ _ _ (by omega)];exact f5 0
theorem keys_dec {ps:List Uc.Pr} (hg:Uc.Good ps) {r:Uc.Pr} (hr:r∈ps):dcf ps r.a=intsN r.dec:=by
 unfold dcf intsN
 rw [pat_row hg r hr]
theorem rnf_of {ps:List Uc.Pr} (hg:Uc.Good ps) (hf:FlatR ps) (hn:ps.length≤2000) (hsm:∀ r∈ps,∀ d∈r.dec,d≤1114111):RnF (dcf ps) (keysL ps) (usL ps):=by
 have hkey:∀ c,dcf ps c ≠ []→∃ r∈ps,r.dec ≠ []∧r.a=c:=fun c hc=>by
  have hd:(Uc.patOf ps c).dec ≠ []:=fun e=>hc (by unfold dcf;rw [e];rfl)
  obtain⟨h1,h2,h3⟩:=pat_mem hd
  have:=hf _ h1 hd
  exact⟨_,h1,hd,by omega⟩
 have hwd:∀ c,∀ d∈dcf ps c,(Lit.int .i64 d).wf=true:=fun c d hd=>by
  obtain⟨r,hr,-,rfl⟩:=hkey c (List.ne_nil_of_mem hd)
  rw [keys_dec hg hr] at hd
  obtain⟨n,hn,rfl⟩:=List.mem_map.1 hd
  exact wf_nat n (by have:=hsm r hr n hn;omega)
 refine⟨fun c hc=>keys_mem.2 (hkey c hc),fun c hc=>?_,fun c x hx hd=>?_,fun c=>Nat.le_trans (dcf_two hg c) (by omega),hwd,fun c hc=>?_,fun c=>?_⟩
 · obtain⟨r,hr,hd,rfl⟩:=keys_mem.1 hc
   rw [keys_dec hg hr]
   exact fun e=>hd (List.map_eq_nil_iff.1 e)
 · obtain⟨r,hr,-,rfl⟩:=keys_mem.1 hx
   rw [keys_dec hg hr] at hd
   exact us_mem hr hd
 · obtain⟨r,hr,-,rfl⟩:=keys_mem.1 hc
   obtain⟨h1,h2,h3,-⟩:=hg.2 r hr
   exact WalkArith.wf_i64 (by omega)
 · have:=us_len (l:=ps) (us:=fun _=>[]) (N:=0) (fun r hr=>(hg.2 r hr).2.2.2) (fun _=>Nat.le_refl _) c
   have e:usL ps c=ps.foldl stepU (fun _=>[]) c:=rfl
   rw [e];omega
theorem toDo_le {us:Int→List Int} {N:Nat} (h:∀ c,(us c).length≤N):∀ O:List Int,toDo us O≤O.length*N
 | []=>Nat.zero_le _
 | c::l=>by rw [toDo,List.length_cons,Nat.succ_mul];have:=h c;have:=toDo_le h l;omega
def ckV (ps:List Uc.Pr):Int:=if cycB ps=true then 17 else if longB ps=true then 36 else 0
theorem row_base {W:World} {base base':Nat} {e:TypeId} {s n:Nat} {v:Value} {xs:List Value} (h:W.ownsRow base e s v n xs) (hb:base'≤base):W.ownsRow base' e s v n xs:=by
 refine⟨h.1,?_⟩
 rcases h.2 with hn | ⟨g,cap,cur,e1,e2,rest⟩
 · exact .inl hn
 · exact .inr ⟨g,cap,cur,e1,Nat.le_trans hb e2,rest⟩
theorem rn_first {H:Nat} {ps:List Uc.Pr} {W:World} {n1 n2:Nat} {D1 D2:DataW Value} {val:Int→Value} {wv:Value} (hR:RnF (dcf ps) (keysL ps) (usL ps)) (hn:ps.length≤2000) (h:CkS H (H+8) (dcf ps) ps W n1 n2 D1 D2 val wv) (hlow:∀ c,(usL ps c).length≤4000):
 RnB W (H+3) H (H+1) (H+2) (H+5) H∧RnS W (H+3) H (H+1) (H+2) (H+5) H n2 100000000 100000 D2 (dcf ps) (keysL ps) (usL ps) val W n1 0 D1 (.map []) (keysL ps) (keysL ps) (fun _=>0) 0 wv:=by
 have h4:=World.block_lt_of_cell? W _ h.wbx.1
 have hk:=keys_len ps
 have htd:=toDo_le hlow (keysL ps)
 have hm:(keysL ps).length*4000≤2000*4000:=Nat.mul_le_mul_right _ (by omega)
 refine⟨⟨by omega,by omega,by omega,by omega,⟨⟨by omega,by omega,by omega⟩,by omega,by omega,by omega⟩,⟨by omega,by omega,by omega⟩,h4⟩,⟨h.f1,h.a1.no (fun k _ e=>.inr (.inl e)),⟨h.f2.own,h.f2.at2,fun c=>⟨row_base (h.f2.row c).1 (by omega),(h.f2.row c).2⟩,h.f2.apt⟩,h.sep,h.f3,row_base h.row (by omega),fi_start hR.all,h.cel,hR.wfk,by omega,by omega,Below.refl _ _,fun k o hk _ _ _=>hk⟩⟩
theorem ck_cyc {ps:List Uc.Pr} {O:List Int} {sz:Int→Nat} {lg:Nat} (hg:Uc.Good ps) (hn:ps.length≤2000) (hR:RnF (dcf ps) (keysL ps) (usL ps)) (h:FI (dcf ps) (keysL ps) O [] sz lg):(0<O.length↔cycB ps=true):=by
 rw [cyc_iff hg hn,List.length_pos_iff,fi_end h hR.all]
 constructor
 · rintro⟨c,hc,hp⟩
   obtain⟨r,hr,-,rfl⟩:=keys_mem.1 hc
   exact⟨r,hr,hp⟩
 · rintro⟨r,hr,hp⟩
   exact⟨r.a,hR.all _ hp.has,hp⟩
theorem ck_long {ps:List Uc.Pr} {sz:Int→Nat} {lg:Nat} (hg:Uc.Good ps) (hf:FlatR ps) (hn:ps.length≤2000) (h:FI (dcf ps) (keysL ps) [] [] sz lg) (hc:cycB ps=false):(4<lg↔longB ps=true):=by
 rw [long_iff hg,fi_long h (no_cyc hg hf hn hc)]
 constructor
 · rintro⟨c,hc,hl⟩
   obtain⟨r,hr,-,rfl⟩:=keys_mem.1 hc
   exact⟨r,hr,hl⟩
 · rintro⟨r,hr,hl⟩
   refine⟨r.a,keys_mem.2 ⟨r,hr,fun e=>?_,rfl⟩,hl⟩
   have hd:dcf ps r.a = []:=by rw [keys_dec hg hr,e];rfl
   have:cnt (dcf ps) ps.length r.a=1:=by
    cases ps.length with
    | zero=>rfl
    | succ n=>rw [cnt,if_pos hd]
   omega
theorem next_key {ps pre:List Uc.Pr} {p:Uc.Pr} (hg:Uc.Good ps) (h:pre ++ [p] <+: ps):p∈ps∧p.a∉keysL pre∧∀ r∈pre,r∈ps:=by
 obtain⟨r,rfl⟩:=h
 have hm:p∈pre ++ [p]++r:=by simp
 have hp:=List.pairwise_append.1 (List.pairwise_append.1 hg.1).1
 refine⟨hm,fun hk=>?_,fun q hq=>by simp [hq]⟩
 obtain⟨q,hq,-,e⟩:=keys_mem.1 hk
 have h1:=hp.2.2 q hq p (List.mem_singleton.2 rfl)
 have h2:=(hg.2 q (by simp [hq])).2.1
 omega
theorem ckv_is {ps:List Uc.Pr} {k lg:Nat} (h:(0<k↔cycB ps=true)∧(k=0→(4<lg↔longB ps=true))):ckV ps=if 0<k then 17 else if 4<lg then 36 else 0:=by
 unfold ckV
 by_cases hk:0<k
 · rw [if_pos (h.1.1 hk),if_pos hk]
 · rw [if_neg (fun e=>hk (h.1.2 e)),if_neg hk]
   have h2:=h.2 (by omega)
   by_cases hl:4<lg
   · rw [if_pos (h2.1 hl),if_pos hl]
   · rw [if_neg (fun e=>hl (h2.2 e)),if_neg hl]
theorem leave73 {w Wf:World} {D m:Nat} {tmps:Array Value} {e:Int} (ht:tmps[2]?.getD undef=.int .i64 e) (hk:Wf.heap[D]? = some (.deferred (some []))) (hd:w.heap.size≤D) (hb:Below w.heap.size w Wf) {v:Int} (he:e=v):
 LeavesInM Fence.wide m Tryz.prog Tryz.f73 tmps (fun e w'=>e=.returned (.int .i64 v)∧Below w.heap.size w w') [{ target:=.collected D,args:=#[] }] .returning Wf:=by
 subst he
 refine⟨by simp,.inl ⟨_,_,rfl,run_takeDeferred hk,?_⟩⟩
 refine⟨.int .i64 e,?_,rfl,hb.trans (belowK_b (w:=w) (Nat.le_refl _) _ D _ _ hd hk rfl rfl)⟩
 simp [results,Tryz.results73,go_sem,ht]
set_option maxRecDepth 100000 in
set_option maxHeartbeats 4000000 in
theorem check73 (p A:Option Addr) (c:Nat) (ls:List Uc.Rw) (ps:List Uc.Pr) (w:World) (hT:Uc.TIn w p A c ls) (hI:Uc.Ist w ls ps) (hg:Uc.Good ps) (hf:FlatR ps) (hn:ps.length≤2000) (hsm:∀ r∈ps,∀ d∈r.dec,d≤1114111):
 Calls Tryz.prog 73 #[.pointer p] w fun e w'=>e=.returned (.int .i64 (ckV ps))∧Below w.heap.size w w':=by
 have c30:=callsIn_wide (n:=8) |>.2 (Uc.rows10 p A c ls (firstK w) (hT.below (firstK_below w)))
 have hmk:=@run_makeMap Tryz.prog
 rw [firstK_size] at c30
 unfold firstK at c30
 refine (callsIn_wide (n:=9)).1 ?_
 refine callsIn_of_wp_marks Tryz.func73 rfl trivial ?_ rfl
 simp only [Tryz.ntmps73,List.size_toArray,List.length_cons,List.length_nil,Nat.reduceAdd,Nat.reduceSub,Array.replicate_succ,Array.replicate_zero,List.push_toArray,List.append_toArray,List.nil_append,List.cons_append]
 gi_wp2_with (refine⟨trivial,?_⟩;gi_at_call 30;(with_reducible refine c30.mono ?_);rintro e W5 ⟨rfl,hw5⟩)
 have hs5:W5.heap.size=w.heap.size+6:=by rw [hw5,World.size_alloc];exact congrArg (· + 1) (firstK_size w)
 have hb5:Below w.heap.size w W5:=by rw [hw5];exact (firstK_below w).alloc (by rw [firstK_size];omega) _
 have hS5:=ck_start w A ls.length c (dcf ps)
 have hS5:CkS w.heap.size (w.heap.size+8) (dcf ps) [] W5 0 0 (.map []) (.map []) (fun _=>.slice none 0 0) (.slice none 0 0):=by rw [hw5];exact hS5
 have cr5:W5.cell? ⟨w.heap.size+5,0,none⟩=some (.slice A ls.length c):=by
  rw [hw5]
  show ((firstK w).alloc _).cell? _=_
  rw [new_at _ _ _ _ _ (by rw [firstK_size])]
  rfl
 rw [←hw5]
 clear hw5 c30 hmk
 have hT5:=hT.below hb5
 have hI5:=hI.below hb5
 have hTb:∀ a,p=some a→a.block<w.heap.size:=fun a e=>by
  rcases hT with ⟨h,-⟩ | ⟨b,h,h2,-⟩
  · rw [h] at e;cases e
  · rw [h] at e;cases e;exact h2
 have hA2:0<ls.length→∀ a,A=some a→a.block<w.heap.size:=fun hn a e=>by
  obtain⟨b,off,e',hlt,-⟩:=hT.rat.2 hn
  rw [e] at e';cases e';exact hlt
 have hD2:∀ t∈ls,0<t.dm→∀ a,t.dp=some a→a.block<w.heap.size:=fun t ht hd a e=>by
  obtain⟨q,-,hq⟩:=Uc.ist_mem hI ht
  obtain⟨b,off,e',hlt,-⟩:=hq.2.2.2.2.2.2.2 hd
  rw [e] at e';cases e';exact hlt
 have hq:=Uc.fseq25 8 (w.heap.size+5) ls.length c A ls ps (CkA w.heap.size (w.heap.size+8)) W5 (by omega) (by rw [hI.len];omega) (fun q hq=>by have:=(hg.2 q hq).2.2.2;omega) (by omega) cr5 hT5.rat hI5 (by
  rintro k hk (rfl | ⟨hn,a,e,rfl⟩ | ⟨t,ht,hd,a,e,rfl⟩)
  · exact⟨by omega,by omega,by omega,by omega⟩
  · have:=hA2 hn a e;exact⟨by omega,by omega,by omega,by omega⟩
  · have:=hD2 t ht hd a e;exact⟨by omega,by omega,by omega,by omega⟩)
 rw [hs5] at hq
 have h0:CkI w (w.heap.size+8) (dcf ps) [] W5:=⟨0,0,_,_,_,_,hS5,hb5⟩
 have HQ:=Lib.hid hq
 have H0:=Lib.hid h0
 have HSZ:=Lib.hid hs5
 have HG:=Lib.hid (And.intro hg (And.intro hf (And.intro hn hsm)))
 clear hs5 hb5 hS5 cr5 hT5 hI5 hTb hA2 hD2 hq h0 hT hI hg hf hn hsm
 refine range_nf2 rfl (by omega) rfl trivial (enters_of Tryz.func53 (by kernel_rfl) rfl) HQ.out (Nat.zero_le _) (by have:=HSZ.out;exact⟨by omega,by omega,by omega,by omega⟩) (by have:=HSZ.out;exact⟨by omega,by omega,by omega,by omega⟩) (fun _=>rfl)
  (CkI w (w.heap.size+8) (dcf ps)) (CkY w (w.heap.size+8) (dcf ps)) (fun pre x W0 W h hb hx=>ck_fresh rfl h hb hx) (fun pre x=>cky_abide w _ _ _ pre x (by have:=HSZ.out;omega)) (fun _ _ _=>False) (cki_abide w _ _ _ (by have:=HSZ.out;omega)) (fun _ _ _ _ _ h=>h.elim) H0.out RwBt (fun x b=>rwBt_abide x b _) ?a1 ?assign ?body ?done ?stop
 case assign=>
  rintro lq pre x W' K hi hK
  simp only [Uc.rwArr,Uc.rwV]
  gi_wp2
  obtain⟨b',hb'⟩:∃ b',W'.heap.size=b':=⟨_,rfl⟩
  rw [hb']
  have hbo:∀ o,Below W'.heap.size W' (W'.alloc o):=fun o=>(Below.refl _ _).alloc (Nat.le_refl _) o
  refine hK b' _ (Kept.of_below (hbo _)) ((cky_abide w _ _ _ pre x (Nat.le_refl _)).below (s:=()) hi (hbo _)) ?_
  rw [←hb']
  exact rwBt_new x W'
 case body=>
  rintro lq pre ⟨s,q⟩ b' Wb ⟨n1,n2,D1,D2,val,wv,⟨hS,hbe⟩,⟨hi,hbw⟩,hx⟩ hbx ⟨hnx,hlen⟩
  rw [List.map_append] at hnx
  obtain⟨hg,hf,hn,hsm⟩:=HG.out
  obtain⟨hm,hnk,hpre⟩:=next_key hg hnx
  dsimp only at hi hx
  have hia:s.a=q.a:=hi.1
  have hdm:s.dm=q.dec.length:=hi.2.2.2.2.2.1
  have hpl:(pre.map Prod.snd).length≤2000:=Nat.le_trans (by obtain⟨r,e⟩:=hnx;have:=congrArg List.length e;simp at this ⊢;omega) hn
  obtain⟨-,e0,e1,e2,e3,e4,e5⟩:=id hbx
  dsimp only at e0 e5
  by_cases hp:q.dec = []
  · have h0:s.dm=0:=by rw [hdm,hp];rfl
    rw [h0] at e5
    have HE:Hid (CkI w (w.heap.size+8) (dcf ps) (pre ++ [(s,q)]) Wb):=Lib.hid ⟨n1,n2,D1,D2,val,wv,by rw [List.map_append];exact ck_no hS hp,hbe⟩
    clear hS hbe hi hx hbx hnx hm hnk hpre hia hdm hp h0 hpl hlen e1 e2 e3 e4 hg hf hn hsm
    gi_wp2
    exact⟨Kept.refl _ _,HE.out⟩
  · have hpos:0<s.dm:=by rw [hdm];exact List.length_pos_iff.2 hp
    have hd2:=(hg.2 q hm).2.2.2
    obtain⟨i0,hi0,hz0,hz1,hz2⟩:=info_parts infoI
    have hiv:Vals Wb s.dp s.dm (nums .i64 (intsN q.dec)):=hi.2.2.2.2.2.2
    have hA:∀ a,s.dp=some a→Ofs w.heap.size (w.heap.size+1) val a.block∧a.block<Wb.heap.size:=fun a e=>by
     have h1:=hx a e
     obtain⟨b2,off,e',hlt,-⟩:=hiv.2 hpos
     rw [e] at e';cases e'
     have hge:w.heap.size+8≤b2:=Nat.le_of_not_lt (fun hh=>h1 (.inl hh))
     exact⟨⟨by show b2≠_;omega,by show b2≠_;omega,fun y hy=>h1 (.inr (.inr ⟨y,hy⟩))⟩,hlt⟩
    have hul:=us_len (l:=pre.map Prod.snd) (us:=fun _=>[]) (N:=0) (fun r hr=>(hg.2 r (hpre r hr)).2.2.2) (fun _=>Nat.le_refl _)
    have hqa:=hg.2 q hm
    have hwf:(Lit.int .i64 q.a).wf=true:=WalkArith.wf_i64 (by have:=hqa.1;have:=hqa.2.1;have:=hqa.2.2.1;omega)
    have c97:=add97 (w.heap.size+3) w.heap.size (w.heap.size+1) n1 n2 (w.heap.size+8) w.heap.size s.dm s.dc D1 D2 (usL (pre.map Prod.snd)) val q.a s.dp (intsN q.dec) Wb hS.cel.1 hS.cel.2.1 hS.f1.1 hS.f2 hwf (fun d hd=>by
     obtain⟨n,hn',rfl⟩:=List.mem_map.1 hd
     exact wf_nat n (by have:=hsm q hm n hn';omega)) hiv hA (by omega) (by omega) ⟨by omega,by omega⟩ (by omega) (by omega) hbw (Nat.le_refl _) (by omega) (by omega) (by have:=hS.few.1;omega) (by have:=hS.few.2;omega) (fun d=>by
     have e:usL (pre.map Prod.snd) d=(pre.map Prod.snd).foldl stepU (fun _=>[]) d:=rfl
     have:=hul d;rw [e];omega)
    have d97:Calls Tryz.prog 97 #[.pointer (some ⟨w.heap.size+1+1+1,0,none⟩),.int .i64 s.a,.slice s.dp s.dm s.dc] Wb fun e W1=>e=.returned (.tuple #[])∧Hid (AddPost Wb w.heap.size (w.heap.size+1) (n1+1) n2 (w.heap.size+8) w.heap.size s.dm (D1.put (key q.a) (.held (.slice s.dp s.dm s.dc))) (usL (pre.map Prod.snd)) val q.a (intsN q.dec) (.returned (.tuple #[])) W1∧W1.ownsRow (w.heap.size+8) 3 1 wv (keysL (pre.map Prod.snd)).length (nums .i64 (keysL (pre.map Prod.snd)))) ∧
     (W1.cell? ⟨w.heap.size+1+1+1+1,0,none⟩=some wv∧W1.cell? ⟨b',0,none⟩=some (.int .i64 s.a))∧(W1.frozen? ⟨w.heap.size+1+1+1+1,0,none⟩=false∧w.heap.size+8≤W1.heap.size):=by
     rw [hia]
     refine c97.mono fun e W1 ha=>?_
     obtain⟨rfl,ha'⟩:=ha
     obtain⟨⟨g1,g2,g3⟩,g4,g5⟩:=ck_mid rfl hS hbw hbx ⟨rfl,ha'⟩
     exact⟨rfl,Lib.hid ⟨⟨rfl,ha'⟩,g1⟩,⟨g2,by rw [←hia];exact g4⟩,g3,g5⟩
    have HX:Hid (∀ (W1 W2:World) (v':Value),AddPost Wb w.heap.size (w.heap.size+1) (n1+1) n2 (w.heap.size+8) w.heap.size s.dm (D1.put (key q.a) (.held (.slice s.dp s.dm s.dc))) (usL (pre.map Prod.snd)) val q.a (intsN q.dec) (.returned (.tuple #[])) W1 →
     W2.ownsRow (w.heap.size+8) 3 1 v' ((keysL (pre.map Prod.snd)).length+1) (nums .i64 (keysL (pre.map Prod.snd)) ++ [.int .i64 s.a])→W1.grownBy W2 wv.ownBlock→(∀ k,k<W1.heap.size→v'.ownBlock=some k→wv.ownBlock=some k) →
     (W2.cell? ⟨w.heap.size+1+1+1+1,0,none⟩=some wv∧W2.frozen? ⟨w.heap.size+1+1+1+1,0,none⟩=false)∧Hid (Kept (CkA w.heap.size (w.heap.size+8)) Wb (W2.setCell ⟨w.heap.size+1+1+1+1,0,none⟩ v')∧CkI w (w.heap.size+8) (dcf ps) (pre ++ [(s,q)]) (W2.setCell ⟨w.heap.size+1+1+1+1,0,none⟩ v'))):=Lib.hid (by
     intro W1 W2 v' ha h1 h2 h3
     rw [hia] at h1
     obtain⟨g1,g2,m1,m2,E1,E2,val',g3,g4⟩:=ck_yes rfl hS hbe hbw hp hnk hi (keys_dec hg hm) hd2 (fun c hc=>by
      obtain⟨r,hr,hd,rfl⟩:=keys_mem.1 hc
      rw [keys_dec hg (hpre r hr)]
      exact fun e=>hd (List.map_eq_nil_iff.1 e)) hx ha h1 h2 h3
     exact⟨g1,Lib.hid ⟨g2,m1,m2,E1,E2,val',v',by rw [List.map_append];exact g3,g4⟩⟩)
    have hkl:(keysL (pre.map Prod.snd)).length≤2000:=Nat.le_trans (keys_len _) hpl
    obtain⟨kl,hkl2⟩:∃ x,keysL (pre.map Prod.snd)=x:=⟨_,rfl⟩
    rw [hkl2] at d97 HX hkl
    obtain⟨dm,hdm2⟩:∃ x,s.dm=x:=⟨_,rfl⟩
    obtain⟨dp,hdp2⟩:∃ x,s.dp=x:=⟨_,rfl⟩
    obtain⟨dc,hdc2⟩:∃ x,s.dc=x:=⟨_,rfl⟩
    obtain⟨sa,hsa2⟩:∃ x,s.a=x:=⟨_,rfl⟩
    rw [hdm2,hdp2,hdc2] at d97 HX e5
    rw [hsa2] at d97 HX e0
    rw [hdm2] at hpos
    have HI0:=Lib.hid hi0
    obtain⟨Aw,cw,hwv,-⟩:∃ Aw cw,wv=.slice Aw kl.length cw∧True:=by
     obtain⟨Aw,cw,h,-⟩:=own_vals hS.row
     rw [hkl2] at h
     exact⟨Aw,cw,h,trivial⟩
    subst hwv
    clear hS hbe hi hx hbx hnx hm hnk hpre hia hdm hp hpl hlen e1 e2 e3 e4 hg hf hn hsm hiv hA hul hqa hwf c97 hkl2 hdm2 hdp2 hdc2 hsa2 hd2 hi0
    gi_wp2_with (first
     | (refine⟨trivial,?_⟩;gi_at_call 97;refine (CallsIn.inRound lq (callsIn_wide.2 d97)).mono ?_;rintro e W1 ⟨rfl,HA,⟨r0,r1⟩,r2,r3⟩)
     | (gi_at_builtin;refine Pq.append_lit_at rfl _ _ 31 rfl (w.heap.size+8) 3 i0 (.int .i64 0) 1 8 Tryz.underlying31 HI0.out hz0 hz1 hz2 rfl (by decide) _ _ _ rfl HA.out.2 [.int .i64 sa] rfl (by simp [Value.oneCell']) rfl (by unfold maxLen;omega) (by omega) r3 ?_;intro v' W2 hr2 hg2 hnew;obtain⟨⟨q0,q1⟩,HE⟩:=HX.out W1 W2 v' HA.out.1 hr2 hg2 hnew;obtain⟨Av,cv,rfl,-⟩:=own_vals hr2;clear hr2 hg2 hnew HX))
    exact HE.out
 case done=>
  rintro D xs W3 hD hxs ⟨n1,n2,D1,D2,val,wv,hS,hbe⟩ hKD
  rw [hxs] at hS
  obtain⟨hg,hf,hn,hsm⟩:=HG.out
  have hR:=rnf_of hg hf hn hsm
  obtain⟨hB,hRS⟩:=rn_first hR hn hS (fun c=>by
   have:=us_len (l:=ps) (us:=fun _=>[]) (N:=0) (fun r hr=>(hg.2 r hr).2.2.2) (fun _=>Nat.le_refl _) c
   have e:usL ps c=ps.foldl stepU (fun _=>[]) c:=rfl
   rw [e];omega)
  have c98:=run98 W3 (w.heap.size+3) w.heap.size (w.heap.size+1) (w.heap.size+2) (w.heap.size+5) w.heap.size n2 100000000 100000 D2 (dcf ps) (keysL ps) (usL ps) val n1 0 D1 (.map []) (keysL ps) (keysL ps) (fun _=>0) wv hB hR hRS (by omega) (by omega)
  have hDH:w.heap.size+6≤D:=by have:=HSZ.out;omega
  have d98:Calls Tryz.prog 98 #[.pointer (some ⟨w.heap.size+1+1+1,0,none⟩),wv] W3 fun e W4=>∃ (lg k:Nat),e=.returned (.int .i64 (lg:Nat))∧(W4.cell? ⟨w.heap.size+1+1+1,0,none⟩=some (.map (some w.heap.size))∧∀ ty,(Builtin.len_ #[109] ty #[.map (some w.heap.size)]).run Tryz.prog W4=.ok (.int .i64 (k:Nat)) W4)∧Hid ((W4.heap[D]? = some (.deferred (some []))∧Below w.heap.size w W4)∧((0<k↔cycB ps=true)∧(k=0→(4<lg↔longB ps=true))))∧lg≤5:=by
   refine c98.mono ?_
   rintro e W4 ⟨m1,E1,O,sz,lg,rfl,⟨q1,q2⟩,q3,q4,q5⟩
   refine⟨lg,O.length,rfl,⟨q3,fun ty=>?_⟩,Lib.hid ⟨⟨q5 D _ hKD rfl (by omega) (by omega),hbe.trans (q4.mono (Nat.le_refl _))⟩,ck_cyc hg hn hR q2,fun h0=>?_⟩,q2.lg5⟩
   · rw [←q1.2.2.1];exact q1.1.len Tryz.underlying109 ty
   · obtain rfl:O = []:=List.eq_nil_of_length_eq_zero h0
     have hc:cycB ps=false:=by
      have:=ck_cyc hg hn hR q2
      cases hcc:cycB ps with
      | false=>rfl
      | true=>exact absurd (this.2 hcc) (by simp)
     exact ck_long hg hf hn q2 hc
  obtain⟨w0,w1⟩:=hS.wbx
  have w0':W3.cell? ⟨w.heap.size+1+1+1+1,0,none⟩=some wv:=w0
  obtain⟨Aw,cw,rfl,-⟩:=own_vals hS.row
  obtain⟨kn,hkn⟩:∃ x,(keysL ps).length=x:=⟨_,rfl⟩
  rw [hkn] at w0' d98
  have D98:=callsIn_wide (n:=8) |>.2 d98
  clear hg hf hn hsm hR hB hRS c98 hS hbe hKD hxs w0 w1 hkn d98
  gi_wp2_with (refine⟨trivial,?_⟩;gi_at_call 98;(with_reducible refine D98.mono ?_);rintro e W4 ⟨lg,k,rfl,⟨s0,s1⟩,HE,hlg⟩)
  all_goals
   refine leave73 rfl HE.out.1.1 (by omega) HE.out.1.2 ?_
   rw [ckv_is HE.out.2]
   first
    | (rw [if_pos (by omega)];done)
    | (rw [if_neg (by omega),if_pos (by omega)];done)
    | (rw [if_neg (by omega),if_neg (by omega)];done)
 case stop=>
  rintro D c2 pre W3 hD hpre hx hKD
  exact hx.elim
end Go.Proofs.YtmellioacefjjaaGreatDoor
