/- A part. -/
import Derived.Test.YtbkgbhlmeeodgaaGreatDoorQc00
import Derived.Lib.FrozenHead
import Derived.Laws.OwnMore
import Derived.OwnWalkIn
import Derived.Test.YtbkgbhlmeeodgaaGreatDoorProg
import Derived.BigQuiet
import Derived.Handy
import Derived.Laws.RangeAny
import Derived.Lib.IndexLaws
namespace Go.Proofs.YtbkgbhlmeeodgaaGreatDoor
open Go.RowKit
def Vals (w:World) (A:Option Addr) (n:Nat) (vs:List Value):Prop:=
 vs.length=n∧(0<n→∃ b off,A=some ⟨b,off,none⟩∧b<w.heap.size∧∀ j v,vs[j]? = some v→w.cell? ⟨b,off+j,none⟩=some v)
theorem Vals.below {w w':World} {A:Option Addr} {n:Nat} {vs:List Value} (h:Vals w A n vs) (hb:Below w.heap.size w w'):Vals w' A n vs:=by
 refine⟨h.1,fun hn=>?_⟩
 obtain⟨b,off,rfl,hlt,hc⟩:=h.2 hn
 exact⟨b,off,rfl,Nat.lt_of_lt_of_le hlt hb.size,fun j v hj=>(hb.cell (p:=⟨b,off+j,none⟩) hlt).trans (hc j v hj)⟩
theorem Vals.nil (w:World) (A:Option Addr):Vals w A 0 []:=⟨rfl,fun h=>absurd h (by omega)⟩
def nums (k:IntKind) (zs:List Int):List Value:=zs.map (Value.int k)
def strs (ls:List (List UInt8)):List Value:=ls.map fun l=>Value.string (bs l)
theorem strs_length (ls:List (List UInt8)):(strs ls).length=ls.length:=List.length_map _
theorem strs_get {ls:List (List UInt8)} {j:Nat} (h:j<ls.length):(strs ls)[j]? = some (.string (bs (ls.getD j []))):=by
 unfold strs
 rw [List.getElem?_map,List.getElem?_eq_getElem h]
 simp [List.getD_eq_getElem?_getD,List.getElem?_eq_getElem h]
theorem nums_get {k:IntKind} {zs:List Int} {j:Nat} (h:j<zs.length):(nums k zs)[j]? = some (.int k (zs.getD j 0)):=by
 unfold nums
 rw [List.getElem?_map,List.getElem?_eq_getElem h]
 simp [List.getD_eq_getElem?_getD,List.getElem?_eq_getElem h]
theorem own_below {w w':World} {base B:Nat} {e:TypeId} {size n:Nat} {v:Value} {xs:List Value} (h:w.ownsRow base e size v n xs) (hb:Below B w w') (hB:w.heap.size≤B):w'.ownsRow base e size v n xs:=by
 refine⟨h.1,?_⟩
 rcases h.2 with hn | ⟨g,cap,cur,rfl,hg,hgg,rest⟩
 · exact .inl hn
 · refine .inr ⟨g,cap,cur,rfl,hg,?_,rest⟩
   have hlt:=(Array.getElem?_eq_some_iff.1 hgg).1
   rw [hb.block g (by omega)]
   exact hgg
theorem add_at (g j:Nat):(⟨g,0,none⟩:Addr).add j=⟨g,0+j,none⟩:=by unfold Addr.add;split <;> simp_all
theorem own_vals {w:World} {base:Nat} {e:TypeId} {n:Nat} {v:Value} {vs:List Value} (h:w.ownsRow base e 1 v n vs):∃ A c,v=.slice A n c∧n≤c∧Vals w A n vs∧(A=none→c=0):=by
 have hl:vs.length=n:=by have:=h.1;simpa using this
 rcases h.2 with ⟨rfl,rfl⟩ | ⟨g,cap,cur,rfl,_,hg,hc,_⟩
 · exact⟨none,0,rfl,Nat.le_refl _,⟨hl,fun h0=>absurd h0 (by omega)⟩,fun _=>rfl⟩
 · refine⟨some ⟨g,0,none⟩,cap,rfl,hc,⟨hl,fun _=>⟨g,0,rfl,(Array.getElem?_eq_some_iff.1 hg).1,fun j v hj=>?_⟩⟩,fun h=>by cases h⟩
   have:=h.cells (g:=g) rfl j v hj
   rwa [add_at] at this
def Grew (base:Nat) (w w':World):Prop:=∀ B w0,Below B w0 w→B≤base→Below B w0 w'
theorem grew_of {w w':World} {base:Nat} {o:Obj} {e:TypeId} {size n:Nat} {v:Value} {xs:List Value} (ho:w.ownsRow base e size v n xs) (hbase:base≤w.heap.size) (hg:(w.alloc o).grownBy w' v.ownBlock):Grew base w w':=
 fun B w0 h hB=>(h.alloc (Nat.le_trans hB hbase) o).grown hg (by simp;omega) (fun g hgv=>Nat.le_trans hB (ho.lt g hgv).1)
theorem lit_cells (w:World) (us:List Value) (e:TypeId):∀ j u,us[j]? = some u→(w.alloc (.cells us.toArray e)).cell? ((⟨w.heap.size,0,none⟩:Addr).add j)=some u:=by
 intro j u hj
 rw [add_at,Nat.zero_add]
 simp [hj]
theorem append_lit {P:Program} {w:World} {ops:Array Oper} {rest:List Oper} {o:Oper} {a:Act} {Q:Exit→Act→World→Prop} (hgd:o.guard=none) (s x:Operand) (t:TypeId)
 (ho:o.op=.call { callee:=.builtin .append,args:=#[s,x],argTypes:=#[t,t] })
 (base:Nat) (e:TypeId) (i:TypeInfo) (z:Value) (size bytes:Nat) (ht:P.underlying t=some (.slice e)) (hi:P.info? e=some i) (hz:i.zero=some z)
 (hsize:i.size=size) (hby:i.bytes=bytes) (hzs:z.cells.size=size) (hsz:0<size)
 (v:Value) (n:Nat) (xs:List Value) (hs:a.eval s=v) (hown:w.ownsRow base e size v n xs) (us:List Value) (hus:us.length=size) (hone:∀ u∈us,u.oneCell'=true)
 (hx:a.eval x=.slice (some ⟨w.heap.size,0,none⟩) 1 1) (h63:n+1≤maxLen) (hbytes:(n+1)*bytes≤140737488355328) (hbase:base≤w.heap.size)
 (h:∀ v' w',w'.ownsRow base e size v' (n+1) (xs++us)→Grew base w w'→wpList P ops Q rest (a.put o.dst v') w'):wpList P ops Q (o::rest) a (w.alloc (.cells us.toArray e)):=
 wpList_append_own _ hgd s x t ho base e i z size bytes ht hi hz hsize hby hzs hsz v n xs hs (hown.alloc _) ⟨w.heap.size,0,none⟩ 1 1 us hx (by rw [hus,Nat.one_mul]) (lit_cells w us e) hone h63 hbytes (by simp;omega)
  (fun v' w' h1 h2 _=>h v' w' h1 (grew_of hown hbase h2))
theorem append_lit_in {F:Fence} {m:Nat} {P:Program} {w:World} {ops:Array Oper} {rest:List Oper} {o:Oper} {a:Act} {Q:Exit→Act→World→Prop} (hgd:o.guard=none) (s x:Operand) (t:TypeId)
 (ho:o.op=.call { callee:=.builtin .append,args:=#[s,x],argTypes:=#[t,t] })
 (base:Nat) (e:TypeId) (i:TypeInfo) (z:Value) (size bytes:Nat) (ht:P.underlying t=some (.slice e)) (hi:P.info? e=some i) (hz:i.zero=some z)
 (hsize:i.size=size) (hby:i.bytes=bytes) (hzs:z.cells.size=size) (hsz:0<size)
 (v:Value) (n:Nat) (xs:List Value) (hs:a.eval s=v) (hown:w.ownsRow base e size v n xs) (us:List Value) (hus:us.length=size) (hone:∀ u∈us,u.oneCell'=true)
 (hx:a.eval x=.slice (some ⟨w.heap.size,0,none⟩) 1 1) (h63:n+1≤maxLen) (hbytes:(n+1)*bytes≤140737488355328) (hbase:base≤w.heap.size)
 (h:∀ v' w',w'.ownsRow base e size v' (n+1) (xs++us)→(w.alloc (.cells us.toArray e)).grownBy w' v.ownBlock→Grew base w w'→wpListIn F m P ops Q rest (a.put o.dst v') w'):wpListIn F m P ops Q (o::rest) a (w.alloc (.cells us.toArray e)):=
 wpListIn_append_own _ hgd s x t ho base e i z size bytes ht hi hz hsize hby hzs hsz v n xs hs (hown.alloc _) ⟨w.heap.size,0,none⟩ 1 1 us hx (by rw [hus,Nat.one_mul]) (lit_cells w us e) hone h63 hbytes (by simp;omega)
  (fun v' w' h1 h2 _=>h v' w' h1 h2 (grew_of hown hbase h2))
end Go.Proofs.YtbkgbhlmeeodgaaGreatDoor
namespace Go.Proofs.YtbkgbhlmeeodgaaGreatDoor.Uc
open Go.RowKit
structure Rw where
 a:Int
 b:Int
 gc:List UInt8
 ccc:Int
 bd:List UInt8
 dp:Option Addr
 dm:Nat
 dc:Nat
def rwv (s:Rw):List Value:=[.int .i64 s.a,.int .i64 s.b,.string (bs s.gc),.int .i64 s.ccc,.string (bs s.bd),.slice s.dp s.dm s.dc]
def rwV (s:Rw):Value:=.agg #[.int .i64 s.a,.int .i64 s.b,.string (bs s.gc),.int .i64 s.ccc,.string (bs s.bd),.slice s.dp s.dm s.dc]
def rw0:Rw:=⟨0,0,[],0,[],none,0,0⟩
def rwvs (ls:List Rw):List Value:=ls.flatMap rwv
theorem rwvs_cons (s:Rw) (ls:List Rw):rwvs (s::ls)=.int .i64 s.a :: .int .i64 s.b :: .string (bs s.gc) :: .int .i64 s.ccc :: .string (bs s.bd) :: .slice s.dp s.dm s.dc::rwvs ls:=rfl
theorem rwvs_snoc (ls:List Rw) (s:Rw):rwvs ls ++ [.int .i64 s.a,.int .i64 s.b,.string (bs s.gc),.int .i64 s.ccc,.string (bs s.bd),.slice s.dp s.dm s.dc]=rwvs (ls ++ [s]):=by unfold rwvs;rw [List.flatMap_append];rfl
theorem rwvs_length:∀ ls:List Rw,(rwvs ls).length=ls.length*6
 | []=>rfl
 | s::ls=>by rw [rwvs_cons];simp [rwvs_length ls];omega
def Six (f:Nat→Option Value) (s:Rw):Prop:=
 f 0=some (.int .i64 s.a)∧f 1=some (.int .i64 s.b)∧f 2=some (.string (bs s.gc))∧f 3=some (.int .i64 s.ccc)∧f 4=some (.string (bs s.bd))∧f 5=some (.slice s.dp s.dm s.dc)
theorem rwvs_get:∀ {ls:List Rw} {j:Nat} {s:Rw},ls[j]? = some s→Six (fun i=>(rwvs ls)[j*6+i]?) s
 | [],_,_,h=>by simp at h
 | x::ls,0,s,h=>by simp at h;subst h;exact⟨rfl,rfl,rfl,rfl,rfl,rfl⟩
 | x::ls,j+1,s,h=>by
  have:=rwvs_get (ls:=ls) (j:=j) (s:=s) (by simpa using h)
  have e:(fun i=>(rwvs (x::ls))[(j+1)*6+i]?)=fun i=>(rwvs ls)[j*6+i]?:=by
   funext i
   rw [rwvs_cons,show (j+1)*6+i=j*6+i+6 by omega]
   rfl
  rw [e]
  exact this
def RAt (w:World) (A:Option Addr) (n:Nat) (ls:List Rw):Prop:=
 ls.length=n∧(0<n→∃ b off,A=some ⟨b,off,none⟩∧b<w.heap.size∧∀ j s,ls[j]? = some s →
  w.cell? ⟨b,off+j*6,none⟩=some (.int .i64 s.a)∧w.cell? ⟨b,off+j*6+1,none⟩=some (.int .i64 s.b)∧w.cell? ⟨b,off+j*6+2,none⟩=some (.string (bs s.gc)) ∧
  w.cell? ⟨b,off+j*6+3,none⟩=some (.int .i64 s.ccc)∧w.cell? ⟨b,off+j*6+4,none⟩=some (.string (bs s.bd))∧w.cell? ⟨b,off+j*6+5,none⟩=some (.slice s.dp s.dm s.dc))
theorem RAt.below {w w':World} {A:Option Addr} {n:Nat} {ls:List Rw} (h:RAt w A n ls) (hb:Below w.heap.size w w'):RAt w' A n ls:=by
 refine⟨h.1,fun hn=>?_⟩
 obtain⟨b,off,rfl,hlt,hc⟩:=h.2 hn
 refine⟨b,off,rfl,Nat.lt_of_lt_of_le hlt hb.size,fun j s hj=>?_⟩
 obtain⟨h1,h2,h3,h4,h5,h6⟩:=hc j s hj
 exact⟨(hb.cell (p:=⟨b,_,none⟩) hlt).trans h1,(hb.cell (p:=⟨b,_,none⟩) hlt).trans h2,(hb.cell (p:=⟨b,_,none⟩) hlt).trans h3,(hb.cell (p:=⟨b,_,none⟩) hlt).trans h4,(hb.cell (p:=⟨b,_,none⟩) hlt).trans h5,(hb.cell (p:=⟨b,_,none⟩) hlt).trans h6⟩
theorem RAt.nil (w:World) (A:Option Addr):RAt w A 0 []:=⟨rfl,fun h=>absurd h (by omega)⟩
theorem own_rat {w:World} {base:Nat} {e:TypeId} {v:Value} {ls:List Rw} (ho:w.ownsRow base e 6 v ls.length (rwvs ls)):∃ A c,v=.slice A ls.length c∧ls.length≤c∧RAt w A ls.length ls∧(A=none→c=0):=by
 rcases ho.2 with ⟨rfl,h0⟩ | ⟨g,cap,cur,rfl,_,hg,hcap,_⟩
 · exact⟨none,0,by rw [h0],by omega,⟨rfl,fun h=>absurd h (by omega)⟩,fun _=>rfl⟩
 · refine⟨_,cap,rfl,hcap,⟨rfl,fun _=>⟨g,0,rfl,(Array.getElem?_eq_some_iff.1 hg).1,fun j s hj=>?_⟩⟩,fun h=>by cases h⟩
   obtain⟨h1,h2,h3,h4,h5,h6⟩:=rwvs_get hj
   have k1:=ho.cells (g:=g) rfl _ _ h1
   have k2:=ho.cells (g:=g) rfl _ _ h2
   have k3:=ho.cells (g:=g) rfl _ _ h3
   have k4:=ho.cells (g:=g) rfl _ _ h4
   have k5:=ho.cells (g:=g) rfl _ _ h5
   have k6:=ho.cells (g:=g) rfl _ _ h6
   rw [add_at] at k1 k2 k3 k4 k5 k6
   exact⟨k1,k2,k3,k4,k5,k6⟩
theorem getRw {ls:List Rw} {k:Nat} (h:k<ls.length):∃ s,ls[k]? = some s:=⟨ls[k],List.getElem?_eq_getElem h⟩
def atOf (ls:List Rw) (c:Int):Rw:=(ls.find? fun s=>decide (s.a≤c∧c≤s.b)).getD rw0
theorem at_take {l:List Rw} {c:Int} {k:Nat} {s:Rw} (hk:l[k]? = some s) (h:∀ t∈l.take k,¬(t.a≤c∧c≤t.b)) (hs:s.a≤c∧c≤s.b):atOf l c=s:=by
 have hlt:=(List.getElem?_eq_some_iff.1 hk).1
 have e:l[k]=s:=(List.getElem?_eq_some_iff.1 hk).2
 unfold atOf
 rw [←List.take_append_drop k l,List.drop_eq_getElem_cons hlt,e,List.find?_append,List.find?_eq_none.2 (fun t ht=>by simpa using h t ht)]
 rw [Option.none_or,List.find?_cons_of_pos (by simpa using hs)]
 rfl
theorem at_gap {l:List Rw} {c:Int} (h:∀ t∈l,¬(t.a≤c∧c≤t.b)):atOf l c=rw0:=by
 unfold atOf
 rw [List.find?_eq_none.2 (fun t ht=>by simpa using h t ht)]
 rfl
end Go.Proofs.YtbkgbhlmeeodgaaGreatDoor.Uc
namespace Go.Proofs.YtbkgbhlmeeodgaaGreatDoor
open Go.RowKit
attribute [local go_sem] Oper.semAt_some
def korB (c:Int):Bool:=decide ((4352≤c∧c≤4370)∨(4449≤c∧c≤4469)∨(4520≤c∧c≤4546)∨(44032≤c∧c≤55203))
def kors:List Int:=[4352,4449,4520,44032]
def touB (a b:Int):Bool:=(korB a||korB b)||kors.any fun x=>decide (a≤x∧x≤b)
end Go.Proofs.YtbkgbhlmeeodgaaGreatDoor
namespace Go.Proofs.YtbkgbhlmeeodgaaGreatDoor.Uc
open Go.RowKit
theorem below_six {w v:World} (a b d:Int) {c e f:Value} (h:Below w.heap.size w v):
 Below w.heap.size w ((((((v.setCell ⟨w.heap.size,0,none⟩ (.int .i64 a)).setCell ⟨w.heap.size,1,none⟩ (.int .i64 b)).setCell ⟨w.heap.size,2,none⟩ c).setCell ⟨w.heap.size,3,none⟩ (.int .i64 d)).setCell ⟨w.heap.size,4,none⟩ e).setCell ⟨w.heap.size,5,none⟩ f):=by
 exact Below.setCell (Below.setCell (Below.setCell (Below.setCell (Below.setCell (Below.setCell h (Nat.le_refl _) _) (Nat.le_refl _) _) (Nat.le_refl _) _) (Nat.le_refl _) _) (Nat.le_refl _) _) (Nat.le_refl _) _
def caps (l:List UInt8):Bool:=l.all fun b=>decide (65≤b.toNat∧b.toNat≤90)
theorem caps_drop {l:List UInt8} {k:Nat} (hk:k<l.length):caps (l.drop k)=(decide (65≤oct l k∧oct l k≤90)&&caps (l.drop (k+1))):=by
 unfold caps oct
 rw [List.drop_eq_getElem_cons hk,List.all_cons,List.getD_eq_getElem?_getD,List.getElem?_eq_getElem hk]
 congr 1
 simp only [Option.getD_some,decide_eq_decide]
 omega
def decv (a:Nat):List UInt8→Option Nat
 | []=>some a
 | b::t=>if 48≤b.toNat∧b.toNat≤57 then decv (a*10+(b.toNat-48)) t else none
theorem decv_drop {l:List UInt8} {k a:Nat} (hk:k<l.length):decv a (l.drop k)=if 48≤oct l k∧oct l k≤57 then decv (a*10+(oct l k-48).toNat) (l.drop (k+1)) else none:=by
 unfold oct
 rw [List.drop_eq_getElem_cons hk,List.getD_eq_getElem?_getD,List.getElem?_eq_getElem hk,Option.getD_some,decv]
 by_cases h:48≤(l[k]).toNat∧(l[k]).toNat≤57
 · rw [if_pos h,if_pos (by omega),show ((l[k].toNat:Int)-48).toNat=l[k].toNat-48 by omega]
 · rw [if_neg h,if_neg (by omega)]
def cccOf (l:List UInt8):Int:=
 if l.length<1∨3<l.length∨(1<l.length∧oct l 0=48) then -1 else
  match decv 0 l with
  | none=>-1
  | some a=>if 254<a then -1 else a
theorem ccc_out {l:List UInt8} (h:l.length<1∨3<l.length∨(1<l.length∧oct l 0=48)):cccOf l = -1:=by unfold cccOf;rw [if_pos h]
theorem ccc_none {l:List UInt8} (h:decv 0 l=none):cccOf l = -1:=by unfold cccOf;rw [h];split <;> rfl
theorem ccc_big {l:List UInt8} {a:Nat} (h:decv 0 l=some a) (hb:254<a):cccOf l = -1:=by
 unfold cccOf;rw [h];simp only [if_pos hb];split <;> rfl
theorem ccc_yes {l:List UInt8} (a:Nat) (h0:¬(l.length<1∨3<l.length∨(1<l.length∧oct l 0=48))) (h:decv 0 l=some a) (hb:¬254<a):cccOf l=a:=by
 unfold cccOf;rw [h,if_neg h0];simp only [if_neg hb]
def namedB (s e:List UInt8):Bool:=decide (1≤s.length∧oct s 0=60∧e.length≤s.length)&&((bs s).extract (s.length-e.length) s.length).toList==(bs e).toList
theorem named_iff (s e:List UInt8):namedB s e=true↔1≤s.length∧oct s 0=60∧e <:+ s:=by
 unfold namedB
 rw [bs_ext,Lib.toList_data,Lib.toList_data,bs_data,bs_data,Bool.and_eq_true,decide_eq_true_iff,beq_iff_eq,List.take_of_length_le (by rw [List.length_drop];omega),and_assoc,and_assoc]
 refine and_congr_right fun _=>and_congr_right fun _=>⟨fun h=>?_,fun h=>⟨h.length_le,?_⟩⟩
 · exact⟨s.take (s.length-e.length),by have:=List.take_append_drop (s.length-e.length) s;rwa [h.2] at this⟩
 · obtain⟨t,rfl⟩:=h
   rw [List.length_append,Nat.add_sub_cancel,List.drop_left]
def capB (x:Int):Bool:=decide (65≤x∧x≤90)
set_option maxHeartbeats 1000000 in
theorem cap75 (x:Int) (w:World):Calls Tryz.prog 204 #[.int .i32 x] w fun e w'=>e=.returned (.bool (capB x))∧w=w':=by
 by_cases h1:65≤x
 · by_cases h2:x≤90
   · rw [show capB x=true from decide_eq_true ⟨h1,h2⟩]
     go_enter Tryz.func204,Tryz.ntmps204
     go_wp2
     go_ret
     exact⟨rfl,rfl⟩
   · rw [show capB x=false from decide_eq_false (fun h=>h2 h.2)]
     go_enter Tryz.func204,Tryz.ntmps204
     go_wp2
     go_ret
     exact⟨rfl,rfl⟩
 · rw [show capB x=false from decide_eq_false (fun h=>h1 h.1)]
   go_enter Tryz.func204,Tryz.ntmps204
   go_wp2
   go_ret
   exact⟨rfl,rfl⟩
def gcB (l:List UInt8):Bool:=decide (l.length=2)&&(capB (oct l 0)&&decide (97≤oct l 1∧oct l 1≤122))
set_option maxRecDepth 100000 in
set_option maxHeartbeats 2000000 in
theorem gc58 (l:List UInt8) (w:World) (hl:l.length≤1000000):Calls Tryz.prog 175 #[.string (bs l)] w fun e w'=>e=.returned (.bool (gcB l))∧w=w':=by
 have hsz:=bs_size l
 have hx:=bs_oct l 0
 have hxr:=oct_range l 0
 have hy:=bs_oct l 1
 have hyr:=oct_range l 1
 obtain⟨G,hG⟩:∃ G,gcB l=G:=⟨_,rfl⟩
 rw [hG]
 unfold gcB at hG
 obtain⟨n,hn⟩:∃ n,l.length=n:=⟨_,rfl⟩
 obtain⟨X,hX⟩:∃ X,oct l 0=X:=⟨_,rfl⟩
 obtain⟨Y,hY⟩:∃ Y,oct l 1=Y:=⟨_,rfl⟩
 rw [hn] at hsz hl hG
 rw [hX] at hx hxr hG
 rw [hY] at hy hyr hG
 clear hn hX hY
 revert hsz hx hy
 generalize bs l=S
 intro hsz hx hy
 obtain⟨hx0,hx1⟩:=hxr
 obtain⟨hy0,hy1⟩:=hyr
 have c:=fun w=>cap75 X w
 by_cases h2:n=2
 · subst h2
   rw [show decide (2=2)=true from rfl,Bool.true_and] at hG
   cases hc:capB X with
   | false=>
    rw [hc,Bool.false_and] at hG
    rw [hc] at c
    subst hG
    have C:=Lib.hid c
    clear hc c
    go_enter Tryz.func175,Tryz.ntmps175
    go_wp2_with (go_at_call 204;(with_reducible refine (C.out _).mono ?_);rintro e w' ⟨rfl,rfl⟩)
    go_ret
    exact⟨rfl,rfl⟩
   | true=>
    rw [hc,Bool.true_and] at hG
    rw [hc] at c
    have C:=Lib.hid c
    clear hc c
    by_cases g1:97≤Y
    · by_cases g2:Y≤122
      · rw [show decide (97≤Y∧Y≤122)=true from decide_eq_true ⟨g1,g2⟩] at hG
        subst hG
        go_enter Tryz.func175,Tryz.ntmps175
        go_wp2_with (go_at_call 204;(with_reducible refine (C.out _).mono ?_);rintro e w' ⟨rfl,rfl⟩)
        go_ret
        exact⟨rfl,rfl⟩
      · have g2b:decide (Y≤122)=false:=decide_eq_false g2
        rw [show decide (97≤Y∧Y≤122)=false from decide_eq_false (fun h=>g2 h.2)] at hG
        subst hG
        go_enter Tryz.func175,Tryz.ntmps175
        go_wp2_with (go_at_call 204;(with_reducible refine (C.out _).mono ?_);rintro e w' ⟨rfl,rfl⟩)
        go_ret
        exact⟨rfl,rfl⟩
    · rw [show decide (97≤Y∧Y≤122)=false from decide_eq_false (fun h=>g1 h.1)] at hG
      subst hG
      go_enter Tryz.func175,Tryz.ntmps175
      go_wp2_with (go_at_call 204;(with_reducible refine (C.out _).mono ?_);rintro e w' ⟨rfl,rfl⟩)
      go_ret
      exact⟨rfl,rfl⟩
 · rw [show decide (n=2)=false from decide_eq_false h2,Bool.false_and] at hG
   subst hG
   have hb:((n:Int)==2)=false:=beq_false_of_ne (by omega)
   clear hx hy c
   go_enter Tryz.func175,Tryz.ntmps175
   go_wp2
   go_ret
   exact⟨rfl,rfl⟩
def bdB (l:List UInt8):Bool:=decide (1≤l.length∧l.length≤3)&&caps l
theorem below_iter (w:World) (s:ByteArray) (p:Nat):Below w.heap.size w (w.iter s p):=(Below.refl _ _).alloc (Nat.le_refl _) _
theorem next_low {P:Program} {w:World} {s:ByteArray} {k:Nat} {X:Int} (hk:k<s.size) (hX:∀ h,((s[k]'h).toNat:Int)=X) (h:X<128):
 ∀ ty,(Instr.next (.pointer (some ⟨w.heap.size,0,none⟩)) true ty).run P (w.iter s k)=.ok (.tuple #[.bool true,.int .i64 k,.int .i32 X]) (w.iter s (k+1)):=fun ty=>by
 have e:=hX hk
 rw [run_next_ascii w s k ty hk (by omega),e]
theorem next_high {P:Program} {w:World} {s:ByteArray} {k:Nat} {X:Int} (hk:k<s.size) (hX:∀ h,((s[k]'h).toNat:Int)=X) (h:¬X<128):
 ∃ (R:Int) (d:Nat),128≤R∧R≤2147483647∧∀ ty,(Instr.next (.pointer (some ⟨w.heap.size,0,none⟩)) true ty).run P (w.iter s k)=.ok (.tuple #[.bool true,.int .i64 k,.int .i32 R]) (w.iter s (k+d)):=by
 have e:=hX hk
 have h1:=decode_high s k hk (by omega)
 have h2:=decode_le s k
 exact⟨(Utf8.decode s k).1,(Utf8.decode s k).2,by omega,by omega,fun ty=>run_next_any w s k ty hk⟩
set_option maxRecDepth 100000 in
set_option maxHeartbeats 2000000 in
theorem bd59 (l:List UInt8) (w:World) (hl:l.length≤1000000):Calls Tryz.prog 176 #[.string (bs l)] w fun e w'=>e=.returned (.bool (bdB l))∧Below w.heap.size w w':=by
 have hsz:=bs_size l
 obtain⟨n,hn⟩:∃ n,l.length=n:=⟨_,rfl⟩
 have hB:bdB l=(decide (1≤n∧n≤3)&&caps l):=by unfold bdB;rw [hn]
 rw [hn] at hsz hl
 have HN:=Lib.hid hn
 have HB:=Lib.hid hB
 have HX:=Lib.hid (fun k=>bs_oct l k)
 clear hn hB
 obtain⟨S,hS⟩:∃ S,bs l=S:=⟨_,rfl⟩
 rw [hS] at hsz HX ⊢
 clear hS
 go_enter Tryz.func176,Tryz.ntmps176
 go_wp2
 go_loopw [2] (fun v wr=>v=.bool false∧∃ k:Nat,wr=w.iter S k∧k≤n∧caps l=caps (l.drop k)) (fun _ wr=>n-wr.iterPos w.heap.size)
 case atStart=>exact⟨rfl,0,rfl,Nat.zero_le _,rfl⟩
 case round=>
  obtain⟨rfl,k,rfl,hkn,hv⟩:=hrel
  by_cases hlt:k<n
  · have hlt':k<l.length:=by rw [HN.out];exact hlt
    have hx:=HX.out k
    have hxr:=oct_range l k
    rw [caps_drop hlt'] at hv
    obtain⟨X,hX⟩:∃ X,oct l k=X:=⟨_,rfl⟩
    rw [hX] at hx hv hxr
    clear hX hlt'
    obtain⟨hx0,hx1⟩:=hxr
    have hks:k<S.size:=by rw [hsz];exact hlt
    by_cases hasc:X<128
    · have hnx:=next_low (P:=Tryz.prog) (w:=w) hks hx hasc
      have c:=fun w=>cap75 X w
      unfold capB at c
      cases hc:decide (65≤X∧X≤90) with
      | true=>
       rw [hc,Bool.true_and] at hv
       rw [hc] at c
       have HV:=Lib.hid hv
       have C:=Lib.hid c
       clear hv hx hc c hks
       go_wp2_with (go_at_call 204;(with_reducible refine (C.out _).mono ?_);rintro e w' ⟨rfl,rfl⟩)
       go_roundw
       case rel=>exact⟨rfl,k+1,rfl,by omega,HV.out⟩
       case measure=>simp;omega
      | false=>
       rw [hc,Bool.false_and] at hv
       rw [hc] at c
       have HV:=Lib.hid hv
       have C:=Lib.hid c
       clear hv hx hc c hks
       go_wp2_with (go_at_call 204;(with_reducible refine (C.out _).mono ?_);rintro e w' ⟨rfl,rfl⟩)
       go_ret
       exact⟨by rw [HB.out,HV.out,Bool.and_false];rfl,below_iter w S _⟩
    · obtain⟨R,d,hR1,hR2,hnx⟩:=next_high (P:=Tryz.prog) (w:=w) hks hx hasc
      rw [show decide (65≤X∧X≤90)=false from decide_eq_false (by omega),Bool.false_and] at hv
      have c:=fun w=>cap75 R w
      rw [show capB R=false from decide_eq_false (by omega)] at c
      have HV:=Lib.hid hv
      have C:=Lib.hid c
      clear hv hx c hks
      go_wp2_with (go_at_call 204;(with_reducible refine (C.out _).mono ?_);rintro e w' ⟨rfl,rfl⟩)
      go_ret
      exact⟨by rw [HB.out,HV.out,Bool.and_false];rfl,below_iter w S _⟩
  · have hke:k=n:=by omega
    subst hke
    rw [List.drop_of_length_le (by rw [HN.out];exact Nat.le_refl _)] at hv
    have hv:caps l=true:=hv
    have hB:=HB.out
    rw [hv,Bool.and_true] at hB
    have HB2:=Lib.hid hB
    have hks:¬k<S.size:=by rw [hsz];exact hlt
    have hnx:∀ ty,(Instr.next (.pointer (some ⟨w.heap.size,0,none⟩)) true ty).run Tryz.prog (w.iter S k)=.ok (.tuple #[.bool false]) (w.iter S k):=fun ty=>run_next_end w S k ty hks
    clear hv hB HB hks hlt
    by_cases h1:1≤k
    · by_cases h3:k≤3
      · rw [show decide (1≤k∧k≤3)=true from decide_eq_true ⟨h1,h3⟩] at HB2
        have h3i:decide ((k:Int)≤3)=true:=decide_eq_true (by omega)
        go_wp2
        go_ret
        exact⟨by rw [HB2.out];rfl,below_iter w S _⟩
      · rw [show decide (1≤k∧k≤3)=false from decide_eq_false (fun h=>h3 h.2)] at HB2
        have h3i:decide ((k:Int)≤3)=false:=decide_eq_false (by omega)
        go_wp2
        go_ret
        exact⟨by rw [HB2.out];rfl,below_iter w S _⟩
    · rw [show decide (1≤k∧k≤3)=false from decide_eq_false (fun h=>h1 h.1)] at HB2
      obtain rfl:k=0:=by omega
      go_wp2
      go_ret
      exact⟨by rw [HB2.out];rfl,below_iter w S _⟩
end Go.Proofs.YtbkgbhlmeeodgaaGreatDoor.Uc
namespace Go.Proofs.YtbkgbhlmeeodgaaGreatDoor
open Go.RowKit
def digs:List UInt8:=[48,49,50,51,52,53,54,55,56,57,65,66,67,68,69,70]
def val (c:UInt8):Int:=Lib.indexByte digs c
set_option maxRecDepth 100000 in
theorem val_all:∀ n:Fin 256,val (UInt8.ofNat n.val)=(if 48≤n.val∧n.val≤57 then (n.val:Int)-48 else if 65≤n.val∧n.val≤70 then (n.val:Int)-55 else -1):=by decide
theorem val_eq (c:UInt8):val c=(if 48≤c.toNat∧c.toNat≤57 then (c.toNat:Int)-48 else if 65≤c.toNat∧c.toNat≤70 then (c.toNat:Int)-55 else -1):=by
 have:=val_all ⟨c.toNat,c.toNat_lt⟩
 simpa using this
theorem val_range (c:UInt8):-1≤val c∧val c<16:=by
 rw [val_eq]
 split
 · omega
 · split <;> omega
def hexv:Nat→List UInt8→Option Nat
 | a,[]=>some a
 | a,c::l=>if val c<0 then none else hexv (a*16+(val c).toNat) l
def wid (c:Nat):Nat:=if 1048575<c then 6 else if 65535<c then 5 else 4
theorem wid_range (c:Nat):4≤wid c∧wid c≤6:=by unfold wid;split <;> (try split) <;> omega
def point (l:List UInt8):Option Nat:=(hexv 0 l).bind fun c=>if l.length≤6∧c≤1114111∧l.length=wid c then some c else none
def rangeOf (l:List UInt8):Int×Int×Int:=
 if 0≤Lib.index l [46,46] then
  match point (l.take (Lib.index l [46,46]).toNat),point (l.drop ((Lib.index l [46,46]).toNat+2)) with
  | some a,some b=>if b≤a then (0,0,14) else (a,b,0)
  | _,_=>(0,0,13)
 else match point l with
  | some a=>(a,a,0)
  | none=>(0,0,13)
def seqOf (l:List UInt8):Option (List Nat):=if l = [] then some [] else (cutAll 32 l).mapM point
end Go.Proofs.YtbkgbhlmeeodgaaGreatDoor
namespace Go.Proofs.YtbkgbhlmeeodgaaGreatDoor.Uc
open Go.RowKit
structure Pr where
 a:Int
 b:Int
 gc:List UInt8
 ccc:Int
 bd:List UInt8
 dec:List Nat
def pr0:Pr:=⟨0,0,[],0,[],[]⟩
def pI:Option Nat→Int
 | some c=>c
 | none=>-1
def fld (f:List (List UInt8)) (k:Nat):List UInt8:=f.getD k []
def tagB (l:List UInt8):Bool:=decide (1≤l.length∧oct l 0=60)
def okB (f:List (List UInt8)):Bool:=gcB (fld f 2)&&(decide (0≤cccOf (fld f 3))&&bdB (fld f 4))
def decErr (l:List UInt8):Int:=if tagB l=true then 0 else match seqOf l with
 | none=>13
 | some cs=>if 2<cs.length then 16 else 0
def decVal (l:List UInt8):List Nat:=if tagB l=true then [] else (seqOf l).getD []
def rowErr (f:List (List UInt8)):Int:=if ¬f.length=15 then 12 else match point (fld f 0) with
 | none=>13
 | some _=>if okB f=false then 16 else decErr (fld f 5)
def rowVal (f:List (List UInt8)):Pr:=⟨pI (point (fld f 0)),pI (point (fld f 0)),fld f 2,cccOf (fld f 3),fld f 4,decVal (fld f 5)⟩
theorem row_len {f:List (List UInt8)} (h:¬f.length=15):rowErr f=12:=by unfold rowErr;rw [if_pos h]
theorem row_hex {f:List (List UInt8)} (h:f.length=15) (hp:point (fld f 0)=none):rowErr f=13:=by unfold rowErr;rw [if_neg (by simp [h]),hp]
theorem row_val {f:List (List UInt8)} {c:Nat} (h:f.length=15) (hp:point (fld f 0)=some c) (ho:okB f=false):rowErr f=16:=by unfold rowErr;rw [if_neg (by simp [h]),hp];simp only [ho,if_true]
theorem row_dec {f:List (List UInt8)} {c:Nat} (h:f.length=15) (hp:point (fld f 0)=some c) (ho:okB f=true):rowErr f=decErr (fld f 5):=by unfold rowErr;rw [if_neg (by simp [h]),hp];simp [ho]
theorem row_ok {f:List (List UInt8)} (h:rowErr f=0):f.length=15∧(∃ c,point (fld f 0)=some c)∧okB f=true∧decErr (fld f 5)=0:=by
 unfold rowErr at h
 split at h
 · cases h
 · rename_i hl
   split at h
   · cases h
   · rename_i c hc
     split at h
     · cases h
     · rename_i ho
       exact⟨by omega,⟨c,hc⟩,by simpa using ho,h⟩
theorem dec_two {l:List UInt8} (h:decErr l=0):(decVal l).length≤2:=by
 unfold decErr at h
 unfold decVal
 split
 · simp
 · rename_i ht
   rw [if_neg ht] at h
   cases hs:seqOf l with
   | none=>rw [hs] at h;cases h
   | some cs=>
    rw [hs] at h
    simp only at h
    split at h
    · cases h
    · simp;omega
theorem point_range {l:List UInt8} {c:Nat} (h:point l=some c):c≤1114111:=by
 unfold point at h
 cases hh:hexv 0 l with
 | none=>rw [hh] at h;cases h
 | some x=>
  rw [hh,Option.bind_some] at h
  split at h
  · rename_i hc
    cases h
    exact hc.2.1
  · cases h
def nmF:List UInt8:=[44,32,70,105,114,115,116,62]
def nmL:List UInt8:=[44,32,76,97,115,116,62]
def joinB (f g:List (List UInt8)):Bool:=
 namedB (fld g 1) nmL&&(decide ((rowVal f).gc=(rowVal g).gc)&&(decide ((rowVal f).ccc=(rowVal g).ccc)&&(decide ((rowVal f).bd=(rowVal g).bd)&&(decide (fld f 5 = [])&&(decide (fld g 5 = [])&&decide ((rowVal f).a<(rowVal g).a))))))
structure Res where
 rows:List Pr
 err:Int
 num:Int
def lastB:List Pr→Option Int
 | []=>none
 | [p]=>some p.b
 | _::p::t=>lastB (p::t)
theorem lastB_snoc:∀ (l:List Pr) (p:Pr),lastB (l ++ [p])=some p.b
 | [],_=>rfl
 | [_],_=>rfl
 | _::q::t,p=>lastB_snoc (q::t) p
def twice (out:List Pr) (r:Pr):Bool:=match lastB out with
 | none=>false
 | some b=>decide (r.a≤b)
def refP:List Pr→List Ln→Res
 | out,[]=>⟨out,0,0⟩
 | out,x::t=>
  if ¬rowErr x.2=0 then ⟨[],rowErr x.2,x.1⟩ else
  if twice out (rowVal x.2)=true then ⟨[],15,x.1⟩ else
  if namedB (fld x.2 1) nmF=true then
   match t with
   | []=>⟨[],14,x.1⟩
   | y::t'=>if ¬rowErr y.2=0 then ⟨[],rowErr y.2,y.1⟩ else if joinB x.2 y.2=false then ⟨[],14,x.1⟩ else refP (out ++ [{ rowVal x.2 with b:=(rowVal y.2).a }]) t'
  else refP (out ++ [rowVal x.2]) t
def parseOf (l:List Ln):Res:=refP [] l
inductive St where
 | bad (e n:Int)
 | at (rows:List Pr) (op:Option Ln)
def setB (l:List Pr) (b:Int):List Pr:=l.dropLast++(l.getLast?.map fun p=>{ p with b:=b }).toList
def step:St→Ln→St
 | .bad e n,_=>.bad e n
 | .at out none,x=>
  if ¬rowErr x.2=0 then .bad (rowErr x.2) x.1 else
  if twice out (rowVal x.2)=true then .bad 15 x.1 else
  .at (out ++ [rowVal x.2]) (if namedB (fld x.2 1) nmF=true then some x else none)
 | .at out (some x),y=>
  if ¬rowErr y.2=0 then .bad (rowErr y.2) y.1 else
  if joinB x.2 y.2=false then .bad 14 x.1 else .at (setB out (rowVal y.2).a) none
def fin:St→Res
 | .bad e n=>⟨[],e,n⟩
 | .at out none=>⟨out,0,0⟩
 | .at _ (some x)=>⟨[],14,x.1⟩
theorem fold_bad (e n:Int):∀ l:List Ln,l.foldl step (.bad e n)=.bad e n
 | []=>rfl
 | _::t=>fold_bad e n t
theorem setB_snoc (out:List Pr) (p:Pr) (b:Int):setB (out ++ [p]) b=out ++ [{ p with b:=b }]:=by simp [setB]
theorem fold_ref:∀ (l:List Ln) (out:List Pr),fin (l.foldl step (.at out none))=refP out l
 | [],out=>by simp [fin,refP]
 | x::t,out=>by
  rw [List.foldl_cons,refP.eq_def]
  simp only []
  simp only [step]
  by_cases h1:¬rowErr x.2=0
  · rw [if_pos h1,if_pos h1,fold_bad];rfl
  rw [if_neg h1,if_neg h1]
  by_cases h2:twice out (rowVal x.2)=true
  · rw [if_pos h2,if_pos h2,fold_bad];rfl
  rw [if_neg h2,if_neg h2]
  by_cases h3:namedB (fld x.2 1) nmF=true
  · rw [if_pos h3,if_pos h3]
    cases t with
    | nil=>rfl
    | cons y t'=>
     rw [List.foldl_cons]
     simp only [step]
     by_cases h4:¬rowErr y.2=0
     · rw [if_pos h4,if_pos h4,fold_bad];rfl
     rw [if_neg h4,if_neg h4]
     by_cases h5:joinB x.2 y.2=false
     · rw [if_pos h5,if_pos h5,fold_bad];rfl
     rw [if_neg h5,if_neg h5,setB_snoc]
     exact fold_ref t' _
  · rw [if_neg h3,if_neg h3]
    exact fold_ref t _
theorem fold_parse (l:List Ln):fin (l.foldl step (.at [] none))=parseOf l:=fold_ref l []
end Go.Proofs.YtbkgbhlmeeodgaaGreatDoor.Uc
