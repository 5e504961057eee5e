/- A part. -/
import Derived.Test.YtmellioacefjjaaGreatDoorQA35
import Derived.Maps.OwnRows
import Derived.Maps.OwnOps
import Derived.Maps.AppendAt
namespace Go.Proofs.YtmellioacefjjaaGreatDoor
open Go.RowKit Go.Shelf
def nilT:DataW Value:=.held (.slice none 0 0)
def key (c:Int):Lit:=.int .i64 c
theorem key_inj {a b:Int} (h:a≠b):key a≠key b:=fun e=>h (by unfold key at e;injection e)
theorem key_is (c:Int):WideAt.IsKeyLit (key c):=trivial
def F1 (W:World) (M n:Nat) (D:DataW Value) (O:List Int):Prop:=
 W.ownsMap Tryz.prog 3 Cf.tokE M n D∧(∀ c,Maps.has D (key c)=decide (c∈O))∧(Maps.size D=O.length∧O.Nodup)
def A1 (W:World) (D:DataW Value) (dec:Int→List Int) (O:List Int) (No:Nat→Prop):Prop:=
 ∀ c∈O,∃ A k,D.atKey (key c) nilT=.held (.slice A (dec c).length k)∧Vals W A (dec c).length (nums .i64 (dec c))∧∀ a,A=some a→a.block<W.heap.size∧¬No a.block
theorem F1.kept {W W':World} {M n:Nat} {D:DataW Value} {O:List Int} {row:Option Nat} (h:F1 W M n D O) (hg:W.grownBy W' row) (hne:some M≠row):F1 W' M n D O:=⟨h.1.kept hg hne,h.2⟩
theorem vals_grown {W W':World} {A:Option Addr} {n:Nat} {vs:List Value} {row:Option Nat} (h:Vals W A n vs) (hg:W.grownBy W' row) (hne:∀ a,A=some a→some a.block≠row):Vals W' A n vs:=by
 refine⟨h.1,fun hn=>?_⟩
 obtain⟨b,off,rfl,hlt,hc⟩:=h.2 hn
 exact⟨b,off,rfl,Nat.lt_of_lt_of_le hlt hg.size,fun j v hj=>hg.cell (a:=⟨b,off+j,none⟩) (hc j v hj) (hne ⟨b,off,none⟩ rfl)⟩
theorem A1.no {W:World} {D:DataW Value} {dec:Int→List Int} {O:List Int} {No No':Nat→Prop} (h:A1 W D dec O No) (hn:∀ k,k<W.heap.size→No' k→No k):A1 W D dec O No':=
 fun c hc=>by
  obtain⟨A,k,h1,h2,h3⟩:=h c hc
  exact⟨A,k,h1,h2,fun a e=>⟨(h3 a e).1,fun hh=>(h3 a e).2 (hn _ (h3 a e).1 hh)⟩⟩
theorem f1_tidy {W:World} {M n:Nat} {D:DataW Value} {O:List Int} (h:F1 W M n D O):Maps.Tidy D:=h.1.tidy Cf.k3
theorem f1_put {W W':World} {M n m:Nat} {D:DataW Value} {O:List Int} {c:Int} {v:Value} (h:F1 W M n D O) (hc:c∉O) (ho:W'.ownsMap Tryz.prog 3 Cf.tokE M m (D.put (key c) (.held v))):F1 W' M m (D.put (key c) (.held v)) (O ++ [c]):=by
 have hh:Maps.has D (key c)=false:=by rw [h.2.1];exact decide_eq_false hc
 refine⟨ho,fun x=>?_,?_,?_⟩
 · by_cases e:x=c
   · subst e
     rw [Maps.has_put_same (f1_tidy h).isMap (key_is _),decide_eq_true (by simp)]
   · rw [Maps.has_put_other (key_inj e),h.2.1]
     exact decide_eq_decide.2 (by simp [e])
 · rw [Maps.size_put (f1_tidy h),hh,if_neg (by simp),h.2.2.1];simp
 · refine List.nodup_append.2 ⟨h.2.2.2,by simp,fun a ha b hb e=>?_⟩
   rw [List.mem_singleton] at hb
   exact hc (hb▸e▸ha)
theorem a1_put {W:World} {D:DataW Value} {dec:Int→List Int} {O:List Int} {No:Nat→Prop} {c:Int} {A:Option Addr} {k:Nat} (hm:Maps.Tidy D) (h:A1 W D dec O No) (hc:c∉O) (hv:Vals W A (dec c).length (nums .i64 (dec c))) (hA:∀ a,A=some a→a.block<W.heap.size∧¬No a.block):
 A1 W (D.put (key c) (.held (.slice A (dec c).length k))) dec (O ++ [c]) No:=by
 intro x hx
 rcases List.mem_append.1 hx with hx | hx
 · obtain⟨A',k',h1,h2⟩:=h x hx
   exact⟨A',k',by rw [Maps.atKey_put_other (key_inj (fun e:x=c=>hc (e▸hx)))];exact h1,h2⟩
 · rw [List.mem_singleton.1 hx]
   exact⟨A,k,Maps.atKey_put_same hm.isMap (key_is _) _ _,hv,hA⟩
theorem cutO_len {O:List Int} {c:Int} (hn:O.Nodup) (hc:c∈O):(cutO O c).length+1=O.length:=by
 induction O with
 | nil=>cases hc
 | cons x l ih=>
  obtain⟨h1,h2⟩:=List.nodup_cons.1 hn
  by_cases e:x=c
  · subst e
    have:cutO (x::l) x=l:=by
     unfold cutO
     rw [List.filter_cons_of_neg (by simp),List.filter_eq_self]
     intro y hy
     exact decide_eq_true (fun e=>h1 (e▸hy))
    rw [this,List.length_cons]
  · have:cutO (x::l) c=x::cutO l c:=by unfold cutO;rw [List.filter_cons_of_pos (by simpa using e)]
    rw [this,List.length_cons,List.length_cons,ih h2 ((List.mem_cons.1 hc).elim (fun hh=>absurd hh.symm e) id)]
theorem f1_del {W W':World} {M n:Nat} {D:DataW Value} {O:List Int} {c:Int} (h:F1 W M n D O) (hc:c∈O) (ho:W'.ownsMap Tryz.prog 3 Cf.tokE M n (D.del (key c))):F1 W' M n (D.del (key c)) (cutO O c):=by
 have hh:Maps.has D (key c)=true:=by rw [h.2.1];exact decide_eq_true hc
 refine⟨ho,fun x=>?_,?_,h.2.2.2.filter _⟩
 · by_cases e:x=c
   · subst e
     rw [Maps.has_del_same,eq_comm]
     exact decide_eq_false (fun hx=>(cutO_mem.1 hx).2 rfl)
   · rw [Maps.has_del_other (key_inj e),h.2.1]
     exact decide_eq_decide.2 ⟨fun hx=>cutO_mem.2 ⟨hx,e⟩,fun hx=>(cutO_mem.1 hx).1⟩
 · have h1:=Maps.size_del (k:=key c) (f1_tidy h)
   rw [hh,if_pos rfl,h.2.2.1] at h1
   have h2:=cutO_len h.2.2.2 hc
   omega
theorem a1_del {W:World} {D:DataW Value} {dec:Int→List Int} {O:List Int} {No:Nat→Prop} {c:Int} (h:A1 W D dec O No):A1 W (D.del (key c)) dec (cutO O c) No:=by
 intro x hx
 obtain⟨h1,h2⟩:=cutO_mem.1 hx
 obtain⟨A,k,q1,q2⟩:=h x h1
 exact⟨A,k,by rw [Maps.atKey_del_other (key_inj h2)];exact q1,q2⟩
structure F2 (W:World) (M n base:Nat) (D:DataW Value) (us:Int→List Int) (val:Int→Value):Prop where
 own:W.ownsMap Tryz.prog 3 Cf.tokE M n D
 at2:∀ c,D.atKey (key c) nilT=.held (val c)
 row:∀ c,W.ownsInts base 3 .i64 (val c) (us c)
 apt:∀ c x,c≠x→(val c).ownBlock=none∨(val c).ownBlock≠(val x).ownBlock
theorem F2.kept {W W':World} {M n base:Nat} {D:DataW Value} {us:Int→List Int} {val:Int→Value} {row:Option Nat} (h:F2 W M n base D us val) (hg:W.grownBy W' row) (hne:some M≠row) (hr:∀ c,(val c).ownBlock=none∨(val c).ownBlock≠row):F2 W' M n base D us val:=
 ⟨h.own.kept hg hne,h.at2,fun c=>(h.row c).kept hg (hr c),h.apt⟩
def putV {α:Type} (f:Int → α) (c:Int) (v:α):Int → α:=fun x=>if x=c then v else f x
theorem putV_same {α:Type} (f:Int → α) (c:Int) (v:α):putV f c v c=v:=if_pos rfl
theorem putV_other {α:Type} (f:Int → α) {c x:Int} (v:α) (h:x≠c):putV f c v x=f x:=if_neg h
theorem f2_put {W W1 W2:World} {M n m base:Nat} {D:DataW Value} {us:Int→List Int} {val:Int→Value} {c x:Int} {v':Value} (h:F2 W M n base D us val) (hw:(Lit.int .i64 x).wf=true) (hg:W.grownBy W1 (val c).ownBlock) (ho':W1.ownsRow base 3 1 v' ((us c).length+1) ((us c).map (Value.int .i64) ++ [.int .i64 x]))
 (hl:v'.ownBlock=(val c).ownBlock∨∃ g,v'.ownBlock=some g∧W.heap.size≤g) (hM:M<base) (hg2:W1.grownBy W2 (some M)) (ho:W2.ownsMap Tryz.prog 3 Cf.tokE M m (D.put (key c) (.held v'))):
 F2 W2 M m base (D.put (key c) (.held v')) (putV us c (us c ++ [x])) (putV val c v'):=by
 have hrow:∀ z:Value,∀ zs,W1.ownsInts base 3 .i64 z zs→W2.ownsInts base 3 .i64 z zs:=fun z zs hz=>hz.kept hg2 (by
  cases hb:z.ownBlock with
  | none=>exact .inl rfl
  | some g=>exact .inr (fun e=>by injection e with e;have:=(hz.1.lt g hb).1;omega))
 have hfar:∀ d,d≠c→(val d).ownBlock=none∨(val d).ownBlock≠v'.ownBlock:=fun d hd=>by
  rcases hl with e | ⟨g,e,hge⟩
  · rw [e];exact h.apt d c hd
  · cases hb:(val d).ownBlock with
    | none=>exact .inl rfl
    | some k=>exact .inr (fun e2=>by rw [e] at e2;injection e2 with e2;have:=((h.row d).1.lt k hb).2;omega)
 refine⟨ho,fun d=>?_,fun d=>?_,fun d y hdy=>?_⟩
 · by_cases e:d=c
   · subst e;rw [putV_same,Maps.atKey_put_same h.own.isMap (key_is _)]
   · rw [putV_other _ _ e,Maps.atKey_put_other (key_inj e)];exact h.at2 d
 · by_cases e:d=c
   · subst e;rw [putV_same,putV_same];exact hrow _ _ ((h.row d).appended ho' hw)
   · rw [putV_other _ _ e,putV_other _ _ e]
     exact hrow _ _ ((h.row d).kept hg (h.apt d c e))
 · by_cases e:d=c
   · subst e
     rw [putV_same,putV_other _ _ (Ne.symm hdy)]
     rcases hfar y (Ne.symm hdy) with h1 | h1
     · rw [h1]
       cases v'.ownBlock with
       | none=>exact .inl rfl
       | some g=>exact .inr (by simp)
     · exact .inr (Ne.symm h1)
   · rw [putV_other _ _ e]
     by_cases e2:y=c
     · subst e2;rw [putV_same];exact hfar d e
     · rw [putV_other _ _ e2];exact h.apt d y hdy
def zero3:DataW Value:=.lit (.int .i64 0)
def F3 (W:World) (M n:Nat) (D:DataW Value) (sz:Int→Nat):Prop:=
 W.ownsMap Tryz.prog 3 (plainElem Tryz.prog 3) M n D∧∀ c,D.atKey (key c) zero3=.lit (.int .i64 (sz c:Nat))
theorem F3.kept {W W':World} {M n:Nat} {D:DataW Value} {sz:Int→Nat} {row:Option Nat} (h:F3 W M n D sz) (hg:W.grownBy W' row) (hne:some M≠row):F3 W' M n D sz:=⟨h.1.kept hg hne,h.2⟩
theorem f3_put {W W':World} {M n m:Nat} {D:DataW Value} {sz:Int→Nat} {c:Int} {k:Nat} (h:F3 W M n D sz) (ho:W'.ownsMap Tryz.prog 3 (plainElem Tryz.prog 3) M m (D.put (key c) (.lit (.int .i64 (k:Nat))))):F3 W' M m (D.put (key c) (.lit (.int .i64 (k:Nat)))) (putS sz c k):=by
 refine⟨ho,fun d=>?_⟩
 by_cases e:d=c
 · subst e;rw [putS_same,Maps.atKey_put_same h.1.isMap (key_is _)]
 · rw [putS_other e,Maps.atKey_put_other (key_inj e)];exact h.2 d
theorem own_pop {W:World} {base:Nat} {e:TypeId} {n cap g:Nat} {zs:List Value} {z:Value} (h:W.ownsRow base e 1 (.slice (some ⟨g,0,none⟩) (n+1) cap) (n+1) (zs ++ [z])):W.ownsRow base e 1 (.slice (some ⟨g,0,none⟩) n cap) n zs:=by
 have hl:zs.length=n:=by have:=h.1;simp at this;exact this
 refine⟨by simp [hl],.inr ?_⟩
 rcases h.2 with ⟨h1,-⟩ | ⟨g',cap',cur,h1,h2,h3,h4,h5,h6,h7⟩
 · cases h1
 · injection h1 with e1 e2 e3
   injection e1 with e1
   injection e1 with e1
   subst e1 e3
   refine⟨g,cap,cur,rfl,h2,h3,by omega,h5,h6,?_⟩
   have:cur.toList.take (n*1)=(cur.toList.take ((n+1)*1)).take n:=by rw [List.take_take];congr 1;omega
   rw [this,h7,List.take_append_of_le_length (by omega),List.take_of_length_le (by omega)]
theorem run_append_ints_at {W:World} (base:Nat) (v:Value) (n:Nat) (xs:List Value) (hown:W.ownsRow base 3 1 v n xs) (A:Option Addr) (m c:Nat) (zs:List Int) (hN:Vals W A m (nums .i64 zs)) (hbig:n+m≤1000000000) (hbase:base≤W.heap.size) (ty:TypeId):
 ∃ v' W',(Builtin.append_ #[31,31] ty #[v,.slice A m c]).run Tryz.prog W=.ok v' W'∧W'.ownsRow base 3 1 v' (n+m) (xs++nums .i64 zs)∧W.grownBy W' v.ownBlock∧(v'.ownBlock=v.ownBlock∨v'.ownBlock=some W.heap.size):=by
 obtain⟨i0,hi,hz0,hz1,hz2⟩:=info_parts infoI
 cases A with
 | none=>
  have hm:m=0:=by
   rcases Nat.eq_zero_or_pos m with h0 | h0
   · exact h0
   · obtain⟨b,off,e,_⟩:=hN.2 h0
     cases e
  subst hm
  obtain rfl:zs = []:=List.eq_nil_of_length_eq_zero (by have:=hN.1;rwa [nums_len] at this)
  exact⟨v,W,run_append_nil (P:=Tryz.prog) base 31 ty 3 i0 1 c Tryz.underlying31 hi v n xs hown,by simpa [nums] using hown,World.grownBy.refl W _,.inl rfl⟩
 | some ad=>
  obtain⟨v',W',h1,h2,h3,-,h5⟩:=run_append_own_at (P:=Tryz.prog) W base 31 ty 3 i0 (.int .i64 0) 1 8 Tryz.underlying31 hi hz0 hz1 hz2 rfl (by decide) v n xs hown ad m c (nums .i64 zs) (by rw [nums_len,Nat.mul_one];have:=hN.1;rwa [nums_len] at this) (vals_cells hN) nums_one' (by unfold maxLen;omega) (by omega) hbase
  exact⟨v',W',h1,h2,h3,h5⟩
end Go.Proofs.YtmellioacefjjaaGreatDoor
namespace Go.Proofs.YtmellioacefjjaaGreatDoor
open Go.RowKit Go.Shelf
attribute [local go_sem] Oper.semAt_some
theorem zeroI (w:World):(zeroValue 3).run Tryz.prog w=.ok (.int .i64 0) w:=by kernel_rfl
theorem keyI {c:Int} (h:(Lit.int .i64 c).wf=true):keyOf Tryz.prog 3 (.int .i64 c)=some (key c):=Maps.keyOf_int_mk Tryz.underlying3 h
theorem wf_nat (n:Nat) (h:n≤1000000000):(Lit.int .i64 (n:Nat)).wf=true:=WalkArith.wf_i64 (by omega)
theorem look_sz {w:World} {ops:Array Oper} {rest:List Oper} {o:Oper} {a:Act} {Q:Exit→Act→World→Prop} (hg:o.guard=none) (m x:Operand) (hop:o.op=Op.lookup 183 m x false)
 (b n:Nat) (D:DataW Value) (sz:Int→Nat) (hm:a.eval m=.map (some b)) (hF:F3 w b n D sz) (c:Int) (hx:a.eval x=.int .i64 c) (hc:(Lit.int .i64 c).wf=true)
 (hK:wpList Tryz.prog ops Q rest (a.put o.dst (.int .i64 (sz c:Nat))) w):wpList Tryz.prog ops Q (o::rest) a w:=
 wpList_lookup_own_int w hg m x 183 hop 3 3 .i64 Cf.k3 Tryz.underlying183 Tryz.underlying3 (zeroI _) b n D hm hF.1 _ _ hx (keyI hc) (fun v hv _=>by
  rw [show D.atKey (key c) (.lit (.int .i64 0))=.lit (.int .i64 (sz c:Nat)) from hF.2 c] at hv
  injection hv with hv
  injection hv with _ hv
  rw [←hv]
  exact hK)
def isOpen (O ps:List Int):Bool:=ps.any fun d=>decide (d∈O)
theorem open_hit {O ps:List Int} {k:Nat} {d:Int} (hd:ps[k]? = some d) (h:d∈O):isOpen O ps=true:=List.any_eq_true.2 ⟨d,List.mem_of_getElem? hd,decide_eq_true h⟩
theorem open_none {O ps:List Int} (h:∀ d∈ps,d∉O):isOpen O ps=false:=by
 unfold isOpen
 rw [List.any_eq_false]
 intro d hd
 simpa using h d hd
def AoI (O ps:List Int) (w:World) (i:Value) (wr:World):Prop:=∃ k:Nat,(i=.int .i64 k∧k≤ps.length)∧(∀ d∈ps.take k,d∉O)∧w=wr
theorem ao_more {O ps:List Int} {k:Nat} {d:Int} (hd:ps[k]? = some d) (hn:d∉O) (h:∀ t∈ps.take k,t∉O):∀ t∈ps.take (k+1),t∉O:=by
 have hlt:=(List.getElem?_eq_some_iff.1 hd).1
 have e:ps[k]=d:=(List.getElem?_eq_some_iff.1 hd).2
 rw [List.take_succ_eq_append_getElem hlt,e]
 intro t ht
 rcases List.mem_append.1 ht with ht | ht
 · exact h t ht
 · rw [List.mem_singleton.1 ht];exact hn
theorem held_some {w:World} {D:DataW Value} {dec:Int→List Int} {O:List Int} {No:Nat→Prop} (h:A1 w D dec O No) {c:Int} (hc:c∈O):∃ v,D.atKey (key c) (.held (.slice none 0 0))=.held v:=by
 obtain⟨A,k,h1,-⟩:=h c hc
 exact⟨_,h1⟩
set_option maxRecDepth 100000 in
set_option maxHeartbeats 1000000 in
theorem any131 (b M n nn k:Nat) (D:DataW Value) (dec:Int→List Int) (O ps:List Int) (No:Nat→Prop) (A:Option Addr) (w:World) (hc:w.cell? ⟨b,0,none⟩=some (.map (some M))) (hF:F1 w M n D O) (hA:A1 w D dec O No) (hV:Vals w A nn (nums .i64 ps)) (hn:nn≤1000) (hw:∀ d∈ps,(Lit.int .i64 d).wf=true):
 Calls Tryz.prog 131 #[.pointer (some ⟨b,0,none⟩),.slice A nn k] w fun e w'=>e=.returned (.bool (isOpen O ps))∧w=w':=by
 have hl:ps.length=nn:=by have:=hV.1;rwa [nums_len] at this
 have HL:=Lib.hid hl
 have HF:=Lib.hid hF
 have HA:=Lib.hid hA
 have HV:=Lib.hid hV
 have HW:=Lib.hid hw
 clear hF hA hV hw hl
 go_enter Tryz.func131,Tryz.ntmps131
 go_wp2
 go_loopw [11] (fun i wr=>AoI O ps w i wr) (fun i _=>nn-(intOf i).toNat)
 case atStart=>exact⟨0,⟨rfl,Nat.zero_le _⟩,fun d hd=>(by simp at hd),rfl⟩
 case round=>
  obtain⟨j,⟨rfl,hj⟩,hno,rfl⟩:=hrel
  rw [HL.out] at hj
  by_cases hlt:j<nn
  · obtain⟨d,hd⟩:∃ d,ps[j]? = some d:=⟨_,List.getElem?_eq_getElem (by have:=HL.out;omega)⟩
    obtain⟨b2,off,rfl,-,hcc⟩:=HV.out.2 (by omega)
    have k1:w.cell? ⟨b2,off+j,none⟩=some (.int .i64 d):=hcc j _ (by unfold nums;rw [List.getElem?_map,hd];rfl)
    have HWD:=Lib.hid (HW.out d (List.mem_of_getElem? hd))
    by_cases ho:d∈O
    · obtain⟨v,hv⟩:=held_some HA.out ho
      have HAT:=Lib.hid hv
      have HHS:Hid (Maps.has D (.int .i64 d)=true):=Lib.hid (by rw [show Maps.has D (.int .i64 d)=decide (d∈O) from HF.out.2.1 d];exact decide_eq_true ho)
      have HR:=Lib.hid (open_hit hd ho)
      clear hcc hd ho hno hv
      go_wp2_with (at_lookup;refine Cf.look_tok rfl _ _ rfl M n D rfl HF.out.1 d rfl HWD.out v true HAT.out HHS.out ?_)
      go_ret
      rw [HR.out]
      exact⟨rfl,rfl⟩
    · have HHS0:Maps.has D (.int .i64 d)=false:=by rw [show Maps.has D (.int .i64 d)=decide (d∈O) from HF.out.2.1 d];exact decide_eq_false ho
      have HAT:=Lib.hid (Maps.atKey_of_not_has HHS0 (.held (.slice none 0 0)))
      have HHS:=Lib.hid HHS0
      have HR:=Lib.hid (ao_more hd ho hno)
      clear hcc hd ho hno HHS0
      go_wp2_with (at_lookup;refine Cf.look_tok rfl _ _ rfl M n D rfl HF.out.1 d rfl HWD.out _ false HAT.out HHS.out ?_)
      go_roundw
      case rel=>exact⟨j+1,⟨by go_num,by rw [HL.out];omega⟩,HR.out,rfl⟩
      case measure=>simp [intOf];omega
  · have HR:Hid (isOpen O ps=false):=Lib.hid (open_none (by rw [List.take_of_length_le (by rw [HL.out];omega)] at hno;exact hno))
    have hje:j=nn:=by omega
    subst hje
    clear hno
    go_wp2
    go_ret
    rw [HR.out]
    exact⟨rfl,rfl⟩
def SzI (sz:Int→Nat) (ps:List Int) (w:World) (s i:Value) (wr:World):Prop:=∃ k:Nat,(i=.int .i64 k∧k≤ps.length)∧s=.int .i64 (sumS sz (ps.take k):Nat)∧w=wr
set_option maxRecDepth 100000 in
set_option maxHeartbeats 1000000 in
theorem size132 (b M n nn k:Nat) (D:DataW Value) (sz:Int→Nat) (ps:List Int) (A:Option Addr) (w:World) (hc:w.cell? ⟨b,2,none⟩=some (.map (some M))) (hF:F3 w M n D sz) (h5:∀ c,sz c≤5) (hV:Vals w A nn (nums .i64 ps)) (hn:nn≤1000) (hw:∀ d∈ps,(Lit.int .i64 d).wf=true):
 Calls Tryz.prog 132 #[.pointer (some ⟨b,0,none⟩),.slice A nn k] w fun e w'=>e=.returned (.int .i64 (sizeS sz ps:Nat))∧w=w':=by
 have hl:ps.length=nn:=by have:=hV.1;rwa [nums_len] at this
 have HL:=Lib.hid hl
 have HF:=Lib.hid hF
 have HV:=Lib.hid hV
 have HW:=Lib.hid hw
 have H5:=Lib.hid h5
 clear hF hV hw hl h5
 go_enter Tryz.func132,Tryz.ntmps132
 go_wp2
 go_loopw [5,10] (fun s i wr=>SzI sz ps w s i wr) (fun _ i _=>nn-(intOf i).toNat)
 case atStart=>exact⟨0,⟨rfl,Nat.zero_le _⟩,rfl,rfl⟩
 case round=>
  obtain⟨j,⟨rfl,hj⟩,rfl,rfl⟩:=hrel
  rw [HL.out] at hj
  have hs:=sumS_le H5.out (ps.take j)
  rw [List.length_take] at hs
  by_cases hlt:j<nn
  · obtain⟨d,hd⟩:∃ d,ps[j]? = some d:=⟨_,List.getElem?_eq_getElem (by have:=HL.out;omega)⟩
    obtain⟨b2,off,rfl,-,hcc⟩:=HV.out.2 (by omega)
    have k1:w.cell? ⟨b2,off+j,none⟩=some (.int .i64 d):=hcc j _ (by unfold nums;rw [List.getElem?_map,hd];rfl)
    have HWD:=Lib.hid (HW.out d (List.mem_of_getElem? hd))
    have hd5:=H5.out d
    have HS:Hid (sumS sz (ps.take (j+1))=sumS sz (ps.take j)+max 1 (sz d)):=Lib.hid (by
     rw [List.take_succ_eq_append_getElem (List.getElem?_eq_some_iff.1 hd).1,(List.getElem?_eq_some_iff.1 hd).2,sumS_snoc])
    obtain⟨S,hS⟩:∃ S,sumS sz (ps.take j)=S:=⟨_,rfl⟩
    rw [hS] at hs HS ⊢
    have hs2:S≤5000:=by omega
    clear hcc hd hS hs
    go_wp2_with (at_lookup;refine look_sz rfl _ _ rfl M n D sz rfl HF.out d rfl HWD.out ?_)
    go_roundw
    case rel=>
     refine⟨j+1,⟨by go_num,by rw [HL.out];omega⟩,?_,rfl⟩
     rw [HS.out]
     have e:((S:Int)+if 1<(sz d:Int) then (sz d:Int) else 1)=((S+max 1 (sz d):Nat):Int):=by split <;> omega
     first | rw [e] | (congr 1;omega) | (congr 1;push_cast;omega) | (congr 1;by_cases h1:1<sz d <;> omega)
    case measure=>simp [intOf];omega
  · have hje:j=nn:=by omega
    subst hje
    have HS:Hid (sumS sz (ps.take j)=sumS sz ps):=Lib.hid (by rw [List.take_of_length_le (by rw [HL.out];exact Nat.le_refl _)])
    obtain⟨S,hS⟩:∃ S,sumS sz (ps.take j)=S:=⟨_,rfl⟩
    rw [hS] at hs HS ⊢
    have hs2:S≤5000:=by omega
    clear hS hs
    have HE:Hid (sizeS sz ps=min S 5):=Lib.hid (by unfold sizeS;rw [←HS.out])
    by_cases h5':(S:Int)≤5
    · go_wp2
      go_ret
      exact⟨ret_int (by rw [HE.out];omega),rfl⟩
    · go_wp2
      go_ret
      exact⟨ret_int (by rw [HE.out];omega),rfl⟩
def addU (us:Int→List Int) (c:Int) (ps:List Int):Int→List Int:=ps.foldl (fun us d=>putV us d (us d ++ [c])) us
theorem addU_snoc (us:Int→List Int) (c:Int) (ps:List Int) (d:Int):addU us c (ps ++ [d])=putV (addU us c ps) d (addU us c ps d ++ [c]):=by unfold addU;rw [List.foldl_append];rfl
theorem addU_len (us:Int→List Int) (c:Int) {N:Nat} (h:∀ d,(us d).length≤N):∀ (ps:List Int) (d:Int),(addU us c ps d).length≤N+ps.length:=by
 intro ps
 induction ps generalizing us N with
 | nil=>exact fun d=>by simpa [addU] using h d
 | cons p ps ih=>
  intro d
  have h2:=ih (us:=putV us p (us p ++ [c])) (N:=N+1) (fun x=>by
   by_cases e:x=p
   · subst e;rw [putV_same];have:=h x;simp;omega
   · rw [putV_other _ _ e];have:=h x;omega) d
  have e:addU us c (p::ps) d=addU (putV us p (us p ++ [c])) c ps d:=rfl
  rw [e,List.length_cons]
  omega
def Ofs (M1 M2:Nat) (val:Int→Value) (k:Nat):Prop:=k≠M1∧k≠M2∧∀ x,(val x).ownBlock≠some k
def Moved (w:World) (val val':Int→Value):Prop:=∀ x,(val' x).ownBlock=(val x).ownBlock∨∃ g,(val' x).ownBlock=some g∧w.heap.size≤g
theorem Moved.refl (w:World) (val:Int→Value):Moved w val val:=fun _=>.inl rfl
def AdI (w:World) (b M1 M2 n1 n2 base B0 nn:Nat) (D1:DataW Value) (us:Int→List Int) (val:Int→Value) (c:Int) (A:Option Addr) (ps:List Int) (i:Value) (wr:World):Prop:=
 ∃ (k m:Nat) (D:DataW Value) (v:Int→Value),(i=.int .i64 k∧k≤nn)∧(F2 wr M2 m base D (addU us c (ps.take k)) v∧m≤n2+k)∧(wr.ownsMap Tryz.prog 3 Cf.tokE M1 n1 D1∧Vals wr A nn (nums .i64 ps)∧wr.cell? ⟨b,1,none⟩=some (.map (some M2)))∧(Moved w val v∧Kept (Ofs M1 M2 val) w wr∧Below B0 w wr)
def AddPost (w:World) (M1 M2 n1 n2 base B0 nn:Nat) (D1:DataW Value) (us:Int→List Int) (val:Int→Value) (c:Int) (ps:List Int) (e:Ending) (w':World):Prop:=
 e=.returned (.tuple #[])∧∃ (m:Nat) (D:DataW Value) (v:Int→Value),(F2 w' M2 m base D (addU us c ps) v∧m≤n2+nn)∧w'.ownsMap Tryz.prog 3 Cf.tokE M1 n1 D1∧(Moved w val v∧Kept (Ofs M1 M2 val) w w'∧Below B0 w w')
set_option maxRecDepth 100000 in
theorem look_at {W:World} {M m:Nat} {D:DataW Value} {d:Int} {v:Value} (h:W.ownsMap Tryz.prog 3 Cf.tokE M m D) (hd:(Lit.int .i64 d).wf=true) (hat:D.atKey (key d) nilT=.held v):(Instr.lookup 109 (.map (some M)) (.int .i64 d) false).run Tryz.prog W=.ok v W:=by
 obtain⟨v',ps,hr,hR⟩:=h.lookup Cf.k3 Tryz.underlying109 (Cf.zero33 W) (zd:=nilT) (zp:=[]) rfl (Cf.key3 hd)
 have e:D.atKey (key d) nilT=.held v':=Cf.tokE_inv hR
 have e2:v'=v:=by rw [hat] at e;injection e with e;exact e.symm
 rw [←e2]
 exact hr
theorem upd_at {W:World} {M m:Nat} {D:DataW Value} {d:Int} {v:Value} (h:W.ownsMap Tryz.prog 3 Cf.tokE M m D) (hd:(Lit.int .i64 d).wf=true) (hm:m≤1000000):∃ W',(Instr.mapUpdate 109 (.map (some M)) (.int .i64 d) v).run Tryz.prog W=.ok () W'∧W'.ownsMap Tryz.prog 3 Cf.tokE M (m+1) (D.put (key d) (.held v))∧W.grownBy W' (some M):=
 h.update Cf.k3 Tryz.underlying109 (by unfold maxLen;omega) (Cf.key3 hd) (val:=v) rfl
theorem kept_grown {A:Nat→Prop} {w w':World} {row:Option Nat} (hg:w.grownBy w' row) (hr:∀ k,A k→some k≠row):Kept A w w':=⟨hg.size,fun k ha hk=>hg.block k hk (hr k ha)⟩
theorem ad_next {w wr W1 W2:World} {b M1 M2 n1 n2 base B0 nn k m g:Nat} {D1 D:DataW Value} {us:Int→List Int} {val v:Int→Value} {c d:Int} {A:Option Addr} {ps:List Int} {o:Obj} {cap:Nat} (hk:k<nn) (hd:ps[k]? = some d) (hc:(Lit.int .i64 c).wf=true)
 (hne:M1≠M2) (hb:b<base) (hbl:b≠M2) (hM1:M1<base) (hM2:M2<base) (hbw:base≤w.heap.size) (hB1:B0≤M1) (hB2:B0≤M2) (hA:∀ a,A=some a→Ofs M1 M2 val a.block∧a.block<w.heap.size)
 (hF:F2 wr M2 m base D (addU us c (ps.take k)) v) (hm:m≤n2+k) (ho:wr.ownsMap Tryz.prog 3 Cf.tokE M1 n1 D1) (hV:Vals wr A nn (nums .i64 ps)) (hcl:wr.cell? ⟨b,1,none⟩=some (.map (some M2))) (hmv:Moved w val v) (hkp:Kept (Ofs M1 M2 val) w wr) (hbe:Below B0 w wr)
 (hown:W1.ownsRow base 3 1 (.slice (some ⟨g,0,none⟩) ((addU us c (ps.take k) d).length+1) cap) ((addU us c (ps.take k) d).length+1) (nums .i64 (addU us c (ps.take k) d) ++ [.int .i64 c])) (hgr:(wr.alloc o).grownBy W1 (v d).ownBlock) (hat:(v d).ownBlock=some g∨g=wr.heap.size+1)
 (hup:W2.ownsMap Tryz.prog 3 Cf.tokE M2 (m+1) (D.put (key d) (.held (.slice (some ⟨g,0,none⟩) ((addU us c (ps.take k) d).length+1) cap)))) (hg2:W1.grownBy W2 (some M2)):
 AdI w b M1 M2 n1 n2 base B0 nn D1 us val c A ps (.int .i64 ((k:Int)+1)) W2:=by
 have hsw:=hkp.1
 have hga:wr.grownBy W1 (v d).ownBlock:=(World.grownBy_alloc wr o _).trans hgr
 have hlo:∀ r,(v d).ownBlock=some r→base≤r:=fun r e=>((hF.row d).1.lt r e).1
 have hne1:∀ j,j<base→some j≠(v d).ownBlock:=fun j hj e=>by have:=hlo j e.symm;omega
 have hpt:ps.take (k+1)=ps.take k ++ [d]:=by
  rw [List.take_succ_eq_append_getElem (List.getElem?_eq_some_iff.1 hd).1,(List.getElem?_eq_some_iff.1 hd).2]
 have hofs:∀ j,Ofs M1 M2 val j→j<w.heap.size→some j≠(v d).ownBlock:=fun j hj hjw e=>by
  rcases hmv d with h1 | ⟨r,h1,h2⟩
  · exact hj.2.2 d (h1.symm.trans e.symm)
  · rw [h1] at e;injection e with e;omega
 refine⟨k+1,m+1,D.put (key d) (.held (.slice (some ⟨g,0,none⟩) ((addU us c (ps.take k) d).length+1) cap)),putV v d (.slice (some ⟨g,0,none⟩) ((addU us c (ps.take k) d).length+1) cap),⟨by go_num,by omega⟩,⟨?_,by omega⟩,⟨?_,?_,?_⟩,fun x=>?_,?_,?_⟩
 · rw [hpt,addU_snoc]
   exact f2_put hF hc hga hown (hat.elim (fun e=>.inl e.symm) (fun e=>.inr ⟨g,rfl,by omega⟩)) hM2 hg2 hup
 · exact (ho.kept hga (hne1 _ hM1)).kept hg2 (fun e=>hne (by injection e))
 · exact vals_grown (vals_grown hV hga (fun a e=>hofs _ (hA a e).1 (hA a e).2)) hg2 (fun a e e2=>(hA a e).1.2.1 (by injection e2))
 · exact hg2.cell (a:=⟨b,1,none⟩) (hga.cell (a:=⟨b,1,none⟩) hcl (hne1 _ hb)) (fun e=>hbl (by injection e))
 · by_cases e:x=d
   · subst e
     rw [putV_same]
     rcases hat with h1 | h1
     · rcases hmv x with h2 | ⟨r,h2,h3⟩
       · exact .inl (by rw [←h2,h1];rfl)
       · exact .inr ⟨g,rfl,by rw [h1] at h2;injection h2 with h2;omega⟩
     · exact .inr ⟨g,rfl,by omega⟩
   · rw [putV_other _ _ e];exact hmv x
 · refine⟨Nat.le_trans hsw (Nat.le_trans hga.size hg2.size),fun j hj hjw=>?_⟩
   rw [hg2.block j (Nat.lt_of_lt_of_le hjw (Nat.le_trans hsw hga.size)) (fun e=>hj.2.1 (by injection e)),hga.block j (Nat.lt_of_lt_of_le hjw hsw) (hofs j hj hjw)]
   exact hkp.2 j hj hjw
 · exact (hbe.grown hga (by omega) (fun r e=>by have:=hlo r e;omega)).grown hg2 (by have:=hga.size;omega) (fun r e=>by injection e with e;omega)
set_option maxRecDepth 100000 in
set_option maxHeartbeats 2000000 in
theorem add97 (b M1 M2 n1 n2 base B0 nn ca:Nat) (D1 D2:DataW Value) (us:Int→List Int) (val:Int→Value) (c:Int) (A:Option Addr) (ps:List Int) (w:World)
 (h0:w.cell? ⟨b,0,none⟩=some (.map (some M1))) (h1:w.cell? ⟨b,1,none⟩=some (.map (some M2))) (hO:w.ownsMap Tryz.prog 3 Cf.tokE M1 n1 D1) (hF:F2 w M2 n2 base D2 us val) (hc:(Lit.int .i64 c).wf=true) (hw:∀ d∈ps,(Lit.int .i64 d).wf=true)
 (hV:Vals w A nn (nums .i64 ps)) (hA:∀ a,A=some a→Ofs M1 M2 val a.block∧a.block<w.heap.size) (hne:M1≠M2) (hb:b<base) (hbl:b≠M1∧b≠M2) (hM1:M1<base) (hM2:M2<base) (hbw:base≤w.heap.size) (hB1:B0≤M1) (hB2:B0≤M2) (hn:nn≤1000) (hn1:n1≤100000) (hn2:n2≤100000) (hu:∀ d,(us d).length≤100000):
 Calls Tryz.prog 97 #[.pointer (some ⟨b,0,none⟩),.int .i64 c,.slice A nn ca] w (AddPost w M1 M2 (n1+1) n2 base B0 nn (D1.put (key c) (.held (.slice A nn ca))) us val c ps):=by
 obtain⟨i0,hi,hz0,hz1,hz2⟩:=info_parts infoI
 obtain⟨w1,hr1,ho1,hg1⟩:=upd_at (v:=.slice A nn ca) hO hc (by omega)
 have hl:ps.length=nn:=by have:=hV.1;rwa [nums_len] at this
 have HI0:Hid (AdI w b M1 M2 (n1+1) n2 base B0 nn (D1.put (key c) (.held (.slice A nn ca))) us val c A ps (.int .i64 (0:Nat)) w1):=Lib.hid ⟨0,n2,D2,val,⟨rfl,Nat.zero_le _⟩,⟨hF.kept hg1 (fun e=>hne (by injection e with e;exact e.symm)) (fun x=>by
  cases hx:(val x).ownBlock with
  | none=>exact .inl rfl
  | some g=>exact .inr (fun e=>by injection e with e;have:=((hF.row x).1.lt g hx).1;omega)),by omega⟩,⟨ho1,vals_grown hV hg1 (fun a e e2=>(hA a e).1.1 (by injection e2)),hg1.cell (a:=⟨b,1,none⟩) h1 (fun e=>hbl.1 (by injection e))⟩,Moved.refl _ _,kept_grown hg1 (fun k hk e=>hk.1 (by injection e)),(Below.refl _ w).grown hg1 (by omega) (fun r e=>by injection e with e;omega)⟩
 have HNX:=Lib.hid (fun (wr W1 W2:World) (k m g:Nat) (D:DataW Value) (v:Int→Value) (d:Int) (o:Obj) (cap:Nat)=>@ad_next w wr W1 W2 b M1 M2 (n1+1) n2 base B0 nn k m g (D1.put (key c) (.held (.slice A nn ca))) D us val v c d A ps o cap)
 have HSD:=Lib.hid (And.intro hc (And.intro hne (And.intro hb (And.intro hbl.2 (And.intro hM1 (And.intro hM2 (And.intro hbw (And.intro hB1 (And.intro hB2 hA)))))))))
 have HL:=Lib.hid hl
 have HW:=Lib.hid hw
 have HU:=Lib.hid hu
 have HI:=Lib.hid hi
 clear hO hF hw hV hA hne hb hbl hM1 hM2 hbw hB1 hB2 ho1 hg1 hl hu hc h1
 go_enter Tryz.func97,Tryz.ntmps97
 go_wp2
 go_loopw [16] (fun i wr=>AdI w b M1 M2 (n1+1) n2 base B0 nn (D1.put (key c) (.held (.slice A nn ca))) us val c A ps i wr) (fun i _=>nn-(intOf i).toNat)
 case atStart=>exact HI0.out
 case round=>
  clear HI0 hr1 h0
  obtain⟨k,m,D,v,⟨rfl,hk⟩,⟨hF,hm⟩,⟨ho,hV,hcl⟩,hmv,hkp,hbe⟩:=hrel
  by_cases hlt:k<nn
  · obtain⟨d,hd⟩:∃ d,ps[k]? = some d:=⟨_,List.getElem?_eq_getElem (by have:=HL.out;omega)⟩
    obtain⟨b2,off,rfl,-,hcc⟩:=hV.2 (by omega)
    have k1:wr.cell? ⟨b2,off+k,none⟩=some (.int .i64 d):=hcc k _ (by unfold nums;rw [List.getElem?_map,hd];rfl)
    have hwd:=HW.out d (List.mem_of_getElem? hd)
    have hul:=addU_len us c HU.out (ps.take k) d
    rw [List.length_take] at hul
    obtain⟨hc,hne,hb,hbl,hM1,hM2,hbw,hB1,hB2,hA⟩:=HSD.out
    have HE:=Lib.hid (fun (W1 W2:World) (g:Nat) (o:Obj) (cap:Nat)=>HNX.out wr W1 W2 k m g D v d o cap hlt hd hc hne hb hbl hM1 hM2 hbw hB1 hB2 hA hF hm ho hV hcl hmv hkp hbe)
    have hlk:∀ W:World,W.ownsMap Tryz.prog 3 Cf.tokE M2 m D→(Instr.lookup 109 (.map (some M2)) (.int .i64 d) false).run Tryz.prog W=.ok (v d) W:=fun W h=>look_at h hwd (hF.at2 d)
    have hup:∀ (W:World) (z:Value),W.ownsMap Tryz.prog 3 Cf.tokE M2 m D→_:=fun W z h=>upd_at (v:=z) h hwd (by omega)
    have l0:=hlk wr hF.own
    have l0d:=hlk wr.drew hF.own.drew
    have l1:∀ W:World,Below wr.heap.size wr W→(Instr.lookup 109 (.map (some M2)) (.int .i64 d) false).run Tryz.prog W=.ok (v d) W:=fun W hb=>hlk W (hF.own.kept (grown_below hb) (by simp))
    have l2:∀ (o:Obj) (W:World),(wr.alloc o).grownBy W (v d).ownBlock→(Instr.lookup 109 (.map (some M2)) (.int .i64 d) false).run Tryz.prog W=.ok (v d) W:=fun o W hg=>hlk W ((hF.own.alloc o).kept hg (fun e=>by have:=((hF.row d).1.lt M2 e.symm).1;omega))
    have l4:∀ (o:Obj) (W:World),(wr.alloc o).grownBy W (v d).ownBlock→W.ownsMap Tryz.prog 3 Cf.tokE M2 m D:=fun o W hg=>(hF.own.alloc o).kept hg (fun e=>by have:=((hF.row d).1.lt M2 e.symm).1;omega)
    have l3:∀ (o:Obj) (W:World),(wr.alloc o).grownBy W (v d).ownBlock→W.cell? ⟨b,1,none⟩=some (.map (some M2)):=fun o W hg=>hg.cell (a:=⟨b,1,none⟩) ((World.cell?_alloc_past _ _ _ (World.block_lt_of_cell? wr _ hcl)).trans hcl) (fun e=>by have:=((hF.row d).1.lt b e.symm).1;omega)
    have hrow:=(hF.row d).1
    have hrl:=(hF.row d).1.1
    have hbase:base≤wr.heap.size:=Nat.le_trans hbw hkp.1
    have hbb:b<wr.heap.size:=World.block_lt_of_cell? wr _ hcl
    obtain⟨L,hL⟩:∃ L,addU us c (ps.take k) d=L:=⟨_,rfl⟩
    rw [hL] at hrow hul HE
    have HUP:=Lib.hid hup
    have HROW:=Lib.hid hrow
    have HOWN:=Lib.hid hF.own
    obtain⟨vd,hvd⟩:∃ x,v d=x:=⟨_,rfl⟩
    rw [hvd] at HROW l0 l0d l1 l2 l3 l4 HE
    have HC:=Lib.hid hc
    have HM:=Lib.hid (And.intro hM2 hb)
    have l1a:∀ o,(Instr.lookup 109 (.map (some M2)) (.int .i64 d) false).run Tryz.prog (wr.alloc o)=.ok vd (wr.alloc o):=fun o=>l1 _ ((Below.refl _ _).alloc (Nat.le_refl _) o)
    have l1d:∀ o,(Instr.lookup 109 (.map (some M2)) (.int .i64 d) false).run Tryz.prog (wr.alloc o).drew=.ok vd (wr.alloc o).drew:=fun o=>l1 _ (below_drew ((Below.refl _ _).alloc (Nat.le_refl _) o))
    have HBN:Hid (b≠M2):=Lib.hid hbl
    have L2:=Lib.hid (And.intro l2 (And.intro l3 l4))
    clear hV hcc hd ho hF hmv hkp hbe hne hbl hM1 hM2 hbw hB1 hB2 hA hlk hup hL hrow hvd hrl hwd hc l1 l2 l3 l4 hb
    go_wp2
    go_region_held3 (fun w'=>w'.cell? ⟨b,1,none⟩=some (.map (some M2)))
     (first | exact hcl | exact (World.cell?_alloc_past _ _ _ hbb).trans hcl | exact L2.out.2.1 _ _ hgr | exact hg2.cell (a:=⟨b,1,none⟩) (L2.out.2.1 _ _ hgr) (fun e=>HBN.out (by injection e)))
     ((refine step_append_lies _ (by rfl) _ _ _ (by rfl) base 3 i0 (.int .i64 0) 1 8 Tryz.underlying31 HI.out hz0 hz1 hz2 (by rfl) (by decide) vd L.length (nums .i64 L) (by rfl) (HROW.out.alloc _) ⟨wr.heap.size,0,none⟩ 1 1 [.int .i64 c] (by rfl) (by rfl) (fun j u hj=>lit_cells wr [.int .i64 c] 3 j u hj) (by simp [Value.oneCell']) (by omega) (by unfold maxLen;omega) (by omega) (by simp;omega) (wr.heap.size+1) (by simp) ?_;intro g cap W1 hown1 hgd hat hlt1;have hgr:(wr.alloc (.cells #[.int .i64 c] 3)).grownBy W1 vd.ownBlock:=⟨hgd.os,hgd.tape,hgd.output,hgd.size,hgd.block⟩;obtain⟨W2,hu2,ho2,hg2⟩:=HUP.out W1 (.slice (some ⟨g,0,none⟩) (L.length+1) cap) (L2.out.2.2 _ _ hgr)))
    all_goals
     have R:=Lib.hid (HE.out W1 W2 g (.cells #[.int .i64 c] 3) cap hown1 hgr hat ho2 hg2)
     clear HE hown1 hgr hgd hat ho2 hg2 hu2 hlt1 l0 l0d l1a l1d L2 HNX HUP HROW HOWN
     go_wp2_with fail
     go_roundw
     case rel=>exact R.out
     case measure=>simp [intOf];omega
  · have hke:k=nn:=by omega
    subst hke
    have R:Hid (AddPost w M1 M2 (n1+1) n2 base B0 k (D1.put (key c) (.held (.slice A k ca))) us val c ps (.returned (.tuple #[])) wr):=Lib.hid ⟨rfl,m,D,v,⟨by rw [List.take_of_length_le (by rw [HL.out];exact Nat.le_refl _)] at hF;exact hF,hm⟩,ho,hmv,hkp,hbe⟩
    clear hF hm ho hV hcl hmv hkp hbe
    go_wp2
    go_end0
    exact R.out
end Go.Proofs.YtmellioacefjjaaGreatDoor
