/- A part. -/
import Derived.Test.YtbkgbhlmeeodgaaGreatDoorQc11
import Derived.Maps.OwnRows
import Derived.Maps.OwnOps
import Derived.Maps.AppendAt
namespace Go.Proofs.YtbkgbhlmeeodgaaGreatDoor
open Go.RowKit Go.Shelf
def nilT:DataW Value:=.held (.slice none 0 0)
def key (c:Int):Lit:=.int .i64 c
theorem key_inj {a b:Int} (h:a≠b):key a≠key b:=fun e=>h (by unfold key at e;injection e)
theorem key_is (c:Int):WideAt.IsKeyLit (key c):=trivial
def F1 (W:World) (M n:Nat) (D:DataW Value) (O:List Int):Prop:=
 W.ownsMap Tryz.prog 3 Cf.tokE M n D∧(∀ c,Maps.has D (key c)=decide (c∈O))∧(Maps.size D=O.length∧O.Nodup)
def A1 (W:World) (D:DataW Value) (dec:Int→List Int) (O:List Int) (No:Nat→Prop):Prop:=
 ∀ c∈O,∃ A k,D.atKey (key c) nilT=.held (.slice A (dec c).length k)∧Vals W A (dec c).length (nums .i64 (dec c))∧∀ a,A=some a→a.block<W.heap.size∧¬No a.block
theorem F1.kept {W W':World} {M n:Nat} {D:DataW Value} {O:List Int} {row:Option Nat} (h:F1 W M n D O) (hg:W.grownBy W' row) (hne:some M≠row):F1 W' M n D O:=⟨h.1.kept hg hne,h.2⟩
theorem vals_grown {W W':World} {A:Option Addr} {n:Nat} {vs:List Value} {row:Option Nat} (h:Vals W A n vs) (hg:W.grownBy W' row) (hne:∀ a,A=some a→some a.block≠row):Vals W' A n vs:=by
 refine⟨h.1,fun hn=>?_⟩
 obtain⟨b,off,rfl,hlt,hc⟩:=h.2 hn
 exact⟨b,off,rfl,Nat.lt_of_lt_of_le hlt hg.size,fun j v hj=>hg.cell (a:=⟨b,off+j,none⟩) (hc j v hj) (hne ⟨b,off,none⟩ rfl)⟩
theorem A1.no {W:World} {D:DataW Value} {dec:Int→List Int} {O:List Int} {No No':Nat→Prop} (h:A1 W D dec O No) (hn:∀ k,k<W.heap.size→No' k→No k):A1 W D dec O No':=
 fun c hc=>by
  obtain⟨A,k,h1,h2,h3⟩:=h c hc
  exact⟨A,k,h1,h2,fun a e=>⟨(h3 a e).1,fun hh=>(h3 a e).2 (hn _ (h3 a e).1 hh)⟩⟩
theorem f1_tidy {W:World} {M n:Nat} {D:DataW Value} {O:List Int} (h:F1 W M n D O):Maps.Tidy D:=h.1.tidy Cf.k3
theorem f1_put {W W':World} {M n m:Nat} {D:DataW Value} {O:List Int} {c:Int} {v:Value} (h:F1 W M n D O) (hc:c∉O) (ho:W'.ownsMap Tryz.prog 3 Cf.tokE M m (D.put (key c) (.held v))):F1 W' M m (D.put (key c) (.held v)) (O ++ [c]):=by
 have hh:Maps.has D (key c)=false:=by rw [h.2.1];exact decide_eq_false hc
 refine⟨ho,fun x=>?_,?_,?_⟩
 · by_cases e:x=c
   · subst e
     rw [Maps.has_put_same (f1_tidy h).isMap (key_is _),decide_eq_true (by simp)]
   · rw [Maps.has_put_other (key_inj e),h.2.1]
     exact decide_eq_decide.2 (by simp [e])
 · rw [Maps.size_put (f1_tidy h),hh,if_neg (by simp),h.2.2.1];simp
 · refine List.nodup_append.2 ⟨h.2.2.2,by simp,fun a ha b hb e=>?_⟩
   rw [List.mem_singleton] at hb
   exact hc (hb▸e▸ha)
theorem a1_put {W:World} {D:DataW Value} {dec:Int→List Int} {O:List Int} {No:Nat→Prop} {c:Int} {A:Option Addr} {k:Nat} (hm:Maps.Tidy D) (h:A1 W D dec O No) (hc:c∉O) (hv:Vals W A (dec c).length (nums .i64 (dec c))) (hA:∀ a,A=some a→a.block<W.heap.size∧¬No a.block):
 A1 W (D.put (key c) (.held (.slice A (dec c).length k))) dec (O ++ [c]) No:=by
 intro x hx
 rcases List.mem_append.1 hx with hx | hx
 · obtain⟨A',k',h1,h2⟩:=h x hx
   exact⟨A',k',by rw [Maps.atKey_put_other (key_inj (fun e:x=c=>hc (e▸hx)))];exact h1,h2⟩
 · rw [List.mem_singleton.1 hx]
   exact⟨A,k,Maps.atKey_put_same hm.isMap (key_is _) _ _,hv,hA⟩
theorem cutO_len {O:List Int} {c:Int} (hn:O.Nodup) (hc:c∈O):(cutO O c).length+1=O.length:=by
 induction O with
 | nil=>cases hc
 | cons x l ih=>
  obtain⟨h1,h2⟩:=List.nodup_cons.1 hn
  by_cases e:x=c
  · subst e
    have:cutO (x::l) x=l:=by
     unfold cutO
     rw [List.filter_cons_of_neg (by simp),List.filter_eq_self]
     intro y hy
     exact decide_eq_true (fun e=>h1 (e▸hy))
    rw [this,List.length_cons]
  · have:cutO (x::l) c=x::cutO l c:=by unfold cutO;rw [List.filter_cons_of_pos (by simpa using e)]
    rw [this,List.length_cons,List.length_cons,ih h2 ((List.mem_cons.1 hc).elim (fun hh=>absurd hh.symm e) id)]
theorem f1_del {W W':World} {M n:Nat} {D:DataW Value} {O:List Int} {c:Int} (h:F1 W M n D O) (hc:c∈O) (ho:W'.ownsMap Tryz.prog 3 Cf.tokE M n (D.del (key c))):F1 W' M n (D.del (key c)) (cutO O c):=by
 have hh:Maps.has D (key c)=true:=by rw [h.2.1];exact decide_eq_true hc
 refine⟨ho,fun x=>?_,?_,h.2.2.2.filter _⟩
 · by_cases e:x=c
   · subst e
     rw [Maps.has_del_same,eq_comm]
     exact decide_eq_false (fun hx=>(cutO_mem.1 hx).2 rfl)
   · rw [Maps.has_del_other (key_inj e),h.2.1]
     exact decide_eq_decide.2 ⟨fun hx=>cutO_mem.2 ⟨hx,e⟩,fun hx=>(cutO_mem.1 hx).1⟩
 · have h1:=Maps.size_del (k:=key c) (f1_tidy h)
   rw [hh,if_pos rfl,h.2.2.1] at h1
   have h2:=cutO_len h.2.2.2 hc
   omega
theorem a1_del {W:World} {D:DataW Value} {dec:Int→List Int} {O:List Int} {No:Nat→Prop} {c:Int} (h:A1 W D dec O No):A1 W (D.del (key c)) dec (cutO O c) No:=by
 intro x hx
 obtain⟨h1,h2⟩:=cutO_mem.1 hx
 obtain⟨A,k,q1,q2⟩:=h x h1
 exact⟨A,k,by rw [Maps.atKey_del_other (key_inj h2)];exact q1,q2⟩
structure F2 (W:World) (M n base:Nat) (D:DataW Value) (us:Int→List Int) (val:Int→Value):Prop where
 own:W.ownsMap Tryz.prog 3 Cf.tokE M n D
 at2:∀ c,D.atKey (key c) nilT=.held (val c)
 row:∀ c,W.ownsInts base 3 .i64 (val c) (us c)
 apt:∀ c x,c≠x→(val c).ownBlock=none∨(val c).ownBlock≠(val x).ownBlock
theorem F2.kept {W W':World} {M n base:Nat} {D:DataW Value} {us:Int→List Int} {val:Int→Value} {row:Option Nat} (h:F2 W M n base D us val) (hg:W.grownBy W' row) (hne:some M≠row) (hr:∀ c,(val c).ownBlock=none∨(val c).ownBlock≠row):F2 W' M n base D us val:=
 ⟨h.own.kept hg hne,h.at2,fun c=>(h.row c).kept hg (hr c),h.apt⟩
def putV {α:Type} (f:Int → α) (c:Int) (v:α):Int → α:=fun x=>if x=c then v else f x
theorem putV_same {α:Type} (f:Int → α) (c:Int) (v:α):putV f c v c=v:=if_pos rfl
theorem putV_other {α:Type} (f:Int → α) {c x:Int} (v:α) (h:x≠c):putV f c v x=f x:=if_neg h
theorem f2_put {W W1 W2:World} {M n m base:Nat} {D:DataW Value} {us:Int→List Int} {val:Int→Value} {c x:Int} {v':Value} (h:F2 W M n base D us val) (hw:(Lit.int .i64 x).wf=true) (hg:W.grownBy W1 (val c).ownBlock) (ho':W1.ownsRow base 3 1 v' ((us c).length+1) ((us c).map (Value.int .i64) ++ [.int .i64 x]))
 (hl:v'.ownBlock=(val c).ownBlock∨∃ g,v'.ownBlock=some g∧W.heap.size≤g) (hM:M<base) (hg2:W1.grownBy W2 (some M)) (ho:W2.ownsMap Tryz.prog 3 Cf.tokE M m (D.put (key c) (.held v'))):
 F2 W2 M m base (D.put (key c) (.held v')) (putV us c (us c ++ [x])) (putV val c v'):=by
 have hrow:∀ z:Value,∀ zs,W1.ownsInts base 3 .i64 z zs→W2.ownsInts base 3 .i64 z zs:=fun z zs hz=>hz.kept hg2 (by
  cases hb:z.ownBlock with
  | none=>exact .inl rfl
  | some g=>exact .inr (fun e=>by injection e with e;have:=(hz.1.lt g hb).1;omega))
 have hfar:∀ d,d≠c→(val d).ownBlock=none∨(val d).ownBlock≠v'.ownBlock:=fun d hd=>by
  rcases hl with e | ⟨g,e,hge⟩
  · rw [e];exact h.apt d c hd
  · cases hb:(val d).ownBlock with
    | none=>exact .inl rfl
    | some k=>exact .inr (fun e2=>by rw [e] at e2;injection e2 with e2;have:=((h.row d).1.lt k hb).2;omega)
 refine⟨ho,fun d=>?_,fun d=>?_,fun d y hdy=>?_⟩
 · by_cases e:d=c
   · subst e;rw [putV_same,Maps.atKey_put_same h.own.isMap (key_is _)]
   · rw [putV_other _ _ e,Maps.atKey_put_other (key_inj e)];exact h.at2 d
 · by_cases e:d=c
   · subst e;rw [putV_same,putV_same];exact hrow _ _ ((h.row d).appended ho' hw)
   · rw [putV_other _ _ e,putV_other _ _ e]
     exact hrow _ _ ((h.row d).kept hg (h.apt d c e))
 · by_cases e:d=c
   · subst e
     rw [putV_same,putV_other _ _ (Ne.symm hdy)]
     rcases hfar y (Ne.symm hdy) with h1 | h1
     · rw [h1]
       cases v'.ownBlock with
       | none=>exact .inl rfl
       | some g=>exact .inr (by simp)
     · exact .inr (Ne.symm h1)
   · rw [putV_other _ _ e]
     by_cases e2:y=c
     · subst e2;rw [putV_same];exact hfar d e
     · rw [putV_other _ _ e2];exact h.apt d y hdy
def zero3:DataW Value:=.lit (.int .i64 0)
def F3 (W:World) (M n:Nat) (D:DataW Value) (sz:Int→Nat):Prop:=
 W.ownsMap Tryz.prog 3 (plainElem Tryz.prog 3) M n D∧∀ c,D.atKey (key c) zero3=.lit (.int .i64 (sz c:Nat))
theorem F3.kept {W W':World} {M n:Nat} {D:DataW Value} {sz:Int→Nat} {row:Option Nat} (h:F3 W M n D sz) (hg:W.grownBy W' row) (hne:some M≠row):F3 W' M n D sz:=⟨h.1.kept hg hne,h.2⟩
theorem f3_put {W W':World} {M n m:Nat} {D:DataW Value} {sz:Int→Nat} {c:Int} {k:Nat} (h:F3 W M n D sz) (ho:W'.ownsMap Tryz.prog 3 (plainElem Tryz.prog 3) M m (D.put (key c) (.lit (.int .i64 (k:Nat))))):F3 W' M m (D.put (key c) (.lit (.int .i64 (k:Nat)))) (putS sz c k):=by
 refine⟨ho,fun d=>?_⟩
 by_cases e:d=c
 · subst e;rw [putS_same,Maps.atKey_put_same h.1.isMap (key_is _)]
 · rw [putS_other e,Maps.atKey_put_other (key_inj e)];exact h.2 d
theorem own_pop {W:World} {base:Nat} {e:TypeId} {n cap g:Nat} {zs:List Value} {z:Value} (h:W.ownsRow base e 1 (.slice (some ⟨g,0,none⟩) (n+1) cap) (n+1) (zs ++ [z])):W.ownsRow base e 1 (.slice (some ⟨g,0,none⟩) n cap) n zs:=by
 have hl:zs.length=n:=by have:=h.1;simp at this;exact this
 refine⟨by simp [hl],.inr ?_⟩
 rcases h.2 with ⟨h1,-⟩ | ⟨g',cap',cur,h1,h2,h3,h4,h5,h6,h7⟩
 · cases h1
 · injection h1 with e1 e2 e3
   injection e1 with e1
   injection e1 with e1
   subst e1 e3
   refine⟨g,cap,cur,rfl,h2,h3,by omega,h5,h6,?_⟩
   have:cur.toList.take (n*1)=(cur.toList.take ((n+1)*1)).take n:=by rw [List.take_take];congr 1;omega
   rw [this,h7,List.take_append_of_le_length (by omega),List.take_of_length_le (by omega)]
theorem run_append_ints_at {W:World} (base:Nat) (v:Value) (n:Nat) (xs:List Value) (hown:W.ownsRow base 3 1 v n xs) (A:Option Addr) (m c:Nat) (zs:List Int) (hN:Vals W A m (nums .i64 zs)) (hbig:n+m≤1000000000) (hbase:base≤W.heap.size) (ty:TypeId):
 ∃ v' W',(Builtin.append_ #[25,25] ty #[v,.slice A m c]).run Tryz.prog W=.ok v' W'∧W'.ownsRow base 3 1 v' (n+m) (xs++nums .i64 zs)∧W.grownBy W' v.ownBlock∧(v'.ownBlock=v.ownBlock∨v'.ownBlock=some W.heap.size):=by
 obtain⟨i0,hi,hz0,hz1,hz2⟩:=info_parts infoI
 cases A with
 | none=>
  have hm:m=0:=by
   rcases Nat.eq_zero_or_pos m with h0 | h0
   · exact h0
   · obtain⟨b,off,e,_⟩:=hN.2 h0
     cases e
  subst hm
  obtain rfl:zs = []:=List.eq_nil_of_length_eq_zero (by have:=hN.1;rwa [nums_len] at this)
  exact⟨v,W,run_append_nil (P:=Tryz.prog) base 25 ty 3 i0 1 c Tryz.underlying25 hi v n xs hown,by simpa [nums] using hown,World.grownBy.refl W _,.inl rfl⟩
 | some ad=>
  obtain⟨v',W',h1,h2,h3,-,h5⟩:=run_append_own_at (P:=Tryz.prog) W base 25 ty 3 i0 (.int .i64 0) 1 8 Tryz.underlying25 hi hz0 hz1 hz2 rfl (by decide) v n xs hown ad m c (nums .i64 zs) (by rw [nums_len,Nat.mul_one];have:=hN.1;rwa [nums_len] at this) (vals_cells hN) nums_one' (by unfold maxLen;omega) (by omega) hbase
  exact⟨v',W',h1,h2,h3,h5⟩
end Go.Proofs.YtbkgbhlmeeodgaaGreatDoor
namespace Go.Proofs.YtbkgbhlmeeodgaaGreatDoor
open Go.RowKit Go.Shelf
attribute [local go_sem] Oper.semAt_some
theorem zeroI (w:World):(zeroValue 3).run Tryz.prog w=.ok (.int .i64 0) w:=by kernel_rfl
theorem keyI {c:Int} (h:(Lit.int .i64 c).wf=true):keyOf Tryz.prog 3 (.int .i64 c)=some (key c):=Maps.keyOf_int_mk Tryz.underlying3 h
theorem wf_nat (n:Nat) (h:n≤1000000000):(Lit.int .i64 (n:Nat)).wf=true:=WalkArith.wf_i64 (by omega)
theorem look_sz {w:World} {ops:Array Oper} {rest:List Oper} {o:Oper} {a:Act} {Q:Exit→Act→World→Prop} (hg:o.guard=none) (m x:Operand) (hop:o.op=Op.lookup 194 m x false)
 (b n:Nat) (D:DataW Value) (sz:Int→Nat) (hm:a.eval m=.map (some b)) (hF:F3 w b n D sz) (c:Int) (hx:a.eval x=.int .i64 c) (hc:(Lit.int .i64 c).wf=true)
 (hK:wpList Tryz.prog ops Q rest (a.put o.dst (.int .i64 (sz c:Nat))) w):wpList Tryz.prog ops Q (o::rest) a w:=
 wpList_lookup_own_int w hg m x 194 hop 3 3 .i64 Cf.k3 Tryz.underlying194 Tryz.underlying3 (zeroI _) b n D hm hF.1 _ _ hx (keyI hc) (fun v hv _=>by
  rw [show D.atKey (key c) (.lit (.int .i64 0))=.lit (.int .i64 (sz c:Nat)) from hF.2 c] at hv
  injection hv with hv
  injection hv with _ hv
  rw [←hv]
  exact hK)
def isOpen (O ps:List Int):Bool:=ps.any fun d=>decide (d∈O)
theorem open_hit {O ps:List Int} {k:Nat} {d:Int} (hd:ps[k]? = some d) (h:d∈O):isOpen O ps=true:=List.any_eq_true.2 ⟨d,List.mem_of_getElem? hd,decide_eq_true h⟩
theorem open_none {O ps:List Int} (h:∀ d∈ps,d∉O):isOpen O ps=false:=by
 unfold isOpen
 rw [List.any_eq_false]
 intro d hd
 simpa using h d hd
def AoI (O ps:List Int) (w:World) (i:Value) (wr:World):Prop:=∃ k:Nat,(i=.int .i64 k∧k≤ps.length)∧(∀ d∈ps.take k,d∉O)∧w=wr
theorem ao_more {O ps:List Int} {k:Nat} {d:Int} (hd:ps[k]? = some d) (hn:d∉O) (h:∀ t∈ps.take k,t∉O):∀ t∈ps.take (k+1),t∉O:=by
 have hlt:=(List.getElem?_eq_some_iff.1 hd).1
 have e:ps[k]=d:=(List.getElem?_eq_some_iff.1 hd).2
 rw [List.take_succ_eq_append_getElem hlt,e]
 intro t ht
 rcases List.mem_append.1 ht with ht | ht
 · exact h t ht
 · rw [List.mem_singleton.1 ht];exact hn
theorem held_some {w:World} {D:DataW Value} {dec:Int→List Int} {O:List Int} {No:Nat→Prop} (h:A1 w D dec O No) {c:Int} (hc:c∈O):∃ v,D.atKey (key c) (.held (.slice none 0 0))=.held v:=by
 obtain⟨A,k,h1,-⟩:=h c hc
 exact⟨_,h1⟩
set_option maxRecDepth 100000 in
set_option maxHeartbeats 1000000 in
theorem any131 (b M n nn k:Nat) (D:DataW Value) (dec:Int→List Int) (O ps:List Int) (No:Nat→Prop) (A:Option Addr) (w:World) (hc:w.cell? ⟨b,0,none⟩=some (.map (some M))) (hF:F1 w M n D O) (hA:A1 w D dec O No) (hV:Vals w A nn (nums .i64 ps)) (hn:nn≤1000) (hw:∀ d∈ps,(Lit.int .i64 d).wf=true):
 Calls Tryz.prog 158 #[.pointer (some ⟨b,0,none⟩),.slice A nn k] w fun e w'=>e=.returned (.bool (isOpen O ps))∧w=w':=by
 have hl:ps.length=nn:=by have:=hV.1;rwa [nums_len] at this
 have HL:=Lib.hid hl
 have HF:=Lib.hid hF
 have HA:=Lib.hid hA
 have HV:=Lib.hid hV
 have HW:=Lib.hid hw
 clear hF hA hV hw hl
 go_enter Tryz.func158,Tryz.ntmps158
 go_wp2
 go_loopw [11] (fun i wr=>AoI O ps w i wr) (fun i _=>nn-(intOf i).toNat)
 case atStart=>exact⟨0,⟨rfl,Nat.zero_le _⟩,fun d hd=>(by simp at hd),rfl⟩
 case round=>
  obtain⟨j,⟨rfl,hj⟩,hno,rfl⟩:=hrel
  rw [HL.out] at hj
  by_cases hlt:j<nn
  · obtain⟨d,hd⟩:∃ d,ps[j]? = some d:=⟨_,List.getElem?_eq_getElem (by have:=HL.out;omega)⟩
    obtain⟨b2,off,rfl,-,hcc⟩:=HV.out.2 (by omega)
    have k1:w.cell? ⟨b2,off+j,none⟩=some (.int .i64 d):=hcc j _ (by unfold nums;rw [List.getElem?_map,hd];rfl)
    have HWD:=Lib.hid (HW.out d (List.mem_of_getElem? hd))
    by_cases ho:d∈O
    · obtain⟨v,hv⟩:=held_some HA.out ho
      have HAT:=Lib.hid hv
      have HHS:Hid (Maps.has D (.int .i64 d)=true):=Lib.hid (by rw [show Maps.has D (.int .i64 d)=decide (d∈O) from HF.out.2.1 d];exact decide_eq_true ho)
      have HR:=Lib.hid (open_hit hd ho)
      clear hcc hd ho hno hv
      go_wp2_with (at_lookup;refine Cf.look_tok rfl _ _ rfl M n D rfl HF.out.1 d rfl HWD.out v true HAT.out HHS.out ?_)
      go_ret
      rw [HR.out]
      exact⟨rfl,rfl⟩
    · have HHS0:Maps.has D (.int .i64 d)=false:=by rw [show Maps.has D (.int .i64 d)=decide (d∈O) from HF.out.2.1 d];exact decide_eq_false ho
      have HAT:=Lib.hid (Maps.atKey_of_not_has HHS0 (.held (.slice none 0 0)))
      have HHS:=Lib.hid HHS0
      have HR:=Lib.hid (ao_more hd ho hno)
      clear hcc hd ho hno HHS0
      go_wp2_with (at_lookup;refine Cf.look_tok rfl _ _ rfl M n D rfl HF.out.1 d rfl HWD.out _ false HAT.out HHS.out ?_)
      go_roundw
      case rel=>exact⟨j+1,⟨by go_num,by rw [HL.out];omega⟩,HR.out,rfl⟩
      case measure=>simp [intOf];omega
  · have HR:Hid (isOpen O ps=false):=Lib.hid (open_none (by rw [List.take_of_length_le (by rw [HL.out];omega)] at hno;exact hno))
    have hje:j=nn:=by omega
    subst hje
    clear hno
    go_wp2
    go_ret
    rw [HR.out]
    exact⟨rfl,rfl⟩
def SzI (sz:Int→Nat) (ps:List Int) (w:World) (s i:Value) (wr:World):Prop:=∃ k:Nat,(i=.int .i64 k∧k≤ps.length)∧s=.int .i64 (sumS sz (ps.take k):Nat)∧w=wr
set_option maxRecDepth 100000 in
set_option maxHeartbeats 1000000 in
theorem size132 (b M n nn k:Nat) (D:DataW Value) (sz:Int→Nat) (ps:List Int) (A:Option Addr) (w:World) (hc:w.cell? ⟨b,2,none⟩=some (.map (some M))) (hF:F3 w M n D sz) (h5:∀ c,sz c≤5) (hV:Vals w A nn (nums .i64 ps)) (hn:nn≤1000) (hw:∀ d∈ps,(Lit.int .i64 d).wf=true):
 Calls Tryz.prog 159 #[.pointer (some ⟨b,0,none⟩),.slice A nn k] w fun e w'=>e=.returned (.int .i64 (sizeS sz ps:Nat))∧w=w':=by
 have hl:ps.length=nn:=by have:=hV.1;rwa [nums_len] at this
 have HL:=Lib.hid hl
 have HF:=Lib.hid hF
 have HV:=Lib.hid hV
 have HW:=Lib.hid hw
 have H5:=Lib.hid h5
 clear hF hV hw hl h5
 go_enter Tryz.func159,Tryz.ntmps159
 go_wp2
 go_loopw [5,10] (fun s i wr=>SzI sz ps w s i wr) (fun _ i _=>nn-(intOf i).toNat)
 case atStart=>exact⟨0,⟨rfl,Nat.zero_le _⟩,rfl,rfl⟩
 case round=>
  obtain⟨j,⟨rfl,hj⟩,rfl,rfl⟩:=hrel
  rw [HL.out] at hj
  have hs:=sumS_le H5.out (ps.take j)
  rw [List.length_take] at hs
  by_cases hlt:j<nn
  · obtain⟨d,hd⟩:∃ d,ps[j]? = some d:=⟨_,List.getElem?_eq_getElem (by have:=HL.out;omega)⟩
    obtain⟨b2,off,rfl,-,hcc⟩:=HV.out.2 (by omega)
    have k1:w.cell? ⟨b2,off+j,none⟩=some (.int .i64 d):=hcc j _ (by unfold nums;rw [List.getElem?_map,hd];rfl)
    have HWD:=Lib.hid (HW.out d (List.mem_of_getElem? hd))
    have hd5:=H5.out d
    have HS:Hid (sumS sz (ps.take (j+1))=sumS sz (ps.take j)+max 1 (sz d)):=Lib.hid (by
     rw [List.take_succ_eq_append_getElem (List.getElem?_eq_some_iff.1 hd).1,(List.getElem?_eq_some_iff.1 hd).2,sumS_snoc])
    obtain⟨S,hS⟩:∃ S,sumS sz (ps.take j)=S:=⟨_,rfl⟩
    rw [hS] at hs HS ⊢
    have hs2:S≤5000:=by omega
    clear hcc hd hS hs
    go_wp2_with (at_lookup;refine look_sz rfl _ _ rfl M n D sz rfl HF.out d rfl HWD.out ?_)
    go_roundw
    case rel=>
     refine⟨j+1,⟨by go_num,by rw [HL.out];omega⟩,?_,rfl⟩
     rw [HS.out]
     have e:((S:Int)+if 1<(sz d:Int) then (sz d:Int) else 1)=((S+max 1 (sz d):Nat):Int):=by split <;> omega
     first | rw [e] | (congr 1;omega) | (congr 1;push_cast;omega) | (congr 1;by_cases h1:1<sz d <;> omega)
    case measure=>simp [intOf];omega
  · have hje:j=nn:=by omega
    subst hje
    have HS:Hid (sumS sz (ps.take j)=sumS sz ps):=Lib.hid (by rw [List.take_of_length_le (by rw [HL.out];exact Nat.le_refl _)])
    obtain⟨S,hS⟩:∃ S,sumS sz (ps.take j)=S:=⟨_,rfl⟩
    rw [hS] at hs HS ⊢
    have hs2:S≤5000:=by omega
    clear hS hs
    have HE:Hid (sizeS sz ps=min S 5):=Lib.hid (by unfold sizeS;rw [←HS.out])
    by_cases h5':(S:Int)≤5
    · go_wp2
      go_ret
      exact⟨ret_int (by rw [HE.out];omega),rfl⟩
    · go_wp2
      go_ret
      exact⟨ret_int (by rw [HE.out];omega),rfl⟩
end Go.Proofs.YtbkgbhlmeeodgaaGreatDoor
namespace Go.Proofs.YtbkgbhlmeeodgaaGreatDoor
open Go.RowKit
def Hold (A:World→Nat→Prop) (W W':World):Prop:=W.heap.size≤W'.heap.size∧∀ k,A W k→k<W.heap.size→W'.heap[k]? = W.heap[k]? ∧ A W' k
theorem Hold.refl (A:World→Nat→Prop) (W:World):Hold A W W:=⟨Nat.le_refl _,fun _ h _=>⟨rfl,h⟩⟩
theorem Hold.trans {A:World→Nat→Prop} {W W1 W2:World} (h:Hold A W W1) (k:Hold A W1 W2):Hold A W W2:=
 ⟨Nat.le_trans h.1 k.1,fun i hA hi=>have a:=h.2 i hA hi;have b:=k.2 i a.2 (Nat.lt_of_lt_of_le hi h.1);⟨b.1.trans a.1,b.2⟩⟩
def Lets (A:World→Nat→Prop):Prop:=∀ W W' row k,A W k→W.grownBy W' row→(∀ r,row=some r→∃ o:Obj,W.heap[r]? = some o∧o.isCells=false)→A W' k
theorem grown_below {w w':World} (h:Below w.heap.size w w'):w.grownBy w' none:=⟨h.os,h.tape,h.output,h.size,fun k hk _=>h.block k hk⟩
theorem Lets.below {A:World→Nat→Prop} (h:Lets A) {W W':World} {k:Nat} (ha:A W k) (hb:Below W.heap.size W W'):A W' k:=h W W' none k ha (grown_below hb) (fun r e=>by cases e)
theorem Lets.put {A:World→Nat→Prop} (h:Lets A) {W:World} {k l:Nat} {o o':Obj} (ha:A W k) (hl:W.heap[l]? = some o) (ho:o.isCells=false):A (W.putObj l o') k:=h W _ (some l) k ha (grownBy_putObj' W l o') (fun r e=>by cases e;exact⟨o,hl,ho⟩)
theorem Hold.of_below {A:World→Nat→Prop} (hL:Lets A) {W W':World} (h:Below W.heap.size W W'):Hold A W W':=⟨h.size,fun k ha hk=>⟨h.block k hk,hL.below ha h⟩⟩
theorem Hold.put {A:World→Nat→Prop} (hL:Lets A) {W:World} {l:Nat} {o o':Obj} (hl:W.heap[l]? = some o) (ho:o.isCells=false):Hold (fun W k=>A W k∧k≠l) W (W.putObj l o'):=
 ⟨(grownBy_putObj' W l o').size,fun _ ha _=>⟨World.putObj_heap_other ha.2,hL.put ha.1 hl ho,ha.2⟩⟩
theorem Hold.cell {A:World→Nat→Prop} {W W':World} {a:Addr} {v:Value} (h:Hold A W W') (hA:A W a.block) (hc:W.cell? a=some v):W'.cell? a=some v:=by
 obtain⟨o,ho,_⟩:=cells_of_cell hc
 exact (World.cell?_of_block (h.2 _ hA (Array.getElem?_eq_some_iff.1 ho).1).1).trans hc
theorem Lets.and {A:World→Nat→Prop} (h:Lets A) (p:Nat→Prop):Lets (fun W k=>A W k∧p k):=fun W W' row k ha hg hr=>⟨h W W' row k ha.1 hg hr,ha.2⟩
theorem Lets.abide {A:World→Nat→Prop} {β:Type} (h:Lets A) (k B:Nat):Abide 0 0 B (fun (_:β) W=>A W k):=fun _ W W' row ha hg hr=>h W W' row k ha hg (fun r e=>(hr r e).elim (fun h=>absurd h.2 (by omega)) (fun h=>h.2))
def SeqFree {α:Type} (F:Fence) (n:Nat) (P:Program) (g:Nat) (lb:Array Value) (encs:α → Array Value) (Rd:α → World→Prop) (A:World→Nat→Prop) (S Sp:List α → Prop) (N:Nat) (w:World):Prop:=
 ∀ (l:Nat) (J Jx:List α → World→Prop) (W:World),Below w.heap.size w W→W.heap.size=w.heap.size+2→Abide 0 0 W.heap.size J→Abide 0 0 W.heap.size Jx→(∀ s W,J s W→∀ k,W.heap.size≤k→A W k) →
  (∀ pre x W1,J pre W1→Rd x W1→pre.length<N→YieldAt F (n-1) P l (encs x) W1 fun e W'=>
   ((e=.returned (.bool true)∧J (pre ++ [x]) W')∨(e=.returned (.bool false)∧Jx (pre ++ [x]) W'))∧Hold (fun W k=>A W k∧k≠w.heap.size∧k≠w.heap.size+1) W1 W') →
  J [] W →
  CallsIn F n P g (#[.func (.yield l) #[] #[]]++lb) W fun e W'=>(∃ v,e=.returned v)∧((∃ xs,S xs∧J xs W')∨(∃ pre,Sp pre∧Jx pre W'))
def freeEnd {α:Type} (A:World→Nat→Prop) (I:List α → World→Prop) (Ix:Code→List α → World→Prop) (xs:List α) (W:World):Exit→Act→World→Prop
 | .normal,_,W'=>Hold A W W'∧I xs W'
 | .ret,_,W'=>Hold A W W'∧Ix .ret xs W'
 | .exit id,_,W'=>Hold A W W'∧Ix (.exit id) xs W'
 | .goto t,_,W'=>Hold A W W'∧Ix (.goto t) xs W'
 | .panic _,_,_=>False
 | .outgrown,_,_=>False
theorem Book.hold {lo:Nat} {r:Loop} {A:World→Nat→Prop} {W W':World} (h:Book lo r W) (hk:Hold A W W') (h0:A W lo) (h1:A W (lo+1)):Book lo r W'∧A W' lo∧A W' (lo+1):=
 have a:=hk.2 _ h1 (Array.getElem?_eq_some_iff.1 h.1).1
 have b:=hk.2 _ h0 (Array.getElem?_eq_some_iff.1 h.2).1
 ⟨⟨a.1.trans h.1,b.1.trans h.2⟩,b.2,a.2⟩
theorem range_free {F:Fence} {n:Nat} {P:Program} {α:Type} {g:Operand} {ps:Array Tmp} {assign body:Code} {Q:Exit→Act→World→Prop} {a:Act} {w:World}
 (hro:F.round=none) (hn:1≤n) {gf:Nat} {lb:Array Value} (hg:a.eval g=.func (.func gf) #[] lb) (hFg:F.fn gf) (eg:∀ args w,(callFunc gf args).run P w=.ok (.enter gf args) w)
 {encs:α → Array Value} {Rd:α → World→Prop} {A:World→Nat→Prop} {S Sp:List α → Prop} {N:Nat} (hseq:SeqFree F (n-1) P gf lb encs Rd A S Sp N w)
 (hL:Lets A) (hps:∀ x,(encs x).size=ps.size) (hRd:∀ x,Abide 0 0 w.heap.size (fun (_:Unit) W=>Rd x W))
 (I:List α → World→Prop) (Ix:Code→List α → World→Prop) (hI:Abide 0 0 w.heap.size I) (hIx:∀ c,Abide 0 0 w.heap.size (Ix c)) (hfr:∀ s W,I s W→∀ k,W.heap.size≤k→A W k) (h0:I [] w) (Ax:α → Act→World→Prop) (hAx:∀ x a',Abide 0 0 w.heap.size (fun (_:Unit) W=>Ax x a' W))
 (hassign:∀ (l:Nat) (pre:List α) (x:α) (W:World) (K:Act→World→Prop),I pre W→Rd x W→(∀ a' W',Hold A W W'→I pre W'→Rd x W'→Ax x a' W'→K a' W') →
  assign.wpIn (F.inRound l) (n-1-1) P (Exit.then K (fun _ _ _=>False)) { tmps:=(ps.zip (encs x)).foldl (fun t (p,v)=>t.setIfInBounds p v) a.tmps,defers:=[] } W)
 (hbody:∀ (l:Nat) (pre:List α) (x:α) (a':Act) (W:World),I pre W→Rd x W→Ax x a' W→pre.length<N→body.wpIn (F.inRound l) (n-1-1) P (freeEnd A I Ix (pre ++ [x]) W) a' W)
 (hdone:∀ (D:Nat) (xs:List α) (W:World),w.heap.size≤D→S xs→I xs W→W.heap[D]? = some (.deferred (some []))→Q .normal { a with defers:={ target:=.collected D,args:=#[] } :: a.defers } W)
 (hstop:∀ (D:Nat) (c:Code) (pre:List α) (W:World),w.heap.size≤D→Sp pre→Ix c pre W→W.heap[D]? = some (.deferred (some []))→c.wpIn F n P Q { a with defers:={ target:=.collected D,args:=#[] } :: a.defers } W):
 (Code.rangeFunc g ps assign body).wpIn F n P Q a w:=by
 refine wpIn_rangeFunc fun fn hfn=>?_
 rw [hro]
 generalize hlo:w.heap.size=lo at *
 have mk:∀ st pe,∃ r:Loop,r = { state:=st,pending:=pe,fn:=fn,tmps:=a.tmps,params:=ps,assign:=assign,body:=body,defers:=lo }:=fun _ _=>⟨_,rfl⟩
 obtain⟨r0,e0⟩:=mk .ready none
 have hbk:Book lo r0 ((w.alloc (.deferred (some []))).alloc (.loop r0)):=by
  have h1:=World.alloc_heap_new (w.alloc (.deferred (some []))) (.loop r0)
  rw [World.size_alloc,hlo] at h1
  have h2:=World.alloc_heap_new w (.deferred (some []))
  rw [hlo] at h2
  exact⟨h1,(Below.heap_alloc _ _ _ (by rw [World.size_alloc,hlo];omega)).trans h2⟩
 have hbw:Below w.heap.size w ((w.alloc (.deferred (some []))).alloc (.loop r0)):=((Below.refl _ w).alloc (Nat.le_refl _) _).alloc (by simp) _
 have hI1:I [] ((w.alloc (.deferred (some []))).alloc (.loop r0)):=hI.below h0 hbw
 have hA0:A ((w.alloc (.deferred (some []))).alloc (.loop r0)) lo:=hL.below (hfr _ _ h0 lo (by omega)) hbw
 have hA1:A ((w.alloc (.deferred (some []))).alloc (.loop r0)) (lo+1):=hL.below (hfr _ _ h0 (lo+1) (by omega)) hbw
 have hsz:((w.alloc (.deferred (some []))).alloc (.loop r0)).heap.size=lo+2:=by rw [World.size_alloc,World.size_alloc,hlo]
 have hent:(Instr.enterLoop fn a.tmps ps assign body none).run P w=.ok (lo+1,[{ target:=.collected lo,args:=#[] }]) ((w.alloc (.deferred (some []))).alloc (.loop r0)):=by
  rw [e0,←hlo];exact run_enterLoop_outer _ _ _ _ _
 generalize (w.alloc (.deferred (some []))).alloc (.loop r0)=W1 at hbk hbw hI1 hsz hent hA0 hA1
 refine⟨lo+1,_,W1,{ target:=.fn (.func gf) lb,args:=#[.func (.yield (lo+1)) #[] #[]] },W1,gf,#[.func (.yield (lo+1)) #[] #[]]++lb,W1,hent,?_,?_,?_,fun _=>hn,?_⟩
 · simp only [resolve,hg]
   simp [go_sem]
 · intro f' hf'
   simp [Target.leads] at hf'
   subst hf'
   exact hFg
 · simp [invoke,go_sem,eg]
 have hmn:∀ r,0≤r→r<0→0≤r∧r<0:=fun _ h h'=>⟨h,h'⟩
 have hle:lo≤W1.heap.size:=by omega
 have hs1:=hseq (lo+1) (fun pre W=>I pre W∧(Book lo r0 W∧(A W lo∧A W (lo+1)))) (fun pre W=>∃ c,Ix c pre W∧Book lo { r0 with state:=.done,pending:=some c } W) W1 hbw (by rw [hsz,hlo])
  ((hI.mono hmn hle).and ((Book.abide (Nat.zero_le _) (by omega) r0).and ((hL.abide lo _).and (hL.abide (lo+1) _))))
  (fun s X Y row hs hg hr=>by
   obtain⟨c,h1,h2⟩:=hs
   exact⟨c,(hIx c).mono hmn hle s X Y row h1 hg hr,Book.abide (β:=Unit) (Nat.zero_le _) (by omega) _ () X Y row h2 hg hr⟩) (fun s W hs=>hfr s W hs.1) ?_ ⟨hI1,hbk,hA0,hA1⟩
 · refine hs1.mono ?_
   rintro e W2 ⟨⟨v,rfl⟩,(⟨xs,hS,hi,hb,-⟩ | ⟨pre,hSp,c,hi,hb⟩)⟩
   · have he:=run_endLoop (P:=P) hb.1 (by rw [e0];simp)
     refine⟨none,_,by rw [he,e0],hdone lo xs _ (Nat.le_refl _) hS (hI.put hi (by omega) hb.1 rfl) (hb.put _).2⟩
   · have he:=run_endLoop (P:=P) hb.1 (by simp)
     exact⟨some c,_,he,hstop lo c pre _ (Nat.le_refl _) hSp ((hIx c).put hi (by omega) hb.1 rfl) (hb.put _).2⟩
 · rintro pre x W ⟨hi,hb,ha0,ha1⟩ hrd hlen
   have hy:=run_yield (P:=P) (args:=encs x) hb.1 (by rw [e0];exact hps x)
   refine⟨fn,_,assign,body,by rw [hy,e0],roundIn_of_wpIn hfn ?_⟩
   refine hassign _ pre x W _ hi hrd ?_
   intro a' Wa hka hia hrda hax
   obtain⟨hba,hc0,hc1⟩:=hb.hold hka ha0 ha1
   refine⟨_,run_beginRound hba.1 (by rw [e0]),?_⟩
   have hbb:=hba.put { r0 with state:=.busy }
   have low:∀ {X Y:World},Hold (fun W k=>A W k) X Y→Hold (fun W k=>A W k∧k≠lo∧k≠lo+1) X Y:=fun h=>⟨h.1,fun k ha hk=>have q:=h.2 k ha.1 hk;⟨q.1,q.2,ha.2⟩⟩
   have kput:∀ {X:World} {o':Obj},(∃ o:Obj,X.heap[lo+1]? = some o∧o.isCells=false)→Hold (fun W k=>A W k∧k≠lo∧k≠lo+1) X (X.putObj (lo+1) o'):=fun {X o'} ⟨o,h1,h2⟩=>
    have q:=Hold.put (A:=A) (o':=o') hL h1 h2
    ⟨q.1,fun k ha hk=>have p:=q.2 k ⟨ha.1,ha.2.2⟩ hk;⟨p.1,p.2.1,ha.2⟩⟩
   have kb:Hold (fun W k=>A W k∧k≠lo∧k≠lo+1) W (Wa.putObj (lo+1) (.loop { r0 with state:=.busy })):=(low hka).trans (kput ⟨_,hba.1,rfl⟩)
   have hd0:A (Wa.putObj (lo+1) (.loop { r0 with state:=.busy })) lo:=hL.put hc0 hba.1 rfl
   have hd1:A (Wa.putObj (lo+1) (.loop { r0 with state:=.busy })) (lo+1):=hL.put hc1 hba.1 rfl
   rw [hlo]
   refine wpIn_mono (hbody (lo+1) pre x a' _ (hI.put hia (by omega) hba.1 rfl) ((hRd x).put (s:=()) hrda (by omega) hba.1 rfl) ((hAx x a').put (s:=()) hax (by omega) hba.1 rfl) hlen) ?_
   generalize (Wa.putObj (lo+1) (.loop { r0 with state:=.busy }))=Wb at hbb kb hd0 hd1
   have fin:∀ (jump:Option Code) (W3:World),Hold A Wb W3 →
    (Instr.endRound (lo+1) jump).run P W3=.ok (.bool jump.isNone) (W3.putObj (lo+1) (.loop { r0 with state:=if jump.isNone then .ready else .done,pending:=jump })) ∧
    Book lo { r0 with state:=.busy } W3∧Book lo { r0 with state:=if jump.isNone then .ready else .done,pending:=jump } (W3.putObj (lo+1) (.loop { r0 with state:=if jump.isNone then .ready else .done,pending:=jump })) ∧
    Hold (fun W k=>A W k∧k≠lo∧k≠lo+1) W (W3.putObj (lo+1) (.loop { r0 with state:=if jump.isNone then .ready else .done,pending:=jump })) ∧
    A (W3.putObj (lo+1) (.loop { r0 with state:=if jump.isNone then .ready else .done,pending:=jump })) lo∧A (W3.putObj (lo+1) (.loop { r0 with state:=if jump.isNone then .ready else .done,pending:=jump })) (lo+1):=by
    intro jump W3 hk3
    obtain⟨hb3,q0,q1⟩:=hbb.hold hk3 hd0 hd1
    exact⟨run_endRound (P:=P) (r:={ r0 with state:=.busy }) jump hb3.1,hb3,hb3.put _,(kb.trans (low hk3)).trans (kput ⟨_,hb3.1,rfl⟩),hL.put q0 hb3.1 rfl,hL.put q1 hb3.1 rfl⟩
   rintro e a3 W3 hp
   cases e with
   | normal=>
    obtain⟨hk3,hi3⟩:=hp
    obtain⟨hr,hl3,hl4,hk4,q0,q1⟩:=fin none W3 hk3
    have e1:({ r0 with state:=if (none:Option Code).isNone then .ready else .done,pending:=none }:Loop)=r0:=by rw [e0];rfl
    refine⟨_,_,hr,.inl ⟨rfl,hI.put hi3 (by omega) hl3.1 rfl,?_,q0,q1⟩,hk4⟩
    rw [e1] at hl4 ⊢
    exact hl4
   | ret=>
    obtain⟨hk3,hi3⟩:=hp
    obtain⟨hr,hl3,hl4,hk4,-⟩:=fin (some .ret) W3 hk3
    exact⟨_,_,hr,.inr ⟨rfl,.ret,(hIx _).put hi3 (by omega) hl3.1 rfl,hl4⟩,hk4⟩
   | exit id=>
    obtain⟨hk3,hi3⟩:=hp
    obtain⟨hr,hl3,hl4,hk4,-⟩:=fin (some (.exit id)) W3 hk3
    exact⟨_,_,hr,.inr ⟨rfl,.exit id,(hIx _).put hi3 (by omega) hl3.1 rfl,hl4⟩,hk4⟩
   | goto t=>
    obtain⟨hk3,hi3⟩:=hp
    obtain⟨hr,hl3,hl4,hk4,-⟩:=fin (some (.goto t)) W3 hk3
    exact⟨_,_,hr,.inr ⟨rfl,.goto t,(hIx _).put hi3 (by omega) hl3.1 rfl,hl4⟩,hk4⟩
   | panic ch=>exact hp.elim
   | outgrown=>exact hp.elim
theorem range_free1 {F:Fence} {n:Nat} {P:Program} {α:Type} {g:Operand} {ps:Array Tmp} {assign body:Code} {Q:Exit→Act→World→Prop} {a:Act} {w:World}
 (hro:F.round=none) (hn:1≤n) {gf:Nat} {lb:Array Value} (hg:a.eval g=.func (.func gf) #[] lb) (hFg:F.fn gf) (eg:∀ args w,(callFunc gf args).run P w=.ok (.enter gf args) w)
 {encs:α → Array Value} {Rd:α → World→Prop} {A:World→Nat→Prop} {S Sp:List α → Prop} {N:Nat} (hseq:SeqFree F (n-1) P gf lb encs Rd A S Sp N w)
 (hL:Lets A) (hps:∀ x,(encs x).size=ps.size) (hRd:∀ x,Abide 0 0 w.heap.size (fun (_:Unit) W=>Rd x W))
 (I:List α → World→Prop) (Ix:Code→List α → World→Prop) (hI:Abide 0 0 w.heap.size I) (hIx:∀ c,Abide 0 0 w.heap.size (Ix c)) (hfr:∀ s W,I s W→∀ k,W.heap.size≤k→A W k) (h0:I [] w) (a₁:α → Act)
 (hassign:∀ (l:Nat) (x:α) (W:World) (K:Act→World→Prop),K (a₁ x) W →
  assign.wpIn (F.inRound l) (n-1-1) P (Exit.then K (fun _ _ _=>False)) { tmps:=(ps.zip (encs x)).foldl (fun t (p,v)=>t.setIfInBounds p v) a.tmps,defers:=[] } W)
 (hbody:∀ (l:Nat) (pre:List α) (x:α) (W:World),I pre W→Rd x W→pre.length<N→body.wpIn (F.inRound l) (n-1-1) P (freeEnd A I Ix (pre ++ [x]) W) (a₁ x) W)
 (hdone:∀ (D:Nat) (xs:List α) (W:World),w.heap.size≤D→S xs→I xs W→W.heap[D]? = some (.deferred (some []))→Q .normal { a with defers:={ target:=.collected D,args:=#[] } :: a.defers } W)
 (hstop:∀ (D:Nat) (c:Code) (pre:List α) (W:World),w.heap.size≤D→Sp pre→Ix c pre W→W.heap[D]? = some (.deferred (some []))→c.wpIn F n P Q { a with defers:={ target:=.collected D,args:=#[] } :: a.defers } W):
 (Code.rangeFunc g ps assign body).wpIn F n P Q a w:=
 range_free hro hn hg hFg eg hseq hL hps hRd I Ix hI hIx hfr h0 (fun x a' _=>a'=a₁ x) (fun x a'=>Abide.pure _ _ _ _) (fun l pre x W K hi hr h=>hassign l x W K (h _ _ (Hold.refl _ _) hi hr rfl))
  (fun l pre x a' W hi hr e hl=>by rw [e];exact hbody l pre x W hi hr hl) hdone hstop
theorem range_free2 {F:Fence} {n:Nat} {P:Program} {α:Type} {g:Operand} {ps:Array Tmp} {assign body:Code} {Q:Exit→Act→World→Prop} {a:Act} {w:World}
 (hro:F.round=none) (hn:1≤n) {gf:Nat} {lb:Array Value} (hg:a.eval g=.func (.func gf) #[] lb) (hFg:F.fn gf) (eg:∀ args w,(callFunc gf args).run P w=.ok (.enter gf args) w)
 {encs:α → Array Value} {Rd:α → World→Prop} {A:World→Nat→Prop} {S Sp:List α → Prop} {N:Nat} (hseq:SeqFree F (n-1) P gf lb encs Rd A S Sp N w)
 (hL:Lets A) (hps:∀ x,(encs x).size=ps.size) (hRd:∀ x,Abide 0 0 w.heap.size (fun (_:Unit) W=>Rd x W))
 (I:List α → World→Prop) (Ix:Code→List α → World→Prop) (hI:Abide 0 0 w.heap.size I) (hIx:∀ c,Abide 0 0 w.heap.size (Ix c)) (hfr:∀ s W,I s W→∀ k,W.heap.size≤k→A W k) (h0:I [] w) (Cx:α → Nat→World→Prop) (hCx:∀ x b,Abide 0 0 w.heap.size (fun (_:Unit) W=>Cx x b W)) (a₁:α → Nat→Act)
 (hassign:∀ (l:Nat) (pre:List α) (x:α) (W:World) (K:Act→World→Prop),I pre W→Rd x W→(∀ b W',Hold A W W'→I pre W'→Rd x W'→Cx x b W'→K (a₁ x b) W') →
  assign.wpIn (F.inRound l) (n-1-1) P (Exit.then K (fun _ _ _=>False)) { tmps:=(ps.zip (encs x)).foldl (fun t (p,v)=>t.setIfInBounds p v) a.tmps,defers:=[] } W)
 (hbody:∀ (l:Nat) (pre:List α) (x:α) (b:Nat) (W:World),I pre W→Rd x W→Cx x b W→pre.length<N→body.wpIn (F.inRound l) (n-1-1) P (freeEnd A I Ix (pre ++ [x]) W) (a₁ x b) W)
 (hdone:∀ (D:Nat) (xs:List α) (W:World),w.heap.size≤D→S xs→I xs W→W.heap[D]? = some (.deferred (some []))→Q .normal { a with defers:={ target:=.collected D,args:=#[] } :: a.defers } W)
 (hstop:∀ (D:Nat) (c:Code) (pre:List α) (W:World),w.heap.size≤D→Sp pre→Ix c pre W→W.heap[D]? = some (.deferred (some []))→c.wpIn F n P Q { a with defers:={ target:=.collected D,args:=#[] } :: a.defers } W):
 (Code.rangeFunc g ps assign body).wpIn F n P Q a w:=
 range_free hro hn hg hFg eg hseq hL hps hRd I Ix hI hIx hfr h0 (fun x a' W=>∃ b,a'=a₁ x b∧Cx x b W)
  (fun x a' s W W' row hs hg hr=>by obtain⟨b,e,h⟩:=hs;exact⟨b,e,hCx x b () W W' row h hg hr⟩)
  (fun l pre x W K hi hr h=>hassign l pre x W K hi hr (fun b W' hk hi' hr' hc=>h _ W' hk hi' hr' ⟨b,rfl,hc⟩))
  (fun l pre x a' W hi hr e hl=>by obtain⟨b,rfl,hc⟩:=e;exact hbody l pre x b W hi hr hc hl) hdone hstop
end Go.Proofs.YtbkgbhlmeeodgaaGreatDoor
