/- A part. -/
import Derived.Test.YtmellioacefjjaaGreatDoorQB01
import Derived.Lib.SplitLaws
import Derived.Lib.Bytes
import Derived.Laws.BytesArg
import Derived.Test.YtmellioacefjjaaGreatDoorRows
import Derived.Lib.LaidU8T
import Derived.ProofKit
import Derived.OpenShut
import Derived.ShutString
import Derived.ChangeOld
import Derived.ChangeMaps5
import Derived.Below
import Derived.LaidSub
import Derived.MakeChecks
import Derived.Deep.DeepHandedRow
import Derived.SizedLaws
namespace Go.Proofs.YtmellioacefjjaaGreatDoor
open Go.RowKit
theorem info32:(Tryz.prog.info? 140).map (fun i=>(i.zero,i.size,i.bytes))=some (some (.agg #[.int .i64 0,.slice none 0 0]),2,32):=by kernel_rfl
def LnCells (w:World) (base:Nat):List Ln→List Value→Prop
 | [],[]=>True
 | x::ls,a::b::cs=>a=.int .i64 x.1∧w.ownsRow base 9 1 b x.2.length (strs x.2)∧LnCells w base ls cs
 | _,_=>False
theorem LnCells.of {w w':World} {base:Nat} (h:∀ f k xs,w.ownsRow base 9 1 f k xs→w'.ownsRow base 9 1 f k xs):∀ {ls:List Ln} {cs:List Value},LnCells w base ls cs→LnCells w' base ls cs
 | [],[],_=>trivial
 | _::_,_::_::_,hc=>⟨hc.1,h _ _ _ hc.2.1,LnCells.of h hc.2.2⟩
 | [],_::_,hc=>hc.elim
 | _::_,[],hc=>hc.elim
 | _::_,[_],hc=>hc.elim
theorem LnCells.snoc {w:World} {base:Nat} {x:Ln} {f:Value} (hf:w.ownsRow base 9 1 f x.2.length (strs x.2)):∀ {ls:List Ln} {cs:List Value},LnCells w base ls cs→LnCells w base (ls ++ [x]) (cs ++ [.int .i64 x.1,f])
 | [],[],_=>⟨rfl,hf,trivial⟩
 | _::_,_::_::_,hc=>⟨hc.1,hc.2.1,LnCells.snoc hf hc.2.2⟩
 | [],_::_,hc=>hc.elim
 | _::_,[],hc=>hc.elim
 | _::_,[_],hc=>hc.elim
theorem LnCells.get {w:World} {base:Nat}:∀ {ls:List Ln} {cs:List Value} {j:Nat} {x:Ln},LnCells w base ls cs→ls[j]? = some x→cs[2*j]? = some (.int .i64 x.1)∧∃ f,cs[2*j+1]? = some f∧w.ownsRow base 9 1 f x.2.length (strs x.2)
 | _::_,a::b::_,0,x,hc,hj=>by
  simp at hj
  subst hj
  exact⟨by simp [hc.1],b,by simp,hc.2.1⟩
 | _::_,_::_::_,j+1,x,hc,hj=>by
  have:=LnCells.get (j:=j) hc.2.2 (by simpa using hj)
  rw [show 2*(j+1)=2*j+1+1 by omega]
  simpa using this
 | [],_,_,_,_,hj=>by simp at hj
 | _::_,[],_,_,hc,_=>hc.elim
 | _::_,[_],_,_,hc,_=>hc.elim
theorem own_apart {w w':World} {base b2 k n:Nat} {f v:Value} {xs ys:List Value} {o:Obj} (h:w.ownsRow base 9 1 f k xs) (hv:w.ownsRow b2 140 2 v n ys) (hg:(w.alloc o).grownBy w' v.ownBlock):w'.ownsRow base 9 1 f k xs:=by
 refine⟨h.1,?_⟩
 rcases h.2 with hn | ⟨g,cap,cur,rfl,hb,hgg,rest⟩
 · exact .inl hn
 · refine .inr ⟨g,cap,cur,rfl,hb,?_,rest⟩
   have hlt:=(Array.getElem?_eq_some_iff.1 hgg).1
   rw [hg.block g (by simp;omega) (fun e=>?_)]
   · rw [Below.heap_alloc w o g hlt]
     exact hgg
   · rcases hv.2 with ⟨rfl,_⟩ | ⟨g2,cap2,cur2,rfl,_,hg2,_⟩
     · cases e
     · simp [Value.ownBlock] at e
       subst e
       rw [hgg] at hg2
       simp at hg2
def LinesAt (w:World) (A:Option Addr) (n:Nat) (ls:List Ln):Prop:=
 ls.length=n∧(0<n→∃ b,A=some ⟨b,0,none⟩∧b<w.heap.size∧∀ j x,ls[j]? = some x →
  w.cell? ⟨b,2*j,none⟩=some (.int .i64 x.1)∧∃ F cf,w.cell? ⟨b,2*j+1,none⟩=some (.slice F x.2.length cf)∧Vals w F x.2.length (strs x.2))
theorem linesAt_of {w:World} {base b2:Nat} {v:Value} {ls:List Ln} {cs:List Value} (ho:w.ownsRow b2 140 2 v ls.length cs) (hc:LnCells w base ls cs):∃ A c,v=.slice A ls.length c∧ls.length≤c∧LinesAt w A ls.length ls:=by
 rcases ho.2 with ⟨rfl,h0⟩ | ⟨g,cap,cur,rfl,_,hg,hcap,_⟩
 · exact⟨none,0,by rw [h0],by omega,rfl,fun h=>absurd h (by omega)⟩
 · refine⟨_,cap,rfl,hcap,rfl,fun _=>⟨g,rfl,(Array.getElem?_eq_some_iff.1 hg).1,fun j x hj=>?_⟩⟩
   obtain⟨h1,f,h2,h3⟩:=hc.get hj
   have k1:=ho.cells (g:=g) rfl _ _ h1
   have k2:=ho.cells (g:=g) rfl _ _ h2
   rw [add_at,Nat.zero_add] at k1 k2
   obtain⟨F,cf,rfl,_,hV,_⟩:=own_vals h3
   exact⟨k1,F,cf,k2,hV⟩
theorem cut20_at (c:UInt8) (x:Int) (hx:(c.toNat:Int)=x) (l:List UInt8) (w:World) (hl:l.length≤1000000):Calls Tryz.prog 100 #[.string (bs l),.int .u8 x] w (CutPost c l w):=by
 rw [←hx]
 exact cut20 c l w hl
theorem cr_cases (s:List UInt8) (hs:s.length≤1000000):(noCR s=s∧((bs s).size=0∨∃ n,(bs s).size=n+1∧n≤1000000∧∃ X:Int,(∀ h,(((bs s)[n]'h).toNat:Int)=X)∧(X==13)=false)) ∨
 (∃ n,(bs s).size=n+1∧n≤1000000∧(∀ h,(((bs s)[n]'h).toNat:Int)=13)∧(bs s).extract 0 n=bs (noCR s)):=by
 rcases List.eq_nil_or_concat s with rfl | ⟨m,x,rfl⟩
 · exact .inl ⟨by simp [noCR],.inl rfl⟩
 · rw [List.concat_eq_append] at hs ⊢
   obtain⟨h1,h2,h3⟩:=back x m
   simp at hs
   by_cases hx:x=13
   · subst hx
     exact .inr ⟨m.length,h1,by omega,h2,by rw [h3];simp [noCR]⟩
   · exact .inl ⟨by simp [noCR,hx],.inr ⟨m.length,h1,by omega,_,h2,beq_false_of_ne fun e=>hx ((u8_int x 13).1 e)⟩⟩
theorem noCR_length (s:List UInt8):(noCR s).length≤s.length:=by
 unfold noCR
 split
 · rw [List.length_dropLast];omega
 · exact Nat.le_refl _
theorem cutAll_mem_length (c:UInt8):∀ (l:List UInt8) (p:List UInt8),p∈cutAll c l→p.length≤l.length
 | [],p,h=>by simp [cutAll] at h;simp [h]
 | x::l,p,h=>by
  unfold cutAll at h
  split at h
  · simp at h
    rcases h with rfl | h
    · simp
    · have:=cutAll_mem_length c l p h
      simp;omega
  · cases e:cutAll c l with
    | nil=>exact absurd e (cutAll_ne c l)
    | cons a t=>
     rw [e] at h
     simp [glue] at h
     rcases h with rfl | h
     · have:=cutAll_mem_length c l a (by simp [e])
       simp;omega
     · have:=cutAll_mem_length c l p (by simp [e,h])
       simp;omega
theorem getD_mem {α:Type} {l:List α} {j:Nat} {d:α} (h:j<l.length):l.getD j d∈l:=by
 simp [List.getD_eq_getElem?_getD,List.getElem?_eq_getElem h]
theorem body_length (s:List UInt8):(bodyOf s).length≤s.length:=by
 have h1:=noCR_length s
 unfold bodyOf
 cases e:cutAll 35 (noCR s) with
 | nil=>simp
 | cons a t=>
  have:=cutAll_mem_length 35 (noCR s) a (by simp [e])
  simp
  omega
theorem body_first {s:List UInt8} {v:Value} (h:(strs (cutAll 35 (noCR s)))[0]? = some v):v=.string (bs (bodyOf s)):=by
 unfold bodyOf
 cases e:cutAll 35 (noCR s) with
 | nil=>exact absurd e (cutAll_ne _ _)
 | cons a t=>
  rw [e] at h
  simp [strs] at h
  exact h.symm
theorem numbered_take (L:List (List UInt8)) (k:Nat) (hk:k<L.length):(numbered 1 (L.take (k+1))).filterMap lineOf=(numbered 1 (L.take k)).filterMap lineOf++(lineOf ((k:Int)+1,bodyOf (L.getD k []))).toList:=by
 rw [List.take_succ_eq_append_getElem hk,numbered_append,List.filterMap_append]
 congr 1
 simp only [numbered,List.length_take,Nat.min_eq_left (Nat.le_of_lt hk)]
 rw [List.getD_eq_getElem?_getD,List.getElem?_eq_getElem hk,Int.add_comm]
 simp only [Option.getD_some]
 cases h:lineOf ((k:Int)+1,bodyOf L[k]) <;> simp [h]
def LinRel (L:List (List UInt8)) (w1:World) (v i:Value) (wr:World):Prop:=
 Below w1.heap.size w1 wr∧∃ (k:Nat) (ls:List Ln) (cs:List Value),i=.int .i64 k∧k≤L.length∧ls.length≤k∧ls=(numbered 1 (L.take k)).filterMap lineOf∧wr.ownsRow w1.heap.size 140 2 v ls.length cs∧LnCells wr w1.heap.size ls cs
def FldRel (L:List (List UInt8)) (w3:World) (v i:Value) (wr:World):Prop:=
 Below w3.heap.size w3 wr∧∃ k:Nat,i=.int .i64 k∧k≤L.length∧wr.ownsRow w3.heap.size 9 1 v k (strs ((L.take k).map trim))
theorem fld_snoc {L:List (List UInt8)} {k:Nat} (hk:k<L.length):strs ((L.take k).map trim) ++ [Value.string (bs (trim (L.getD k [])))]=strs ((L.take (k+1)).map trim):=by
 rw [strs_snoc,List.take_succ_eq_append_getElem hk,List.map_append,List.getD_eq_getElem?_getD,List.getElem?_eq_getElem hk]
 rfl
theorem own_base {w:World} {b b':Nat} {e:TypeId} {size n:Nat} {v:Value} {xs:List Value} (h:w.ownsRow b e size v n xs) (hb:b'≤b):w.ownsRow b' e size v n xs:=by
 refine⟨h.1,?_⟩
 rcases h.2 with hn | ⟨g,cap,cur,rfl,hg,rest⟩
 · exact .inl hn
 · exact .inr ⟨g,cap,cur,rfl,Nat.le_trans hb hg,rest⟩
theorem lin_step {L:List (List UInt8)} {k:Nat} {w1 wr w3 w4 w5:World} {v v' f:Value} {ls:List Ln} {cs:List Value} {b:List UInt8} {o:Obj} (hk:k<L.length) (hls:ls=(numbered 1 (L.take k)).filterMap lineOf) (hlk:ls.length≤k)
 (hb:bodyOf (L.getD k [])=b) (hne:¬trim b = [])
 (hbel:Below w1.heap.size w1 wr) (ho:wr.ownsRow w1.heap.size 140 2 v ls.length cs) (hc:LnCells wr w1.heap.size ls cs) (b3:Below wr.heap.size wr w3) (b4:Below w3.heap.size w3 w4)
 (hf:w4.ownsRow w3.heap.size 9 1 f (cutAll 59 b).length (strs ((cutAll 59 b).map trim)))
 (ho':w5.ownsRow w1.heap.size 140 2 v' (ls.length+1) (cs ++ [.int .i64 ((k:Int)+1),f])) (hg:(w4.alloc o).grownBy w5 v.ownBlock):LinRel L w1 v' (.int .i64 ((k:Int)+1)) w5:=by
 have e:lineOf ((k:Int)+1,b)=some ((k:Int)+1,fieldsOf b):=by simp [lineOf,hne]
 have hf':w4.ownsRow w1.heap.size 9 1 f (fieldsOf b).length (strs (fieldsOf b)):=by
  unfold fieldsOf
  rw [List.length_map]
  exact own_base hf (Nat.le_trans hbel.size b3.size)
 have b34:Below wr.heap.size wr w4:=b3.trans (b4.mono b3.size)
 have ho4:w4.ownsRow w1.heap.size 140 2 v ls.length cs:=own_below ho b34 (Nat.le_refl _)
 have hc4:LnCells w4 w1.heap.size ls cs:=LnCells.of (fun _ _ _ h=>own_below h b34 (Nat.le_refl _)) hc
 have hc5:=LnCells.of (w':=w5) (fun _ _ _ h=>own_apart h ho4 hg) hc4
 have hf5:=own_apart hf' ho4 hg
 have hb4:Below w1.heap.size w1 w4:=hbel.trans (b34.mono hbel.size)
 refine⟨grew_of ho4 (Nat.le_trans hbel.size b34.size) hg _ _ hb4 (Nat.le_refl _),k+1,ls ++ [((k:Int)+1,fieldsOf b)],cs ++ [.int .i64 ((k:Int)+1),f],by go_num,hk,by simp;omega,?_,by simpa using ho',LnCells.snoc (x:=((k:Int)+1,fieldsOf b)) hf5 hc5⟩
 rw [numbered_take L k hk,hb,e,←hls]
 rfl
theorem lin_skip {L:List (List UInt8)} {k:Nat} {w1 wr w3:World} {v:Value} {ls:List Ln} {cs:List Value} {b:List UInt8} (hk:k<L.length) (hls:ls=(numbered 1 (L.take k)).filterMap lineOf) (hlk:ls.length≤k)
 (hb:bodyOf (L.getD k [])=b) (hne:trim b = [])
 (hbel:Below w1.heap.size w1 wr) (ho:wr.ownsRow w1.heap.size 140 2 v ls.length cs) (hc:LnCells wr w1.heap.size ls cs) (b3:Below wr.heap.size wr w3):LinRel L w1 v (.int .i64 ((k:Int)+1)) w3:=by
 have e:lineOf ((k:Int)+1,b)=none:=by simp [lineOf,hne]
 refine⟨hbel.trans (b3.mono hbel.size),k+1,ls,cs,by go_num,hk,by omega,?_,own_below ho b3 (Nat.le_refl _),LnCells.of (fun _ _ _ h=>own_below h b3 (Nat.le_refl _)) hc⟩
 rw [numbered_take L k hk,hb,e,←hls]
 simp
theorem cut_body {s:List UInt8} {w w':World} {e:Ending} (h:CutPost 35 (noCR s) w e w') (hs:s.length≤10000):Below w.heap.size w w'∧∃ b off ca N,e=.returned (.slice (some ⟨b,off,none⟩) N ca)∧1≤N∧N≤20000∧w'.cell? ⟨b,off,none⟩=some (.string (bs (bodyOf s))):=by
 obtain⟨hb,A,ca,rfl,hV⟩:=h
 have hpos:1≤(cutAll 35 (noCR s)).length:=by
  have:=cutAll_ne 35 (noCR s)
  cases h:cutAll 35 (noCR s) with
  | nil=>exact absurd h this
  | cons _ _=>simp
 have hmany:(cutAll 35 (noCR s)).length≤20000:=by have h:=cutAll_length 35 (noCR s);have:=noCR_length s;omega
 obtain⟨b,off,rfl,_,hc⟩:=hV.2 (by omega)
 refine⟨hb,b,off,ca,_,rfl,hpos,hmany,?_⟩
 have hg:(strs (cutAll 35 (noCR s)))[0]? = some (.string (bs ((cutAll 35 (noCR s)).getD 0 []))):=strs_get (by omega)
 have:=hc 0 _ hg
 rw [body_first hg] at this
 exact this
theorem bs_toList (l:List UInt8):(bs l).toList=l:=by rw [Lib.toList_data,bs_data]
theorem bs_some {l:List UInt8} (h:¬l = []):(bs l).toList.isEmpty=false:=by rw [bs_toList];simp [h]
def LinPost (l:List UInt8) (w:World) (e:Ending) (w':World):Prop:=
 Below w.heap.size w w'∧∃ A ca,e=.returned (.slice A (linesIn l).length ca)∧(linesIn l).length≤ca∧LinesAt w' A (linesIn l).length (linesIn l)
set_option maxRecDepth 100000 in
set_option maxHeartbeats 4000000 in
theorem lines8 (l:List UInt8) (w:World) (hl:l.length≤10000):
 Calls Tryz.prog 75 #[.string (bs l)] w (LinPost l w):=by
 obtain⟨i0,hi,hz0,hz1,hz2⟩:=info_parts info9
 obtain⟨j0,ji,jz0,jz1,jz2⟩:=info_parts info32
 have c10:=cut20_at 10 10 rfl l w (by omega)
 go_enter Tryz.func75,Tryz.ntmps75
 go_wp2_with (go_at_call 100;(with_reducible refine c10.mono ?_);rintro e w1 ⟨hb1,A,ca,rfl,hV⟩)
 clear c10
 have hLl:=cutAll_length 10 l
 have hLp:=fun k (h:k<(cutAll 10 l).length)=>cutAll_mem_length 10 l _ (getD_mem (d:=[]) h)
 have hfin:Hid ((numbered 1 (cutAll 10 l)).filterMap lineOf=linesIn l):=Lib.hid rfl
 obtain⟨L,hL⟩:∃ L,cutAll 10 l=L:=⟨_,rfl⟩
 rw [hL] at hV hLl hLp hfin ⊢
 obtain⟨n,hn⟩:∃ n,L.length=n:=⟨_,rfl⟩
 rw [hn] at hV hLl ⊢
 have HV:=Lib.hid hV
 have HN:=Lib.hid hn
 have HLP:=Lib.hid hLp
 clear hL hV hn hLp
 go_wp2
 go_loopw [3,5] (fun v i wr=>LinRel L w1 v i wr) (fun _ i _=>n-(intOf i).toNat)
 case atStart=>exact⟨Below.refl _ _,0,[],[],rfl,Nat.zero_le _,Nat.le_refl _,by simp [numbered],World.ownsRow_nil _ _ _ _,trivial⟩
 case round=>
  obtain⟨hbel,k,ls,cs,rfl,hkL,hlk,hls,hown,hcs⟩:=hrel
  by_cases hlt:k<n
  · have hkL':k<L.length:=by rw [HN.out];exact hlt
    obtain⟨b,off,rfl,hbl,hcell⟩:=HV.out.2 (by omega)
    have hck:wr.cell? ⟨b,off+k,none⟩=some (.string (bs (L.getD k []))):=(hbel.cell (p:=⟨b,off+k,none⟩) hbl).trans (hcell k _ (strs_get hkL'))
    have hsl:=HLP.out k hkL'
    have hbody:Hid (bodyOf (L.getD k [])=bodyOf (L.getD k [])):=Lib.hid rfl
    have HLS:=Lib.hid hls
    have HCS:=Lib.hid hcs
    have HLT:=Lib.hid hkL'
    clear hcell hls hcs hkL hkL'
    obtain⟨s,hs⟩:∃ s,L.getD k []=s:=⟨_,rfl⟩
    rw [hs] at hck hsl
    have HS:=Lib.hid hs
    clear hs hbody
    have c35:=cut20_at 35 35 rfl (noCR s) wr (by have:=noCR_length s;omega)
    obtain⟨T,hT⟩:∃ T,bs (noCR s)=T:=⟨_,rfl⟩
    have hcr:=cr_cases s (by omega)
    rw [hT] at c35 hcr
    have hbl2:=body_length s
    have hsb:s.length≤10000:=by omega
    have hbb:Hid (bodyOf (L.getD k [])=bodyOf s):=by rw [HS.out];exact Lib.hid rfl
    obtain⟨bd,hbd⟩:∃ bd,bodyOf s=bd:=⟨_,rfl⟩
    rw [hbd] at hbb hbl2
    have HC35:=Lib.hid (c35.mono (fun e w' h=>by have:=cut_body h hsb;rw [hbd] at this;exact this))
    have c21:=fun w'=>trim21 bd w' (by omega)
    have c59:=fun w'=>cut20_at 59 59 rfl bd w' (by omega)
    have C21:=Lib.hid c21
    have C59:=Lib.hid c59
    clear c35 c21 c59 hbd HS HLP
    have h63:ls.length+1≤maxLen:=by unfold maxLen;omega
    have h47:(ls.length+1)*32≤140737488355328:=by omega
    have hcr':(bs s=T∧(bs s).size=0)∨(bs s=T∧∃ n,(bs s).size=n+1∧n≤1000000∧∃ X:Int,(∀ h,(((bs s)[n]'h).toNat:Int)=X)∧(X==13)=false)∨(∃ n,(bs s).size=n+1∧n≤1000000∧(∀ h,(((bs s)[n]'h).toNat:Int)=13)∧(bs s).extract 0 n=T):=by
     rcases hcr with ⟨e,h | h⟩ | h
     · exact .inl ⟨by rw [←hT,e],h⟩
     · exact .inr (.inl ⟨by rw [←hT,e],h⟩)
     · exact .inr (.inr h)
    clear hcr hT
    obtain⟨t,ht⟩:∃ t,bs s=t:=⟨_,rfl⟩
    rw [ht] at hcr' hck
    clear ht
    rcases hcr' with ⟨rfl,h0⟩ | ⟨rfl,m,h0,hm,X,hX,hX13⟩ | ⟨m,h0,hm,hX,hext⟩
    all_goals
     go_wp2_with (go_at_call 100;(with_reducible refine HC35.out.mono ?_);rintro e w2 ⟨hb2,b2,off2,ca2,N2,rfl,hN1,hN2,hc2⟩)
     clear HC35
     by_cases hte:trim bd = []
     · have c21:=C21.out w2
       rw [hte,bs_nil] at c21
       have HTE:=Lib.hid hte
       have HOW:=Lib.hid hown
       clear hte C21 C59 hown
       go_wp2_with (go_at_call 101;(with_reducible refine c21.mono ?_);rintro e w' ⟨rfl,rfl⟩)
       go_roundw
       case rel=>exact lin_skip HLT.out HLS.out hlk hbb.out HTE.out hbel HOW.out HCS.out hb2
       case measure=>simp [intOf];omega
     · have c21:=C21.out w2
       have hne:=bs_some hte
       obtain⟨T2,hT2⟩:∃ T2,bs (trim bd)=T2:=⟨_,rfl⟩
       rw [hT2] at c21 hne
       have HTE:=Lib.hid hte
       have HOW:=Lib.hid hown
       clear hte hT2 hown
       go_wp2_with (first
        | (go_at_call 101;(with_reducible refine c21.mono ?_);rintro e w' ⟨rfl,rfl⟩)
        | (go_at_call 100;(with_reducible refine (C59.out w2).mono ?_);rintro e w3 ⟨hb3,A3,ca3,rfl,hV3⟩))
       clear C21 C59 c21 hne h0
       have hM0:=cutAll_length 59 bd
       have hMp:=fun k (h:k<(cutAll 59 bd).length)=>cutAll_mem_length 59 bd _ (getD_mem (d:=[]) h)
       have hstep:=fun (w4 w5:World) (v' f:Value) (o:Obj) b4 hf ho' hg=>@lin_step L k w1 wr w3 w4 w5 _ v' f ls cs bd o HLT.out HLS.out hlk hbb.out HTE.out hbel HOW.out HCS.out (hb2.trans (hb3.mono hb2.size)) b4 hf ho' hg
       obtain⟨M,hM⟩:∃ M,cutAll 59 bd=M:=⟨_,rfl⟩
       rw [hM] at hM0 hMp hstep hV3 ⊢
       obtain⟨m3,hm3⟩:∃ m,M.length=m:=⟨_,rfl⟩
       rw [hm3] at hM0 hV3 hstep ⊢
       have HM3:=Lib.hid hm3
       have HMP:=Lib.hid hMp
       have HST:=Lib.hid hstep
       have HV3:=Lib.hid hV3
       clear hM hm3 hMp hstep hV3 HLS hbb
       have hb03:=hb2.trans (hb3.mono hb2.size)
       obtain⟨w0,rfl⟩:∃ w0,w0=wr:=⟨_,rfl⟩
       go_loopw [8,9] (fun v i wr=>FldRel M w3 v i wr) (fun _ i _=>m3-(intOf i).toNat)
       case atStart=>exact⟨Below.refl _ _,0,rfl,Nat.zero_le _,World.ownsRow_nil _ _ _ _⟩
       case round=>
        obtain⟨hbelq,q,rfl,hqM,hownq⟩:=hrel
        by_cases hq:q<m3
        · obtain⟨b3,off3,rfl,hbl3,hcell3⟩:=HV3.out.2 (by omega)
          have hqM':q<M.length:=by rw [HM3.out];exact hq
          have hcq:wr.cell? ⟨b3,off3+q,none⟩=some (.string (bs (M.getD q []))):=(hbelq.cell (p:=⟨b3,off3+q,none⟩) hbl3).trans (hcell3 q _ (strs_get hqM'))
          have c21:=fun w'=>trim21 (M.getD q []) w' (by have:=HMP.out q hqM';omega)
          have hfs:=fld_snoc hqM'
          obtain⟨p,hp⟩:∃ p,M.getD q []=p:=⟨_,rfl⟩
          rw [hp] at hcq c21 hfs
          have C21:=Lib.hid c21
          have HFS:=Lib.hid hfs
          have HQM:=Lib.hid hqM'
          clear hcell3 c21 hfs hp hqM' hqM
          have g63:q+1≤maxLen:=by unfold maxLen;omega
          have g47:(q+1)*16≤140737488355328:=by omega
          have hbaseq:=hbelq.size
          go_wp2_with (first
           | (go_at_call 101;(with_reducible refine (C21.out _).mono ?_);rintro e w' ⟨rfl,rfl⟩)
           | (at_builtin;refine append_lit rfl _ _ 102 rfl w3.heap.size 9 i0 (.string ⟨#[]⟩) 1 16 Tryz.underlying102 hi hz0 hz1 hz2 rfl (by decide) _ _ _ rfl hownq [.string (bs (trim p))] rfl (by simp [Value.oneCell']) rfl g63 g47 hbaseq ?_;intro v' w5 hown' hg'))
          go_roundw
          case rel=>
           rw [HFS.out] at hown'
           exact⟨hg' _ _ hbelq (Nat.le_refl _),q+1,by go_num,HQM.out,hown'⟩
          case measure=>simp [intOf];omega
        · have hqe:q=m3:=by have:=HM3.out;omega
          subst hqe
          rw [List.take_of_length_le (by rw [HM3.out];exact Nat.le_refl _)] at hownq
          have hout:=own_below HOW.out (hb03.trans (hbelq.mono hb03.size)) (Nat.le_refl _)
          have hbase1:w1.heap.size≤wr.heap.size:=Nat.le_trans hbel.size (Nat.le_trans hb03.size hbelq.size)
          have HOQ:=Lib.hid hownq
          obtain⟨F,cf,rfl,-,-,-⟩:=own_vals hownq
          clear hownq hqM
          go_wp2_with (at_builtin;refine append_lit2 rfl _ _ 135 rfl w1.heap.size 140 j0 (.agg #[.int .i64 0,.slice none 0 0]) 2 32 Tryz.underlying135 ji jz0 jz1 jz2 rfl (by decide) _ _ _ rfl hout [.int .i64 ((k:Int)+1),.slice F q cf] rfl (by simp [Value.oneCell']) rfl h63 h47 hbase1 ?_;intro v' w5 hown' hg')
          have R:=HST.out wr w5 _ _ _ hbelq HOQ.out hown' hg'
          clear hown' hg' HST HOQ
          go_wp2
          go_roundw
          case rel=>exact R
          case measure=>simp [intOf];omega
  · have hk:k=n:=by have:=HN.out;omega
    subst hk
    have e:ls=linesIn l:=by rw [hls,List.take_of_length_le (by rw [HN.out];exact Nat.le_refl _)];exact hfin.out
    have E:=Lib.hid e
    have HCS:=Lib.hid hcs
    clear e hls hcs hkL
    go_wp2
    go_ret
    obtain⟨A2,c2,rfl,h1,h2⟩:=linesAt_of hown HCS.out
    rw [E.out] at h1 h2 ⊢
    exact⟨hb1.trans (hbel.mono hb1.size),A2,c2,rfl,h1,h2⟩
def ints (l:List UInt8):List Int:=l.map fun c=>(c.toNat:Int)
theorem ints_length (l:List UInt8):(ints l).length=l.length:=List.length_map _
theorem ints_bytes (l:List UInt8):Lib.bytesOf (ints l)=l:=by
 unfold Lib.bytesOf ints
 rw [List.map_map]
 conv=>rhs;rw [←List.map_id l]
 apply List.map_congr_left
 intro c _
 simp
theorem ints_str (l:List UInt8):strOfNums (ints l)=bs l:=by
 have h:=Lib.strOfNums_toList (ints l)
 rw [ints_bytes,Lib.toList_data] at h
 rw [←bs_of (strOfNums (ints l)),h]
theorem ints_range (l:List UInt8):∀ x∈ints l,0≤x∧x<256:=by
 intro x hx
 unfold ints at hx
 rw [List.mem_map] at hx
 obtain⟨c,_,rfl⟩:=hx
 have:=c.toNat_lt
 omega
def Octs (w:World) (A:Option Addr) (n:Nat) (l:List UInt8):Prop:=Vals w A n (nums .u8 (ints l))
theorem Octs.len {w:World} {A:Option Addr} {n:Nat} {l:List UInt8} (h:Octs w A n l):l.length=n:=by
 have:=h.1
 unfold nums at this
 rwa [List.length_map,ints_length] at this
theorem Octs.below {w w':World} {A:Option Addr} {n:Nat} {l:List UInt8} (h:Octs w A n l) (hb:Below w.heap.size w w'):Octs w' A n l:=Vals.below h hb
theorem Octs.bytesIn {w:World} {A:Option Addr} {n:Nat} {l:List UInt8} (h:Octs w A n l):Lib.BytesIn w A n (ints l):=fun hn=>by
 obtain⟨b,off,rfl,_,hc⟩:=h.2 hn
 exact⟨b,off,rfl,fun i hi=>hc i _ (nums_get (by rw [ints_length,h.len];exact hi))⟩
theorem octs_cells {w:World} {b off n:Nat} {l:List UInt8} (h:Octs w (some ⟨b,off,none⟩) n l):∀ j,j<n→w.cell? ⟨b,off+j,none⟩=some (.int .u8 ((ints l).getD j 0)):=fun j hj=>by
 obtain⟨b',off',e,_,hc⟩:=h.2 (by omega)
 cases e
 exact hc j _ (nums_get (by rw [ints_length,h.len];exact hj))
theorem octs_of {w:World} {b off n:Nat} {l:List UInt8} (hl:l.length=n) (hb:0<n→b<w.heap.size) (h:∀ j,j<n→w.cell? ⟨b,off+j,none⟩=some (.int .u8 ((ints l).getD j 0))):Octs w (some ⟨b,off,none⟩) n l:=by
 refine⟨by unfold nums;rw [List.length_map,ints_length,hl],fun hn=>⟨b,off,rfl,hb hn,fun j v hj=>?_⟩⟩
 have hlt:j<l.length:=by
  have:=(List.getElem?_eq_some_iff.1 hj).1
  unfold nums at this
  rwa [List.length_map,ints_length] at this
 rw [nums_get (by rw [ints_length];exact hlt)] at hj
 cases hj
 exact h j (by omega)
theorem ints_get (l:List UInt8) (j:Nat):(ints l).getD j 0=oct l j:=by
 unfold ints oct
 simp [List.getD_eq_getElem?_getD,List.getElem?_map]
 cases l[j]? <;> rfl
theorem oct_take (l:List UInt8) (k j:Nat) (h:j<k):oct (l.take k) j=oct l j:=by
 unfold oct
 simp [List.getD_eq_getElem?_getD,h]
theorem oct_drop (l:List UInt8) (k j:Nat):oct (l.drop k) j=oct l (k+j):=by
 unfold oct
 simp [List.getD_eq_getElem?_getD]
theorem Octs.take {w:World} {A:Option Addr} {n:Nat} {l:List UInt8} (h:Octs w A n l) (k:Nat) (hk:k≤n):Octs w A k (l.take k):=by
 have hl:=h.len
 rcases Nat.eq_zero_or_pos k with rfl | h0
 · rw [List.take_zero];exact Vals.nil _ _
 · obtain⟨b,off,rfl,hb,-⟩:=h.2 (by omega)
   have hc:=octs_cells h
   refine octs_of (by simp;omega) (fun _=>hb) (fun j hj=>?_)
   rw [hc j (by omega),ints_get,ints_get,oct_take _ _ _ hj]
theorem octs_from {w:World} {A:Option Addr} {n c:Nat} {l:List UInt8} (h:Octs w A n l) (k:Nat) (hk:k≤n) (hc:n≤c):Octs w (if c=k then A else A.map (fun x=>x.add k)) (n-k) (l.drop k):=by
 have hl:=h.len
 rcases Nat.eq_zero_or_pos (n-k) with h0 | h0
 · rw [h0,List.drop_of_length_le (by omega)];exact Vals.nil _ _
 · obtain⟨b,off,rfl,hb,-⟩:=h.2 (by omega)
   have hcl:=octs_cells h
   have e:(if c=k then (some ⟨b,off,none⟩:Option Addr) else (some ⟨b,off,none⟩:Option Addr).map (fun x=>x.add k))=some ⟨b,off+k,none⟩:=by
    rw [if_neg (by omega)]
    simp [Addr.add]
   rw [e]
   refine octs_of (by simp;omega) (fun _=>hb) (fun j hj=>?_)
   rw [show off+k+j=off+(k+j) by omega,hcl (k+j) (by omega),ints_get,ints_get,oct_drop]
theorem conv22 {A:Option Addr} {n:Nat} (c:Nat) {l:List UInt8} {w:World} (h:Octs w A n l):(convert 22 9 (.slice A n c)).run Tryz.prog w=.ok (.string (bs l)) w:=by
 have hl:=h.len
 rcases Nat.eq_zero_or_pos n with h0 | h0
 · subst h0
   obtain rfl:l = []:=List.eq_nil_of_length_eq_zero hl
   cases A with
   | none=>exact run_convert_bytes_nil w 22 5 Tryz.underlying22 Tryz.underlying5 0 c 9 Tryz.underlying9
   | some a=>
    rw [run_convert_bytes_string w 22 9 5 _ 0 c Tryz.underlying22 Tryz.underlying5 Tryz.underlying9]
    rw [run_bytesToString w a 0 c [] (by simp [loadCells,loadCellsFrom])]
    rfl
 · obtain⟨b,off,rfl,-,-⟩:=h.2 h0
   rw [←ints_str]
   exact run_convert_bytes_arg w 22 5 Tryz.underlying22 Tryz.underlying5 b off n c (ints l) (by rw [ints_length,hl]) (octs_cells h) 9 Tryz.underlying9
theorem one_octs (w:World) (c:UInt8) (x:Int) (hx:(c.toNat:Int)=x):Lib.BytesIn (w.alloc (.cells #[.int .u8 x] 5)) (some ⟨w.heap.size,0,none⟩) 1 (ints [c]):=fun _=>⟨_,_,rfl,fun j hj=>by
 obtain rfl:j=0:=by omega
 subst hx
 simp [ints]⟩
theorem noCR_take (l:List UInt8):noCR l=l.take (noCR l).length:=by
 unfold noCR
 split
 · rw [List.length_dropLast,List.dropLast_eq_take]
 · simp
theorem trimCR {A:Option Addr} {n c:Nat} {l:List UInt8} {w:World} (h:Octs w A n l):Lib.trimSuffixV A n c (ints l) (ints [13])=.slice A (noCR l).length c:=by
 have hl:=h.len
 rcases Nat.eq_zero_or_pos n with h0 | h0
 · subst h0
   obtain rfl:l = []:=List.eq_nil_of_length_eq_zero hl
   have e:(noCR []).length=0:=rfl
   rw [e]
   unfold Lib.trimSuffixV
   split
   · unfold Lib.bytesTrimSuffix
     rw [if_neg (by rw [ints_bytes,ints_bytes];decide)]
   · rfl
 · obtain⟨b,off,rfl,-,-⟩:=h.2 h0
   show Lib.bytesTrimSuffix b off n c (ints l) (ints [13])=_
   unfold Lib.bytesTrimSuffix Lib.sliceTo
   rw [ints_bytes,ints_bytes]
   have e:Lib.hasSuffix l [13]=decide (l.getLast? = some 13):=by
    unfold Lib.hasSuffix
    rw [Bool.eq_iff_iff,List.isSuffixOf_iff_suffix]
    simp
    rw [List.getLast?_eq_some_iff]
    constructor
    · rintro⟨t,rfl⟩;exact⟨t,rfl⟩
    · rintro⟨t,rfl⟩;exact⟨t,rfl⟩
   rw [e]
   unfold noCR
   by_cases hh:l.getLast? = some 13
   · simp [hh,ints_length,hl]
   · simp [hh,hl]
theorem cutV_hit (A:Option Addr) (N c a:Nat):Lib.cutV A N c 1 (a:Int)=.tuple #[.slice A a c,.slice (if c=a+1 then A else A.map (fun x=>x.add (a+1))) (N-(a+1)) (c-(a+1)),.bool true]:=by
 unfold Lib.cutV
 rw [if_pos (by omega)]
 rfl
theorem cutV_miss (A:Option Addr) (N c:Nat):Lib.cutV A N c 1 (-1)=.tuple #[.slice A N c,.slice none 0 0,.bool false]:=by
 unfold Lib.cutV
 rw [if_neg (by omega)]
theorem body_cut {l:List UInt8} {N c:Nat} {A:Option Addr} (hN:(noCR l).length=N):∃ k P2 n2 c2 f,Lib.cutV A N c 1 (Lib.index (Lib.bytesOf (ints (noCR l))) (Lib.bytesOf (ints [35])))=.tuple #[.slice A k c,.slice P2 n2 c2,.bool f]∧k≤N∧bodyOf l=(noCR l).take k:=by
 rw [ints_bytes,ints_bytes]
 unfold bodyOf
 by_cases h:(35:UInt8)∈noCR l
 · obtain⟨a,b,e,ha⟩:=split_at 35 _ h
   rw [e] at hN ⊢
   rw [index_one 35 a b ha,cutAll_some 35 a b ha]
   exact⟨_,_,_,_,_,cutV_hit A N c a.length,by simp at hN;omega,by simp⟩
 · rw [index_no 35 _ h,cutAll_none 35 _ h]
   exact⟨_,_,_,_,_,cutV_miss A N c,Nat.le_refl _,by rw [←hN];simp⟩
def ML (w:World):Prop:=∃ m,w.cell? ⟨1,0,none⟩=some (.int .i64 m)
theorem ML.lt {w:World} (h:ML w):1<w.heap.size:=by
 obtain⟨m,h⟩:=h
 exact World.block_lt_of_cell? w _ h
theorem ML.below {w w':World} (h:ML w) (hb:Below w.heap.size w w'):ML w':=by
 obtain⟨m,hm⟩:=h
 exact⟨m,(hb.cell (p:=⟨1,0,none⟩) (by have:=World.block_lt_of_cell? w _ hm;exact this)).trans hm⟩
set_option maxRecDepth 100000 in
set_option maxHeartbeats 1000000 in
theorem body36 (A:Option Addr) (n c:Nat) (l:List UInt8) (w:World) (hV:Octs w A n l) (hA:A=none→c=0) (hc:n≤c) (hn:n≤100000) (hm:ML w):
 Calls Tryz.prog 135 #[.slice A n c] w fun e w'=>e=.returned (.string (bs (bodyOf l)))∧Below w.heap.size w w':=by
 have b1:Below w.heap.size w (w.alloc (.cells #[.int .u8 13] 5)):=(Below.refl _ _).alloc (Nat.le_refl _) _
 have c49:=Tryz.bytes_TrimSuffix_all A (some ⟨w.heap.size,0,none⟩) n c 1 1 (ints l) (ints [13]) (w.alloc (.cells #[.int .u8 13] 5)) (by rw [ints_length,hV.len]) rfl hc (by omega) (hV.below b1).bytesIn (one_octs w 13 13 rfl)
 rw [trimCR hV] at c49
 have hN:=noCR_length l
 have hlen:=hV.len
 have hV1:=(hV.below b1).take (noCR l).length (by omega)
 rw [←noCR_take] at hV1
 obtain⟨N,hNN⟩:∃ N,(noCR l).length=N:=⟨_,rfl⟩
 rw [hNN] at c49 hN hV1
 have b2:Below (w.alloc (.cells #[.int .u8 13] 5)).heap.size (w.alloc (.cells #[.int .u8 13] 5)) ((w.alloc (.cells #[.int .u8 13] 5)).alloc (.cells #[.int .u8 35] 5)):=(Below.refl _ _).alloc (Nat.le_refl _) _
 obtain⟨m,hmm⟩:=(hm.below b1).below b2
 have hV2:=hV1.below b2
 have c35:=Tryz.bytes_Cut_all A (some ⟨w.heap.size+1,0,none⟩) N c 1 1 (ints (noCR l)) (ints [35]) m ((w.alloc (.cells #[.int .u8 13] 5)).alloc (.cells #[.int .u8 35] 5)) (by rw [ints_length,hNN]) rfl (ints_range _) (ints_range _) hV2.bytesIn (by have:=one_octs (w.alloc (.cells #[.int .u8 13] 5)) 35 35 rfl;simpa using this) hA (by omega) (by omega) (by omega) hmm
 obtain⟨k,P2,n2,c2,f,hk1,hk2,hk3⟩:=body_cut (A:=A) (c:=c) hNN
 rw [hk1] at c35
 have hV3:=hV2.take k hk2
 rw [←hk3] at hV3
 have kc:=fun q=>conv22 c (w:=((w.alloc (.cells #[.int .u8 13] 5)).alloc (.cells #[.int .u8 35] 5)).drewN q) hV3
 obtain⟨B,hB⟩:∃ B,bs (bodyOf l)=B:=⟨_,rfl⟩
 rw [hB] at kc ⊢
 clear hk1 hk3 hV hV1 hV2 hV3 hmm hm hNN hB
 go_enter Tryz.func135,Tryz.ntmps135
 go_wp2_with (first
  | (go_at_call 167;(with_reducible refine c49.mono ?_);rintro e w' ⟨rfl,rfl⟩)
  | (go_at_call 134;(with_reducible refine c35.mono ?_);rintro e w' ⟨rfl,q,rfl⟩))
 go_ret
 exact⟨rfl,below_drewN (b1.trans (b2.mono (by simp))) q⟩
end Go.Proofs.YtmellioacefjjaaGreatDoor
namespace Go.Proofs.YtmellioacefjjaaGreatDoor
open Go.ChangeShapes Go.WideShapes Go.ChangeAt Go.RowKit
theorem own:ownKnob Tryz.prog.godebug=none:=by kernel_rfl
theorem laidOut:laidOutB Tryz.prog=true:=by kernel_rfl
def layCells (zs:List Int):Obj→Obj
 | .cells _ t fz=>.cells (zs.map (Value.int .u8)).toArray t fz
 | o=>o
def layHan:Obj→Obj
 | .cells _ t fz=>.cells #[.int .i64 4352,.int .i64 4370,.int .i64 4449,.int .i64 4469,.int .i64 4520,.int .i64 4546,.int .i64 44032,.int .i64 55203] t fz
 | o=>o
noncomputable def laidWorld (os:Os):World:=
 { World.holding Tryz.prog os ⟨#[],#[],[]⟩ with
  heap:=(((World.holding Tryz.prog os ⟨#[],#[],[]⟩).heap.modify 0 layHan).modify 2 (layCells Lib.firstTab)).modify 3 (layCells ((List.range 16).flatMap fun i=>[(Lib.accLo i:Int),(Lib.accHi i:Int)])) }
def IsRow (k:IntKind) (w:World) (a:Option Addr) (len cap:Nat) (zs:List Int):Prop:=
 (a=none∧len=0∧cap=0∧zs = []) ∨
 ∃ x,a=some x∧len≤cap∧cap≤maxLen∧zs.length=cap∧(∀ i,i<zs.length→w.cell? (x.add i)=some (.int k (zs.getD i 0)))∧∀ n∈zs,(Lit.int k n).wf=true
theorem IsRow.vals {k:IntKind} {w:World} {a:Option Addr} {len cap:Nat} {zs:List Int} (h:IsRow k w a len cap zs):Vals w a len (nums k (zs.take len))∧len≤cap∧(a=none→cap=0)∧∀ n∈zs.take len,(Lit.int k n).wf=true:=by
 rcases h with ⟨rfl,rfl,rfl,rfl⟩ | ⟨x,rfl,hl,hm,hz,hcell,hwz⟩
 · exact⟨Vals.nil _ _,Nat.le_refl _,fun _=>rfl,by simp⟩
 · refine⟨⟨by simp [nums];omega,fun h0=>?_⟩,hl,fun h=>(by cases h),fun n hn=>hwz n (List.mem_of_mem_take hn)⟩
   obtain⟨b,off,spot⟩:=x
   have hc:=hcell 0 (by omega)
   have hspot:spot=none:=by simpa [Addr.add] using World.cell?_spot hc
   subst hspot
   refine⟨b,off,rfl,?_,fun j v hj=>?_⟩
   · have:=World.block_lt_of_cell? w _ hc
     simpa [Addr.add] using this
   · have hlt:j<len:=by
      have:=(List.getElem?_eq_some_iff.1 hj).1
      simp [nums] at this
      omega
     have:=hcell j (by omega)
     have e:(⟨b,off,none⟩:Addr).add j=⟨b,off+j,none⟩:=by unfold Addr.add;split <;> simp_all
     rw [e] at this
     rw [nums_get (by simp;omega)] at hj
     cases hj
     rw [this]
     simp [List.getD_eq_getElem?_getD,hlt]
theorem wf_u8 {x:Int} (h:(Lit.int .u8 x).wf=true):0≤x∧x<256:=by
 have:=bounds_u8 h
 omega
theorem IsRow.octs {w:World} {a:Option Addr} {len cap:Nat} {zs:List Int} (h:IsRow .u8 w a len cap zs):∃ l:List UInt8,Octs w a len l∧len≤cap∧(a=none→cap=0):=by
 obtain⟨h1,h2,h3,h4⟩:=h.vals
 refine⟨Lib.bytesOf (zs.take len),?_,h2,h3⟩
 have e:ints (Lib.bytesOf (zs.take len))=zs.take len:=by
  unfold ints Lib.bytesOf
  rw [List.map_map]
  conv=>rhs;rw [←List.map_id (zs.take len)]
  apply List.map_congr_left
  intro x hx
  have:=wf_u8 (h4 x hx)
  simp
  omega
 unfold Octs
 rw [e]
 exact h1
end Go.Proofs.YtmellioacefjjaaGreatDoor
namespace Go.Proofs.YtmellioacefjjaaGreatDoor
open Go.RowKit Go.Joins Go.WideShapes Go.ChangeShapes Go.ChangeAt Go.Deep
section
variable {H:Type} {enc:TypeId×Value→H} {P:Program} {w:World} {base:Nat} {spare:Nat→Bool} {held:Bool}
theorem open_agg7w {r:Reach} {b0:Nat} {t:TypeId} {f0 f1 f2 f3 f4 f5 f6:Field} {v:Value} {d:DataW H} {p:List MemPlace} (hs:P.underlying t=some (.struct #[f0,f1,f2,f3,f4,f5,f6])) (hone:oneCellFields P #[f0,f1,f2,f3,f4,f5,f6]=true) (hC:P.cellsOf t=7)
 (hv:Value.okWide P w r b0 t v) (h:DataW.Trod enc P w base spare held t v d p):
 ∃ (v0 v1 v2 v3 v4 v5 v6:Value) (y0 y1 y2 y3 y4 y5 y6:DataW H×List MemPlace),v=.agg #[v0,v1,v2,v3,v4,v5,v6]∧d=.agg [y0.1,y1.1,y2.1,y3.1,y4.1,y5.1,y6.1] ∧
  (∃ n,DataW.trod enc P w base spare held n f0.type [v0]=some y0)∧(∃ n,DataW.trod enc P w base spare held n f1.type [v1]=some y1)∧(∃ n,DataW.trod enc P w base spare held n f2.type [v2]=some y2)∧(∃ n,DataW.trod enc P w base spare held n f3.type [v3]=some y3) ∧
  (∃ n,DataW.trod enc P w base spare held n f4.type [v4]=some y4)∧(∃ n,DataW.trod enc P w base spare held n f5.type [v5]=some y5)∧(∃ n,DataW.trod enc P w base spare held n f6.type [v6]=some y6):=by
 obtain⟨cs,rfl,hsz⟩:=okWide_struct hs hv
 obtain⟨c0,c1,c2,c3,c4,c5,c6,rfl⟩:=array7 (hsz.trans hC)
 obtain⟨fuel,hf⟩:=h
 obtain⟨xs,n,_,hx,hl,hlen,hf⟩:=DataW.trod_struct hs hf
 obtain⟨y0,y1,y2,y3,y4,y5,y6,rfl⟩:∃ y0 y1 y2 y3 y4 y5 y6,xs = [y0,y1,y2,y3,y4,y5,y6]:=by
  match xs,hlen with
  | [y0,y1,y2,y3,y4,y5,y6],_=>exact⟨y0,y1,y2,y3,y4,y5,y6,rfl⟩
 have hd:=congrArg Prod.fst hx
 obtain⟨o0,k0⟩:=hone_of hone 0 f0 rfl
 obtain⟨o1,k1⟩:=hone_of hone 1 f1 rfl
 obtain⟨o2,k2⟩:=hone_of hone 2 f2 rfl
 obtain⟨o3,k3⟩:=hone_of hone 3 f3 rfl
 obtain⟨o4,k4⟩:=hone_of hone 4 f4 rfl
 obtain⟨o5,k5⟩:=hone_of hone 5 f5 rfl
 obtain⟨o6,k6⟩:=hone_of hone 6 f6 rfl
 refine⟨c0,c1,c2,c3,c4,c5,c6,y0,y1,y2,y3,y4,y5,y6,rfl,hd,⟨n,?_⟩,⟨n,?_⟩,⟨n,?_⟩,⟨n,?_⟩,⟨n,?_⟩,⟨n,?_⟩,⟨n,?_⟩⟩
 · have h:=hf 0 f0 rfl
   simpa [Value.cells,o0,k0] using h
 · have h:=hf 1 f1 rfl
   simpa [Value.cells,o1,k1] using h
 · have h:=hf 2 f2 rfl
   simpa [Value.cells,o2,k2] using h
 · have h:=hf 3 f3 rfl
   simpa [Value.cells,o3,k3] using h
 · have h:=hf 4 f4 rfl
   simpa [Value.cells,o4,k4] using h
 · have h:=hf 5 f5 rfl
   simpa [Value.cells,o5,k5] using h
 · have h:=hf 6 f6 rfl
   simpa [Value.cells,o6,k6] using h
end
theorem row_of_trodw {H:Type} {enc:TypeId×Value→H} {W:World} {base fuel:Nat} {held:Bool} {v:Value} {y:DataW H×List MemPlace} (h:DataW.trod enc Tryz.prog W base (fun _=>true) held fuel 22 [v]=some y) (hz:∀ n∈y.1.weights Tryz.prog 22,n≤reachBytes):
 ∃ a len cap zs,v=.slice a len cap∧IsRow .u8 W a len cap zs∧len≤1000000000000000:=by
 rcases open_ints Tryz.underlying22 Tryz.underlying5 (by kernel_rfl) h with ⟨hcs,_⟩ | ⟨x,l,c,zs,hcs,_,hl,hm,hz',hy,hcell,hwz⟩
 · simp at hcs
   exact⟨none,0,0,[],hcs,.inl ⟨rfl,rfl,rfl,rfl⟩,by omega⟩
 · simp at hcs hz'
   refine⟨some x,l,c,zs,hcs,.inr ⟨_,rfl,hl,hm,hz',hcell,hwz⟩,?_⟩
   have hb:Tryz.prog.bytesOf 5=1:=by kernel_rfl
   have h1:=hz ((zs.take l).length+(zs.drop l).length) (by
    rw [hy]
    simp [DataW.weights,Tryz.underlying22,hb,lits])
   have e:(zs.take l).length+(zs.drop l).length=c:=by rw [←List.length_append,List.take_append_drop,hz']
   rw [e] at h1
   have:reachBytes≤1000000000000000:=by decide
   omega
end Go.Proofs.YtmellioacefjjaaGreatDoor
