/- A part. -/
import Derived.Test.YtmellioacefjjaaGreatDoorQA07
import Derived.Lib.Strings
import Derived.Shelf.Abstract
import Derived.Shelf.RegionOpen
import Derived.TacticsInMore
import Derived.LoopNIn
import Derived.LoopIn
namespace Go.Proofs.YtmellioacefjjaaGreatDoor
open Go.RowKit
set_option maxHeartbeats 1000000 in
theorem width27 (c:Nat) (w:World):Calls Tryz.prog 161 #[.int .i64 c] w fun e w'=>e=.returned (.int .i64 (wid c))∧w=w':=by
 by_cases h:1048575<c
 · have e:wid c=6:=by simp [wid,h]
   rw [e]
   clear e
   go_enter Tryz.func161,Tryz.ntmps161
   go_wp2
   go_ret
   exact⟨rfl,rfl⟩
 · by_cases h':65535<c
   · have e:wid c=5:=by simp [wid,h,h']
     rw [e]
     clear e
     go_enter Tryz.func161,Tryz.ntmps161
     go_wp2
     go_ret
     exact⟨rfl,rfl⟩
   · have e:wid c=4:=by simp [wid,h,h']
     rw [e]
     clear e
     go_enter Tryz.func161,Tryz.ntmps161
     go_wp2
     go_ret
     exact⟨rfl,rfl⟩
theorem idx28 (c:UInt8) (x:Int) (hx:(c.toNat:Int)=x) (w:World):Calls Tryz.prog 162 #[.string ⟨#[48,49,50,51,52,53,54,55,56,57,65,66,67,68,69,70]⟩,.int .u8 x] w fun e w'=>e=.returned (.int .i64 (val c))∧w=w':=by
 have h:=Tryz.strings_IndexByte ⟨#[48,49,50,51,52,53,54,55,56,57,65,66,67,68,69,70]⟩ x w
 refine h.mono ?_
 rintro e w' ⟨rfl,rfl⟩
 subst hx
 refine⟨?_,rfl⟩
 simp [val,digs]
def ptVal:Option Nat→Value
 | some c=>.tuple #[.int .i64 c,.int .i64 0]
 | none=>.tuple #[.int .i64 0,.int .i64 13]
theorem hexv_drop {l:List UInt8} {k a:Nat} (hk:k<l.length):hexv a (l.drop k)=if val (l.getD k 0)<0 then none else hexv (a*16+(val (l.getD k 0)).toNat) (l.drop (k+1)):=by
 rw [List.drop_eq_getElem_cons hk,hexv,List.getD_eq_getElem?_getD,List.getElem?_eq_getElem hk]
 rfl
set_option maxRecDepth 100000 in
set_option maxHeartbeats 1000000 in
theorem point11 (l:List UInt8) (w:World) (hl:l.length≤1000000):Calls Tryz.prog 126 #[.string (bs l)] w fun e w'=>e=.returned (ptVal (point l))∧w=w':=by
 have c27:∀ w,Calls Tryz.prog 161 #[.int .i64 1114111] w fun e w'=>e=.returned (.int .i64 6)∧w=w':=fun w=>width27 1114111 w
 have hsz:=bs_size l
 obtain⟨n,hn⟩:∃ n,l.length=n:=⟨_,rfl⟩
 rw [hn] at hl hsz
 have HN:=Lib.hid hn
 clear hn
 by_cases hlong:6<n
 · have hp:point l=none:=by
    unfold point
    cases hexv 0 l with
    | none=>rfl
    | some c=>simp;intro h;have:=HN.out;omega
   rw [hp]
   clear hp
   go_enter Tryz.func126,Tryz.ntmps126
   go_wp2_with (go_at_call 161;(with_reducible refine (c27 _).mono ?_);rintro e w' ⟨rfl,rfl⟩)
   go_ret2
   exact⟨rfl,rfl⟩
 · go_enter Tryz.func126,Tryz.ntmps126
   go_wp2_with (go_at_call 161;(with_reducible refine (c27 _).mono ?_);rintro e w' ⟨rfl,rfl⟩)
   clear c27
   go_loop [4,13] (fun c i=>∃ (k a:Nat),c=.int .i64 a∧i=.int .i64 k∧k≤n∧a<16 ^ k∧hexv 0 l=hexv a (l.drop k)) (fun _ i=>n-(intOf i).toNat)
   case atStart=>exact⟨0,0,rfl,rfl,Nat.zero_le _,by decide,rfl⟩
   case round=>
    obtain⟨k,a,rfl,rfl,hkn,ha,hv⟩:=hrel
    have ha6:a<16777216:=Nat.lt_of_lt_of_le ha (by have:(16:Nat) ^ k≤16 ^ 6:=Nat.pow_le_pow_right (by decide) (by omega);exact this)
    by_cases hlt:k<n
    · have hlt':k<l.length:=by rw [HN.out];exact hlt
      have hx:=bs_oct l k
      have c28:=fun w=>idx28 (l.getD k 0) (oct l k) rfl w
      rw [hexv_drop hlt'] at hv
      have hr:=val_range (l.getD k 0)
      obtain⟨V,hV⟩:∃ V,val (l.getD k 0)=V:=⟨_,rfl⟩
      rw [hV] at hv hr
      simp only [hV] at c28
      obtain⟨X,hX⟩:∃ X,oct l k=X:=⟨_,rfl⟩
      rw [hX] at hx
      simp only [hX] at c28
      have HV:=Lib.hid hv
      have HA:=Lib.hid ha
      clear hV hX hv ha hlt'
      by_cases hneg:V<0
      · have hp:Hid (point l=none):=by
         unfold point
         rw [HV.out,if_pos hneg]
         exact Lib.hid rfl
        go_wp2_with (go_at_call 162;(with_reducible refine (c28 _).mono ?_);rintro e w' ⟨rfl,rfl⟩)
        go_ret2
        exact⟨by rw [hp.out];rfl,rfl⟩
      · obtain⟨v,rfl⟩:∃ v:Nat,V=v:=⟨V.toNat,by omega⟩
        go_wp2_with (go_at_call 162;(with_reducible refine (c28 _).mono ?_);rintro e w' ⟨rfl,rfl⟩)
        go_round
        case rel=>
         refine⟨k+1,a*16+v,by rw [or16 a v ha6 (by omega)],by go_num,by omega,?_,?_⟩
         · have:=HA.out
           rw [Nat.pow_succ]
           omega
         · rw [HV.out,if_neg (by omega)]
           rfl
        case measure=>simp [intOf];omega
    · have hke:k=n:=by omega
      subst hke
      rw [List.drop_of_length_le (by rw [HN.out];exact Nat.le_refl _)] at hv
      have HV:=Lib.hid hv
      clear hv ha
      by_cases hbig:1114111<a
      · have hp:Hid (point l=none):=by
         unfold point
         rw [HV.out]
         simp [hexv]
         intro _ h
         omega
        go_wp2
        go_ret2
        exact⟨by rw [hp.out];rfl,rfl⟩
      · have c27:=fun w=>width27 a w
        obtain⟨d,hd⟩:∃ d,wid a=d:=⟨_,rfl⟩
        simp only [hd] at c27
        have HD:=Lib.hid hd
        have hd6:=(wid_range a).2
        rw [hd] at hd6
        clear hd
        by_cases heq:k=d
        · have hp0:point l=some a:=by
           unfold point
           rw [HV.out,hexv,Option.bind_some,if_pos ⟨by rw [HN.out];omega,by omega,by rw [HN.out,HD.out];exact heq⟩]
          have hp:=Lib.hid hp0
          clear hp0
          subst heq
          go_wp2_with (go_at_call 161;(with_reducible refine (c27 _).mono ?_);rintro e w' ⟨rfl,rfl⟩)
          go_ret2
          exact⟨by rw [hp.out];rfl,rfl⟩
        · have hp0:point l=none:=by
           unfold point
           rw [HV.out,hexv,Option.bind_some,if_neg (by rw [HN.out,HD.out];rintro⟨_,_,h⟩;exact heq h)]
          have hp:=Lib.hid hp0
          clear hp0
          have hne:((k:Int)==(d:Int))=false:=beq_false_of_ne (by omega)
          have hne2:((k:Int) != (d:Int))=true:=by simp [bne,hne]
          go_wp2_with (go_at_call 161;(with_reducible refine (c27 _).mono ?_);rintro e w' ⟨rfl,rfl⟩)
          go_ret2
          exact⟨by rw [hp.out];rfl,rfl⟩
def rgVal (r:Int×Int×Int):Value:=.tuple #[.int .i64 r.1,.int .i64 r.2.1,.int .i64 r.2.2]
theorem cut_dots (l:List UInt8) (m:Int) (w:World) (hl:l.length≤1000000) (hm:w.cell? ⟨1,0,none⟩=some (.int .i64 m)):Calls Tryz.prog 154 #[.string (bs l),.string ⟨#[46,46]⟩] w fun e w'=>
 e=.returned (.tuple #[.string (bs (Lib.cut l [46,46]).1),.string (bs (Lib.cut l [46,46]).2.1),.bool (Lib.cut l [46,46]).2.2])∧∃ n,w'=w.drewN n:=by
 have c:=Tryz.strings_Cut (bs l) ⟨#[46,46]⟩ m w (by rw [bs_size];omega) hm
 rw [bs_data] at c
 exact c
theorem cut_fst (l:List UInt8):(Lib.cut l [46,46]).1.length≤l.length∧(Lib.cut l [46,46]).2.1.length≤l.length:=by
 unfold Lib.cut
 split
 · simp
   omega
 · simp
set_option maxRecDepth 100000 in
set_option maxHeartbeats 1000000 in
theorem range13 (l:List UInt8) (m:Int) (w:World) (hl:l.length≤1000000) (hm:w.cell? ⟨1,0,none⟩=some (.int .i64 m)):Calls Tryz.prog 116 #[.string (bs l)] w fun e w'=>e=.returned (rgVal (rangeOf l))∧∃ q,w'=w.drewN q:=by
 have c30:=cut_dots l m w hl hm
 have hcl:=cut_fst l
 have hr:Hid (rangeOf l=if (Lib.cut l [46,46]).2.2 then (match point (Lib.cut l [46,46]).1,point (Lib.cut l [46,46]).2.1 with | some a,some b=>if b≤a then (0,0,14) else ((a:Int),(b:Int),0) | _,_=>(0,0,13)) else (match point (Lib.cut l [46,46]).1 with | some a=>((a:Int),(a:Int),0) | none=>(0,0,13))):=by
  unfold rangeOf Lib.cut
  split
  · exact Lib.hid rfl
  · exact Lib.hid rfl
 have c11:=fun w=>point11 (Lib.cut l [46,46]).1 w (by omega)
 have d11:=fun w=>point11 (Lib.cut l [46,46]).2.1 w (by omega)
 obtain⟨X,hX⟩:∃ X,(Lib.cut l [46,46]).1=X:=⟨_,rfl⟩
 obtain⟨Y,hY⟩:∃ Y,(Lib.cut l [46,46]).2.1=Y:=⟨_,rfl⟩
 obtain⟨f,hf⟩:∃ f,(Lib.cut l [46,46]).2.2=f:=⟨_,rfl⟩
 rw [hX,hY,hf] at c30 hr
 simp only [hX] at c11
 simp only [hY] at d11
 clear hX hY hf hm hcl
 cases hx:point X with
 | none=>
  rw [hx] at hr
  simp only [hx,ptVal] at c11
  have hr2:Hid (rangeOf l=(0,0,13)):=by
   rw [hr.out]
   cases f <;> exact Lib.hid rfl
  clear hr hx d11
  go_enter Tryz.func116,Tryz.ntmps116
  go_wp2_with (first
   | (go_at_call 154;(with_reducible refine c30.mono ?_);rintro e w' ⟨rfl,q,rfl⟩)
   | (go_at_call 126;(with_reducible refine (c11 _).mono ?_);rintro e w' ⟨rfl,rfl⟩))
  go_ret3
  exact⟨by rw [hr2.out];rfl,q,rfl⟩
 | some a=>
  rw [hx] at hr
  simp only [hx,ptVal] at c11
  clear hx
  cases f with
  | false=>
   have hr2:Hid (rangeOf l=((a:Int),(a:Int),0)):=by
    rw [hr.out]
    exact Lib.hid rfl
   clear hr d11
   go_enter Tryz.func116,Tryz.ntmps116
   go_wp2_with (first
    | (go_at_call 154;(with_reducible refine c30.mono ?_);rintro e w' ⟨rfl,q,rfl⟩)
    | (go_at_call 126;(with_reducible refine (c11 _).mono ?_);rintro e w' ⟨rfl,rfl⟩))
   go_ret3
   exact⟨by rw [hr2.out];rfl,q,rfl⟩
  | true=>
   cases hy:point Y with
   | none=>
    rw [hy] at hr
    simp only [hy,ptVal] at d11
    have hr2:Hid (rangeOf l=(0,0,13)):=by
     rw [hr.out]
     exact Lib.hid rfl
    clear hr hy
    go_enter Tryz.func116,Tryz.ntmps116
    go_wp2_with (go_at_call 154;(with_reducible refine c30.mono ?_);rintro e w' ⟨rfl,q,rfl⟩)
    go_wp2_with (go_at_call 126;(with_reducible refine (c11 _).mono ?_);clear c11;rintro e w' ⟨rfl,rfl⟩)
    go_wp2_with (go_at_call 126;(with_reducible refine (d11 _).mono ?_);rintro e w' ⟨rfl,rfl⟩)
    go_ret3
    exact⟨by rw [hr2.out];rfl,q,rfl⟩
   | some b=>
    rw [hy] at hr
    simp only [hy,ptVal] at d11
    clear hy
    by_cases hba:b≤a
    · have hr2:Hid (rangeOf l=(0,0,14)):=by
       rw [hr.out]
       simp [hba]
       trivial
      clear hr
      go_enter Tryz.func116,Tryz.ntmps116
      go_wp2_with (go_at_call 154;(with_reducible refine c30.mono ?_);rintro e w' ⟨rfl,q,rfl⟩)
      go_wp2_with (go_at_call 126;(with_reducible refine (c11 _).mono ?_);clear c11;rintro e w' ⟨rfl,rfl⟩)
      go_wp2_with (go_at_call 126;(with_reducible refine (d11 _).mono ?_);rintro e w' ⟨rfl,rfl⟩)
      go_ret3
      exact⟨by rw [hr2.out];rfl,q,rfl⟩
    · have hr2:Hid (rangeOf l=((a:Int),(b:Int),0)):=by
       rw [hr.out]
       simp [hba]
       trivial
      clear hr
      go_enter Tryz.func116,Tryz.ntmps116
      go_wp2_with (go_at_call 154;(with_reducible refine c30.mono ?_);rintro e w' ⟨rfl,q,rfl⟩)
      go_wp2_with (go_at_call 126;(with_reducible refine (c11 _).mono ?_);clear c11;rintro e w' ⟨rfl,rfl⟩)
      go_wp2_with (go_at_call 126;(with_reducible refine (d11 _).mono ?_);rintro e w' ⟨rfl,rfl⟩)
      go_ret3
      exact⟨by rw [hr2.out];rfl,q,rfl⟩
def HexRel (c:Nat) (w:World) (s n:Value) (wr:World):Prop:=
 Below w.heap.size w wr∧∃ j v:Nat,j≤6∧v=c/16 ^ j∧n=.int .i64 v∧s=.string (bs (dn j c))∧(4<j→0<c/16 ^ (j-1))
theorem dch_small:∀ d:Fin 16,((dch d.val).toNat:Int)=if d.val<10 then 48+(d.val:Int) else 55+(d.val:Int):=by decide
theorem hex_stop {c j:Nat} (hc:c≤1114111) (hj:j≤6) (h4:4≤j) (h0:c/16 ^ j=0) (hp:4<j→0<c/16 ^ (j-1)):dn j c=hexT c:=by
 have e:j=wid c:=by
  unfold wid
  rcases (show j=4∨j=5∨j=6 by omega) with rfl | rfl | rfl
  · simp at h0
    have:c<65536:=by omega
    rw [if_neg (by omega),if_neg (by omega)]
  · have h1:=hp (by omega)
    simp at h0 h1
    rw [if_neg (by omega),if_pos (by omega)]
  · have h1:=hp (by omega)
    simp at h1
    rw [if_pos (by omega)]
 unfold hexT
 rw [←e]
theorem hex_step {c j v:Nat} {w w':World} (hb:Below w.heap.size w w') (hj:j≤6) (hc:c≤1114111) (hv:v=c/16 ^ j) (hgo:0<v∨j<4):
 HexRel c w (.string (bs [dch (v%16)]++bs (dn j c))) (.int .i64 ((v:Int)/16)) w':=by
 have hj5:j≤5:=by
  rcases hgo with h | h
  · rcases Nat.lt_or_ge j 6 with h' | h'
    · omega
    · exfalso
      have e:j=6:=by omega
      subst e
      simp at hv
      omega
  · omega
 refine⟨hb,j+1,v/16,by omega,?_,val_int (by omega),?_,?_⟩
 · rw [hv,Nat.div_div_eq_div_mul,←Nat.pow_succ]
 · rw [bs_app,dn_cons,hv]
   rfl
 · intro h4
   rw [Nat.add_sub_cancel]
   rcases hgo with h | h
   · omega
   · omega
theorem one_conv (wr:World) (d:UInt8) (x:Int) (hx:(d.toNat:Int)=x):(convert 22 9 (.slice (some ⟨wr.heap.size,0,none⟩) 1 1)).run Tryz.prog (wr.alloc (.cells #[.int .u8 x] 5))=.ok (.string (bs [d])) (wr.alloc (.cells #[.int .u8 x] 5)):=by
 refine conv22 1 (l:=[d]) (octs_of rfl (fun _=>by simp) (fun j hj=>?_))
 obtain rfl:j=0:=by omega
 subst hx
 simp [ints]
set_option maxRecDepth 100000 in
set_option maxHeartbeats 1000000 in
theorem hex29 (c:Nat) (w:World) (hc:c≤1114111):Calls Tryz.prog 104 #[.int .i64 c] w fun e w'=>e=.returned (.string (bs (hexT c)))∧Below w.heap.size w w':=by
 go_enter Tryz.func104,Tryz.ntmps104
 go_wp2
 go_loopw [3,4] (fun s n wr=>HexRel c w s n wr) (fun s _ _=>7-Lib.strSize s)
 case atStart=>exact⟨Below.refl _ _,0,c,by omega,by simp,rfl,rfl,fun h=>absurd h (by omega)⟩
 case round=>
  obtain⟨hb,j,v,hj,hv,rfl,rfl,hp⟩:=hrel
  have hsz:(bs (dn j c)).size=j:=by rw [bs_size,dn_length]
  have hst:Lib.strSize (.string (bs (dn j c)))=j:=by rw [Lib.strSize_string,hsz]
  have hvc:v≤1114111:=by rw [hv];exact Nat.le_trans (Nat.div_le_self _ _) hc
  by_cases hgo:0<v∨j<4
  · have hd:v%16<16:=by omega
    have hch:=dch_small ⟨v%16,hd⟩
    simp only at hch
    have hstep:=fun (o:Obj)=>@hex_step c j v w (wr.alloc o) (hb.alloc hb.size o) hj hc hv hgo
    have hs1:(bs [dch (v%16)]).size=1:=by rw [bs_size];rfl
    have hszc:Lib.strSize (.string (bs [dch (v%16)]++bs (dn j c)))=j+1:=by rw [Lib.strSize_string,bs_app,bs_size];simp [dn_length]
    have hk:=fun x (h:((dch (v%16)).toNat:Int)=x)=>one_conv wr (dch (v%16)) x h
    have hj6:j<7:=by omega
    obtain⟨S,hS⟩:∃ S,bs (dn j c)=S:=⟨_,rfl⟩
    obtain⟨T,hT⟩:∃ T,bs [dch (v%16)]=T:=⟨_,rfl⟩
    rw [hS] at hsz hst hszc ⊢
    rw [hT] at hs1 hszc
    simp only [hS,hT] at hstep
    simp only [hT] at hk
    have HST:=Lib.hid hstep
    clear hstep hS hT hv hp
    by_cases h10:v%16<10
    · rw [if_pos h10] at hch
      have hk1:=hk (48+(v:Int)%16) (by rw [hch];omega)
      clear hk hch
      rcases hgo with hgo | hgo
      · go_wp2
        go_roundw
        case rel=>exact HST.out _
        case measure=>rw [hszc,hst];omega
      · by_cases h0:0<v
        · go_wp2
          go_roundw
          case rel=>exact HST.out _
          case measure=>rw [hszc,hst];omega
        · go_wp2
          go_roundw
          case rel=>exact HST.out _
          case measure=>rw [hszc,hst];omega
    · rw [if_neg h10] at hch
      have hk1:=hk (55+(v:Int)%16) (by rw [hch];omega)
      clear hk hch
      have h0:0<v:=by omega
      go_wp2
      go_roundw
      case rel=>exact HST.out _
      case measure=>rw [hszc,hst];omega
  · have hv0:v=0:=by omega
    have hj4:4≤j:=by omega
    have hres:Hid (bs (dn j c)=bs (hexT c)):=by
     rw [hex_stop hc hj hj4 (by rw [←hv];exact hv0) hp]
     exact Lib.hid rfl
    subst hv0
    obtain⟨S,hS⟩:∃ S,bs (dn j c)=S:=⟨_,rfl⟩
    rw [hS] at hsz hres ⊢
    clear hp hv hst hS
    go_wp2
    go_ret
    exact⟨ret_str hres.out,hb⟩
theorem bs_toList' (l:List UInt8):(bs l).toList=l:=by rw [Lib.toList_data,bs_data]
def ptI:Option Nat→Int
 | some c=>c
 | none=>-1
theorem point_out {l:List UInt8} (h:l.length<4∨6<l.length):point l=none:=by
 unfold point
 cases hexv 0 l with
 | none=>rfl
 | some c=>
  have:=wid_range c
  rw [Option.bind_some,if_neg (by omega)]
theorem point_big {l:List UInt8} {a:Nat} (h:hexv 0 l=some a) (hb:1114111<a):point l=none:=by
 unfold point
 rw [h,Option.bind_some,if_neg (by omega)]
theorem point_yes {l:List UInt8} {a:Nat} (hb:¬1114111<a) (he:hexT a=l):point l=some a:=by
 have:=point_hexT a (by omega)
 rwa [he] at this
theorem point_no {l:List UInt8} {a:Nat} (h:hexv 0 l=some a) (he:¬hexT a=l):point l=none:=by
 unfold point
 rw [h,Option.bind_some,if_neg ?_]
 rintro⟨_,_,h2⟩
 exact he ((hexT_iff h).2 h2)
set_option maxRecDepth 100000 in
set_option maxHeartbeats 1000000 in
theorem point12 (l:List UInt8) (w:World) (hl:l.length≤1000000):Calls Tryz.prog 81 #[.string (bs l)] w fun e w'=>e=.returned (.int .i64 (ptI (point l)))∧Below w.heap.size w w':=by
 have hsz:=bs_size l
 obtain⟨n,hn⟩:∃ n,l.length=n:=⟨_,rfl⟩
 rw [hn] at hl hsz
 have HN:=Lib.hid hn
 clear hn
 by_cases hout:n<4∨6<n
 · rw [point_out (by rw [HN.out];exact hout)]
   rcases hout with h | h
   · go_enter Tryz.func81,Tryz.ntmps81
     go_wp2
     go_ret
     exact⟨rfl,Below.refl _ _⟩
   · have h4:¬n<4:=by omega
     go_enter Tryz.func81,Tryz.ntmps81
     go_wp2
     go_ret
     exact⟨rfl,Below.refl _ _⟩
 · have h4:4≤n:=by omega
   have h6:n≤6:=by omega
   clear hout hl
   go_enter Tryz.func81,Tryz.ntmps81
   go_wp2
   go_loop [3,4] (fun c i=>∃ (k a:Nat),c=.int .i64 a∧i=.int .i64 k∧k≤n∧a<16 ^ k∧hexv 0 l=hexv a (l.drop k)) (fun _ i=>n-(intOf i).toNat)
   case atStart=>exact⟨0,0,rfl,rfl,Nat.zero_le _,by decide,rfl⟩
   case round=>
    obtain⟨k,a,rfl,rfl,hkn,ha,hv⟩:=hrel
    have ha6:a<16777216:=Nat.lt_of_lt_of_le ha (by have:(16:Nat) ^ k≤16 ^ 6:=Nat.pow_le_pow_right (by decide) (by omega);exact this)
    by_cases hlt:k<n
    · have hlt':k<l.length:=by rw [HN.out];exact hlt
      have hx:=bs_oct l k
      have hxr:=oct_range l k
      rw [hexv_drop hlt'] at hv
      have hval:val (l.getD k 0)=(if 48≤oct l k∧oct l k≤57 then oct l k-48 else if 65≤oct l k∧oct l k≤70 then oct l k-55 else -1):=by
       rw [val_eq]
       unfold oct
       split <;> split <;> (try split) <;> (try split) <;> omega
      rw [hval] at hv
      obtain⟨X,hX⟩:∃ X,oct l k=X:=⟨_,rfl⟩
      rw [hX] at hx hv hxr
      clear hX hval hlt'
      obtain⟨hx0,hx1⟩:=hxr
      by_cases g1:48≤X∧X≤57
      · rw [if_pos g1,if_neg (by omega)] at hv
        obtain⟨g1,g2⟩:=g1
        have HV:=Lib.hid hv
        have HA:=Lib.hid ha
        clear hv ha
        go_wp2
        go_round
        case rel=>
         refine⟨k+1,a*16+(X-48).toNat,val_int (by omega),by go_num,by omega,?_,HV.out⟩
         have:=HA.out
         rw [Nat.pow_succ]
         omega
        case measure=>simp [intOf];omega
      · rw [if_neg g1] at hv
        by_cases g3:65≤X∧X≤70
        · rw [if_pos g3,if_neg (by omega)] at hv
          obtain⟨g3,g4⟩:=g3
          have g5:¬X≤57:=by omega
          have HV:=Lib.hid hv
          have HA:=Lib.hid ha
          clear hv ha g1
          go_wp2
          go_round
          case rel=>
           refine⟨k+1,a*16+(X-55).toNat,val_int (by omega),by go_num,by omega,?_,HV.out⟩
           have:=HA.out
           rw [Nat.pow_succ]
           omega
          case measure=>simp [intOf];omega
        · rw [if_neg g3,if_pos (by omega)] at hv
          have hp0:point l=none:=by
           unfold point
           rw [hv]
           rfl
          have HP:=Lib.hid hp0
          clear hv ha hp0
          rcases (show X<48∨(57<X∧X<65)∨70<X by omega) with g | ⟨g,g'⟩ | g
          all_goals
           clear g1 g3
           go_wp2
           go_ret
           exact⟨by rw [HP.out];rfl,Below.refl _ _⟩
    · have hke:k=n:=by omega
      subst hke
      rw [List.drop_of_length_le (by rw [HN.out];exact Nat.le_refl _)] at hv
      clear ha
      by_cases hbig:1114111<a
      · have HP:=Lib.hid (point_big hv hbig)
        clear hv
        go_wp2
        go_ret
        exact⟨by rw [HP.out];rfl,Below.refl _ _⟩
      · have c29:=hex29 a w (by omega)
        by_cases heq:hexT a=l
        · have HP:=Lib.hid (point_yes hbig heq)
          rw [heq] at c29
          obtain⟨S,hS⟩:∃ S,bs l=S:=⟨_,rfl⟩
          rw [hS] at c29 hsz ⊢
          clear hv heq hS
          go_wp2_with (go_at_call 104;(with_reducible refine c29.mono ?_);rintro e w' ⟨rfl,hb⟩)
          go_ret
          exact⟨by rw [HP.out];rfl,hb⟩
        · have HP:=Lib.hid (point_no hv heq)
          have hne:¬(bs (hexT a)).toList=(bs l).toList:=by rw [bs_toList',bs_toList'];exact heq
          have hneb:((bs (hexT a)).toList==(bs l).toList)=false:=beq_false_of_ne hne
          obtain⟨S,hS⟩:∃ S,bs l=S:=⟨_,rfl⟩
          obtain⟨T,hT⟩:∃ T,bs (hexT a)=T:=⟨_,rfl⟩
          rw [hT] at c29 hne hneb
          rw [hS] at hne hneb hsz ⊢
          clear hv heq hS hT
          go_wp2_with (go_at_call 104;(with_reducible refine c29.mono ?_);rintro e w' ⟨rfl,hb⟩)
          go_ret
          exact⟨by rw [HP.out];rfl,hb⟩
end Go.Proofs.YtmellioacefjjaaGreatDoor
namespace Go.Proofs.YtmellioacefjjaaGreatDoor
open Go.RowKit Go.Shelf
attribute [local go_sem] Oper.semAt_some
set_option maxHeartbeats 1000000 in
theorem splitSeq47 (l:List UInt8) (w:World):Calls Tryz.prog 197 #[.string (bs l),.string ⟨#[32]⟩,.int .i64 0] w fun e w'=>
 e=.returned (.func (.func 229) #[] #[.pointer (some ⟨w.heap.size+1,0,none⟩),.pointer (some ⟨w.heap.size,0,none⟩),.pointer (some ⟨w.heap.size+2,0,none⟩)])∧w'=((w.alloc (.cells #[.string (bs l)] 9)).alloc (.cells #[.string ⟨#[32]⟩] 9)).alloc (.cells #[.int .i64 0] 3):=by
 go_enter Tryz.func197,Tryz.ntmps197
 go_wp2
 go_ret
 exact⟨rfl,rfl⟩
set_option maxHeartbeats 1000000 in
theorem splitSeq31 (l:List UInt8) (w:World):Calls Tryz.prog 163 #[.string (bs l),.string ⟨#[32]⟩] w fun e w'=>
 e=.returned (.func (.func 229) #[] #[.pointer (some ⟨w.heap.size+1,0,none⟩),.pointer (some ⟨w.heap.size,0,none⟩),.pointer (some ⟨w.heap.size+2,0,none⟩)])∧w'=((w.alloc (.cells #[.string (bs l)] 9)).alloc (.cells #[.string ⟨#[32]⟩] 9)).alloc (.cells #[.int .i64 0] 3):=by
 have c:=splitSeq47 l w
 go_enter Tryz.func163,Tryz.ntmps163
 go_wp2_with (go_at_call 197;(with_reducible refine c.mono ?_);rintro e w' ⟨rfl,rfl⟩)
 go_ret
 exact⟨rfl,rfl⟩
def strAt (wr:World) (b:Nat):Nat:=match wr.cell? ⟨b,0,none⟩ with | some (.string s)=>s.size | _=>0
theorem strAt_eq {wr:World} {b:Nat} {l:List UInt8} (h:wr.cell? ⟨b,0,none⟩=some (.string (bs l))):strAt wr b=l.length:=by
 unfold strAt
 rw [h]
 exact bs_size l
def SsRel (L:List UInt8) (b N0:Nat) (J:List (List UInt8)→World→Prop) (wr:World):Prop:=
 ∃ (pre:List (List UInt8)) (rest:List UInt8),wr.cell? ⟨b,0,none⟩=some (.string (bs rest))∧wr.frozen? ⟨b,0,none⟩=false∧wr.cell? ⟨b+1,0,none⟩=some (.string ⟨#[32]⟩)∧wr.cell? ⟨b+2,0,none⟩=some (.int .i64 0)∧ML wr ∧
  cutAll 32 L=pre++cutAll 32 rest∧pre.length+rest.length≤L.length∧J pre wr∧N0≤wr.heap.size
theorem ss_kept {A:Nat→Prop} {b:Nat} {W W':World} {v:Value} (hk:Kept A W W') (hA:A b) (h:W.cell? ⟨b,0,none⟩=some v) (hf:W.frozen? ⟨b,0,none⟩=false):W'.cell? ⟨b,0,none⟩=some v∧W'.frozen? ⟨b,0,none⟩=false:=by
 obtain⟨o,ho,_⟩:=cells_of_cell h
 have e:=hk.2 b hA (Array.getElem?_eq_some_iff.1 ho).1
 refine⟨hk.cell (a:=⟨b,0,none⟩) hA h,?_⟩
 unfold World.frozen? at hf ⊢
 rw [e]
 exact hf
set_option maxRecDepth 100000 in
set_option maxHeartbeats 4000000 in
theorem iter57 (m l b N0:Nat) (L:List UInt8) (A:Nat→Prop) (hm:1≤m) (hL:L.length≤4000) (hb:1<b) (J Jx:List (List UInt8)→World→Prop) (hJs:∀ s W v,J s W→J s (W.setCell ⟨b,0,none⟩ v))
 (hY:∀ pre x W,J pre W→x.length≤4000∧N0≤W.heap.size→pre.length<9000→YieldAt Fence.wide (m-1) Tryz.prog l #[.string (bs x)] W fun e W'=>
  ((e=.returned (.bool true)∧J (pre ++ [x]) W')∨(e=.returned (.bool false)∧Jx (pre ++ [x]) W'))∧Kept A W W')
 (W:World) (hA0:A 1) (hAb:A b) (hAb1:A (b+1)) (hAb2:A (b+2)) (h0:SsRel L b N0 J W):
 CallsIn Fence.wide m Tryz.prog 229 #[.func (.yield l) #[] #[],.pointer (some ⟨b+1,0,none⟩),.pointer (some ⟨b,0,none⟩),.pointer (some ⟨b+2,0,none⟩)] W fun e W'=>(∃ v,e=.returned v) ∧
  ((∃ ys,ys=cutAll 32 L∧J ys W')∨(∃ pre,pre <+: cutAll 32 L∧Jx pre W')):=by
 refine callsIn_of_wp Tryz.func229 rfl trivial ?_ rfl
 simp only [Tryz.ntmps229,List.size_toArray,List.length_cons,List.length_nil,Nat.reduceAdd,Nat.reduceSub,Array.replicate_succ,Array.replicate_zero,List.push_toArray,List.append_toArray,List.nil_append,List.cons_append]
 have hsep:W.cell? ⟨b+1,0,none⟩=some (.string ⟨#[32]⟩):=by obtain⟨_,_,_,_,h,_⟩:=h0;exact h
 have H0:=Lib.hid h0
 have HYY:=Lib.hid hY
 have HJS:=Lib.hid hJs
 clear h0 hY hJs
 gi_wp2
 gi_loopw [7] (fun (_:Value) wr=>SsRel L b N0 J wr) (fun _ wr=>strAt wr b)
 case atStart=>exact H0.out
 case round=>
  clear hsep
  obtain⟨pre,rest,h1,h2,h3,h4,⟨mm,hmm⟩,hcut,hlen,hJr,hN0⟩:=hrel
  have c58:=callsIn_wide (n:=m-1) |>.2 (Tryz.strings_Index (bs rest) ⟨#[32]⟩ mm wr (by rw [bs_size];omega) hmm)
  rw [bs_data] at c58
  have hst:=strAt_eq h1
  by_cases h:(32:UInt8)∈rest
  · obtain⟨a,t,rfl,ha⟩:=split_at 32 rest h
    have hidx:Lib.index (a++32::t) ([32]:List UInt8)=a.length:=index_one 32 a t ha
    have c58:CallsIn Fence.wide (m-1) Tryz.prog 218 #[.string (bs (a++32::t)),.string ⟨#[32]⟩] wr fun e w'=>e=.returned (.int .i64 (a.length:Int))∧w'=wr:=by rw [←hidx];exact c58
    have hx1:(bs (a++32::t)).extract 0 a.length=bs a:=by rw [bs_ext];simp
    have hsz:(bs (a++32::t)).size=a.length+t.length+1:=by rw [bs_size];simp;omega
    have hx2:(bs (a++32::t)).extract (a.length+1) (a.length+t.length+1)=bs t:=by
     rw [bs_ext,List.drop_append,List.drop_of_length_le (by omega)]
     congr 1
     rw [List.nil_append,show a.length+1-a.length=1 by omega]
     simp
    have hal:a.length≤4000:=by simp at hlen;omega
    have hY2:=HYY.out pre a wr hJr ⟨hal,hN0⟩ (by omega)
    rw [cutAll_some 32 a t ha] at hcut
    have hlt:(a++32::t).length=a.length+t.length+1:=by simp;omega
    rw [hlt] at hlen hst
    have hend:∀ W3,Kept A wr W3→J (pre ++ [a]) W3→SsRel L b N0 J (W3.setCell ⟨b,0,none⟩ (.string (bs t)))∧strAt (W3.setCell ⟨b,0,none⟩ (.string (bs t))) b=t.length:=by
     intro W3 hk hj
     obtain⟨k1,k2⟩:=ss_kept hk hAb h1 h2
     have e0:(W3.setCell ⟨b,0,none⟩ (.string (bs t))).cell? ⟨b,0,none⟩=some (.string (bs t)):=World.cell?_setCell_same' _ _ _ (by rw [k1];rfl)
     refine⟨⟨pre ++ [a],t,e0,by rw [World.frozen?_setCell];exact k2,?_,?_,⟨mm,?_⟩,by rw [hcut];simp,by simp;omega,HJS.out _ _ _ hj,by rw [World.size_setCell];exact Nat.le_trans hN0 hk.1⟩,strAt_eq e0⟩
     · rw [World.cell?_setCell_other _ _ _ _ (by simp)]
       exact hk.cell (a:=⟨b+1,0,none⟩) hAb1 h3
     · rw [World.cell?_setCell_other _ _ _ _ (by simp)]
       exact hk.cell (a:=⟨b+2,0,none⟩) hAb2 h4
     · rw [World.cell?_setCell_other _ _ _ _ (by simp)]
       exact hk.cell (a:=⟨1,0,none⟩) hA0 hmm
    have hstop:Hid (pre ++ [a] <+: cutAll 32 L):=Lib.hid ⟨cutAll 32 t,by rw [hcut];simp⟩
    have hafter:∀ W3,Kept A wr W3→W3.cell? ⟨b,0,none⟩=some (.string (bs (a++32::t)))∧W3.frozen? ⟨b,0,none⟩=false∧W3.cell? ⟨b+1,0,none⟩=some (.string ⟨#[32]⟩):=fun W3 hk=>
     ⟨(ss_kept hk hAb h1 h2).1,(ss_kept hk hAb h1 h2).2,hk.cell (a:=⟨b+1,0,none⟩) hAb1 h3⟩
    obtain⟨N,hN⟩:∃ N,a.length=N:=⟨_,rfl⟩
    rw [hN] at c58 hx1 hsz hx2 hal hlen hst
    have HE:=Lib.hid hend
    have HAF:=Lib.hid hafter
    clear hend hafter hidx hcut hJr hlt hN h ha H0 hmm
    obtain⟨S,hS⟩:∃ S,bs (a++32::t)=S:=⟨_,rfl⟩
    rw [hS] at c58 hx1 hsz hx2 h1 HAF
    clear hS
    obtain⟨fn,tmps,assign,body,hy,hR⟩:=hY2
    gi_wp2_with (refine⟨trivial,?_⟩;gi_at_call 218;(with_reducible refine c58.mono ?_);rintro e w' ⟨rfl,rfl⟩)
    refine hR.mono ?_
    rintro e W3 ⟨⟨rfl,hJ3⟩ | ⟨rfl,hJx3⟩,hk3⟩
    · obtain⟨g1,g2,g3⟩:=HAF.out W3 hk3
      have R:=Lib.hid (HE.out W3 hk3 hJ3)
      clear HE HAF
      gi_wp2
      go_roundw
      case rel=>exact R.out.1
      case measure=>
       rw [R.out.2,hst]
       omega
    · gi_wp2
      refine bodyPost_ret (results_none rfl _ _ _) rfl ?_
      exact⟨⟨_,rfl⟩,.inr ⟨_,hstop.out,hJx3⟩⟩
  · have hidx:Lib.index rest ([32]:List UInt8) = -1:=index_no 32 rest h
    have c58:CallsIn Fence.wide (m-1) Tryz.prog 218 #[.string (bs rest),.string ⟨#[32]⟩] wr fun e w'=>e=.returned (.int .i64 (-1))∧w'=wr:=by rw [←hidx];exact c58
    rw [cutAll_none 32 rest h] at hcut
    have hY2:=HYY.out pre rest wr hJr ⟨by omega,hN0⟩ (by omega)
    have HC:=Lib.hid hcut
    clear hidx hcut hJr h H0 hmm
    obtain⟨S,hS⟩:∃ S,bs rest=S:=⟨_,rfl⟩
    rw [hS] at c58 h1 hY2
    clear hS
    obtain⟨fn,tmps,assign,body,hy,hR⟩:=hY2
    gi_wp2_with (refine⟨trivial,?_⟩;gi_at_call 218;(with_reducible refine c58.mono ?_);rintro e w' ⟨rfl,rfl⟩)
    refine hR.mono ?_
    rintro e W3 ⟨⟨rfl,hJ3⟩ | ⟨rfl,hJx3⟩,hk3⟩
    · gi_wp2
      go_end0
      exact⟨⟨_,rfl⟩,.inl ⟨_,HC.out.symm,hJ3⟩⟩
    · gi_wp2
      go_end0
      exact⟨⟨_,rfl⟩,.inr ⟨_,by rw [HC.out];exact List.prefix_refl _,hJx3⟩⟩
theorem seq57 (m b:Nat) (L:List UInt8) (w:World) (hm:1≤m) (hL:L.length≤4000) (hb:1<b) (hlt:b+2<w.heap.size) (h1:w.cell? ⟨b,0,none⟩=some (.string (bs L))) (h2:w.frozen? ⟨b,0,none⟩=false) (h3:w.cell? ⟨b+1,0,none⟩=some (.string ⟨#[32]⟩)) (h4:w.cell? ⟨b+2,0,none⟩=some (.int .i64 0)) (hM:ML w):
 SeqOwn Fence.wide m Tryz.prog 229 #[.pointer (some ⟨b+1,0,none⟩),.pointer (some ⟨b,0,none⟩),.pointer (some ⟨b+2,0,none⟩)] (fun x:List UInt8=>#[.string (bs x)]) (fun x W=>x.length≤4000∧w.heap.size+2≤W.heap.size)
  (fun k=>k=1∨(b≤k∧k<w.heap.size+2)) b (b+1) (fun ys=>ys=cutAll 32 L) (fun pre=>pre <+: cutAll 32 L) 9000 w:=by
 intro l J Jx W hW hsz hJ _ hY h0
 refine iter57 m l b (w.heap.size+2) L _ hm hL hb J Jx (fun s W v h=>hJ s W _ (some b) h (grownBy_setCell' W b v) (fun r e=>by cases e;exact .inl ⟨Nat.le_refl _,Nat.lt_succ_self _⟩)) (fun pre x W1 hj hx hl=>hY pre x W1 hj hx hl) W
  ⟨.inl rfl,by first | omega | (have:=hM.lt;omega),by first | omega | (have:=hM.lt;omega)⟩ ⟨.inr ⟨by omega,by omega⟩,by omega,by omega⟩ ⟨.inr ⟨by omega,by omega⟩,by omega,by omega⟩ ⟨.inr ⟨by omega,by omega⟩,by omega,by omega⟩ ?_
 exact⟨[],L,(hW.cell (p:=⟨b,0,none⟩) (by show b<_;omega)).trans h1,(hW.frozen (p:=⟨b,0,none⟩) (by show b<_;omega)).trans h2,(hW.cell (p:=⟨b+1,0,none⟩) (by show b+1<_;omega)).trans h3,(hW.cell (p:=⟨b+2,0,none⟩) (by show b+2<_;omega)).trans h4,hM.below hW,by simp,by simp,h0,by omega⟩
end Go.Proofs.YtmellioacefjjaaGreatDoor
