/- A part. -/
import Derived.Laws.Entries
import Derived.Test.YtbkgbhlmeeodgaaGreatDoorQc01
import Derived.Test.YtbkgbhlmeeodgaaGreatDoorQc04
import Derived.Lib.SplitLaws
import Derived.Lib.Bytes
import Derived.Laws.BytesArg
import Derived.Lib.Strings
import Derived.Shelf.Abstract
import Derived.Shelf.RegionOpen
import Derived.TacticsInMore
import Derived.LoopNIn
import Derived.LoopIn
namespace Go.Proofs.YtbkgbhlmeeodgaaGreatDoor
open Go.RowKit
theorem ofInt64 (x:Nat) (h:x<9223372036854775808):(BitVec.ofInt 64 (x:Int)).toNat=x:=by
 rw [BitVec.toNat_ofInt]
 omega
theorem wrap64 (n:Int) (h0:0≤n) (h1:n<9223372036854775808):IntKind.i64.wrap n=n:=by
 simp [IntKind.wrap,IntKind.bits,IntKind.signed]
 split <;> omega
theorem or16 (a v:Nat) (ha:a<16777216) (hv:v<16):bits .or .i64 ((a:Int)*16) (v:Int)=((a*16+v:Nat):Int):=by
 show IntKind.i64.wrap ((BitVec.ofInt 64 ((a:Int)*16) ||| BitVec.ofInt 64 (v:Int)).toNat:Int)=_
 rw [show ((a:Int)*16)=((a*16:Nat):Int) by push_cast;rfl,BitVec.toNat_or,ofInt64 _ (by omega),ofInt64 v (by omega)]
 have e:=Nat.shiftLeft_add_eq_or_of_lt (i:=4) (b:=v) (by omega) a
 rw [Nat.shiftLeft_eq] at e
 have e:a*16+v=a*16 ||| v:=e
 rw [←e]
 exact wrap64 _ (by omega) (by omega)
set_option maxHeartbeats 1000000 in
theorem width27 (c:Nat) (w:World):Calls Tryz.prog 190 #[.int .i64 c] w fun e w'=>e=.returned (.int .i64 (wid c))∧w=w':=by
 by_cases h:1048575<c
 · have e:wid c=6:=by simp [wid,h]
   rw [e]
   clear e
   go_enter Tryz.func190,Tryz.ntmps190
   go_wp2
   go_ret
   exact⟨rfl,rfl⟩
 · by_cases h':65535<c
   · have e:wid c=5:=by simp [wid,h,h']
     rw [e]
     clear e
     go_enter Tryz.func190,Tryz.ntmps190
     go_wp2
     go_ret
     exact⟨rfl,rfl⟩
   · have e:wid c=4:=by simp [wid,h,h']
     rw [e]
     clear e
     go_enter Tryz.func190,Tryz.ntmps190
     go_wp2
     go_ret
     exact⟨rfl,rfl⟩
theorem idx28 (c:UInt8) (x:Int) (hx:(c.toNat:Int)=x) (w:World):Calls Tryz.prog 191 #[.string ⟨#[48,49,50,51,52,53,54,55,56,57,65,66,67,68,69,70]⟩,.int .u8 x] w fun e w'=>e=.returned (.int .i64 (val c))∧w=w':=by
 have h:=Tryz.strings_IndexByte ⟨#[48,49,50,51,52,53,54,55,56,57,65,66,67,68,69,70]⟩ x w
 refine h.mono ?_
 rintro e w' ⟨rfl,rfl⟩
 subst hx
 refine⟨?_,rfl⟩
 simp [val,digs]
def ptVal:Option Nat→Value
 | some c=>.tuple #[.int .i64 c,.int .i64 0]
 | none=>.tuple #[.int .i64 0,.int .i64 13]
theorem hexv_drop {l:List UInt8} {k a:Nat} (hk:k<l.length):hexv a (l.drop k)=if val (l.getD k 0)<0 then none else hexv (a*16+(val (l.getD k 0)).toNat) (l.drop (k+1)):=by
 rw [List.drop_eq_getElem_cons hk,hexv,List.getD_eq_getElem?_getD,List.getElem?_eq_getElem hk]
 rfl
set_option maxRecDepth 100000 in
set_option maxHeartbeats 1000000 in
theorem point11 (l:List UInt8) (w:World) (hl:l.length≤1000000):Calls Tryz.prog 153 #[.string (bs l)] w fun e w'=>e=.returned (ptVal (point l))∧w=w':=by
 have c27:∀ w,Calls Tryz.prog 190 #[.int .i64 1114111] w fun e w'=>e=.returned (.int .i64 6)∧w=w':=fun w=>width27 1114111 w
 have hsz:=bs_size l
 obtain⟨n,hn⟩:∃ n,l.length=n:=⟨_,rfl⟩
 rw [hn] at hl hsz
 have HN:=Lib.hid hn
 clear hn
 by_cases hlong:6<n
 · have hp:point l=none:=by
    unfold point
    cases hexv 0 l with
    | none=>rfl
    | some c=>simp;intro h;have:=HN.out;omega
   rw [hp]
   clear hp
   go_enter Tryz.func153,Tryz.ntmps153
   go_wp2_with (go_at_call 190;(with_reducible refine (c27 _).mono ?_);rintro e w' ⟨rfl,rfl⟩)
   go_ret2
   exact⟨rfl,rfl⟩
 · go_enter Tryz.func153,Tryz.ntmps153
   go_wp2_with (go_at_call 190;(with_reducible refine (c27 _).mono ?_);rintro e w' ⟨rfl,rfl⟩)
   clear c27
   go_loop [4,13] (fun c i=>∃ (k a:Nat),c=.int .i64 a∧i=.int .i64 k∧k≤n∧a<16 ^ k∧hexv 0 l=hexv a (l.drop k)) (fun _ i=>n-(intOf i).toNat)
   case atStart=>exact⟨0,0,rfl,rfl,Nat.zero_le _,by decide,rfl⟩
   case round=>
    obtain⟨k,a,rfl,rfl,hkn,ha,hv⟩:=hrel
    have ha6:a<16777216:=Nat.lt_of_lt_of_le ha (by have:(16:Nat) ^ k≤16 ^ 6:=Nat.pow_le_pow_right (by decide) (by omega);exact this)
    by_cases hlt:k<n
    · have hlt':k<l.length:=by rw [HN.out];exact hlt
      have hx:=bs_oct l k
      have c28:=fun w=>idx28 (l.getD k 0) (oct l k) rfl w
      rw [hexv_drop hlt'] at hv
      have hr:=val_range (l.getD k 0)
      obtain⟨V,hV⟩:∃ V,val (l.getD k 0)=V:=⟨_,rfl⟩
      rw [hV] at hv hr
      simp only [hV] at c28
      obtain⟨X,hX⟩:∃ X,oct l k=X:=⟨_,rfl⟩
      rw [hX] at hx
      simp only [hX] at c28
      have HV:=Lib.hid hv
      have HA:=Lib.hid ha
      clear hV hX hv ha hlt'
      by_cases hneg:V<0
      · have hp:Hid (point l=none):=by
         unfold point
         rw [HV.out,if_pos hneg]
         exact Lib.hid rfl
        go_wp2_with (go_at_call 191;(with_reducible refine (c28 _).mono ?_);rintro e w' ⟨rfl,rfl⟩)
        go_ret2
        exact⟨by rw [hp.out];rfl,rfl⟩
      · obtain⟨v,rfl⟩:∃ v:Nat,V=v:=⟨V.toNat,by omega⟩
        go_wp2_with (go_at_call 191;(with_reducible refine (c28 _).mono ?_);rintro e w' ⟨rfl,rfl⟩)
        go_round
        case rel=>
         refine⟨k+1,a*16+v,by rw [or16 a v ha6 (by omega)],by go_num,by omega,?_,?_⟩
         · have:=HA.out
           rw [Nat.pow_succ]
           omega
         · rw [HV.out,if_neg (by omega)]
           rfl
        case measure=>simp [intOf];omega
    · have hke:k=n:=by omega
      subst hke
      rw [List.drop_of_length_le (by rw [HN.out];exact Nat.le_refl _)] at hv
      have HV:=Lib.hid hv
      clear hv ha
      by_cases hbig:1114111<a
      · have hp:Hid (point l=none):=by
         unfold point
         rw [HV.out]
         simp [hexv]
         intro _ h
         omega
        go_wp2
        go_ret2
        exact⟨by rw [hp.out];rfl,rfl⟩
      · have c27:=fun w=>width27 a w
        obtain⟨d,hd⟩:∃ d,wid a=d:=⟨_,rfl⟩
        simp only [hd] at c27
        have HD:=Lib.hid hd
        have hd6:=(wid_range a).2
        rw [hd] at hd6
        clear hd
        by_cases heq:k=d
        · have hp0:point l=some a:=by
           unfold point
           rw [HV.out,hexv,Option.bind_some,if_pos ⟨by rw [HN.out];omega,by omega,by rw [HN.out,HD.out];exact heq⟩]
          have hp:=Lib.hid hp0
          clear hp0
          subst heq
          go_wp2_with (go_at_call 190;(with_reducible refine (c27 _).mono ?_);rintro e w' ⟨rfl,rfl⟩)
          go_ret2
          exact⟨by rw [hp.out];rfl,rfl⟩
        · have hp0:point l=none:=by
           unfold point
           rw [HV.out,hexv,Option.bind_some,if_neg (by rw [HN.out,HD.out];rintro⟨_,_,h⟩;exact heq h)]
          have hp:=Lib.hid hp0
          clear hp0
          have hne:((k:Int)==(d:Int))=false:=beq_false_of_ne (by omega)
          have hne2:((k:Int) != (d:Int))=true:=by simp [bne,hne]
          go_wp2_with (go_at_call 190;(with_reducible refine (c27 _).mono ?_);rintro e w' ⟨rfl,rfl⟩)
          go_ret2
          exact⟨by rw [hp.out];rfl,rfl⟩
def rgVal (r:Int×Int×Int):Value:=.tuple #[.int .i64 r.1,.int .i64 r.2.1,.int .i64 r.2.2]
theorem cut_dots (l:List UInt8) (m:Int) (w:World) (hl:l.length≤1000000) (hm:w.cell? ⟨1,0,none⟩=some (.int .i64 m)):Calls Tryz.prog 184 #[.string (bs l),.string ⟨#[46,46]⟩] w fun e w'=>
 e=.returned (.tuple #[.string (bs (Lib.cut l [46,46]).1),.string (bs (Lib.cut l [46,46]).2.1),.bool (Lib.cut l [46,46]).2.2])∧∃ n,w'=w.drewN n:=by
 have c:=Tryz.strings_Cut (bs l) ⟨#[46,46]⟩ m w (by rw [bs_size];omega) hm
 rw [bs_data] at c
 exact c
theorem cut_fst (l:List UInt8):(Lib.cut l [46,46]).1.length≤l.length∧(Lib.cut l [46,46]).2.1.length≤l.length:=by
 unfold Lib.cut
 split
 · simp
   omega
 · simp
set_option maxRecDepth 100000 in
set_option maxHeartbeats 1000000 in
theorem range13 (l:List UInt8) (m:Int) (w:World) (hl:l.length≤1000000) (hm:w.cell? ⟨1,0,none⟩=some (.int .i64 m)):Calls Tryz.prog 144 #[.string (bs l)] w fun e w'=>e=.returned (rgVal (rangeOf l))∧∃ q,w'=w.drewN q:=by
 have c30:=cut_dots l m w hl hm
 have hcl:=cut_fst l
 have hr:Hid (rangeOf l=if (Lib.cut l [46,46]).2.2 then (match point (Lib.cut l [46,46]).1,point (Lib.cut l [46,46]).2.1 with | some a,some b=>if b≤a then (0,0,14) else ((a:Int),(b:Int),0) | _,_=>(0,0,13)) else (match point (Lib.cut l [46,46]).1 with | some a=>((a:Int),(a:Int),0) | none=>(0,0,13))):=by
  unfold rangeOf Lib.cut
  split
  · exact Lib.hid rfl
  · exact Lib.hid rfl
 have c11:=fun w=>point11 (Lib.cut l [46,46]).1 w (by omega)
 have d11:=fun w=>point11 (Lib.cut l [46,46]).2.1 w (by omega)
 obtain⟨X,hX⟩:∃ X,(Lib.cut l [46,46]).1=X:=⟨_,rfl⟩
 obtain⟨Y,hY⟩:∃ Y,(Lib.cut l [46,46]).2.1=Y:=⟨_,rfl⟩
 obtain⟨f,hf⟩:∃ f,(Lib.cut l [46,46]).2.2=f:=⟨_,rfl⟩
 rw [hX,hY,hf] at c30 hr
 simp only [hX] at c11
 simp only [hY] at d11
 clear hX hY hf hm hcl
 cases hx:point X with
 | none=>
  rw [hx] at hr
  simp only [hx,ptVal] at c11
  have hr2:Hid (rangeOf l=(0,0,13)):=by
   rw [hr.out]
   cases f <;> exact Lib.hid rfl
  clear hr hx d11
  go_enter Tryz.func144,Tryz.ntmps144
  go_wp2_with (first
   | (go_at_call 184;(with_reducible refine c30.mono ?_);rintro e w' ⟨rfl,q,rfl⟩)
   | (go_at_call 153;(with_reducible refine (c11 _).mono ?_);rintro e w' ⟨rfl,rfl⟩))
  go_ret3
  exact⟨by rw [hr2.out];rfl,q,rfl⟩
 | some a=>
  rw [hx] at hr
  simp only [hx,ptVal] at c11
  clear hx
  cases f with
  | false=>
   have hr2:Hid (rangeOf l=((a:Int),(a:Int),0)):=by
    rw [hr.out]
    exact Lib.hid rfl
   clear hr d11
   go_enter Tryz.func144,Tryz.ntmps144
   go_wp2_with (first
    | (go_at_call 184;(with_reducible refine c30.mono ?_);rintro e w' ⟨rfl,q,rfl⟩)
    | (go_at_call 153;(with_reducible refine (c11 _).mono ?_);rintro e w' ⟨rfl,rfl⟩))
   go_ret3
   exact⟨by rw [hr2.out];rfl,q,rfl⟩
  | true=>
   cases hy:point Y with
   | none=>
    rw [hy] at hr
    simp only [hy,ptVal] at d11
    have hr2:Hid (rangeOf l=(0,0,13)):=by
     rw [hr.out]
     exact Lib.hid rfl
    clear hr hy
    go_enter Tryz.func144,Tryz.ntmps144
    go_wp2_with (go_at_call 184;(with_reducible refine c30.mono ?_);rintro e w' ⟨rfl,q,rfl⟩)
    go_wp2_with (go_at_call 153;(with_reducible refine (c11 _).mono ?_);clear c11;rintro e w' ⟨rfl,rfl⟩)
    go_wp2_with (go_at_call 153;(with_reducible refine (d11 _).mono ?_);rintro e w' ⟨rfl,rfl⟩)
    go_ret3
    exact⟨by rw [hr2.out];rfl,q,rfl⟩
   | some b=>
    rw [hy] at hr
    simp only [hy,ptVal] at d11
    clear hy
    by_cases hba:b≤a
    · have hr2:Hid (rangeOf l=(0,0,14)):=by
       rw [hr.out]
       simp [hba]
       trivial
      clear hr
      go_enter Tryz.func144,Tryz.ntmps144
      go_wp2_with (go_at_call 184;(with_reducible refine c30.mono ?_);rintro e w' ⟨rfl,q,rfl⟩)
      go_wp2_with (go_at_call 153;(with_reducible refine (c11 _).mono ?_);clear c11;rintro e w' ⟨rfl,rfl⟩)
      go_wp2_with (go_at_call 153;(with_reducible refine (d11 _).mono ?_);rintro e w' ⟨rfl,rfl⟩)
      go_ret3
      exact⟨by rw [hr2.out];rfl,q,rfl⟩
    · have hr2:Hid (rangeOf l=((a:Int),(b:Int),0)):=by
       rw [hr.out]
       simp [hba]
       trivial
      clear hr
      go_enter Tryz.func144,Tryz.ntmps144
      go_wp2_with (go_at_call 184;(with_reducible refine c30.mono ?_);rintro e w' ⟨rfl,q,rfl⟩)
      go_wp2_with (go_at_call 153;(with_reducible refine (c11 _).mono ?_);clear c11;rintro e w' ⟨rfl,rfl⟩)
      go_wp2_with (go_at_call 153;(with_reducible refine (d11 _).mono ?_);rintro e w' ⟨rfl,rfl⟩)
      go_ret3
      exact⟨by rw [hr2.out];rfl,q,rfl⟩
theorem noCR_length (s:List UInt8):(noCR s).length≤s.length:=by
 unfold noCR
 split
 · rw [List.length_dropLast];omega
 · exact Nat.le_refl _
theorem cutAll_mem_length (c:UInt8):∀ (l:List UInt8) (p:List UInt8),p∈cutAll c l→p.length≤l.length
 | [],p,h=>by simp [cutAll] at h;simp [h]
 | x::l,p,h=>by
  unfold cutAll at h
  split at h
  · simp at h
    rcases h with rfl | h
    · simp
    · have:=cutAll_mem_length c l p h
      simp;omega
  · cases e:cutAll c l with
    | nil=>exact absurd e (cutAll_ne c l)
    | cons a t=>
     rw [e] at h
     simp [glue] at h
     rcases h with rfl | h
     · have:=cutAll_mem_length c l a (by simp [e])
       simp;omega
     · have:=cutAll_mem_length c l p (by simp [e,h])
       simp;omega
theorem getD_mem {α:Type} {l:List α} {j:Nat} {d:α} (h:j<l.length):l.getD j d∈l:=by
 simp [List.getD_eq_getElem?_getD,List.getElem?_eq_getElem h]
theorem body_length (s:List UInt8):(bodyOf s).length≤s.length:=by
 have h1:=noCR_length s
 unfold bodyOf
 cases e:cutAll 35 (noCR s) with
 | nil=>simp
 | cons a t=>
  have:=cutAll_mem_length 35 (noCR s) a (by simp [e])
  simp
  omega
theorem bs_toList (l:List UInt8):(bs l).toList=l:=by rw [Lib.toList_data,bs_data]
theorem bs_some {l:List UInt8} (h:¬l = []):(bs l).toList.isEmpty=false:=by rw [bs_toList];simp [h]
def ints (l:List UInt8):List Int:=l.map fun c=>(c.toNat:Int)
theorem ints_length (l:List UInt8):(ints l).length=l.length:=List.length_map _
theorem ints_bytes (l:List UInt8):Lib.bytesOf (ints l)=l:=by
 unfold Lib.bytesOf ints
 rw [List.map_map]
 conv=>rhs;rw [←List.map_id l]
 apply List.map_congr_left
 intro c _
 simp
theorem ints_str (l:List UInt8):strOfNums (ints l)=bs l:=by
 have h:=Lib.strOfNums_toList (ints l)
 rw [ints_bytes,Lib.toList_data] at h
 rw [←bs_of (strOfNums (ints l)),h]
theorem ints_range (l:List UInt8):∀ x∈ints l,0≤x∧x<256:=by
 intro x hx
 unfold ints at hx
 rw [List.mem_map] at hx
 obtain⟨c,_,rfl⟩:=hx
 have:=c.toNat_lt
 omega
def Octs (w:World) (A:Option Addr) (n:Nat) (l:List UInt8):Prop:=Vals w A n (nums .u8 (ints l))
theorem Octs.len {w:World} {A:Option Addr} {n:Nat} {l:List UInt8} (h:Octs w A n l):l.length=n:=by
 have:=h.1
 unfold nums at this
 rwa [List.length_map,ints_length] at this
theorem Octs.below {w w':World} {A:Option Addr} {n:Nat} {l:List UInt8} (h:Octs w A n l) (hb:Below w.heap.size w w'):Octs w' A n l:=Vals.below h hb
theorem Octs.bytesIn {w:World} {A:Option Addr} {n:Nat} {l:List UInt8} (h:Octs w A n l):Lib.BytesIn w A n (ints l):=fun hn=>by
 obtain⟨b,off,rfl,_,hc⟩:=h.2 hn
 exact⟨b,off,rfl,fun i hi=>hc i _ (nums_get (by rw [ints_length,h.len];exact hi))⟩
theorem octs_cells {w:World} {b off n:Nat} {l:List UInt8} (h:Octs w (some ⟨b,off,none⟩) n l):∀ j,j<n→w.cell? ⟨b,off+j,none⟩=some (.int .u8 ((ints l).getD j 0)):=fun j hj=>by
 obtain⟨b',off',e,_,hc⟩:=h.2 (by omega)
 cases e
 exact hc j _ (nums_get (by rw [ints_length,h.len];exact hj))
theorem octs_of {w:World} {b off n:Nat} {l:List UInt8} (hl:l.length=n) (hb:0<n→b<w.heap.size) (h:∀ j,j<n→w.cell? ⟨b,off+j,none⟩=some (.int .u8 ((ints l).getD j 0))):Octs w (some ⟨b,off,none⟩) n l:=by
 refine⟨by unfold nums;rw [List.length_map,ints_length,hl],fun hn=>⟨b,off,rfl,hb hn,fun j v hj=>?_⟩⟩
 have hlt:j<l.length:=by
  have:=(List.getElem?_eq_some_iff.1 hj).1
  unfold nums at this
  rwa [List.length_map,ints_length] at this
 rw [nums_get (by rw [ints_length];exact hlt)] at hj
 cases hj
 exact h j (by omega)
theorem ints_get (l:List UInt8) (j:Nat):(ints l).getD j 0=oct l j:=by
 unfold ints oct
 simp [List.getD_eq_getElem?_getD,List.getElem?_map]
 cases l[j]? <;> rfl
theorem oct_take (l:List UInt8) (k j:Nat) (h:j<k):oct (l.take k) j=oct l j:=by
 unfold oct
 simp [List.getD_eq_getElem?_getD,h]
theorem oct_drop (l:List UInt8) (k j:Nat):oct (l.drop k) j=oct l (k+j):=by
 unfold oct
 simp [List.getD_eq_getElem?_getD]
theorem Octs.take {w:World} {A:Option Addr} {n:Nat} {l:List UInt8} (h:Octs w A n l) (k:Nat) (hk:k≤n):Octs w A k (l.take k):=by
 have hl:=h.len
 rcases Nat.eq_zero_or_pos k with rfl | h0
 · rw [List.take_zero];exact Vals.nil _ _
 · obtain⟨b,off,rfl,hb,-⟩:=h.2 (by omega)
   have hc:=octs_cells h
   refine octs_of (by simp;omega) (fun _=>hb) (fun j hj=>?_)
   rw [hc j (by omega),ints_get,ints_get,oct_take _ _ _ hj]
theorem octs_from {w:World} {A:Option Addr} {n c:Nat} {l:List UInt8} (h:Octs w A n l) (k:Nat) (hk:k≤n) (hc:n≤c):Octs w (if c=k then A else A.map (fun x=>x.add k)) (n-k) (l.drop k):=by
 have hl:=h.len
 rcases Nat.eq_zero_or_pos (n-k) with h0 | h0
 · rw [h0,List.drop_of_length_le (by omega)];exact Vals.nil _ _
 · obtain⟨b,off,rfl,hb,-⟩:=h.2 (by omega)
   have hcl:=octs_cells h
   have e:(if c=k then (some ⟨b,off,none⟩:Option Addr) else (some ⟨b,off,none⟩:Option Addr).map (fun x=>x.add k))=some ⟨b,off+k,none⟩:=by
    rw [if_neg (by omega)]
    simp [Addr.add]
   rw [e]
   refine octs_of (by simp;omega) (fun _=>hb) (fun j hj=>?_)
   rw [show off+k+j=off+(k+j) by omega,hcl (k+j) (by omega),ints_get,ints_get,oct_drop]
theorem conv22 {A:Option Addr} {n:Nat} (c:Nat) {l:List UInt8} {w:World} (h:Octs w A n l):(convert 22 9 (.slice A n c)).run Tryz.prog w=.ok (.string (bs l)) w:=by
 have hl:=h.len
 rcases Nat.eq_zero_or_pos n with h0 | h0
 · subst h0
   obtain rfl:l = []:=List.eq_nil_of_length_eq_zero hl
   cases A with
   | none=>exact run_convert_bytes_nil w 22 5 Tryz.underlying22 Tryz.underlying5 0 c 9 Tryz.underlying9
   | some a=>
    rw [run_convert_bytes_string w 22 9 5 _ 0 c Tryz.underlying22 Tryz.underlying5 Tryz.underlying9]
    rw [run_bytesToString w a 0 c [] (by simp [loadCells,loadCellsFrom])]
    rfl
 · obtain⟨b,off,rfl,-,-⟩:=h.2 h0
   rw [←ints_str]
   exact run_convert_bytes_arg w 22 5 Tryz.underlying22 Tryz.underlying5 b off n c (ints l) (by rw [ints_length,hl]) (octs_cells h) 9 Tryz.underlying9
theorem one_octs (w:World) (c:UInt8) (x:Int) (hx:(c.toNat:Int)=x):Lib.BytesIn (w.alloc (.cells #[.int .u8 x] 5)) (some ⟨w.heap.size,0,none⟩) 1 (ints [c]):=fun _=>⟨_,_,rfl,fun j hj=>by
 obtain rfl:j=0:=by omega
 subst hx
 simp [ints]⟩
theorem noCR_take (l:List UInt8):noCR l=l.take (noCR l).length:=by
 unfold noCR
 split
 · rw [List.length_dropLast,List.dropLast_eq_take]
 · simp
theorem trimCR {A:Option Addr} {n c:Nat} {l:List UInt8} {w:World} (h:Octs w A n l):Lib.trimSuffixV A n c (ints l) (ints [13])=.slice A (noCR l).length c:=by
 have hl:=h.len
 rcases Nat.eq_zero_or_pos n with h0 | h0
 · subst h0
   obtain rfl:l = []:=List.eq_nil_of_length_eq_zero hl
   have e:(noCR []).length=0:=rfl
   rw [e]
   unfold Lib.trimSuffixV
   split
   · unfold Lib.bytesTrimSuffix
     rw [if_neg (by rw [ints_bytes,ints_bytes];decide)]
   · rfl
 · obtain⟨b,off,rfl,-,-⟩:=h.2 h0
   show Lib.bytesTrimSuffix b off n c (ints l) (ints [13])=_
   unfold Lib.bytesTrimSuffix Lib.sliceTo
   rw [ints_bytes,ints_bytes]
   have e:Lib.hasSuffix l [13]=decide (l.getLast? = some 13):=by
    unfold Lib.hasSuffix
    rw [Bool.eq_iff_iff,List.isSuffixOf_iff_suffix]
    simp
    rw [List.getLast?_eq_some_iff]
    constructor
    · rintro⟨t,rfl⟩;exact⟨t,rfl⟩
    · rintro⟨t,rfl⟩;exact⟨t,rfl⟩
   rw [e]
   unfold noCR
   by_cases hh:l.getLast? = some 13
   · simp [hh,ints_length,hl]
   · simp [hh,hl]
theorem cutV_hit (A:Option Addr) (N c a:Nat):Lib.cutV A N c 1 (a:Int)=.tuple #[.slice A a c,.slice (if c=a+1 then A else A.map (fun x=>x.add (a+1))) (N-(a+1)) (c-(a+1)),.bool true]:=by
 unfold Lib.cutV
 rw [if_pos (by omega)]
 rfl
theorem cutV_miss (A:Option Addr) (N c:Nat):Lib.cutV A N c 1 (-1)=.tuple #[.slice A N c,.slice none 0 0,.bool false]:=by
 unfold Lib.cutV
 rw [if_neg (by omega)]
theorem body_cut {l:List UInt8} {N c:Nat} {A:Option Addr} (hN:(noCR l).length=N):∃ k P2 n2 c2 f,Lib.cutV A N c 1 (Lib.index (Lib.bytesOf (ints (noCR l))) (Lib.bytesOf (ints [35])))=.tuple #[.slice A k c,.slice P2 n2 c2,.bool f]∧k≤N∧bodyOf l=(noCR l).take k:=by
 rw [ints_bytes,ints_bytes]
 unfold bodyOf
 by_cases h:(35:UInt8)∈noCR l
 · obtain⟨a,b,e,ha⟩:=split_at 35 _ h
   rw [e] at hN ⊢
   rw [index_one 35 a b ha,cutAll_some 35 a b ha]
   exact⟨_,_,_,_,_,cutV_hit A N c a.length,by simp at hN;omega,by simp⟩
 · rw [index_no 35 _ h,cutAll_none 35 _ h]
   exact⟨_,_,_,_,_,cutV_miss A N c,Nat.le_refl _,by rw [←hN];simp⟩
def ML (w:World):Prop:=∃ m,w.cell? ⟨1,0,none⟩=some (.int .i64 m)
theorem ML.lt {w:World} (h:ML w):1<w.heap.size:=by
 obtain⟨m,h⟩:=h
 exact World.block_lt_of_cell? w _ h
theorem ML.below {w w':World} (h:ML w) (hb:Below w.heap.size w w'):ML w':=by
 obtain⟨m,hm⟩:=h
 exact⟨m,(hb.cell (p:=⟨1,0,none⟩) (by have:=World.block_lt_of_cell? w _ hm;exact this)).trans hm⟩
set_option maxRecDepth 100000 in
set_option maxHeartbeats 1000000 in
theorem body36 (A:Option Addr) (n c:Nat) (l:List UInt8) (w:World) (hV:Octs w A n l) (hA:A=none→c=0) (hc:n≤c) (hn:n≤100000) (hm:ML w):
 Calls Tryz.prog 165 #[.slice A n c] w fun e w'=>e=.returned (.string (bs (bodyOf l)))∧Below w.heap.size w w':=by
 have b1:Below w.heap.size w (w.alloc (.cells #[.int .u8 13] 5)):=(Below.refl _ _).alloc (Nat.le_refl _) _
 have c49:=Tryz.bytes_TrimSuffix_all A (some ⟨w.heap.size,0,none⟩) n c 1 1 (ints l) (ints [13]) (w.alloc (.cells #[.int .u8 13] 5)) (by rw [ints_length,hV.len]) rfl hc (by omega) (hV.below b1).bytesIn (one_octs w 13 13 rfl)
 rw [trimCR hV] at c49
 have hN:=noCR_length l
 have hlen:=hV.len
 have hV1:=(hV.below b1).take (noCR l).length (by omega)
 rw [←noCR_take] at hV1
 obtain⟨N,hNN⟩:∃ N,(noCR l).length=N:=⟨_,rfl⟩
 rw [hNN] at c49 hN hV1
 have b2:Below (w.alloc (.cells #[.int .u8 13] 5)).heap.size (w.alloc (.cells #[.int .u8 13] 5)) ((w.alloc (.cells #[.int .u8 13] 5)).alloc (.cells #[.int .u8 35] 5)):=(Below.refl _ _).alloc (Nat.le_refl _) _
 obtain⟨m,hmm⟩:=(hm.below b1).below b2
 have hV2:=hV1.below b2
 have c35:=Tryz.bytes_Cut_all A (some ⟨w.heap.size+1,0,none⟩) N c 1 1 (ints (noCR l)) (ints [35]) m ((w.alloc (.cells #[.int .u8 13] 5)).alloc (.cells #[.int .u8 35] 5)) (by rw [ints_length,hNN]) rfl (ints_range _) (ints_range _) hV2.bytesIn (by have:=one_octs (w.alloc (.cells #[.int .u8 13] 5)) 35 35 rfl;simpa using this) hA (by omega) (by omega) (by omega) hmm
 obtain⟨k,P2,n2,c2,f,hk1,hk2,hk3⟩:=body_cut (A:=A) (c:=c) hNN
 rw [hk1] at c35
 have hV3:=hV2.take k hk2
 rw [←hk3] at hV3
 have kc:=fun q=>conv22 c (w:=((w.alloc (.cells #[.int .u8 13] 5)).alloc (.cells #[.int .u8 35] 5)).drewN q) hV3
 obtain⟨B,hB⟩:∃ B,bs (bodyOf l)=B:=⟨_,rfl⟩
 rw [hB] at kc ⊢
 clear hk1 hk3 hV hV1 hV2 hV3 hmm hm hNN hB
 go_enter Tryz.func165,Tryz.ntmps165
 go_wp2_with (first
  | (go_at_call 198;(with_reducible refine c49.mono ?_);rintro e w' ⟨rfl,rfl⟩)
  | (go_at_call 164;(with_reducible refine c35.mono ?_);rintro e w' ⟨rfl,q,rfl⟩))
 go_ret
 exact⟨rfl,below_drewN (b1.trans (b2.mono (by simp))) q⟩
theorem bs_toList' (l:List UInt8):(bs l).toList=l:=by rw [Lib.toList_data,bs_data]
end Go.Proofs.YtbkgbhlmeeodgaaGreatDoor
namespace Go.Proofs.YtbkgbhlmeeodgaaGreatDoor
open Go.RowKit Go.Shelf
attribute [local go_sem] Oper.semAt_some
set_option maxHeartbeats 1000000 in
theorem splitSeq47 (l:List UInt8) (w:World):Calls Tryz.prog 228 #[.string (bs l),.string ⟨#[32]⟩,.int .i64 0] w fun e w'=>
 e=.returned (.func (.func 261) #[] #[.pointer (some ⟨w.heap.size+1,0,none⟩),.pointer (some ⟨w.heap.size,0,none⟩),.pointer (some ⟨w.heap.size+2,0,none⟩)])∧w'=((w.alloc (.cells #[.string (bs l)] 9)).alloc (.cells #[.string ⟨#[32]⟩] 9)).alloc (.cells #[.int .i64 0] 3):=by
 go_enter Tryz.func228,Tryz.ntmps228
 go_wp2
 go_ret
 exact⟨rfl,rfl⟩
set_option maxHeartbeats 1000000 in
theorem splitSeq31 (l:List UInt8) (w:World):Calls Tryz.prog 192 #[.string (bs l),.string ⟨#[32]⟩] w fun e w'=>
 e=.returned (.func (.func 261) #[] #[.pointer (some ⟨w.heap.size+1,0,none⟩),.pointer (some ⟨w.heap.size,0,none⟩),.pointer (some ⟨w.heap.size+2,0,none⟩)])∧w'=((w.alloc (.cells #[.string (bs l)] 9)).alloc (.cells #[.string ⟨#[32]⟩] 9)).alloc (.cells #[.int .i64 0] 3):=by
 have c:=splitSeq47 l w
 go_enter Tryz.func192,Tryz.ntmps192
 go_wp2_with (go_at_call 228;(with_reducible refine c.mono ?_);rintro e w' ⟨rfl,rfl⟩)
 go_ret
 exact⟨rfl,rfl⟩
def strAt (wr:World) (b:Nat):Nat:=match wr.cell? ⟨b,0,none⟩ with | some (.string s)=>s.size | _=>0
theorem strAt_eq {wr:World} {b:Nat} {l:List UInt8} (h:wr.cell? ⟨b,0,none⟩=some (.string (bs l))):strAt wr b=l.length:=by
 unfold strAt
 rw [h]
 exact bs_size l
def SsRel (L:List UInt8) (b N0:Nat) (J:List (List UInt8)→World→Prop) (wr:World):Prop:=
 ∃ (pre:List (List UInt8)) (rest:List UInt8),wr.cell? ⟨b,0,none⟩=some (.string (bs rest))∧wr.frozen? ⟨b,0,none⟩=false∧wr.cell? ⟨b+1,0,none⟩=some (.string ⟨#[32]⟩)∧wr.cell? ⟨b+2,0,none⟩=some (.int .i64 0)∧ML wr ∧
  cutAll 32 L=pre++cutAll 32 rest∧pre.length+rest.length≤L.length∧J pre wr∧N0≤wr.heap.size
theorem ss_kept {A:Nat→Prop} {b:Nat} {W W':World} {v:Value} (hk:Kept A W W') (hA:A b) (h:W.cell? ⟨b,0,none⟩=some v) (hf:W.frozen? ⟨b,0,none⟩=false):W'.cell? ⟨b,0,none⟩=some v∧W'.frozen? ⟨b,0,none⟩=false:=by
 obtain⟨o,ho,_⟩:=cells_of_cell h
 have e:=hk.2 b hA (Array.getElem?_eq_some_iff.1 ho).1
 refine⟨hk.cell (a:=⟨b,0,none⟩) hA h,?_⟩
 unfold World.frozen? at hf ⊢
 rw [e]
 exact hf
set_option maxRecDepth 100000 in
set_option maxHeartbeats 4000000 in
theorem iter57 (m l b N0:Nat) (L:List UInt8) (A:Nat→Prop) (hm:1≤m) (hL:L.length≤4000) (hb:1<b) (J Jx:List (List UInt8)→World→Prop) (hJs:∀ s W v,J s W→J s (W.setCell ⟨b,0,none⟩ v))
 (hY:∀ pre x W,J pre W→x.length≤4000∧N0≤W.heap.size→pre.length<9000→YieldAt Fence.wide (m-1) Tryz.prog l #[.string (bs x)] W fun e W'=>
  ((e=.returned (.bool true)∧J (pre ++ [x]) W')∨(e=.returned (.bool false)∧Jx (pre ++ [x]) W'))∧Kept A W W')
 (W:World) (hA0:A 1) (hAb:A b) (hAb1:A (b+1)) (hAb2:A (b+2)) (h0:SsRel L b N0 J W):
 CallsIn Fence.wide m Tryz.prog 261 #[.func (.yield l) #[] #[],.pointer (some ⟨b+1,0,none⟩),.pointer (some ⟨b,0,none⟩),.pointer (some ⟨b+2,0,none⟩)] W fun e W'=>(∃ v,e=.returned v) ∧
  ((∃ ys,ys=cutAll 32 L∧J ys W')∨(∃ pre,pre <+: cutAll 32 L∧Jx pre W')):=by
 refine callsIn_of_wp Tryz.func261 rfl trivial ?_ rfl
 simp only [Tryz.ntmps261,List.size_toArray,List.length_cons,List.length_nil,Nat.reduceAdd,Nat.reduceSub,Array.replicate_succ,Array.replicate_zero,List.push_toArray,List.append_toArray,List.nil_append,List.cons_append]
 have hsep:W.cell? ⟨b+1,0,none⟩=some (.string ⟨#[32]⟩):=by obtain⟨_,_,_,_,h,_⟩:=h0;exact h
 have H0:=Lib.hid h0
 have HYY:=Lib.hid hY
 have HJS:=Lib.hid hJs
 clear h0 hY hJs
 gi_wp2
 gi_loopw [7] (fun (_:Value) wr=>SsRel L b N0 J wr) (fun _ wr=>strAt wr b)
 case atStart=>exact H0.out
 case round=>
  clear hsep
  obtain⟨pre,rest,h1,h2,h3,h4,⟨mm,hmm⟩,hcut,hlen,hJr,hN0⟩:=hrel
  have c58:=callsIn_wide (n:=m-1) |>.2 (Tryz.strings_Index (bs rest) ⟨#[32]⟩ mm wr (by rw [bs_size];omega) hmm)
  rw [bs_data] at c58
  have hst:=strAt_eq h1
  by_cases h:(32:UInt8)∈rest
  · obtain⟨a,t,rfl,ha⟩:=split_at 32 rest h
    have hidx:Lib.index (a++32::t) ([32]:List UInt8)=a.length:=index_one 32 a t ha
    have c58:CallsIn Fence.wide (m-1) Tryz.prog 250 #[.string (bs (a++32::t)),.string ⟨#[32]⟩] wr fun e w'=>e=.returned (.int .i64 (a.length:Int))∧w'=wr:=by rw [←hidx];exact c58
    have hx1:(bs (a++32::t)).extract 0 a.length=bs a:=by rw [bs_ext];simp
    have hsz:(bs (a++32::t)).size=a.length+t.length+1:=by rw [bs_size];simp;omega
    have hx2:(bs (a++32::t)).extract (a.length+1) (a.length+t.length+1)=bs t:=by
     rw [bs_ext,List.drop_append,List.drop_of_length_le (by omega)]
     congr 1
     rw [List.nil_append,show a.length+1-a.length=1 by omega]
     simp
    have hal:a.length≤4000:=by simp at hlen;omega
    have hY2:=HYY.out pre a wr hJr ⟨hal,hN0⟩ (by omega)
    rw [cutAll_some 32 a t ha] at hcut
    have hlt:(a++32::t).length=a.length+t.length+1:=by simp;omega
    rw [hlt] at hlen hst
    have hend:∀ W3,Kept A wr W3→J (pre ++ [a]) W3→SsRel L b N0 J (W3.setCell ⟨b,0,none⟩ (.string (bs t)))∧strAt (W3.setCell ⟨b,0,none⟩ (.string (bs t))) b=t.length:=by
     intro W3 hk hj
     obtain⟨k1,k2⟩:=ss_kept hk hAb h1 h2
     have e0:(W3.setCell ⟨b,0,none⟩ (.string (bs t))).cell? ⟨b,0,none⟩=some (.string (bs t)):=World.cell?_setCell_same' _ _ _ (by rw [k1];rfl)
     refine⟨⟨pre ++ [a],t,e0,by rw [World.frozen?_setCell];exact k2,?_,?_,⟨mm,?_⟩,by rw [hcut];simp,by simp;omega,HJS.out _ _ _ hj,by rw [World.size_setCell];exact Nat.le_trans hN0 hk.1⟩,strAt_eq e0⟩
     · rw [World.cell?_setCell_other _ _ _ _ (by simp)]
       exact hk.cell (a:=⟨b+1,0,none⟩) hAb1 h3
     · rw [World.cell?_setCell_other _ _ _ _ (by simp)]
       exact hk.cell (a:=⟨b+2,0,none⟩) hAb2 h4
     · rw [World.cell?_setCell_other _ _ _ _ (by simp)]
       exact hk.cell (a:=⟨1,0,none⟩) hA0 hmm
    have hstop:Hid (pre ++ [a] <+: cutAll 32 L):=Lib.hid ⟨cutAll 32 t,by rw [hcut];simp⟩
    have hafter:∀ W3,Kept A wr W3→W3.cell? ⟨b,0,none⟩=some (.string (bs (a++32::t)))∧W3.frozen? ⟨b,0,none⟩=false∧W3.cell? ⟨b+1,0,none⟩=some (.string ⟨#[32]⟩):=fun W3 hk=>
     ⟨(ss_kept hk hAb h1 h2).1,(ss_kept hk hAb h1 h2).2,hk.cell (a:=⟨b+1,0,none⟩) hAb1 h3⟩
    obtain⟨N,hN⟩:∃ N,a.length=N:=⟨_,rfl⟩
    rw [hN] at c58 hx1 hsz hx2 hal hlen hst
    have HE:=Lib.hid hend
    have HAF:=Lib.hid hafter
    clear hend hafter hidx hcut hJr hlt hN h ha H0 hmm
    obtain⟨S,hS⟩:∃ S,bs (a++32::t)=S:=⟨_,rfl⟩
    rw [hS] at c58 hx1 hsz hx2 h1 HAF
    clear hS
    obtain⟨fn,tmps,assign,body,hy,hR⟩:=hY2
    gi_wp2_with (refine⟨trivial,?_⟩;gi_at_call 250;(with_reducible refine c58.mono ?_);rintro e w' ⟨rfl,rfl⟩)
    refine hR.mono ?_
    rintro e W3 ⟨⟨rfl,hJ3⟩ | ⟨rfl,hJx3⟩,hk3⟩
    · obtain⟨g1,g2,g3⟩:=HAF.out W3 hk3
      have R:=Lib.hid (HE.out W3 hk3 hJ3)
      clear HE HAF
      gi_wp2
      go_roundw
      case rel=>exact R.out.1
      case measure=>
       rw [R.out.2,hst]
       omega
    · gi_wp2
      refine bodyPost_ret (results_none rfl _ _ _) rfl ?_
      exact⟨⟨_,rfl⟩,.inr ⟨_,hstop.out,hJx3⟩⟩
  · have hidx:Lib.index rest ([32]:List UInt8) = -1:=index_no 32 rest h
    have c58:CallsIn Fence.wide (m-1) Tryz.prog 250 #[.string (bs rest),.string ⟨#[32]⟩] wr fun e w'=>e=.returned (.int .i64 (-1))∧w'=wr:=by rw [←hidx];exact c58
    rw [cutAll_none 32 rest h] at hcut
    have hY2:=HYY.out pre rest wr hJr ⟨by omega,hN0⟩ (by omega)
    have HC:=Lib.hid hcut
    clear hidx hcut hJr h H0 hmm
    obtain⟨S,hS⟩:∃ S,bs rest=S:=⟨_,rfl⟩
    rw [hS] at c58 h1 hY2
    clear hS
    obtain⟨fn,tmps,assign,body,hy,hR⟩:=hY2
    gi_wp2_with (refine⟨trivial,?_⟩;gi_at_call 250;(with_reducible refine c58.mono ?_);rintro e w' ⟨rfl,rfl⟩)
    refine hR.mono ?_
    rintro e W3 ⟨⟨rfl,hJ3⟩ | ⟨rfl,hJx3⟩,hk3⟩
    · gi_wp2
      go_end0
      exact⟨⟨_,rfl⟩,.inl ⟨_,HC.out.symm,hJ3⟩⟩
    · gi_wp2
      go_end0
      exact⟨⟨_,rfl⟩,.inr ⟨_,by rw [HC.out];exact List.prefix_refl _,hJx3⟩⟩
theorem seq57 (m b:Nat) (L:List UInt8) (w:World) (hm:1≤m) (hL:L.length≤4000) (hb:1<b) (hlt:b+2<w.heap.size) (h1:w.cell? ⟨b,0,none⟩=some (.string (bs L))) (h2:w.frozen? ⟨b,0,none⟩=false) (h3:w.cell? ⟨b+1,0,none⟩=some (.string ⟨#[32]⟩)) (h4:w.cell? ⟨b+2,0,none⟩=some (.int .i64 0)) (hM:ML w):
 SeqOwn Fence.wide m Tryz.prog 261 #[.pointer (some ⟨b+1,0,none⟩),.pointer (some ⟨b,0,none⟩),.pointer (some ⟨b+2,0,none⟩)] (fun x:List UInt8=>#[.string (bs x)]) (fun x W=>x.length≤4000∧w.heap.size+2≤W.heap.size)
  (fun k=>k=1∨(b≤k∧k<w.heap.size+2)) b (b+1) (fun ys=>ys=cutAll 32 L) (fun pre=>pre <+: cutAll 32 L) 9000 w:=by
 intro l J Jx W hW hsz hJ _ hY h0
 refine iter57 m l b (w.heap.size+2) L _ hm hL hb J Jx (fun s W v h=>hJ s W _ (some b) h (grownBy_setCell' W b v) (fun r e=>by cases e;exact .inl ⟨Nat.le_refl _,Nat.lt_succ_self _⟩)) (fun pre x W1 hj hx hl=>hY pre x W1 hj hx hl) W
  ⟨.inl rfl,by first | omega | (have:=hM.lt;omega),by first | omega | (have:=hM.lt;omega)⟩ ⟨.inr ⟨by omega,by omega⟩,by omega,by omega⟩ ⟨.inr ⟨by omega,by omega⟩,by omega,by omega⟩ ⟨.inr ⟨by omega,by omega⟩,by omega,by omega⟩ ?_
 exact⟨[],L,(hW.cell (p:=⟨b,0,none⟩) (by show b<_;omega)).trans h1,(hW.frozen (p:=⟨b,0,none⟩) (by show b<_;omega)).trans h2,(hW.cell (p:=⟨b+1,0,none⟩) (by show b+1<_;omega)).trans h3,(hW.cell (p:=⟨b+2,0,none⟩) (by show b+2<_;omega)).trans h4,hM.below hW,by simp,by simp,h0,by omega⟩
end Go.Proofs.YtbkgbhlmeeodgaaGreatDoor
