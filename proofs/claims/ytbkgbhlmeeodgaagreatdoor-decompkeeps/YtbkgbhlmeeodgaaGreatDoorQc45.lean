/- A part. -/
import Derived.Test.YtbkgbhlmeeodgaaGreatDoorQc44
namespace Go.Proofs.YtbkgbhlmeeodgaaGreatDoor
open Go.RowKit Go.Shelf Go.Sort
theorem apO_low {w w1 w':World} {zs:List Int} {e:Ending} (h:ApO w1 zs e w') (hb:Below w.heap.size w w1):ApO w zs e w':=by
 obtain⟨A,c,rfl,h1,h2⟩:=h
 exact⟨A,c,rfl,hb.trans (h1.mono hb.size),own_low h2 hb.size⟩
def OrI (κ:Int→Int) (s:List Int) (w:World) (g kx:Nat) (s6 s16:Value) (wr:World):Prop:=
 ∃ (st k:Nat) (A C:List Int),s6=.int .i64 st∧s16=.int .i64 k∧s.length-k≤kx∧Hid (OrdI κ s k st A C∧HoldsK (mrkV κ) 2 wr g 0 (A++C).toArray∧g<wr.heap.size∧Below w.heap.size w wr)
set_option maxRecDepth 100000 in
set_option maxHeartbeats 8000000 in
theorem order13 (b:Nat) (ps:List Uc.Pr) (A:Option Addr) (n c:Nat) (s:List Int) (w:World) (hD:DdR w b ps) (hF:Fit ps) (hs:Vals w A n (nums .i64 s)) (hn:n≤100000):
 Calls Tryz.prog 15 #[.pointer (some ⟨b,0,none⟩),.slice A n c] w (ApO w (ordL (kc ps) s)):=by
 obtain⟨p,h1,h2⟩:=hD
 have hl:s.length=n:=by have:=hs.1;rwa [nlen] at this
 have c24:=uni24 b p w h1
 have c32:=marksOf32 p ps A n c s w h2 hF hs hn
 have HK:=Lib.hid hF.ccc
 obtain⟨κ,hκ⟩:∃ κ,kc ps = κ:=⟨_,rfl⟩
 rw [hκ] at c32 HK ⊢
 unfold MkO at c32
 rw [hl] at c32
 have HL:=Lib.hid hl
 have hmf:∀ (fn:Fn) (first cap:Array Value) (w:World),(Instr.makeFunc fn first cap).run Tryz.prog w=.ok (.func fn first cap) w:=fun _ _ _ _=>rfl
 have P34:Hid (∀ W g c1,HoldsK (mrkV κ) 2 W g 0 (ordL κ s).toArray→g<W.heap.size→Below w.heap.size w W→Calls Tryz.prog 45 #[.slice (some ⟨g,0,none⟩) n c1] W (ApO w (ordL κ s))):=fun W g c1 hH hg hb=>by
  have hol:(ordL κ s).length=n:=(ord_len HK.out s).trans HL.out
  have:=pointsOf34 κ (some ⟨g,0,none⟩) c1 (ordL κ s) W (mat_of hH hg) (by omega)
  rw [hol] at this
  exact this.mono fun e w' h=>apO_low h hb
 clear h1 h2 hF hs hκ hl
 go_enter Tryz.func15,Tryz.ntmps15
 go_wp2_with (first
  | (go_at_call 25;(with_reducible refine c24.mono ?_);rintro e w1 ⟨rfl,rfl⟩)
  | (go_at_call 43;(with_reducible refine c32.mono ?_);rintro e w1 ⟨g,c1,rfl,H1⟩))
 have hgw:Hid (w.heap.size≤g∧g<w1.heap.size):=(H1.out.2).lt g rfl
 have hnc:n≤c1:=by
  rcases H1.out.2.2 with ⟨h,_⟩ | ⟨g',cap,cur,e,-,-,hc,-⟩
  · cases h
  · cases e;exact hc
 have hcm:c1≤maxLen:=by
  rcases H1.out.2.2 with ⟨h,_⟩ | ⟨g',cap,cur,e,-,-,-,hc,-⟩
  · cases h
  · cases e;exact hc
 go_loopg [6,16] n (fun kx s6 s16 wr=>OrI κ s w g kx s6 s16 wr)
 case atStart=>exact⟨0,0,[],s,rfl,rfl,by have:=HL.out;omega,ordI_zero s,own_holds H1.out.2,hgw.out.2,H1.out.1⟩
 case round=>
  obtain⟨st,k,A1,C1,rfl,rfl,hkx,HI⟩:=hrel
  have hkn:k≤n:=by have:=HI.out.1.hi;have:=HL.out;omega
  have hst:st≤k:=HI.out.1.hst
  clear H1
  rw [HL.out] at hkx
  by_cases hlt:k<n
  · obtain⟨hO,hH,hg,hb⟩:=HI.out
    obtain⟨x,hx⟩:∃ x,s[k]? = some x:=⟨_,List.getElem?_eq_getElem (by have:=HL.out;omega)⟩
    have hA1:=hO.len
    have hCx:C1[k-st]? = some x:=by rw [hO.eq,List.getElem?_drop,show st+(k-st)=k by omega];exact hx
    have hget:(A1++C1).toArray[k]! = x:=arr_get _ _ _ (by rw [List.getElem?_append_right (by omega),hA1];exact hCx)
    have hk2:k<(A1++C1).toArray.size:=by have:=(List.getElem?_eq_some_iff.1 hCx).1;rw [List.size_toArray,List.length_append];omega
    obtain⟨q1,q2⟩:=mk_cells hH hk2
    rw [hget,Nat.zero_add] at q1 q2
    have hb9:decide (k<n)=true:=decide_eq_true hlt
    have HB:Hid (∀ o,Below wr.heap.size wr (wr.alloc o)):=fun o=>(Below.refl _ _).alloc (Nat.le_refl _) o
    by_cases hz:κ x=0
    · have hrun:C1=C1.take (k-st)++([x]++s.drop (k+1)):=by
       conv=>lhs;rw [←List.take_append_drop (k-st) C1]
       congr 1
       rw [hO.eq,List.drop_drop,show st+(k-st)=k by omega,List.drop_eq_getElem_cons (by have:=HL.out;omega),(List.getElem?_eq_some_iff.1 hx).2]
       rfl
      have hrl:(C1.take (k-st)).length=k-st:=by rw [List.length_take];have:=(List.getElem?_eq_some_iff.1 hCx).1;omega
      have hH2:HoldsK (mrkV κ) 2 wr g 0 (A1++C1.take (k-st)++([x]++s.drop (k+1))).toArray:=by rw [List.append_assoc,←hrun];exact hH
      have C33:Hid (∀ o,Calls Tryz.prog 44 #[.slice (some ⟨g,st*2,none⟩) (k-st) (c1-st)] (wr.alloc o) fun e w3=>e=.returned (.tuple #[])∧Hid (OrI κ s w g (n-(k+1)) (.int .i64 (k+1:Nat)) (.int .i64 (k+1:Nat)) w3)):=fun o=>by
       have hba:=HB.out o
       have hH3:HoldsK (mrkV κ) 2 (wr.alloc o) g 0 (A1++C1.take (k-st)++([x]++s.drop (k+1))).toArray:=fun j hj=>by
        have:=hH2 j hj
        exact⟨(hba.cell (p:=⟨g,0+j,none⟩) hg).trans this.1,(hba.frozen (p:=⟨g,0+j,none⟩) hg).trans this.2⟩
       have hg3:g<(wr.alloc o).heap.size:=by rw [World.size_alloc];omega
       have hp:=holds_part hH3
       rw [hA1,Nat.zero_add] at hp
       refine (orderRun33 κ g (st*2) (k-st) (c1-st) (C1.take (k-st)) _ hp hg3 hrl (by omega)).mono ?_
       rintro e w3 ⟨rfl,Rr,m1,m2,m3,hS⟩
       obtain rfl:=ord_run HK.out hO.nz m2 m3
       have hS2:SWK (mrkV κ) 2 (wr.alloc o) g (0+A1.length*2) (ordL κ (C1.take (k-st))).toArray w3:=by rw [hA1,Nat.zero_add];exact hS
       obtain⟨r1,r2,r3⟩:=sorted_rest hH3 m1 hg3 hS2
       refine⟨rfl,k+1,k+1,A1++ordL κ (C1.take (k-st)) ++ [x],s.drop (k+1),rfl,rfl,by have:=HL.out;omega,ordI_cut HK.out hO hx hz,?_,r2,(hb.trans (hba.mono hb.size)).trans (r3 _ hgw.out.1)⟩
       rw [List.append_assoc _ [x]]
       exact r1
      have t1:¬c1=st:=by omega
      have t2:(st:Int)≤(k:Int):=by omega
      have t3:(k:Int)≤(c1:Int):=by omega
      have t4:((k:Int)-(st:Int)).toNat=k-st:=by omega
      rw [hz] at q2
      clear hO hH HI hx hCx hget hk2 hrun hrl hH2 hA1 hg hb hz
      go_wp2_with (go_at_call 44;(with_reducible refine (C33.out _).mono ?_);rintro e w3 ⟨rfl,h5⟩)
      go_roundg (n-(k+1))
      case measure=>omega
      case rel=>
       have:=h5.out
       rwa [show ((k+1:Nat):Int)=(k:Int)+1 by omega] at this
    · have HN:Hid (∀ o,OrI κ s w g (n-(k+1)) (.int .i64 st) (.int .i64 (k+1:Nat)) (wr.alloc o)):=fun o=>by
       have hba:=HB.out o
       refine⟨st,k+1,A1,C1,rfl,rfl,by have:=HL.out;omega,ordI_on hO hx hz,fun j hj=>?_,by rw [World.size_alloc];omega,hb.trans (hba.mono hb.size)⟩
       have:=hH j hj
       exact⟨(hba.cell (p:=⟨g,0+j,none⟩) hg).trans this.1,(hba.frozen (p:=⟨g,0+j,none⟩) hg).trans this.2⟩
      have hbz:(κ x==0)=false:=beq_false_of_ne hz
      generalize κ x=y at q2 hz hbz
      clear hO hH HI hx hCx hget hk2 hA1 hg hb
      go_wp2
      go_roundg (n-(k+1))
      case measure=>omega
      case rel=>
       have:=HN.out (.cells #[.int .i64 x,.int .i64 y] 70)
       rwa [show ((k+1:Nat):Int)=(k:Int)+1 by omega] at this
  · obtain rfl:k=n:=by omega
    obtain⟨hO,hH,hg,hb⟩:=HI.out
    have hA1:=hO.len
    have hCl:C1.length=k-st:=by rw [hO.eq,List.length_drop];have:=HL.out;omega
    have hz:∀ x∈C1,κ x≠0:=fun x hx=>hO.nz x (by rw [List.take_of_length_le (by omega)];exact hx)
    have hO2:OrdI κ s s.length st A1 C1:=by rw [HL.out];exact hO
    have hfin:=ordI_end HK.out hO2
    have hH2:HoldsK (mrkV κ) 2 wr g 0 (A1++C1 ++ []).toArray:=by rw [List.append_nil];exact hH
    have hb9:decide (k<k)=false:=decide_eq_false hlt
    have t2:(st:Int)≤(k:Int):=by omega
    have t3:(k:Int)≤(c1:Int):=by omega
    have t4:((k:Int)-(st:Int)).toNat=k-st:=by omega
    by_cases hcs:c1=st
    · obtain rfl:st=k:=by omega
      obtain rfl:C1 = []:=List.eq_nil_of_length_eq_zero (by omega)
      obtain rfl:c1=st:=hcs
      have C33:Calls Tryz.prog 44 #[.slice (some ⟨g,0,none⟩) 0 0] wr fun e w3=>e=.returned (.tuple #[])∧Hid (HoldsK (mrkV κ) 2 w3 g 0 (ordL κ s).toArray∧g<w3.heap.size∧Below w.heap.size w w3):=by
       have hp:HoldsK (mrkV κ) 2 wr g 0 ([]:List Int).toArray:=fun j hj=>by rw [size_flatK] at hj;simp at hj
       refine (orderRun33 κ g 0 0 0 [] wr hp hg rfl (by omega)).mono ?_
       rintro e w3 ⟨rfl,Rr,m1,m2,m3,hS⟩
       obtain rfl:Rr = []:=List.eq_nil_of_length_eq_zero m1
       have hH3:HoldsK (mrkV κ) 2 wr g 0 (([]:List Int) ++ []++A1).toArray:=by simpa using hH
       obtain⟨r1,r2,r3⟩:=sorted_rest hH3 rfl hg hS
       refine⟨rfl,?_,r2,hb.trans (r3 _ hgw.out.1)⟩
       rw [←hfin]
       have e:A1++ordL κ [] = [] ++ []++A1:=by simp [ordL,ordR]
       rw [e];exact r1
      clear hO hH HI hA1 hCl hz hO2 hfin hH2 hg hb
      go_wp2_with (first
       | (go_at_call 44;(with_reducible refine C33.mono ?_);rintro e w3 ⟨rfl,h5⟩)
       | (go_at_call 45;(with_reducible refine (P34.out w3 g _ h5.out.1 h5.out.2.1 h5.out.2.2).mono ?_);rintro e w4 ⟨A4,c4,rfl,h6,h7⟩))
      go_ret
      exact⟨A4,c4,rfl,h6,h7⟩
    · have C33:Calls Tryz.prog 44 #[.slice (some ⟨g,st*2,none⟩) (k-st) (c1-st)] wr fun e w3=>e=.returned (.tuple #[])∧Hid (HoldsK (mrkV κ) 2 w3 g 0 (ordL κ s).toArray∧g<w3.heap.size∧Below w.heap.size w w3):=by
       have hp:=holds_part hH2
       rw [hA1,Nat.zero_add] at hp
       refine (orderRun33 κ g (st*2) (k-st) (c1-st) C1 wr hp hg hCl (by omega)).mono ?_
       rintro e w3 ⟨rfl,Rr,m1,m2,m3,hS⟩
       obtain rfl:=ord_run HK.out hz m2 m3
       have hS2:SWK (mrkV κ) 2 wr g (0+A1.length*2) (ordL κ C1).toArray w3:=by rw [hA1,Nat.zero_add];exact hS
       obtain⟨r1,r2,r3⟩:=sorted_rest hH2 m1 hg hS2
       rw [List.append_nil,hfin] at r1
       exact⟨rfl,r1,r2,hb.trans (r3 _ hgw.out.1)⟩
      clear hO hH HI hA1 hCl hz hO2 hfin hH2 hg hb
      go_wp2_with (first
       | (go_at_call 44;(with_reducible refine C33.mono ?_);rintro e w3 ⟨rfl,h5⟩)
       | (go_at_call 45;(with_reducible refine (P34.out w3 g _ h5.out.1 h5.out.2.1 h5.out.2.2).mono ?_);rintro e w4 ⟨A4,c4,rfl,h6,h7⟩))
      go_ret
      exact⟨A4,c4,rfl,h6,h7⟩
def IoI (κ:Int→Int) (s:List Int) (w:World) (kx:Nat) (s6 s15:Value) (wr:World):Prop:=
 ∃ (k:Nat) (b:Int),s6=.int .i64 b∧s15=.int .i64 k∧k≤s.length∧s.length-k≤kx∧Hid (inB κ b (s.drop k)=inB κ 0 s∧Below w.heap.size w wr)
def IoPost (v:Bool) (w:World) (e:Ending) (w':World):Prop:=e=.returned (.bool v)∧Below w.heap.size w w'
set_option maxRecDepth 100000 in
set_option maxHeartbeats 4000000 in
theorem inOrder15 (b:Nat) (ps:List Uc.Pr) (A:Option Addr) (n c:Nat) (s:List Int) (w:World) (hD:DdR w b ps) (hF:Fit ps) (hs:Vals w A n (nums .i64 s)) (hn:n≤100000):
 Calls Tryz.prog 17 #[.pointer (some ⟨b,0,none⟩),.slice A n c] w (IoPost (inB (kc ps) 0 s) w):=by
 obtain⟨p,h1,h2⟩:=hD
 have hl:s.length=n:=by have:=hs.1;rwa [nlen] at this
 have c24:=uni24 b p w h1
 have C25:Hid (∀ W z,Below w.heap.size w W→Calls Tryz.prog 26 #[.pointer p,.int .i64 z] W fun e w'=>e=.returned (.int .i64 (kc ps z))∧Hid (Below W.heap.size W w')):=fun W z hb=>ccc25 p ps z W (h2.below hb) hF
 obtain⟨κ,hκ⟩:∃ κ,kc ps = κ:=⟨_,rfl⟩
 rw [hκ] at C25 ⊢
 have HL:=Lib.hid hl
 have HV:=Lib.hid hs
 obtain⟨R,hR⟩:∃ R,inB κ 0 s=R:=⟨_,rfl⟩
 have HR:=Lib.hid hR
 rw [hR]
 have hmf:∀ (fn:Fn) (first cap:Array Value) (w:World),(Instr.makeFunc fn first cap).run Tryz.prog w=.ok (.func fn first cap) w:=fun _ _ _ _=>rfl
 clear h1 h2 hF hs hκ hl hR
 go_enter Tryz.func17,Tryz.ntmps17
 go_wp2_with (go_at_call 25;(with_reducible refine c24.mono ?_);rintro e w1 ⟨rfl,rfl⟩)
 go_loopg [6,15] n (fun kx s6 s15 wr=>IoI κ s w kx s6 s15 wr)
 case atStart=>exact⟨0,0,rfl,rfl,Nat.zero_le _,by have:=HL.out;omega,rfl,Below.refl _ _⟩
 case round=>
  obtain⟨k,bf,rfl,rfl,hk,hkx,HI⟩:=hrel
  rw [HL.out] at hk hkx
  by_cases hlt:k<n
  · obtain⟨hI1,hI2⟩:=HI.out
    obtain⟨x,hx⟩:∃ x,s[k]? = some x:=⟨_,List.getElem?_eq_getElem (by have:=HL.out;omega)⟩
    obtain⟨b2,off,rfl,hbl,hc⟩:=(HV.out.below hI2).2 (by omega)
    have hcx:wr.cell? ⟨b2,off+k,none⟩=some (.int .i64 x):=hc k _ (by unfold nums;rw [List.getElem?_map,hx];rfl)
    have d:=C25.out wr x hI2
    have hst:=inB_step (k:=κ) (b:=bf) hx
    rw [hI1,HR.out] at hst
    have HN:Hid (∀ w2,Below wr.heap.size wr w2→Below w.heap.size w w2):=fun w2 hb=>hI2.trans (hb.mono hI2.size)
    have hb9:decide (k<n)=true:=decide_eq_true hlt
    by_cases hz:κ x=0
    · rw [if_neg (fun h=>h.1 hz)] at hst
      have HST:=Lib.hid hst
      rw [hz] at d
      have hz2:=Lib.hid hz
      clear hc hx HI hI1 hI2 hbl hst hz
      go_wp2_with (go_at_call 26;(with_reducible refine d.mono ?_);rintro e w2 ⟨rfl,h5⟩)
      go_roundg (n-(k+1))
      case measure=>omega
      case rel=>exact⟨k+1,0,rfl,by go_num,by have:=HL.out;omega,by have:=HL.out;omega,by rw [HR.out,HST.out,hz2.out],HN.out _ h5.out⟩
    · by_cases hlt2:κ x<bf
      · rw [if_pos ⟨hz,hlt2⟩] at hst
        obtain⟨y,hy⟩:∃ y,κ x=y:=⟨_,rfl⟩
        rw [hy] at d hz hlt2
        have hbz:(y != 0)=true:=bne_iff_ne.2 hz
        have hbt:decide (y<bf)=true:=decide_eq_true hlt2
        subst hst
        clear hc hx HI hI1 hI2 hbl hy
        go_wp2_with (go_at_call 26;(with_reducible refine d.mono ?_);rintro e w2 ⟨rfl,h5⟩)
        go_ret
        exact⟨rfl,HN.out _ h5.out⟩
      · rw [if_neg (fun h=>hlt2 h.2)] at hst
        have HST:=Lib.hid hst
        obtain⟨y,hy⟩:∃ y,κ x=y:=⟨_,rfl⟩
        have HY:=Lib.hid hy
        rw [hy] at d hz hlt2
        have hbz:(y != 0)=true:=bne_iff_ne.2 hz
        have hbt:decide (y<bf)=false:=decide_eq_false hlt2
        clear hc hx HI hI1 hI2 hbl hst hy
        go_wp2_with (go_at_call 26;(with_reducible refine d.mono ?_);rintro e w2 ⟨rfl,h5⟩)
        go_roundg (n-(k+1))
        case measure=>omega
        case rel=>exact⟨k+1,y,rfl,by go_num,by have:=HL.out;omega,by have:=HL.out;omega,by rw [HR.out,HST.out,HY.out],HN.out _ h5.out⟩
  · obtain rfl:k=n:=by omega
    have hb9:decide (k<k)=false:=decide_eq_false hlt
    have hT:R=true:=by
     rw [←HR.out,←HI.out.1,List.drop_eq_nil_of_le (by have:=HL.out;omega)]
     rfl
    have HB:Hid (Below w.heap.size w wr):=HI.out.2
    subst hT
    clear HI HR
    go_wp2
    go_ret
    exact⟨rfl,HB.out⟩
def NfI (ps:List Uc.Pr) (s:List Int) (w1:World) (kx:Nat) (s6 s13:Value) (wr:World):Prop:=
 ∃ (k:Nat) (A:Option Addr) (c:Nat) (T:List Int),s6=.slice A T.length c∧s13=.int .i64 k∧k≤s.length∧s.length-k≤kx∧Hid (T=(s.take k).flatMap (fl ps)∧wr.ownsRow w1.heap.size 3 1 (.slice A T.length c) T.length (nums .i64 T)∧Below w1.heap.size w1 wr)
set_option maxRecDepth 100000 in
set_option maxHeartbeats 4000000 in
theorem nfd17 (b:Nat) (ps:List Uc.Pr) (A:Option Addr) (n c:Nat) (s:List Int) (w:World) (hD:DdR w b ps) (hF:Fit ps) (hs:Vals w A n (nums .i64 s)) (hn:n≤5000):
 Calls Tryz.prog 19 #[.pointer (some ⟨b,0,none⟩),.slice A n c] w (ApO w (nfd ps s)):=by
 have hDD:=hD
 obtain⟨p,h1,h2⟩:=hD
 have hl:s.length=n:=by have:=hs.1;rwa [nlen] at this
 have c28:=stepOf28 b p ps w h1 h2
 unfold SoPost at c28
 have HL:=Lib.hid hl
 have HV:=Lib.hid hs
 have HDD:=Lib.hid hDD
 have HFT:=Lib.hid hF
 have HN0:=Lib.hid hn
 have C13:Hid (∀ W A c (T:List Int),T.length≤100000→Vals W A T.length (nums .i64 T)→Below w.heap.size w W→Calls Tryz.prog 15 #[.pointer (some ⟨b,0,none⟩),.slice A T.length c] W (ApO w (ordL (kc ps) T))):=fun W A c T hT hV hb=>(order13 b ps A T.length c T W (hDD.below hb) hF hV hT).mono fun e w' h=>apO_low h hb
 obtain⟨Z,hZ⟩:∃ Z,nfd ps s=Z:=⟨_,rfl⟩
 have HZ:=Lib.hid hZ
 rw [hZ]
 clear h1 h2 hF hs hl hDD hZ
 go_enter Tryz.func19,Tryz.ntmps19
 go_wp2_with (go_at_call 39;(with_reducible refine c28.mono ?_);rintro e w1 ⟨bx,rfl,H1⟩)
 go_loopg [6,13] n (fun kx s6 s13 wr=>NfI ps s w1 kx s6 s13 wr)
 case atStart=>exact⟨0,none,0,[],rfl,rfl,Nat.zero_le _,by have:=HL.out;omega,rfl,World.ownsRow_nil _ _ _ _,Below.refl _ _⟩
 case round=>
  obtain⟨k,A2,c2,T,rfl,rfl,hk,hkx,HI⟩:=hrel
  rw [HL.out] at hk hkx
  have hTl:T.length≤60000:=by
   have h1:=HI.out.1
   have h2:=flat_le HFT.out (s.take k)
   rw [←h1,List.length_take] at h2
   have:=HN0.out
   omega
  by_cases hlt:k<n
  · obtain⟨hI1,hI2,hI3⟩:=HI.out
    obtain⟨x,hx⟩:∃ x,s[k]? = some x:=⟨_,List.getElem?_eq_getElem (by have:=HL.out;omega)⟩
    obtain⟨b2,off,rfl,hbl,hc⟩:=((HV.out.below H1.out.1).below hI3).2 (by omega)
    have hcx:wr.cell? ⟨b2,off+k,none⟩=some (.int .i64 x):=hc k _ (by unfold nums;rw [List.getElem?_map,hx];rfl)
    have d:Calls Tryz.prog 40 #[.func (.func 68) #[] #[.pointer (some ⟨bx,0,none⟩)],.slice A2 T.length c2,.int .i64 x] wr fun e w2=>∃ A5 c5,e=.returned (.slice A5 (T++fl ps x).length c5)∧Hid (NfI ps s w1 (n-(k+1)) (.slice A5 (T++fl ps x).length c5) (.int .i64 (k+1:Nat)) w2):=(appendFull29 bx w1.heap.size ps A2 c2 T x wr HFT.out (fun W hW=>H1.out.2.below (hI3.trans hW)) hI2 (by omega) hI3.size).mono (by
     rintro e w2 ⟨A5,c5,rfl,h5,h6⟩
     refine⟨A5,c5,rfl,k+1,A5,c5,T++fl ps x,rfl,rfl,by have:=HL.out;omega,by have:=HL.out;omega,?_,h5,hI3.trans h6⟩
     rw [List.take_add_one,hx,List.flatMap_append,hI1]
     simp)
    have hb9:decide (k<n)=true:=decide_eq_true hlt
    obtain⟨t,ht⟩:∃ t,T.length=t:=⟨_,rfl⟩
    obtain⟨t2,ht2⟩:∃ t,(T++fl ps x).length=t:=⟨_,rfl⟩
    rw [ht2] at d
    rw [ht] at d ⊢
    clear hc hx HI hI1 hI2 hI3 hbl ht ht2
    go_wp2_with (go_at_call 40;(with_reducible refine d.mono ?_);rintro e w2 ⟨A5,c5,rfl,h5⟩)
    go_roundg (n-(k+1))
    case measure=>omega
    case rel=>
     have:=h5.out
     rwa [show ((k+1:Nat):Int)=(k:Int)+1 by omega] at this
  · obtain rfl:k=n:=by omega
    obtain⟨hI1,hI2,hI3⟩:=HI.out
    rw [List.take_of_length_le (by have:=HL.out;omega)] at hI1
    have hVT:Vals wr A2 T.length (nums .i64 T):=by
     obtain⟨A',c',e,-,hv,-⟩:=own_vals hI2
     cases e
     exact hv
    have hb:Below w.heap.size w wr:=H1.out.1.trans (hI3.mono H1.out.1.size)
    have d:=C13.out wr A2 c2 T (by omega) hVT hb
    have hb9:decide (k<k)=false:=decide_eq_false hlt
    have hE:ordL (kc ps) T=nfd ps s:=by rw [hI1];rfl
    rw [hE,HZ.out] at d
    obtain⟨t,ht⟩:∃ t,T.length=t:=⟨_,rfl⟩
    rw [ht] at d ⊢
    clear HI hI1 hI2 hI3 hVT hb hE ht
    go_wp2_with (go_at_call 15;(with_reducible refine d.mono ?_);rintro e w2 ⟨A5,c5,rfl,h5,h6⟩)
    go_ret
    exact⟨A5,c5,rfl,h5,h6⟩
end Go.Proofs.YtbkgbhlmeeodgaaGreatDoor
