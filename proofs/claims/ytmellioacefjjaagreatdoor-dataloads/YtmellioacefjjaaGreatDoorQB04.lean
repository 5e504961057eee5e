/- A part. -/
import Derived.Test.YtmellioacefjjaaGreatDoorQB00
import Derived.Laws.RangeAny
import Derived.Lib.IndexLaws
namespace Go.Proofs.YtmellioacefjjaaGreatDoor.Uc
open Go.RowKit
def caps (l:List UInt8):Bool:=l.all fun b=>decide (65≤b.toNat∧b.toNat≤90)
theorem caps_drop {l:List UInt8} {k:Nat} (hk:k<l.length):caps (l.drop k)=(decide (65≤oct l k∧oct l k≤90)&&caps (l.drop (k+1))):=by
 unfold caps oct
 rw [List.drop_eq_getElem_cons hk,List.all_cons,List.getD_eq_getElem?_getD,List.getElem?_eq_getElem hk]
 congr 1
 simp only [Option.getD_some,decide_eq_decide]
 omega
set_option maxRecDepth 100000 in
set_option maxHeartbeats 1000000 in
theorem capitals41 (l:List UInt8) (w:World) (hl:l.length≤1000000):Calls Tryz.prog 103 #[.string (bs l)] w fun e w'=>e=.returned (.bool (caps l))∧w'=w:=by
 have hsz:=bs_size l
 obtain⟨n,hn⟩:∃ n,l.length=n:=⟨_,rfl⟩
 rw [hn] at hl hsz
 have HN:=Lib.hid hn
 clear hn
 go_enter Tryz.func103,Tryz.ntmps103
 go_wp2
 go_loop [3] (fun i=>∃ k:Nat,i=.int .i64 k∧k≤n∧caps l=caps (l.drop k)) (fun i=>n-(intOf i).toNat)
 case atStart=>exact⟨0,rfl,Nat.zero_le _,rfl⟩
 case round=>
  obtain⟨k,rfl,hkn,hv⟩:=hrel
  by_cases hlt:k<n
  · have hlt':k<l.length:=by rw [HN.out];exact hlt
    have hx:=bs_oct l k
    have hxr:=oct_range l k
    rw [caps_drop hlt'] at hv
    obtain⟨X,hX⟩:∃ X,oct l k=X:=⟨_,rfl⟩
    rw [hX] at hx hv hxr
    clear hX hlt'
    obtain⟨hx0,hx1⟩:=hxr
    by_cases g1:X<65
    · rw [show decide (65≤X∧X≤90)=false from decide_eq_false (by omega),Bool.false_and] at hv
      have HV:=Lib.hid hv
      clear hv
      go_wp2
      go_ret
      exact⟨by rw [HV.out];rfl,rfl⟩
    · by_cases g2:90<X
      · rw [show decide (65≤X∧X≤90)=false from decide_eq_false (by omega),Bool.false_and] at hv
        have HV:=Lib.hid hv
        clear hv
        go_wp2
        go_ret
        exact⟨by rw [HV.out];rfl,rfl⟩
      · rw [show decide (65≤X∧X≤90)=true from decide_eq_true (by omega),Bool.true_and] at hv
        have HV:=Lib.hid hv
        clear hv
        go_wp2
        go_round
        case rel=>exact⟨k+1,by go_num,by omega,HV.out⟩
        case measure=>simp [intOf];omega
  · have hke:k=n:=by omega
    subst hke
    rw [List.drop_of_length_le (by rw [HN.out];exact Nat.le_refl _)] at hv
    have HV:=Lib.hid hv
    clear hv
    go_wp2
    go_ret
    exact⟨by rw [HV.out];rfl,rfl⟩
def decv (a:Nat):List UInt8→Option Nat
 | []=>some a
 | b::t=>if 48≤b.toNat∧b.toNat≤57 then decv (a*10+(b.toNat-48)) t else none
theorem decv_drop {l:List UInt8} {k a:Nat} (hk:k<l.length):decv a (l.drop k)=if 48≤oct l k∧oct l k≤57 then decv (a*10+(oct l k-48).toNat) (l.drop (k+1)) else none:=by
 unfold oct
 rw [List.drop_eq_getElem_cons hk,List.getD_eq_getElem?_getD,List.getElem?_eq_getElem hk,Option.getD_some,decv]
 by_cases h:48≤(l[k]).toNat∧(l[k]).toNat≤57
 · rw [if_pos h,if_pos (by omega),show ((l[k].toNat:Int)-48).toNat=l[k].toNat-48 by omega]
 · rw [if_neg h,if_neg (by omega)]
def cccOf (l:List UInt8):Int:=
 if l.length<1∨3<l.length∨(1<l.length∧oct l 0=48) then -1 else
  match decv 0 l with
  | none=>-1
  | some a=>if 254<a then -1 else a
theorem ccc_out {l:List UInt8} (h:l.length<1∨3<l.length∨(1<l.length∧oct l 0=48)):cccOf l = -1:=by unfold cccOf;rw [if_pos h]
theorem ccc_none {l:List UInt8} (h:decv 0 l=none):cccOf l = -1:=by unfold cccOf;rw [h];split <;> rfl
theorem ccc_big {l:List UInt8} {a:Nat} (h:decv 0 l=some a) (hb:254<a):cccOf l = -1:=by
 unfold cccOf;rw [h];simp only [if_pos hb];split <;> rfl
theorem ccc_yes {l:List UInt8} (a:Nat) (h0:¬(l.length<1∨3<l.length∨(1<l.length∧oct l 0=48))) (h:decv 0 l=some a) (hb:¬254<a):cccOf l=a:=by
 unfold cccOf;rw [h,if_neg h0];simp only [if_neg hb]
set_option maxRecDepth 100000 in
set_option maxHeartbeats 2000000 in
theorem number40 (l:List UInt8) (w:World) (hl:l.length≤1000000):Calls Tryz.prog 102 #[.string (bs l)] w fun e w'=>e=.returned (.int .i64 (cccOf l))∧w'=w:=by
 have hsz:=bs_size l
 have HY:=Lib.hid (@ccc_yes l)
 have HO:=Lib.hid (@ccc_out l)
 obtain⟨n,hn⟩:∃ n,l.length=n:=⟨_,rfl⟩
 rw [hn] at hsz hl HY HO
 have HN:=Lib.hid hn
 clear hn
 have hz:=bs_oct l 0
 have hzr:=oct_range l 0
 obtain⟨Z,hZ⟩:∃ Z,oct l 0=Z:=⟨_,rfl⟩
 rw [hZ] at hz hzr HY HO
 clear hZ
 obtain⟨hz0,hz1⟩:=hzr
 by_cases h1:n<1
 · have HP:=Lib.hid (HO.out (Or.inl h1))
   clear HO HY hz
   go_enter Tryz.func102,Tryz.ntmps102
   go_wp2
   go_ret
   exact⟨by rw [HP.out];rfl,rfl⟩
 by_cases h3:3<n
 · have HP:=Lib.hid (HO.out (Or.inr (Or.inl h3)))
   have h1':1≤n:=by omega
   clear HO HY hz h1
   go_enter Tryz.func102,Tryz.ntmps102
   go_wp2
   go_ret
   exact⟨by rw [HP.out];rfl,rfl⟩
 have h1':1≤n:=by omega
 have h3':n≤3:=by omega
 by_cases h0:1<n∧Z=48
 · have HP:=Lib.hid (HO.out (Or.inr (Or.inr h0)))
   obtain⟨h0,rfl⟩:=h0
   clear HO HY h1 h3
   go_enter Tryz.func102,Tryz.ntmps102
   go_wp2
   go_ret
   exact⟨by rw [HP.out];rfl,rfl⟩
 have HW:=Lib.hid (show ∀ a,decv 0 l=some a→¬254<a→cccOf l=a from fun a h hb=>HY.out a (by rintro (h | h | h);exact h1 h;exact h3 h;exact h0 h) h hb)
 clear HO HY h1 h3 hl
 rcases (show n≤1∨(1<n∧¬Z=48) by omega) with hone | ⟨hone,hne⟩
 all_goals
  first
  | have hb:(Z==48)=false:=beq_false_of_ne hne
  | skip
  clear h0
  go_enter Tryz.func102,Tryz.ntmps102
  go_wp2
  clear hz
  go_loop [3,4] (fun c i=>∃ (k a:Nat),c=.int .i64 a∧i=.int .i64 k∧k≤n∧a<10 ^ k∧decv 0 l=decv a (l.drop k)) (fun _ i=>n-(intOf i).toNat)
  case atStart=>exact⟨0,0,rfl,rfl,Nat.zero_le _,by decide,rfl⟩
  case round=>
   obtain⟨k,a,rfl,rfl,hkn,ha,hv⟩:=hrel
   have ha6:a<1000:=Nat.lt_of_lt_of_le ha (by have:(10:Nat) ^ k≤10 ^ 3:=Nat.pow_le_pow_right (by decide) (by omega);exact this)
   by_cases hlt:k<n
   · have hlt':k<l.length:=by rw [HN.out];exact hlt
     have hx:=bs_oct l k
     have hxr:=oct_range l k
     rw [decv_drop hlt'] at hv
     obtain⟨X,hX⟩:∃ X,oct l k=X:=⟨_,rfl⟩
     rw [hX] at hx hv hxr
     clear hX hlt'
     obtain⟨hx0,hx1⟩:=hxr
     by_cases g1:X<48
     · rw [if_neg (by omega)] at hv
       have HV:=Lib.hid (ccc_none hv)
       clear hv ha
       go_wp2
       go_ret
       exact⟨by rw [HV.out];rfl,rfl⟩
     by_cases g2:57<X
     · rw [if_neg (by omega)] at hv
       have HV:=Lib.hid (ccc_none hv)
       clear hv ha
       go_wp2
       go_ret
       exact⟨by rw [HV.out];rfl,rfl⟩
     rw [if_pos (by omega)] at hv
     have HV:=Lib.hid hv
     have HA:=Lib.hid ha
     clear hv ha
     go_wp2
     go_round
     case rel=>
      refine⟨k+1,a*10+(X-48).toNat,val_int (by omega),by go_num,by omega,?_,HV.out⟩
      have:=HA.out
      rw [Nat.pow_succ]
      omega
     case measure=>simp [intOf];omega
   · have hke:k=n:=by omega
     subst hke
     rw [List.drop_of_length_le (by rw [HN.out];exact Nat.le_refl _)] at hv
     clear ha
     by_cases hbig:254<a
     · have HP:=Lib.hid (ccc_big hv hbig)
       clear hv
       go_wp2
       go_ret
       exact⟨by rw [HP.out];rfl,rfl⟩
     · have HP:=Lib.hid (HW.out a hv hbig)
       clear hv
       go_wp2
       go_ret
       exact⟨by rw [HP.out];rfl,rfl⟩
def namedB (s e:List UInt8):Bool:=decide (1≤s.length∧oct s 0=60∧e.length≤s.length)&&((bs s).extract (s.length-e.length) s.length).toList==(bs e).toList
theorem named_iff (s e:List UInt8):namedB s e=true↔1≤s.length∧oct s 0=60∧e <:+ s:=by
 unfold namedB
 rw [bs_ext,Lib.toList_data,Lib.toList_data,bs_data,bs_data,Bool.and_eq_true,decide_eq_true_iff,beq_iff_eq,List.take_of_length_le (by rw [List.length_drop];omega),and_assoc,and_assoc]
 refine and_congr_right fun _=>and_congr_right fun _=>⟨fun h=>?_,fun h=>⟨h.length_le,?_⟩⟩
 · exact⟨s.take (s.length-e.length),by have:=List.take_append_drop (s.length-e.length) s;rwa [h.2] at this⟩
 · obtain⟨t,rfl⟩:=h
   rw [List.length_append,Nat.add_sub_cancel,List.drop_left]
set_option maxRecDepth 100000 in
set_option maxHeartbeats 2000000 in
theorem named24 (s e:List UInt8) (w:World) (hl:s.length≤1000000) (hm:e.length≤1000000):Calls Tryz.prog 77 #[.string (bs s),.string (bs e)] w fun r w'=>r=.returned (.bool (namedB s e))∧w'=w:=by
 have hsz:=bs_size s
 have hse:=bs_size e
 have hz:=bs_oct s 0
 have hzr:=oct_range s 0
 obtain⟨N,hN⟩:∃ N,namedB s e=N:=⟨_,rfl⟩
 rw [hN]
 unfold namedB at hN
 obtain⟨n,hn⟩:∃ n,s.length=n:=⟨_,rfl⟩
 obtain⟨m,hm'⟩:∃ m,e.length=m:=⟨_,rfl⟩
 obtain⟨Z,hZ⟩:∃ Z,oct s 0=Z:=⟨_,rfl⟩
 rw [hn] at hsz hl hN
 rw [hm'] at hse hm hN
 rw [hZ] at hz hzr hN
 clear hn hm' hZ
 revert hsz hse hz hN
 generalize bs s=S
 generalize bs e=E
 intro hsz hse hN hz
 obtain⟨hz0,hz1⟩:=hzr
 by_cases h1:n<1
 · rw [show decide (1≤n∧Z=60∧m≤n)=false from decide_eq_false (by omega),Bool.false_and] at hN
   subst hN
   clear hz
   go_enter Tryz.func77,Tryz.ntmps77
   go_wp2
   go_ret
   exact⟨rfl,rfl⟩
 have h1':1≤n:=by omega
 by_cases h2:Z=60
 · by_cases h3:m≤n
   · rw [show decide (1≤n∧Z=60∧m≤n)=true from decide_eq_true (by omega),Bool.true_and] at hN
     subst h2
     cases N with
     | true=>
      clear h1
      go_enter Tryz.func77,Tryz.ntmps77
      go_wp2
      go_ret
      exact⟨rfl,rfl⟩
     | false=>
      clear h1
      go_enter Tryz.func77,Tryz.ntmps77
      go_wp2
      go_ret
      exact⟨rfl,rfl⟩
   · rw [show decide (1≤n∧Z=60∧m≤n)=false from decide_eq_false (by omega),Bool.false_and] at hN
     subst hN h2
     have h3':n<m:=by omega
     clear h1 h3
     go_enter Tryz.func77,Tryz.ntmps77
     go_wp2
     go_ret
     exact⟨rfl,rfl⟩
 · rw [show decide (1≤n∧Z=60∧m≤n)=false from decide_eq_false (by omega),Bool.false_and] at hN
   subst hN
   have hb:(Z==60)=false:=beq_false_of_ne h2
   clear h1
   go_enter Tryz.func77,Tryz.ntmps77
   go_wp2
   go_ret
   exact⟨rfl,rfl⟩
def capB (x:Int):Bool:=decide (65≤x∧x≤90)
set_option maxHeartbeats 1000000 in
theorem cap75 (x:Int) (w:World):Calls Tryz.prog 173 #[.int .i32 x] w fun e w'=>e=.returned (.bool (capB x))∧w=w':=by
 by_cases h1:65≤x
 · by_cases h2:x≤90
   · rw [show capB x=true from decide_eq_true ⟨h1,h2⟩]
     go_enter Tryz.func173,Tryz.ntmps173
     go_wp2
     go_ret
     exact⟨rfl,rfl⟩
   · rw [show capB x=false from decide_eq_false (fun h=>h2 h.2)]
     go_enter Tryz.func173,Tryz.ntmps173
     go_wp2
     go_ret
     exact⟨rfl,rfl⟩
 · rw [show capB x=false from decide_eq_false (fun h=>h1 h.1)]
   go_enter Tryz.func173,Tryz.ntmps173
   go_wp2
   go_ret
   exact⟨rfl,rfl⟩
def gcB (l:List UInt8):Bool:=decide (l.length=2)&&(capB (oct l 0)&&decide (97≤oct l 1∧oct l 1≤122))
set_option maxRecDepth 100000 in
set_option maxHeartbeats 2000000 in
theorem gc58 (l:List UInt8) (w:World) (hl:l.length≤1000000):Calls Tryz.prog 145 #[.string (bs l)] w fun e w'=>e=.returned (.bool (gcB l))∧w=w':=by
 have hsz:=bs_size l
 have hx:=bs_oct l 0
 have hxr:=oct_range l 0
 have hy:=bs_oct l 1
 have hyr:=oct_range l 1
 obtain⟨G,hG⟩:∃ G,gcB l=G:=⟨_,rfl⟩
 rw [hG]
 unfold gcB at hG
 obtain⟨n,hn⟩:∃ n,l.length=n:=⟨_,rfl⟩
 obtain⟨X,hX⟩:∃ X,oct l 0=X:=⟨_,rfl⟩
 obtain⟨Y,hY⟩:∃ Y,oct l 1=Y:=⟨_,rfl⟩
 rw [hn] at hsz hl hG
 rw [hX] at hx hxr hG
 rw [hY] at hy hyr hG
 clear hn hX hY
 revert hsz hx hy
 generalize bs l=S
 intro hsz hx hy
 obtain⟨hx0,hx1⟩:=hxr
 obtain⟨hy0,hy1⟩:=hyr
 have c:=fun w=>cap75 X w
 by_cases h2:n=2
 · subst h2
   rw [show decide (2=2)=true from rfl,Bool.true_and] at hG
   cases hc:capB X with
   | false=>
    rw [hc,Bool.false_and] at hG
    rw [hc] at c
    subst hG
    have C:=Lib.hid c
    clear hc c
    go_enter Tryz.func145,Tryz.ntmps145
    go_wp2_with (go_at_call 173;(with_reducible refine (C.out _).mono ?_);rintro e w' ⟨rfl,rfl⟩)
    go_ret
    exact⟨rfl,rfl⟩
   | true=>
    rw [hc,Bool.true_and] at hG
    rw [hc] at c
    have C:=Lib.hid c
    clear hc c
    by_cases g1:97≤Y
    · by_cases g2:Y≤122
      · rw [show decide (97≤Y∧Y≤122)=true from decide_eq_true ⟨g1,g2⟩] at hG
        subst hG
        go_enter Tryz.func145,Tryz.ntmps145
        go_wp2_with (go_at_call 173;(with_reducible refine (C.out _).mono ?_);rintro e w' ⟨rfl,rfl⟩)
        go_ret
        exact⟨rfl,rfl⟩
      · have g2b:decide (Y≤122)=false:=decide_eq_false g2
        rw [show decide (97≤Y∧Y≤122)=false from decide_eq_false (fun h=>g2 h.2)] at hG
        subst hG
        go_enter Tryz.func145,Tryz.ntmps145
        go_wp2_with (go_at_call 173;(with_reducible refine (C.out _).mono ?_);rintro e w' ⟨rfl,rfl⟩)
        go_ret
        exact⟨rfl,rfl⟩
    · rw [show decide (97≤Y∧Y≤122)=false from decide_eq_false (fun h=>g1 h.1)] at hG
      subst hG
      go_enter Tryz.func145,Tryz.ntmps145
      go_wp2_with (go_at_call 173;(with_reducible refine (C.out _).mono ?_);rintro e w' ⟨rfl,rfl⟩)
      go_ret
      exact⟨rfl,rfl⟩
 · rw [show decide (n=2)=false from decide_eq_false h2,Bool.false_and] at hG
   subst hG
   have hb:((n:Int)==2)=false:=beq_false_of_ne (by omega)
   clear hx hy c
   go_enter Tryz.func145,Tryz.ntmps145
   go_wp2
   go_ret
   exact⟨rfl,rfl⟩
def bdB (l:List UInt8):Bool:=decide (1≤l.length∧l.length≤3)&&caps l
theorem below_iter (w:World) (s:ByteArray) (p:Nat):Below w.heap.size w (w.iter s p):=(Below.refl _ _).alloc (Nat.le_refl _) _
theorem next_low {P:Program} {w:World} {s:ByteArray} {k:Nat} {X:Int} (hk:k<s.size) (hX:∀ h,((s[k]'h).toNat:Int)=X) (h:X<128):
 ∀ ty,(Instr.next (.pointer (some ⟨w.heap.size,0,none⟩)) true ty).run P (w.iter s k)=.ok (.tuple #[.bool true,.int .i64 k,.int .i32 X]) (w.iter s (k+1)):=fun ty=>by
 have e:=hX hk
 rw [run_next_ascii w s k ty hk (by omega),e]
theorem next_high {P:Program} {w:World} {s:ByteArray} {k:Nat} {X:Int} (hk:k<s.size) (hX:∀ h,((s[k]'h).toNat:Int)=X) (h:¬X<128):
 ∃ (R:Int) (d:Nat),128≤R∧R≤2147483647∧∀ ty,(Instr.next (.pointer (some ⟨w.heap.size,0,none⟩)) true ty).run P (w.iter s k)=.ok (.tuple #[.bool true,.int .i64 k,.int .i32 R]) (w.iter s (k+d)):=by
 have e:=hX hk
 have h1:=decode_high s k hk (by omega)
 have h2:=decode_le s k
 exact⟨(Utf8.decode s k).1,(Utf8.decode s k).2,by omega,by omega,fun ty=>run_next_any w s k ty hk⟩
set_option maxRecDepth 100000 in
set_option maxHeartbeats 2000000 in
theorem bd59 (l:List UInt8) (w:World) (hl:l.length≤1000000):Calls Tryz.prog 146 #[.string (bs l)] w fun e w'=>e=.returned (.bool (bdB l))∧Below w.heap.size w w':=by
 have hsz:=bs_size l
 obtain⟨n,hn⟩:∃ n,l.length=n:=⟨_,rfl⟩
 have hB:bdB l=(decide (1≤n∧n≤3)&&caps l):=by unfold bdB;rw [hn]
 rw [hn] at hsz hl
 have HN:=Lib.hid hn
 have HB:=Lib.hid hB
 have HX:=Lib.hid (fun k=>bs_oct l k)
 clear hn hB
 obtain⟨S,hS⟩:∃ S,bs l=S:=⟨_,rfl⟩
 rw [hS] at hsz HX ⊢
 clear hS
 go_enter Tryz.func146,Tryz.ntmps146
 go_wp2
 go_loopw [2] (fun v wr=>v=.bool false∧∃ k:Nat,wr=w.iter S k∧k≤n∧caps l=caps (l.drop k)) (fun _ wr=>n-wr.iterPos w.heap.size)
 case atStart=>exact⟨rfl,0,rfl,Nat.zero_le _,rfl⟩
 case round=>
  obtain⟨rfl,k,rfl,hkn,hv⟩:=hrel
  by_cases hlt:k<n
  · have hlt':k<l.length:=by rw [HN.out];exact hlt
    have hx:=HX.out k
    have hxr:=oct_range l k
    rw [caps_drop hlt'] at hv
    obtain⟨X,hX⟩:∃ X,oct l k=X:=⟨_,rfl⟩
    rw [hX] at hx hv hxr
    clear hX hlt'
    obtain⟨hx0,hx1⟩:=hxr
    have hks:k<S.size:=by rw [hsz];exact hlt
    by_cases hasc:X<128
    · have hnx:=next_low (P:=Tryz.prog) (w:=w) hks hx hasc
      have c:=fun w=>cap75 X w
      unfold capB at c
      cases hc:decide (65≤X∧X≤90) with
      | true=>
       rw [hc,Bool.true_and] at hv
       rw [hc] at c
       have HV:=Lib.hid hv
       have C:=Lib.hid c
       clear hv hx hc c hks
       go_wp2_with (go_at_call 173;(with_reducible refine (C.out _).mono ?_);rintro e w' ⟨rfl,rfl⟩)
       go_roundw
       case rel=>exact⟨rfl,k+1,rfl,by omega,HV.out⟩
       case measure=>simp;omega
      | false=>
       rw [hc,Bool.false_and] at hv
       rw [hc] at c
       have HV:=Lib.hid hv
       have C:=Lib.hid c
       clear hv hx hc c hks
       go_wp2_with (go_at_call 173;(with_reducible refine (C.out _).mono ?_);rintro e w' ⟨rfl,rfl⟩)
       go_ret
       exact⟨by rw [HB.out,HV.out,Bool.and_false];rfl,below_iter w S _⟩
    · obtain⟨R,d,hR1,hR2,hnx⟩:=next_high (P:=Tryz.prog) (w:=w) hks hx hasc
      rw [show decide (65≤X∧X≤90)=false from decide_eq_false (by omega),Bool.false_and] at hv
      have c:=fun w=>cap75 R w
      rw [show capB R=false from decide_eq_false (by omega)] at c
      have HV:=Lib.hid hv
      have C:=Lib.hid c
      clear hv hx c hks
      go_wp2_with (go_at_call 173;(with_reducible refine (C.out _).mono ?_);rintro e w' ⟨rfl,rfl⟩)
      go_ret
      exact⟨by rw [HB.out,HV.out,Bool.and_false];rfl,below_iter w S _⟩
  · have hke:k=n:=by omega
    subst hke
    rw [List.drop_of_length_le (by rw [HN.out];exact Nat.le_refl _)] at hv
    have hv:caps l=true:=hv
    have hB:=HB.out
    rw [hv,Bool.and_true] at hB
    have HB2:=Lib.hid hB
    have hks:¬k<S.size:=by rw [hsz];exact hlt
    have hnx:∀ ty,(Instr.next (.pointer (some ⟨w.heap.size,0,none⟩)) true ty).run Tryz.prog (w.iter S k)=.ok (.tuple #[.bool false]) (w.iter S k):=fun ty=>run_next_end w S k ty hks
    clear hv hB HB hks hlt
    by_cases h1:1≤k
    · by_cases h3:k≤3
      · rw [show decide (1≤k∧k≤3)=true from decide_eq_true ⟨h1,h3⟩] at HB2
        have h3i:decide ((k:Int)≤3)=true:=decide_eq_true (by omega)
        go_wp2
        go_ret
        exact⟨by rw [HB2.out];rfl,below_iter w S _⟩
      · rw [show decide (1≤k∧k≤3)=false from decide_eq_false (fun h=>h3 h.2)] at HB2
        have h3i:decide ((k:Int)≤3)=false:=decide_eq_false (by omega)
        go_wp2
        go_ret
        exact⟨by rw [HB2.out];rfl,below_iter w S _⟩
    · rw [show decide (1≤k∧k≤3)=false from decide_eq_false (fun h=>h1 h.1)] at HB2
      obtain rfl:k=0:=by omega
      go_wp2
      go_ret
      exact⟨by rw [HB2.out];rfl,below_iter w S _⟩
end Go.Proofs.YtmellioacefjjaaGreatDoor.Uc
namespace Go.Proofs.YtmellioacefjjaaGreatDoor
open Go.RowKit
def digs:List UInt8:=[48,49,50,51,52,53,54,55,56,57,65,66,67,68,69,70]
def val (c:UInt8):Int:=Lib.indexByte digs c
def dch (d:Nat):UInt8:=digs.getD (d%16) 0
set_option maxRecDepth 100000 in
theorem val_all:∀ n:Fin 256,val (UInt8.ofNat n.val)=(if 48≤n.val∧n.val≤57 then (n.val:Int)-48 else if 65≤n.val∧n.val≤70 then (n.val:Int)-55 else -1):=by decide
theorem val_eq (c:UInt8):val c=(if 48≤c.toNat∧c.toNat≤57 then (c.toNat:Int)-48 else if 65≤c.toNat∧c.toNat≤70 then (c.toNat:Int)-55 else -1):=by
 have:=val_all ⟨c.toNat,c.toNat_lt⟩
 simpa using this
theorem val_range (c:UInt8):-1≤val c∧val c<16:=by
 rw [val_eq]
 split
 · omega
 · split <;> omega
set_option maxRecDepth 100000 in
theorem dch_val:∀ n:Fin 256,0≤val (UInt8.ofNat n.val)→dch (val (UInt8.ofNat n.val)).toNat=UInt8.ofNat n.val:=by decide
theorem dch_of {c:UInt8} (h:0≤val c):dch (val c).toNat=c:=by
 have:=dch_val ⟨c.toNat,c.toNat_lt⟩
 simp at this
 exact this h
theorem val_dch:∀ d:Fin 16,val (dch d.val)=d.val:=by decide
theorem val_dch' (d:Nat) (h:d<16):val (dch d)=d:=val_dch ⟨d,h⟩
def hexv:Nat→List UInt8→Option Nat
 | a,[]=>some a
 | a,c::l=>if val c<0 then none else hexv (a*16+(val c).toNat) l
theorem hexv_snoc:∀ (a:Nat) (l:List UInt8) (c:UInt8),hexv a (l ++ [c])=(hexv a l).bind fun b=>if val c<0 then none else some (b*16+(val c).toNat)
 | a,[],c=>by simp [hexv]
 | a,x::l,c=>by
  rw [List.cons_append,hexv,hexv]
  split
  · rfl
  · exact hexv_snoc _ l c
def dn:Nat→Nat→List UInt8
 | 0,_=>[]
 | n+1,c=>dn n (c/16) ++ [dch (c%16)]
theorem dn_length:∀ n c,(dn n c).length=n
 | 0,_=>rfl
 | n+1,c=>by simp [dn,dn_length n]
theorem dn_cons:∀ n c,dn (n+1) c=dch (c/16 ^ n%16)::dn n c
 | 0,c=>by simp [dn]
 | n+1,c=>by
  rw [dn,dn_cons n (c/16),List.cons_append,Nat.div_div_eq_div_mul,←Nat.pow_succ',dn]
theorem hexv_dn:∀ n c,c<16 ^ n→hexv 0 (dn n c)=some c
 | 0,c,h=>by simp at h;subst h;rfl
 | n+1,c,h=>by
  rw [dn,hexv_snoc,hexv_dn n (c/16) (by rw [Nat.pow_succ] at h;omega)]
  have:=val_dch' (c%16) (by omega)
  simp [this]
  omega
theorem dn_hexv:∀ (l:List UInt8) (c:Nat),hexv 0 l=some c→l=dn l.length c:=by
 intro l
 generalize hn:l.length=n
 induction n generalizing l with
 | zero=>intro c _;simp [dn];exact List.eq_nil_of_length_eq_zero hn
 | succ n ih=>
  intro c h
  rcases List.eq_nil_or_concat l with rfl | ⟨m,x,rfl⟩
  · simp at hn
  · rw [List.concat_eq_append] at h hn ⊢
    simp at hn
    rw [hexv_snoc] at h
    cases hm:hexv 0 m with
    | none=>rw [hm] at h;simp at h
    | some b=>
     rw [hm] at h
     simp at h
     obtain⟨h1,h2⟩:=h
     have hr:=val_range x
     have e1:c/16=b:=by omega
     have e2:c%16=(val x).toNat:=by omega
     rw [dn,e1,e2,dch_of h1,←ih m hn b hm]
def wid (c:Nat):Nat:=if 1048575<c then 6 else if 65535<c then 5 else 4
def hexT (c:Nat):List UInt8:=dn (wid c) c
theorem wid_range (c:Nat):4≤wid c∧wid c≤6:=by unfold wid;split <;> (try split) <;> omega
theorem wid_pow (c:Nat) (h:c≤1114111):c<16 ^ wid c:=by
 unfold wid
 split
 · omega
 · split <;> omega
theorem hexT_length (c:Nat):(hexT c).length=wid c:=dn_length _ _
def point (l:List UInt8):Option Nat:=(hexv 0 l).bind fun c=>if l.length≤6∧c≤1114111∧l.length=wid c then some c else none
theorem point_hexT (c:Nat) (h:c≤1114111):point (hexT c)=some c:=by
 unfold point
 have h1:hexv 0 (hexT c)=some c:=hexv_dn _ _ (wid_pow c h)
 rw [h1]
 have:=(wid_range c).2
 simp [hexT_length,h,this]
theorem hexT_iff {l:List UInt8} {c:Nat} (h:hexv 0 l=some c):hexT c=l↔l.length=wid c:=by
 constructor
 · intro e;rw [←e,hexT_length]
 · intro e
   have:=dn_hexv l c h
   rw [e] at this
   exact this.symm
def rangeOf (l:List UInt8):Int×Int×Int:=
 if 0≤Lib.index l [46,46] then
  match point (l.take (Lib.index l [46,46]).toNat),point (l.drop ((Lib.index l [46,46]).toNat+2)) with
  | some a,some b=>if b≤a then (0,0,14) else (a,b,0)
  | _,_=>(0,0,13)
 else match point l with
  | some a=>(a,a,0)
  | none=>(0,0,13)
def seqOf (l:List UInt8):Option (List Nat):=if l = [] then some [] else (cutAll 32 l).mapM point
theorem mapM_take {L:List (List UInt8)} (k:Nat) (hk:k<L.length):(L.take (k+1)).mapM point=((L.take k).mapM point).bind fun xs=>(point (L.getD k [])).map fun c=>xs ++ [c]:=by
 rw [List.take_succ_eq_append_getElem hk,List.mapM_append,List.getD_eq_getElem?_getD,List.getElem?_eq_getElem hk]
 cases (L.take k).mapM point with
 | none=>simp
 | some v=>cases h:point L[k] <;> simp [h]
theorem mapM_none {L:List (List UInt8)} {k:Nat} (hk:k<L.length) (h:point (L.getD k [])=none):L.mapM point=none:=by
 have e:L=L.take (k+1)++L.drop (k+1):=(List.take_append_drop _ _).symm
 rw [e,List.mapM_append,mapM_take k hk,h]
 cases (L.take k).mapM point <;> simp
end Go.Proofs.YtmellioacefjjaaGreatDoor
namespace Go.Proofs.YtmellioacefjjaaGreatDoor.Uc
open Go.RowKit
structure Pr where
 a:Int
 b:Int
 gc:List UInt8
 ccc:Int
 bd:List UInt8
 dec:List Nat
def pr0:Pr:=⟨0,0,[],0,[],[]⟩
def pI:Option Nat→Int
 | some c=>c
 | none=>-1
def fld (f:List (List UInt8)) (k:Nat):List UInt8:=f.getD k []
def tagB (l:List UInt8):Bool:=decide (1≤l.length∧oct l 0=60)
def okB (f:List (List UInt8)):Bool:=gcB (fld f 2)&&(decide (0≤cccOf (fld f 3))&&bdB (fld f 4))
def decErr (l:List UInt8):Int:=if tagB l=true then 0 else match seqOf l with
 | none=>13
 | some cs=>if 2<cs.length then 16 else 0
def decVal (l:List UInt8):List Nat:=if tagB l=true then [] else (seqOf l).getD []
def rowErr (f:List (List UInt8)):Int:=if ¬f.length=15 then 12 else match point (fld f 0) with
 | none=>13
 | some _=>if okB f=false then 16 else decErr (fld f 5)
def rowVal (f:List (List UInt8)):Pr:=⟨pI (point (fld f 0)),pI (point (fld f 0)),fld f 2,cccOf (fld f 3),fld f 4,decVal (fld f 5)⟩
def rowRef (f:List (List UInt8)):Pr:=if rowErr f=0 then rowVal f else pr0
theorem row_len {f:List (List UInt8)} (h:¬f.length=15):rowErr f=12:=by unfold rowErr;rw [if_pos h]
theorem row_hex {f:List (List UInt8)} (h:f.length=15) (hp:point (fld f 0)=none):rowErr f=13:=by unfold rowErr;rw [if_neg (by simp [h]),hp]
theorem row_val {f:List (List UInt8)} {c:Nat} (h:f.length=15) (hp:point (fld f 0)=some c) (ho:okB f=false):rowErr f=16:=by unfold rowErr;rw [if_neg (by simp [h]),hp];simp only [ho,if_true]
theorem row_dec {f:List (List UInt8)} {c:Nat} (h:f.length=15) (hp:point (fld f 0)=some c) (ho:okB f=true):rowErr f=decErr (fld f 5):=by unfold rowErr;rw [if_neg (by simp [h]),hp];simp [ho]
theorem row_ok {f:List (List UInt8)} (h:rowErr f=0):f.length=15∧(∃ c,point (fld f 0)=some c)∧okB f=true∧decErr (fld f 5)=0:=by
 unfold rowErr at h
 split at h
 · cases h
 · rename_i hl
   split at h
   · cases h
   · rename_i c hc
     split at h
     · cases h
     · rename_i ho
       exact⟨by omega,⟨c,hc⟩,by simpa using ho,h⟩
theorem dec_two {l:List UInt8} (h:decErr l=0):(decVal l).length≤2:=by
 unfold decErr at h
 unfold decVal
 split
 · simp
 · rename_i ht
   rw [if_neg ht] at h
   cases hs:seqOf l with
   | none=>rw [hs] at h;cases h
   | some cs=>
    rw [hs] at h
    simp only at h
    split at h
    · cases h
    · simp;omega
theorem point_range {l:List UInt8} {c:Nat} (h:point l=some c):c≤1114111:=by
 unfold point at h
 cases hh:hexv 0 l with
 | none=>rw [hh] at h;cases h
 | some x=>
  rw [hh,Option.bind_some] at h
  split at h
  · rename_i hc
    cases h
    exact hc.2.1
  · cases h
def nmF:List UInt8:=[44,32,70,105,114,115,116,62]
def nmL:List UInt8:=[44,32,76,97,115,116,62]
def joinB (f g:List (List UInt8)):Bool:=
 namedB (fld g 1) nmL&&(decide ((rowVal f).gc=(rowVal g).gc)&&(decide ((rowVal f).ccc=(rowVal g).ccc)&&(decide ((rowVal f).bd=(rowVal g).bd)&&(decide (fld f 5 = [])&&(decide (fld g 5 = [])&&decide ((rowVal f).a<(rowVal g).a))))))
structure Res where
 rows:List Pr
 err:Int
 num:Int
def lastB:List Pr→Option Int
 | []=>none
 | [p]=>some p.b
 | _::p::t=>lastB (p::t)
theorem lastB_snoc:∀ (l:List Pr) (p:Pr),lastB (l ++ [p])=some p.b
 | [],_=>rfl
 | [_],_=>rfl
 | _::q::t,p=>lastB_snoc (q::t) p
def twice (out:List Pr) (r:Pr):Bool:=match lastB out with
 | none=>false
 | some b=>decide (r.a≤b)
def refP:List Pr→List Ln→Res
 | out,[]=>⟨out,0,0⟩
 | out,x::t=>
  if ¬rowErr x.2=0 then ⟨[],rowErr x.2,x.1⟩ else
  if twice out (rowVal x.2)=true then ⟨[],15,x.1⟩ else
  if namedB (fld x.2 1) nmF=true then
   match t with
   | []=>⟨[],14,x.1⟩
   | y::t'=>if ¬rowErr y.2=0 then ⟨[],rowErr y.2,y.1⟩ else if joinB x.2 y.2=false then ⟨[],14,x.1⟩ else refP (out ++ [{ rowVal x.2 with b:=(rowVal y.2).a }]) t'
  else refP (out ++ [rowVal x.2]) t
def parseOf (l:List Ln):Res:=refP [] l
inductive St where
 | bad (e n:Int)
 | at (rows:List Pr) (op:Option Ln)
def setB (l:List Pr) (b:Int):List Pr:=l.dropLast++(l.getLast?.map fun p=>{ p with b:=b }).toList
def step:St→Ln→St
 | .bad e n,_=>.bad e n
 | .at out none,x=>
  if ¬rowErr x.2=0 then .bad (rowErr x.2) x.1 else
  if twice out (rowVal x.2)=true then .bad 15 x.1 else
  .at (out ++ [rowVal x.2]) (if namedB (fld x.2 1) nmF=true then some x else none)
 | .at out (some x),y=>
  if ¬rowErr y.2=0 then .bad (rowErr y.2) y.1 else
  if joinB x.2 y.2=false then .bad 14 x.1 else .at (setB out (rowVal y.2).a) none
def fin:St→Res
 | .bad e n=>⟨[],e,n⟩
 | .at out none=>⟨out,0,0⟩
 | .at _ (some x)=>⟨[],14,x.1⟩
theorem fold_bad (e n:Int):∀ l:List Ln,l.foldl step (.bad e n)=.bad e n
 | []=>rfl
 | _::t=>fold_bad e n t
theorem setB_snoc (out:List Pr) (p:Pr) (b:Int):setB (out ++ [p]) b=out ++ [{ p with b:=b }]:=by simp [setB]
theorem fold_ref:∀ (l:List Ln) (out:List Pr),fin (l.foldl step (.at out none))=refP out l
 | [],out=>by simp [fin,refP]
 | x::t,out=>by
  rw [List.foldl_cons,refP.eq_def]
  simp only []
  simp only [step]
  by_cases h1:¬rowErr x.2=0
  · rw [if_pos h1,if_pos h1,fold_bad];rfl
  rw [if_neg h1,if_neg h1]
  by_cases h2:twice out (rowVal x.2)=true
  · rw [if_pos h2,if_pos h2,fold_bad];rfl
  rw [if_neg h2,if_neg h2]
  by_cases h3:namedB (fld x.2 1) nmF=true
  · rw [if_pos h3,if_pos h3]
    cases t with
    | nil=>rfl
    | cons y t'=>
     rw [List.foldl_cons]
     simp only [step]
     by_cases h4:¬rowErr y.2=0
     · rw [if_pos h4,if_pos h4,fold_bad];rfl
     rw [if_neg h4,if_neg h4]
     by_cases h5:joinB x.2 y.2=false
     · rw [if_pos h5,if_pos h5,fold_bad];rfl
     rw [if_neg h5,if_neg h5,setB_snoc]
     exact fold_ref t' _
  · rw [if_neg h3,if_neg h3]
    exact fold_ref t _
theorem fold_parse (l:List Ln):fin (l.foldl step (.at [] none))=parseOf l:=fold_ref l []
end Go.Proofs.YtmellioacefjjaaGreatDoor.Uc
