/- A part. -/
import Derived.Test.YtbkgbhlmeeodgaaGreatDoorQc14
namespace Go.Proofs.YtbkgbhlmeeodgaaGreatDoor.Uc
open Go.RowKit
theorem pre_tag (l:List UInt8):Lib.hasPrefix l [60]=tagB l:=by
 unfold tagB oct
 rw [Bool.eq_iff_iff,decide_eq_true_eq]
 cases l with
 | nil=>simp [Lib.hasPrefix]
 | cons x t=>
  simp [Lib.hasPrefix]
  constructor
  · intro h;rw [←h];rfl
  · intro h;exact UInt8.toNat_inj.1 (by show 60=x.toNat;omega)
theorem suf_iff (s e:List UInt8):Lib.hasSuffix s e=true↔e <:+ s:=by
 unfold Lib.hasSuffix
 simp
theorem named_eq (s e:List UInt8):(Lib.hasPrefix s [60]&&Lib.hasSuffix s e)=namedB s e:=by
 rw [pre_tag,Bool.eq_iff_iff,named_iff,Bool.and_eq_true,suf_iff]
 unfold tagB
 rw [decide_eq_true_eq,and_assoc]
set_option maxRecDepth 100000 in
set_option maxHeartbeats 1000000 in
theorem named36 (s e:List UInt8) (w:World) (hl:s.length≤1000000):Calls Tryz.prog 140 #[.string (bs s),.string (bs e)] w fun r w'=>r=.returned (.bool (namedB s e))∧w=w':=by
 have c63:=Tryz.strings_HasPrefix (bs s) ⟨#[60]⟩ w
 have c64:=Tryz.strings_HasSuffix (bs s) (bs e) w (by rw [bs_size];omega)
 rw [bs_data] at c63 c64
 rw [bs_data] at c64
 rw [←named_eq]
 have e60:(⟨#[60]⟩:ByteArray).data.toList = [60]:=rfl
 rw [e60] at c63
 obtain⟨P,hP⟩:∃ P,Lib.hasPrefix s [60]=P:=⟨_,rfl⟩
 obtain⟨Q,hQ⟩:∃ Q,Lib.hasSuffix s e=Q:=⟨_,rfl⟩
 rw [hP] at c63 ⊢
 rw [hQ] at c64 ⊢
 obtain⟨S,hS⟩:∃ S,bs s=S:=⟨_,rfl⟩
 obtain⟨E,hE⟩:∃ E,bs e=E:=⟨_,rfl⟩
 rw [hS] at c63 c64 ⊢
 rw [hE] at c64 ⊢
 clear hP hQ hS hE e60 hl
 cases P with
 | true=>
  go_enter Tryz.func140,Tryz.ntmps140
  go_wp2_with (first
   | (go_at_call 179;(with_reducible refine c63.mono ?_);rintro e w' ⟨rfl,rfl⟩)
   | (go_at_call 180;(with_reducible refine c64.mono ?_);rintro e w' ⟨rfl,rfl⟩))
  go_ret
  exact⟨rfl,rfl⟩
 | false=>
  clear c64
  go_enter Tryz.func140,Tryz.ntmps140
  go_wp2_with (go_at_call 179;(with_reducible refine c63.mono ?_);rintro e w' ⟨rfl,rfl⟩)
  go_ret
  exact⟨rfl,rfl⟩
set_option maxRecDepth 100000 in
set_option maxHeartbeats 1000000 in
theorem clone61 (S:ByteArray) (w:World) (hl:S.size≤1000000):Calls Tryz.prog 145 #[.string S] w fun e w'=>e=.returned (.string S)∧Below w.heap.size w w':=by
 have c77:=Tryz.stringslite_Clone S w (by omega)
 go_enter Tryz.func145,Tryz.ntmps145
 go_wp2_with (go_at_call 185;(with_reducible refine c77.mono ?_);rintro e w' ⟨rfl,hb⟩)
 go_ret
 exact⟨rfl,hb⟩
def DecPost (l:List UInt8) (w:World) (e:Ending) (w':World):Prop:=
 Below w.heap.size w w'∧∃ A n ca,e=.returned (.tuple #[.slice A n ca,.int .i64 (decErr l)])∧Hid (decErr l=0→n=(decVal l).length∧Vals w' A n (i64s (decVal l))∧∀ a,A=some a→w.heap.size≤a.block)
set_option maxRecDepth 100000 in
set_option maxHeartbeats 2000000 in
theorem dec60 (l:List UInt8) (w:World) (hl:l.length≤4000) (hM:ML w):Calls Tryz.prog 177 #[.string (bs l)] w (DecPost l w):=by
 have c63:=Tryz.strings_HasPrefix (bs l) ⟨#[60]⟩ w
 have e60:(⟨#[60]⟩:ByteArray).data.toList = [60]:=rfl
 rw [e60,bs_data,pre_tag] at c63
 have c76:=sequence15 l w hl hM
 obtain⟨S,hS⟩:∃ S,bs l=S:=⟨_,rfl⟩
 rw [hS] at c63 c76 ⊢
 clear hS e60 hM
 cases ht:tagB l with
 | true=>
  rw [ht] at c63
  have HD:Hid (decErr l=0):=Lib.hid (by unfold decErr;rw [if_pos ht])
  have HV:Hid (decVal l = []):=Lib.hid (by unfold decVal;rw [if_pos ht])
  clear ht c76
  go_enter Tryz.func177,Tryz.ntmps177
  go_wp2_with (go_at_call 179;(with_reducible refine c63.mono ?_);rintro e w' ⟨rfl,rfl⟩)
  go_ret2
  exact⟨Below.refl _ _,none,0,0,by rw [HD.out];rfl,Lib.hid fun _=>⟨by rw [HV.out];rfl,by rw [HV.out];exact Vals.nil _ _,fun a h=>by cases h⟩⟩
 | false=>
  rw [ht] at c63
  have hde:=dec_err ht
  cases hs:seqOf l with
  | none=>
   replace c76:=c76.mono (fun e w' h=>seq_none hs h)
   rw [hs] at hde
   have HD:=Lib.hid hde
   clear ht hs hde
   go_enter Tryz.func177,Tryz.ntmps177
   go_wp2_with (first
    | (go_at_call 179;(with_reducible refine c63.mono ?_);rintro e w' ⟨rfl,rfl⟩)
    | (go_at_call 154;(with_reducible refine c76.mono ?_);rintro e w3 ⟨rfl,hb3⟩))
   go_ret2
   exact⟨hb3,none,0,0,by rw [HD.out];rfl,Lib.hid fun h=>by rw [HD.out] at h;cases h⟩
  | some cs=>
   replace c76:=c76.mono (fun e w' h=>seq_some hs h)
   rw [hs] at hde
   have HV:Hid (decVal l=cs):=Lib.hid (by unfold decVal;rw [if_neg (by rw [ht];decide),hs];rfl)
   by_cases hlong:2<cs.length
   · have HD:Hid (decErr l=16):=Lib.hid (by rw [hde];simp only [if_pos hlong])
     have hlI:2<(cs.length:Int):=by omega
     clear ht hs hde
     go_enter Tryz.func177,Tryz.ntmps177
     go_wp2_with (first
      | (go_at_call 179;(with_reducible refine c63.mono ?_);rintro e w' ⟨rfl,rfl⟩)
      | (go_at_call 154;(with_reducible refine c76.mono ?_);rintro e w3 ⟨hb3,A3,ca3,rfl,hV3⟩))
     go_ret2
     exact⟨hb3,none,0,0,by rw [HD.out];rfl,Lib.hid fun h=>by rw [HD.out] at h;cases h⟩
   · have HD:Hid (decErr l=0):=Lib.hid (by rw [hde];simp only [if_neg hlong])
     have hlI:¬2<(cs.length:Int):=by omega
     clear ht hs hde
     go_enter Tryz.func177,Tryz.ntmps177
     go_wp2_with (first
      | (go_at_call 179;(with_reducible refine c63.mono ?_);rintro e w' ⟨rfl,rfl⟩)
      | (go_at_call 154;(with_reducible refine c76.mono ?_);rintro e w3 ⟨hb3,A3,ca3,rfl,hV3⟩))
     go_ret2
     exact⟨hb3,A3,cs.length,ca3,by rw [HD.out];rfl,Lib.hid fun _=>⟨by rw [HV.out],by rw [HV.out];exact hV3.out.1,hV3.out.2⟩⟩
def enV (num:Int) (nm:ByteArray) (bare:Bool) (s:Rw):Value:=.agg #[.int .i64 num,.string nm,.bool bare,.int .i64 s.a,.int .i64 s.b,.string (bs s.gc),.int .i64 s.ccc,.string (bs s.bd),.slice s.dp s.dm s.dc]
def Box9 (w:World) (b:Nat) (v0 v1 v2 v3 v4 v5 v6 v7 v8:Value):Prop:=
 (w.cell? ⟨b,0,none⟩=some v0∧w.cell? ⟨b,1,none⟩=some v1∧w.cell? ⟨b,2,none⟩=some v2∧w.cell? ⟨b,3,none⟩=some v3∧w.cell? ⟨b,4,none⟩=some v4∧w.cell? ⟨b,5,none⟩=some v5∧w.cell? ⟨b,6,none⟩=some v6∧w.cell? ⟨b,7,none⟩=some v7∧w.cell? ⟨b,8,none⟩=some v8)∧∀ i,w.frozen? ⟨b,i,none⟩=false
theorem Box9.below {w w':World} {b:Nat} {v0 v1 v2 v3 v4 v5 v6 v7 v8:Value} (h:Box9 w b v0 v1 v2 v3 v4 v5 v6 v7 v8) (hl:b<w.heap.size) (hb:Below w.heap.size w w'):Box9 w' b v0 v1 v2 v3 v4 v5 v6 v7 v8:=by
 obtain⟨⟨h0,h1,h2,h3,h4,h5,h6,h7,h8⟩,hf⟩:=h
 exact⟨⟨(hb.cell (p:=⟨b,0,none⟩) hl).trans h0,(hb.cell (p:=⟨b,1,none⟩) hl).trans h1,(hb.cell (p:=⟨b,2,none⟩) hl).trans h2,(hb.cell (p:=⟨b,3,none⟩) hl).trans h3,(hb.cell (p:=⟨b,4,none⟩) hl).trans h4,(hb.cell (p:=⟨b,5,none⟩) hl).trans h5,(hb.cell (p:=⟨b,6,none⟩) hl).trans h6,(hb.cell (p:=⟨b,7,none⟩) hl).trans h7,(hb.cell (p:=⟨b,8,none⟩) hl).trans h8⟩,fun i=>(hb.frozen (p:=⟨b,i,none⟩) hl).trans (hf i)⟩
theorem box9_new (w:World) (v0 v1 v2 v3 v4 v5 v6 v7 v8:Value) (t:TypeId):Box9 (w.alloc (.cells #[v0,v1,v2,v3,v4,v5,v6,v7,v8] t)) w.heap.size v0 v1 v2 v3 v4 v5 v6 v7 v8:=by
 refine⟨⟨by simp,by simp,by simp,by simp,by simp,by simp,by simp,by simp,by simp⟩,fun i=>?_⟩
 have h2:=World.alloc_heap_new w (.cells #[v0,v1,v2,v3,v4,v5,v6,v7,v8] t)
 simp only [World.frozen?]
 rw [h2]
 simp
theorem below_nine {w v:World} {r:Nat} {v0 v1 v2 v3 v4 v5 v6 v7 v8:Value} (h:Below w.heap.size w v) (hr:w.heap.size≤r):
 Below w.heap.size w (((((((((v.setCell ⟨r,0,none⟩ v0).setCell ⟨r,1,none⟩ v1).setCell ⟨r,2,none⟩ v2).setCell ⟨r,3,none⟩ v3).setCell ⟨r,4,none⟩ v4).setCell ⟨r,5,none⟩ v5).setCell ⟨r,6,none⟩ v6).setCell ⟨r,7,none⟩ v7).setCell ⟨r,8,none⟩ v8):=
 below_set (below_set (below_set (below_set (below_set (below_set (below_set (below_set (below_set h hr _ _) hr _ _) hr _ _) hr _ _) hr _ _) hr _ _) hr _ _) hr _ _) hr _ _
theorem vals_set9 {w:World} {A:Option Addr} {n b:Nat} {vs:List Value} {v0 v1 v2 v3 v4 v5 v6 v7 v8:Value} (h:Vals w A n vs) (hA:∀ a,A=some a→¬a.block=b):
 Vals (((((((((w.setCell ⟨b,0,none⟩ v0).setCell ⟨b,1,none⟩ v1).setCell ⟨b,2,none⟩ v2).setCell ⟨b,3,none⟩ v3).setCell ⟨b,4,none⟩ v4).setCell ⟨b,5,none⟩ v5).setCell ⟨b,6,none⟩ v6).setCell ⟨b,7,none⟩ v7).setCell ⟨b,8,none⟩ v8) A n vs:=
 vals_set (vals_set (vals_set (vals_set6 h hA) hA) hA) hA
def EntBad (f:List (List UInt8)) (w:World) (e:Ending) (w':World):Prop:=e=.returned (.tuple #[enV 0 ⟨#[]⟩ false rw0,.int .i64 (rowErr f)])∧Below w.heap.size w w'
def EntOk (num:Int) (f:List (List UInt8)) (w:World) (e:Ending) (w':World):Prop:=
 Below w.heap.size w w'∧∃ s:Rw,e=.returned (.tuple #[enV num (bs (fld f 1)) (decide (fld f 5 = [])) s,.int .i64 0])∧Hid (Is w' s (rowVal f)∧∀ a,s.dp=some a→w.heap.size≤a.block)
theorem ent_bad {f:List (List UInt8)} {e:Int} {w w':World} (h:rowErr f=e) (hb:Below w.heap.size w w'):EntBad f w (.returned (.tuple #[enV 0 ⟨#[]⟩ false rw0,.int .i64 e])) w':=⟨by rw [h],hb⟩
def EntW (w:World) (num:Int) (b off:Nat) (S0 S1 S2 S3 S4 S5:ByteArray) (W:World):Prop:=
 (Box9 W (w.heap.size+1) (.int .i64 0) (.string ⟨#[]⟩) (.bool false) (.int .i64 0) (.int .i64 0) (.string ⟨#[]⟩) (.int .i64 0) (.string ⟨#[]⟩) (.slice none 0 0)∧W.cell? ⟨w.heap.size,0,none⟩=some (.int .i64 num)) ∧
 (W.cell? ⟨b,off,none⟩=some (.string S0)∧W.cell? ⟨b,off+1,none⟩=some (.string S1)∧W.cell? ⟨b,off+2,none⟩=some (.string S2)∧W.cell? ⟨b,off+3,none⟩=some (.string S3)∧W.cell? ⟨b,off+4,none⟩=some (.string S4)∧W.cell? ⟨b,off+5,none⟩=some (.string S5)) ∧
 (ML W∧Below w.heap.size w W∧w.heap.size+1<W.heap.size∧b<W.heap.size)
theorem EntW.below {w:World} {num:Int} {b off:Nat} {S0 S1 S2 S3 S4 S5:ByteArray} {W W':World} (h:EntW w num b off S0 S1 S2 S3 S4 S5 W) (hb:Below W.heap.size W W'):EntW w num b off S0 S1 S2 S3 S4 S5 W':=by
 obtain⟨⟨h1,h2⟩,⟨f0,f1,f2,f3,f4,f5⟩,hM,hB,hs,hbb⟩:=h
 exact⟨⟨h1.below hs hb,(hb.cell (p:=⟨w.heap.size,0,none⟩) (by show w.heap.size<_;omega)).trans h2⟩,⟨(hb.cell (p:=⟨b,off,none⟩) hbb).trans f0,(hb.cell (p:=⟨b,off+1,none⟩) hbb).trans f1,(hb.cell (p:=⟨b,off+2,none⟩) hbb).trans f2,(hb.cell (p:=⟨b,off+3,none⟩) hbb).trans f3,(hb.cell (p:=⟨b,off+4,none⟩) hbb).trans f4,(hb.cell (p:=⟨b,off+5,none⟩) hbb).trans f5⟩,
  hM.below hb,hB.trans (hb.mono (by have:=hB.size;omega)),Nat.lt_of_lt_of_le hs hb.size,Nat.lt_of_lt_of_le hbb hb.size⟩
theorem entW_first (w:World) (num:Int) (cf b off:Nat) (S0 S1 S2 S3 S4 S5:ByteArray) (hbl:b<w.heap.size) (q0:w.cell? ⟨b,off,none⟩=some (.string S0)) (q1:w.cell? ⟨b,off+1,none⟩=some (.string S1)) (q2:w.cell? ⟨b,off+2,none⟩=some (.string S2)) (q3:w.cell? ⟨b,off+3,none⟩=some (.string S3)) (q4:w.cell? ⟨b,off+4,none⟩=some (.string S4)) (q5:w.cell? ⟨b,off+5,none⟩=some (.string S5)) (hM:ML w):
 EntW w num b off S0 S1 S2 S3 S4 S5 ((w.alloc (.cells #[.int .i64 num,.slice (some ⟨b,off,none⟩) 15 cf] 164)).alloc (.cells #[.int .i64 0,.string ⟨#[]⟩,.bool false,.int .i64 0,.int .i64 0,.string ⟨#[]⟩,.int .i64 0,.string ⟨#[]⟩,.slice none 0 0] 158)):=by
 have hb:Below w.heap.size w ((w.alloc (.cells #[.int .i64 num,.slice (some ⟨b,off,none⟩) 15 cf] 164)).alloc (.cells #[.int .i64 0,.string ⟨#[]⟩,.bool false,.int .i64 0,.int .i64 0,.string ⟨#[]⟩,.int .i64 0,.string ⟨#[]⟩,.slice none 0 0] 158)):=((Below.refl _ _).alloc (Nat.le_refl _) _).alloc (by simp) _
 have hx:=box9_new (w.alloc (.cells #[.int .i64 num,.slice (some ⟨b,off,none⟩) 15 cf] 164)) (.int .i64 0) (.string ⟨#[]⟩) (.bool false) (.int .i64 0) (.int .i64 0) (.string ⟨#[]⟩) (.int .i64 0) (.string ⟨#[]⟩) (.slice none 0 0) 158
 rw [World.size_alloc] at hx
 exact⟨⟨hx,by simp⟩,⟨(hb.cell (p:=⟨b,off,none⟩) hbl).trans q0,(hb.cell (p:=⟨b,off+1,none⟩) hbl).trans q1,(hb.cell (p:=⟨b,off+2,none⟩) hbl).trans q2,(hb.cell (p:=⟨b,off+3,none⟩) hbl).trans q3,(hb.cell (p:=⟨b,off+4,none⟩) hbl).trans q4,(hb.cell (p:=⟨b,off+5,none⟩) hbl).trans q5⟩,hM.below hb,hb,by simp,by simp;omega⟩
theorem entW_next {w:World} {num:Int} {b off:Nat} {S0 S1 S2 S3 S4 S5:ByteArray} {W W1 W':World} (h:EntW w num b off S0 S1 S2 S3 S4 S5 W) (hb:Below W1.heap.size W1 W') (h1:Below W.heap.size W W1:=by first | (with_reducible exact Below.refl _ _) | (with_reducible exact below_drew (Below.refl _ _)) | (with_reducible exact (Below.refl _ _).alloc (Nat.le_refl _) _) | (with_reducible exact below_drew ((Below.refl _ _).alloc (Nat.le_refl _) _))):EntW w num b off S0 S1 S2 S3 S4 S5 W':=(h.below h1).below hb
set_option maxRecDepth 100000 in
set_option maxHeartbeats 4000000 in
theorem ent34_len (num:Int) (F:Option Addr) (n cf:Nat) (f:List (List UInt8)) (w:World) (hV:Vals w F n (strs f)) (hne:¬n=15):
 Calls Tryz.prog 138 #[.agg #[.int .i64 num,.slice F n cf]] w (EntBad f w):=by
 have hl:f.length=n:=by have:=hV.1;rwa [strs_length] at this
 have HE:=Lib.hid (row_len (f:=f) (by rw [hl];exact hne))
 have hb:((n:Int)==15)=false:=beq_false_of_ne (by omega)
 have hb':((n:Int) != 15)=true:=bne_iff_ne.2 (by omega)
 clear hV hl hne
 go_enter Tryz.func138,Tryz.ntmps138
 go_wp2
 exact bodyPost_ret (v:=.tuple #[enV 0 ⟨#[]⟩ false rw0,.int .i64 12]) (by simp [results,Tryz.results138,go_sem,enV,rw0,bs_nil]) rfl (ent_bad HE.out (((Below.refl _ _).alloc (Nat.le_refl _) _).alloc (by simp) _))
set_option maxRecDepth 100000 in
set_option maxHeartbeats 4000000 in
theorem ent34_hex (num:Int) (F:Option Addr) (cf:Nat) (f:List (List UInt8)) (w:World) (hV:Vals w F 15 (strs f)) (hfl:∀ x∈f,x.length≤4000) (hM:ML w) (hp:point (fld f 0)=none):
 Calls Tryz.prog 138 #[.agg #[.int .i64 num,.slice F 15 cf]] w (EntBad f w):=by
 have hl:f.length=15:=by have:=hV.1;rwa [strs_length] at this
 obtain⟨b,off,rfl,hbl,q0,q1,q2,q3,q4,q5⟩:=flds hV rfl
 have c56:=fun W=>point11 (fld f 0) W (by have:=fld_len hfl 0;omega)
 have c57:=fun W=>ccc57 (fld f 3) W (by have:=fld_len hfl 3;omega)
 have c58:=fun W=>gc58 (fld f 2) W (by have:=fld_len hfl 2;omega)
 have c59:=fun W=>bd59 (fld f 4) W (by have:=fld_len hfl 4;omega)
 have c60:=fun W=>dec60 (fld f 5) W (fld_len hfl 5)
 have hs2:=bs_size (fld f 2)
 have hs4:=bs_size (fld f 4)
 have hl2:=fld_len hfl 2
 have hl4:=fld_len hfl 4
 have hem:=bs_emp (fld f 5)
 obtain⟨S0,hS0⟩:∃ S,bs (fld f 0)=S:=⟨_,rfl⟩
 obtain⟨S1,hS1⟩:∃ S,bs (fld f 1)=S:=⟨_,rfl⟩
 obtain⟨S2,hS2⟩:∃ S,bs (fld f 2)=S:=⟨_,rfl⟩
 obtain⟨S3,hS3⟩:∃ S,bs (fld f 3)=S:=⟨_,rfl⟩
 obtain⟨S4,hS4⟩:∃ S,bs (fld f 4)=S:=⟨_,rfl⟩
 obtain⟨S5,hS5⟩:∃ S,bs (fld f 5)=S:=⟨_,rfl⟩
 rw [hS0] at q0
 rw [hS1] at q1
 rw [hS2] at q2 hs2
 rw [hS3] at q3
 rw [hS4] at q4 hs4
 rw [hS5] at q5 hem
 simp only [hS0] at c56
 simp only [hS3] at c57
 simp only [hS2] at c58
 simp only [hS4] at c59
 simp only [hS5] at c60
 have hz2:S2.size≤4000:=by omega
 have hz4:S4.size≤4000:=by omega
 have EW0:=Lib.hid (entW_first w num cf b off S0 S1 S2 S3 S4 S5 hbl q0 q1 q2 q3 q4 q5 hM)
 obtain⟨⟨⟨⟨y0,y1,y2,y3,y4,y5,y6,y7,y8⟩,yf⟩,yn⟩,⟨f0,f1,f2,f3,f4,f5⟩,-,-,ys,yb⟩:=EW0.out
 have HE:=Lib.hid (row_hex hl hp)
 simp only [hp,ptVal] at c56
 have C56:=Lib.hid c56
 clear hV hfl hl hp hS0 hS1 hS2 hS3 hS4 hS5 c56 c57 c58 c59 c60 hs2 hs4 hl2 hl4 hem q0 q1 q2 q3 q4 q5
 go_enter Tryz.func138,Tryz.ntmps138
 go_wp2_with (go_at_call 153;(with_reducible refine (C56.out _).mono ?_);rintro e w' ⟨rfl,rfl⟩)
 exact bodyPost_ret (v:=.tuple #[enV 0 ⟨#[]⟩ false rw0,.int .i64 13]) (by simp [results,Tryz.results138,go_sem,enV,rw0,bs_nil]) rfl (ent_bad HE.out EW0.out.2.2.2.1)
set_option maxRecDepth 100000 in
set_option maxHeartbeats 4000000 in
theorem ent34_val (num:Int) (F:Option Addr) (cf:Nat) (f:List (List UInt8)) (w:World) (hV:Vals w F 15 (strs f)) (hfl:∀ x∈f,x.length≤4000) (hM:ML w) (c:Nat) (hp:point (fld f 0)=some c) (ho:okB f=false):
 Calls Tryz.prog 138 #[.agg #[.int .i64 num,.slice F 15 cf]] w (EntBad f w):=by
 have hl:f.length=15:=by have:=hV.1;rwa [strs_length] at this
 obtain⟨b,off,rfl,hbl,q0,q1,q2,q3,q4,q5⟩:=flds hV rfl
 have c56:=fun W=>point11 (fld f 0) W (by have:=fld_len hfl 0;omega)
 have c57:=fun W=>ccc57 (fld f 3) W (by have:=fld_len hfl 3;omega)
 have c58:=fun W=>gc58 (fld f 2) W (by have:=fld_len hfl 2;omega)
 have c59:=fun W=>bd59 (fld f 4) W (by have:=fld_len hfl 4;omega)
 have c60:=fun W=>dec60 (fld f 5) W (fld_len hfl 5)
 have hs2:=bs_size (fld f 2)
 have hs4:=bs_size (fld f 4)
 have hl2:=fld_len hfl 2
 have hl4:=fld_len hfl 4
 have hem:=bs_emp (fld f 5)
 obtain⟨S0,hS0⟩:∃ S,bs (fld f 0)=S:=⟨_,rfl⟩
 obtain⟨S1,hS1⟩:∃ S,bs (fld f 1)=S:=⟨_,rfl⟩
 obtain⟨S2,hS2⟩:∃ S,bs (fld f 2)=S:=⟨_,rfl⟩
 obtain⟨S3,hS3⟩:∃ S,bs (fld f 3)=S:=⟨_,rfl⟩
 obtain⟨S4,hS4⟩:∃ S,bs (fld f 4)=S:=⟨_,rfl⟩
 obtain⟨S5,hS5⟩:∃ S,bs (fld f 5)=S:=⟨_,rfl⟩
 rw [hS0] at q0
 rw [hS1] at q1
 rw [hS2] at q2 hs2
 rw [hS3] at q3
 rw [hS4] at q4 hs4
 rw [hS5] at q5 hem
 simp only [hS0] at c56
 simp only [hS3] at c57
 simp only [hS2] at c58
 simp only [hS4] at c59
 simp only [hS5] at c60
 have hz2:S2.size≤4000:=by omega
 have hz4:S4.size≤4000:=by omega
 have EW0:=Lib.hid (entW_first w num cf b off S0 S1 S2 S3 S4 S5 hbl q0 q1 q2 q3 q4 q5 hM)
 obtain⟨⟨⟨⟨y0,y1,y2,y3,y4,y5,y6,y7,y8⟩,yf⟩,yn⟩,⟨f0,f1,f2,f3,f4,f5⟩,-,-,ys,yb⟩:=EW0.out
 have HE:=Lib.hid (row_val hl hp ho)
 simp only [hp,ptVal] at c56
 have hor:gcB (fld f 2)=false∨(gcB (fld f 2)=true∧cccOf (fld f 3)<0)∨(gcB (fld f 2)=true∧0≤cccOf (fld f 3)∧bdB (fld f 4)=false):=by
  unfold okB at ho
  cases hg:gcB (fld f 2) with
  | false=>exact .inl rfl
  | true=>
   rw [hg,Bool.true_and] at ho
   by_cases hc:0≤cccOf (fld f 3)
   · rw [decide_eq_true hc,Bool.true_and] at ho
     exact .inr (.inr ⟨rfl,hc,ho⟩)
   · exact .inr (.inl ⟨rfl,by omega⟩)
 obtain⟨N,hN⟩:∃ N,cccOf (fld f 3)=N:=⟨_,rfl⟩
 unfold cccP at c57
 rw [hN] at hor
 simp only [hN] at c57
 clear hN
 rcases hor with hg | ⟨hg,hc⟩ | ⟨hg,hc,hd⟩
 · simp only [hg] at c58
   by_cases hc:0≤N
   · simp only [if_pos hc] at c57
     clear hg
     have C56:=Lib.hid c56
     have C57:=Lib.hid c57
     have C58:=Lib.hid c58
     have C59:=Lib.hid c59
     have C60:=Lib.hid c60
     have HS2:=Lib.hid hS2
     have HS4:=Lib.hid hS4
     have HS1:=Lib.hid hS1
     clear hV hfl hl hp ho hS0 hS1 hS2 hS3 hS4 hS5 c56 c57 c58 c59 c60 hs2 hs4 hl2 hl4 q0 q1 q2 q3 q4 q5 hM
     go_enter Tryz.func138,Tryz.ntmps138
     go_wp2_with (first
      | (go_at_call 153;(with_reducible refine (C56.out _).mono ?_);rintro e w' ⟨rfl,rfl⟩)
      | (go_at_call 174;(with_reducible refine (C57.out _).mono ?_);rintro e w1 ⟨rfl,hb1⟩;have EW1:=Lib.hid (EW0.out.below hb1);obtain⟨⟨⟨⟨y0,y1,y2,y3,y4,y5,y6,y7,y8⟩,yf⟩,yn⟩,⟨f0,f1,f2,f3,f4,f5⟩,-,-,ys,yb⟩:=EW1.out)
      | (go_at_call 175;(with_reducible refine (C58.out _).mono ?_);rintro e w' ⟨rfl,rfl⟩)
      | (go_at_call 176;(with_reducible refine (C59.out _).mono ?_);rintro e w2 ⟨rfl,hb2⟩;have EW2:=Lib.hid (EW1.out.below hb2);have hM2:=Lib.hid EW2.out.2.2.1;obtain⟨⟨⟨⟨y0,y1,y2,y3,y4,y5,y6,y7,y8⟩,yf⟩,yn⟩,⟨f0,f1,f2,f3,f4,f5⟩,-,-,ys,yb⟩:=EW2.out)
      | (go_at_call 177;(with_reducible refine (C60.out _ hM2.out).mono ?_);rintro e w3 ⟨hb3,A3,n3,ca3,rfl,hV3⟩;have EW3:=Lib.hid (EW2.out.below hb3);obtain⟨⟨⟨⟨y0,y1,y2,y3,y4,y5,y6,y7,y8⟩,yf⟩,yn⟩,⟨f0,f1,f2,f3,f4,f5⟩,-,-,ys,yb⟩:=EW3.out))
     exact bodyPost_ret (v:=.tuple #[enV 0 ⟨#[]⟩ false rw0,.int .i64 16]) (by simp [results,Tryz.results138,go_sem,y0,y1,y2,y3,y4,y5,y6,y7,y8,enV,rw0,bs_nil]) rfl (ent_bad HE.out (below_nine EW1.out.2.2.2.1 (by omega)))
   · simp only [if_neg hc] at c57
     clear hg
     have C56:=Lib.hid c56
     have C57:=Lib.hid c57
     have C58:=Lib.hid c58
     have C59:=Lib.hid c59
     have C60:=Lib.hid c60
     have HS2:=Lib.hid hS2
     have HS4:=Lib.hid hS4
     have HS1:=Lib.hid hS1
     clear hV hfl hl hp ho hS0 hS1 hS2 hS3 hS4 hS5 c56 c57 c58 c59 c60 hs2 hs4 hl2 hl4 q0 q1 q2 q3 q4 q5 hM
     go_enter Tryz.func138,Tryz.ntmps138
     go_wp2_with (first
      | (go_at_call 153;(with_reducible refine (C56.out _).mono ?_);rintro e w' ⟨rfl,rfl⟩)
      | (go_at_call 174;(with_reducible refine (C57.out _).mono ?_);rintro e w1 ⟨rfl,hb1⟩;have EW1:=Lib.hid (EW0.out.below hb1);obtain⟨⟨⟨⟨y0,y1,y2,y3,y4,y5,y6,y7,y8⟩,yf⟩,yn⟩,⟨f0,f1,f2,f3,f4,f5⟩,-,-,ys,yb⟩:=EW1.out)
      | (go_at_call 175;(with_reducible refine (C58.out _).mono ?_);rintro e w' ⟨rfl,rfl⟩)
      | (go_at_call 176;(with_reducible refine (C59.out _).mono ?_);rintro e w2 ⟨rfl,hb2⟩;have EW2:=Lib.hid (EW1.out.below hb2);have hM2:=Lib.hid EW2.out.2.2.1;obtain⟨⟨⟨⟨y0,y1,y2,y3,y4,y5,y6,y7,y8⟩,yf⟩,yn⟩,⟨f0,f1,f2,f3,f4,f5⟩,-,-,ys,yb⟩:=EW2.out)
      | (go_at_call 177;(with_reducible refine (C60.out _ hM2.out).mono ?_);rintro e w3 ⟨hb3,A3,n3,ca3,rfl,hV3⟩;have EW3:=Lib.hid (EW2.out.below hb3);obtain⟨⟨⟨⟨y0,y1,y2,y3,y4,y5,y6,y7,y8⟩,yf⟩,yn⟩,⟨f0,f1,f2,f3,f4,f5⟩,-,-,ys,yb⟩:=EW3.out))
     exact bodyPost_ret (v:=.tuple #[enV 0 ⟨#[]⟩ false rw0,.int .i64 16]) (by simp [results,Tryz.results138,go_sem,y0,y1,y2,y3,y4,y5,y6,y7,y8,enV,rw0,bs_nil]) rfl (ent_bad HE.out (below_nine EW1.out.2.2.2.1 (by omega)))
 · simp only [hg] at c58
   have hc':¬0≤N:=by omega
   simp only [if_neg hc'] at c57
   clear hg
   have C56:=Lib.hid c56
   have C57:=Lib.hid c57
   have C58:=Lib.hid c58
   have C59:=Lib.hid c59
   have C60:=Lib.hid c60
   have HS2:=Lib.hid hS2
   have HS4:=Lib.hid hS4
   have HS1:=Lib.hid hS1
   clear hV hfl hl hp ho hS0 hS1 hS2 hS3 hS4 hS5 c56 c57 c58 c59 c60 hs2 hs4 hl2 hl4 q0 q1 q2 q3 q4 q5 hM
   go_enter Tryz.func138,Tryz.ntmps138
   go_wp2_with (first
    | (go_at_call 153;(with_reducible refine (C56.out _).mono ?_);rintro e w' ⟨rfl,rfl⟩)
    | (go_at_call 174;(with_reducible refine (C57.out _).mono ?_);rintro e w1 ⟨rfl,hb1⟩;have EW1:=Lib.hid (EW0.out.below hb1);obtain⟨⟨⟨⟨y0,y1,y2,y3,y4,y5,y6,y7,y8⟩,yf⟩,yn⟩,⟨f0,f1,f2,f3,f4,f5⟩,-,-,ys,yb⟩:=EW1.out)
    | (go_at_call 175;(with_reducible refine (C58.out _).mono ?_);rintro e w' ⟨rfl,rfl⟩)
    | (go_at_call 176;(with_reducible refine (C59.out _).mono ?_);rintro e w2 ⟨rfl,hb2⟩;have EW2:=Lib.hid (EW1.out.below hb2);have hM2:=Lib.hid EW2.out.2.2.1;obtain⟨⟨⟨⟨y0,y1,y2,y3,y4,y5,y6,y7,y8⟩,yf⟩,yn⟩,⟨f0,f1,f2,f3,f4,f5⟩,-,-,ys,yb⟩:=EW2.out)
    | (go_at_call 177;(with_reducible refine (C60.out _ hM2.out).mono ?_);rintro e w3 ⟨hb3,A3,n3,ca3,rfl,hV3⟩;have EW3:=Lib.hid (EW2.out.below hb3);obtain⟨⟨⟨⟨y0,y1,y2,y3,y4,y5,y6,y7,y8⟩,yf⟩,yn⟩,⟨f0,f1,f2,f3,f4,f5⟩,-,-,ys,yb⟩:=EW3.out))
   exact bodyPost_ret (v:=.tuple #[enV 0 ⟨#[]⟩ false rw0,.int .i64 16]) (by simp [results,Tryz.results138,go_sem,y0,y1,y2,y3,y4,y5,y6,y7,y8,enV,rw0,bs_nil]) rfl (ent_bad HE.out (below_nine EW1.out.2.2.2.1 (by omega)))
 · simp only [hg] at c58
   simp only [hd] at c59
   simp only [if_pos hc] at c57
   clear hg hd
   have C56:=Lib.hid c56
   have C57:=Lib.hid c57
   have C58:=Lib.hid c58
   have C59:=Lib.hid c59
   have C60:=Lib.hid c60
   have HS2:=Lib.hid hS2
   have HS4:=Lib.hid hS4
   have HS1:=Lib.hid hS1
   clear hV hfl hl hp ho hS0 hS1 hS2 hS3 hS4 hS5 c56 c57 c58 c59 c60 hs2 hs4 hl2 hl4 q0 q1 q2 q3 q4 q5 hM
   go_enter Tryz.func138,Tryz.ntmps138
   go_wp2_with (first
    | (go_at_call 153;(with_reducible refine (C56.out _).mono ?_);rintro e w' ⟨rfl,rfl⟩)
    | (go_at_call 174;(with_reducible refine (C57.out _).mono ?_);rintro e w1 ⟨rfl,hb1⟩;have EW1:=Lib.hid (EW0.out.below hb1);obtain⟨⟨⟨⟨y0,y1,y2,y3,y4,y5,y6,y7,y8⟩,yf⟩,yn⟩,⟨f0,f1,f2,f3,f4,f5⟩,-,-,ys,yb⟩:=EW1.out)
    | (go_at_call 175;(with_reducible refine (C58.out _).mono ?_);rintro e w' ⟨rfl,rfl⟩)
    | (go_at_call 176;(with_reducible refine (C59.out _).mono ?_);rintro e w2 ⟨rfl,hb2⟩;have EW2:=Lib.hid (EW1.out.below hb2);have hM2:=Lib.hid EW2.out.2.2.1;obtain⟨⟨⟨⟨y0,y1,y2,y3,y4,y5,y6,y7,y8⟩,yf⟩,yn⟩,⟨f0,f1,f2,f3,f4,f5⟩,-,-,ys,yb⟩:=EW2.out)
    | (go_at_call 177;(with_reducible refine (C60.out _ hM2.out).mono ?_);rintro e w3 ⟨hb3,A3,n3,ca3,rfl,hV3⟩;have EW3:=Lib.hid (EW2.out.below hb3);obtain⟨⟨⟨⟨y0,y1,y2,y3,y4,y5,y6,y7,y8⟩,yf⟩,yn⟩,⟨f0,f1,f2,f3,f4,f5⟩,-,-,ys,yb⟩:=EW3.out))
   exact bodyPost_ret (v:=.tuple #[enV 0 ⟨#[]⟩ false rw0,.int .i64 16]) (by simp [results,Tryz.results138,go_sem,y0,y1,y2,y3,y4,y5,y6,y7,y8,enV,rw0,bs_nil]) rfl (ent_bad HE.out (below_nine EW2.out.2.2.2.1 (by omega)))
set_option maxRecDepth 100000 in
set_option maxHeartbeats 4000000 in
theorem ent34_dec (num:Int) (F:Option Addr) (cf:Nat) (f:List (List UInt8)) (w:World) (hV:Vals w F 15 (strs f)) (hfl:∀ x∈f,x.length≤4000) (hM:ML w) (c:Nat) (hp:point (fld f 0)=some c) (ho:okB f=true) (hx:¬decErr (fld f 5)=0):
 Calls Tryz.prog 138 #[.agg #[.int .i64 num,.slice F 15 cf]] w (EntBad f w):=by
 have hl:f.length=15:=by have:=hV.1;rwa [strs_length] at this
 obtain⟨b,off,rfl,hbl,q0,q1,q2,q3,q4,q5⟩:=flds hV rfl
 have c56:=fun W=>point11 (fld f 0) W (by have:=fld_len hfl 0;omega)
 have c57:=fun W=>ccc57 (fld f 3) W (by have:=fld_len hfl 3;omega)
 have c58:=fun W=>gc58 (fld f 2) W (by have:=fld_len hfl 2;omega)
 have c59:=fun W=>bd59 (fld f 4) W (by have:=fld_len hfl 4;omega)
 have c60:=fun W=>dec60 (fld f 5) W (fld_len hfl 5)
 have hs2:=bs_size (fld f 2)
 have hs4:=bs_size (fld f 4)
 have hl2:=fld_len hfl 2
 have hl4:=fld_len hfl 4
 have hem:=bs_emp (fld f 5)
 obtain⟨S0,hS0⟩:∃ S,bs (fld f 0)=S:=⟨_,rfl⟩
 obtain⟨S1,hS1⟩:∃ S,bs (fld f 1)=S:=⟨_,rfl⟩
 obtain⟨S2,hS2⟩:∃ S,bs (fld f 2)=S:=⟨_,rfl⟩
 obtain⟨S3,hS3⟩:∃ S,bs (fld f 3)=S:=⟨_,rfl⟩
 obtain⟨S4,hS4⟩:∃ S,bs (fld f 4)=S:=⟨_,rfl⟩
 obtain⟨S5,hS5⟩:∃ S,bs (fld f 5)=S:=⟨_,rfl⟩
 rw [hS0] at q0
 rw [hS1] at q1
 rw [hS2] at q2 hs2
 rw [hS3] at q3
 rw [hS4] at q4 hs4
 rw [hS5] at q5 hem
 simp only [hS0] at c56
 simp only [hS3] at c57
 simp only [hS2] at c58
 simp only [hS4] at c59
 simp only [hS5] at c60
 have hz2:S2.size≤4000:=by omega
 have hz4:S4.size≤4000:=by omega
 have EW0:=Lib.hid (entW_first w num cf b off S0 S1 S2 S3 S4 S5 hbl q0 q1 q2 q3 q4 q5 hM)
 obtain⟨⟨⟨⟨y0,y1,y2,y3,y4,y5,y6,y7,y8⟩,yf⟩,yn⟩,⟨f0,f1,f2,f3,f4,f5⟩,-,-,ys,yb⟩:=EW0.out
 have HE:=Lib.hid (row_dec hl hp ho)
 simp only [hp,ptVal] at c56
 have hok:=ho
 unfold okB at hok
 rw [Bool.and_eq_true,Bool.and_eq_true,decide_eq_true_eq] at hok
 obtain⟨hg,hc,hd⟩:=hok
 unfold cccP at c57
 simp only [hg] at c58
 simp only [hd] at c59
 simp only [if_pos hc] at c57
 unfold DecPost at c60
 obtain⟨N,hN⟩:∃ N,cccOf (fld f 3)=N:=⟨_,rfl⟩
 simp only [hN] at c57
 obtain⟨X,hX⟩:∃ X,decErr (fld f 5)=X:=⟨_,rfl⟩
 rw [hX] at HE hx
 simp only [hX] at c60
 have hx1:(X==0)=false:=beq_false_of_ne hx
 have hx2:(X != 0)=true:=bne_iff_ne.2 hx
 clear hg hd hc hN hX hx
 have C56:=Lib.hid c56
 have C57:=Lib.hid c57
 have C58:=Lib.hid c58
 have C59:=Lib.hid c59
 have C60:=Lib.hid c60
 have HS2:=Lib.hid hS2
 have HS4:=Lib.hid hS4
 have HS1:=Lib.hid hS1
 clear hV hfl hl hp ho hS0 hS1 hS2 hS3 hS4 hS5 c56 c57 c58 c59 c60 hs2 hs4 hl2 hl4 q0 q1 q2 q3 q4 q5 hM
 go_enter Tryz.func138,Tryz.ntmps138
 go_wp2_with (first
  | (go_at_call 153;(with_reducible refine (C56.out _).mono ?_);rintro e w' ⟨rfl,rfl⟩)
  | (go_at_call 174;(with_reducible refine (C57.out _).mono ?_);rintro e w1 ⟨rfl,hb1⟩;have EW1:=Lib.hid (EW0.out.below hb1);obtain⟨⟨⟨⟨y0,y1,y2,y3,y4,y5,y6,y7,y8⟩,yf⟩,yn⟩,⟨f0,f1,f2,f3,f4,f5⟩,-,-,ys,yb⟩:=EW1.out)
  | (go_at_call 175;(with_reducible refine (C58.out _).mono ?_);rintro e w' ⟨rfl,rfl⟩)
  | (go_at_call 176;(with_reducible refine (C59.out _).mono ?_);rintro e w2 ⟨rfl,hb2⟩;have EW2:=Lib.hid (EW1.out.below hb2);have hM2:=Lib.hid EW2.out.2.2.1;obtain⟨⟨⟨⟨y0,y1,y2,y3,y4,y5,y6,y7,y8⟩,yf⟩,yn⟩,⟨f0,f1,f2,f3,f4,f5⟩,-,-,ys,yb⟩:=EW2.out)
  | (go_at_call 177;(with_reducible refine (C60.out _ hM2.out).mono ?_);rintro e w3 ⟨hb3,A3,n3,ca3,rfl,hV3⟩;have EW3:=Lib.hid (EW2.out.below hb3);obtain⟨⟨⟨⟨y0,y1,y2,y3,y4,y5,y6,y7,y8⟩,yf⟩,yn⟩,⟨f0,f1,f2,f3,f4,f5⟩,-,-,ys,yb⟩:=EW3.out))
 exact bodyPost_ret (v:=.tuple #[enV 0 ⟨#[]⟩ false rw0,.int .i64 X]) (by simp [results,Tryz.results138,go_sem,y0,y1,y2,y3,y4,y5,y6,y7,y8,enV,rw0,bs_nil]) rfl (ent_bad HE.out (below_nine EW3.out.2.2.2.1 (by omega)))
def joinV (nm:List UInt8) (s t:Rw) (b1 b2:Bool):Bool:=namedB nm nmL&&(decide (s.gc=t.gc)&&(decide (s.ccc=t.ccc)&&(decide (s.bd=t.bd)&&(b1&&(b2&&decide (s.a<t.a))))))
theorem str_eq (a b:List UInt8):((bs a).toList==(bs b).toList)=decide (a=b):=by
 have e:∀ l,(bs l).toList=l:=fun l=>by rw [Lib.toList_data,bs_data]
 rw [e,e,Bool.eq_iff_iff,beq_iff_eq,decide_eq_true_eq]
theorem four_below (w:World) (o1 o2 o3 o4:Obj):Below w.heap.size w ((((w.alloc o1).alloc o2).alloc o3).alloc o4).drew:=below_drew (((((Below.refl _ _).alloc (Nat.le_refl _) _).alloc (by simp) _).alloc (by simp;omega) _).alloc (by simp;omega) _)
set_option maxRecDepth 100000 in
set_option maxHeartbeats 4000000 in
theorem joins62 (n1 n2:Int) (m1:ByteArray) (nm:List UInt8) (b1 b2:Bool) (s t:Rw) (w:World) (hl:nm.length≤1000000):
 Calls Tryz.prog 178 #[enV n1 m1 b1 s,enV n2 (bs nm) b2 t] w fun e w'=>e=.returned (.bool (joinV nm s t b1 b2))∧Below w.heap.size w w':=by
 have c36:=fun W=>named36 nm nmL W hl
 have eL:bs nmL=⟨#[44,32,76,97,115,116,62]⟩:=rfl
 simp only [eL] at c36
 obtain⟨J,hJ⟩:∃ J,joinV nm s t b1 b2=J:=⟨_,rfl⟩
 rw [hJ]
 unfold joinV at hJ
 have h1:=str_eq s.gc t.gc
 have h3:=str_eq s.bd t.bd
 obtain⟨sa,sb,sg,sc,sd,sp,sm,sk⟩:=s
 obtain⟨ta,tb,tg,tc,td,tp,tm,tk⟩:=t
 unfold enV
 simp only at hJ h1 h3 ⊢
 obtain⟨N,hN⟩:∃ N,namedB nm nmL=N:=⟨_,rfl⟩
 obtain⟨q1,hq1⟩:∃ q,decide (sg=tg)=q:=⟨_,rfl⟩
 obtain⟨q3,hq3⟩:∃ q,decide (sd=td)=q:=⟨_,rfl⟩
 obtain⟨S,hS⟩:∃ S,bs nm=S:=⟨_,rfl⟩
 obtain⟨Sg,hSg⟩:∃ S,bs sg=S:=⟨_,rfl⟩
 obtain⟨Tg,hTg⟩:∃ S,bs tg=S:=⟨_,rfl⟩
 obtain⟨Sd,hSd⟩:∃ S,bs sd=S:=⟨_,rfl⟩
 obtain⟨Td,hTd⟩:∃ S,bs td=S:=⟨_,rfl⟩
 rw [hN,hq1,hq3] at hJ
 rw [hq1] at h1
 rw [hq3] at h3
 simp only [hN] at c36
 simp only [hS] at c36
 rw [hSg,hTg] at h1
 rw [hSd,hTd] at h3
 simp only [hS,hSg,hTg,hSd,hTd]
 have C36:=Lib.hid c36
 clear hN hq1 hq3 hS hSg hTg hSd hTd c36 eL
 have HB:=Lib.hid (show ∀ o1 o2,Below w.heap.size w ((w.alloc o1).alloc o2) from fun o1 o2=>((Below.refl _ _).alloc (Nat.le_refl _) _).alloc (by simp) _)
 obtain⟨q2,hq2⟩:∃ q,(sc==tc)=q:=⟨_,rfl⟩
 obtain⟨q4,hq4⟩:∃ q,decide (sa<ta)=q:=⟨_,rfl⟩
 have hq2':decide (sc=tc)=q2:=by rw [←hq2,Bool.eq_iff_iff,decide_eq_true_eq,beq_iff_eq]
 rw [hq2',hq4] at hJ
 clear hq2' HB
 go_enter Tryz.func178,Tryz.ntmps178
 go_wp2_with fail
 go_region
 all_goals
  cases N with
  | false=>
   rw [Bool.false_and] at hJ
   subst hJ
   go_wp2_with (go_at_call 140;(with_reducible refine (C36.out _).mono ?_);rintro e w' ⟨rfl,rfl⟩)
   go_ret
   exact⟨rfl,by with_reducible exact four_below _ _ _ _ _⟩
  | true=>
   rw [Bool.true_and] at hJ
   cases q1 with
   | false=>
    rw [Bool.false_and] at hJ
    subst hJ
    go_wp2_with (go_at_call 140;(with_reducible refine (C36.out _).mono ?_);rintro e w' ⟨rfl,rfl⟩)
    go_ret
    exact⟨rfl,by with_reducible exact four_below _ _ _ _ _⟩
   | true=>
    rw [Bool.true_and] at hJ
    cases q2 with
    | false=>
     rw [Bool.false_and] at hJ
     subst hJ
     go_wp2_with (go_at_call 140;(with_reducible refine (C36.out _).mono ?_);rintro e w' ⟨rfl,rfl⟩)
     go_ret
     exact⟨rfl,by with_reducible exact four_below _ _ _ _ _⟩
    | true=>
     rw [Bool.true_and] at hJ
     cases q3 with
     | false=>
      rw [Bool.false_and] at hJ
      subst hJ
      go_wp2_with (go_at_call 140;(with_reducible refine (C36.out _).mono ?_);rintro e w' ⟨rfl,rfl⟩)
      go_ret
      exact⟨rfl,by with_reducible exact four_below _ _ _ _ _⟩
     | true=>
      rw [Bool.true_and] at hJ
      cases b1 with
      | false=>
       rw [Bool.false_and] at hJ
       subst hJ
       go_wp2_with (go_at_call 140;(with_reducible refine (C36.out _).mono ?_);rintro e w' ⟨rfl,rfl⟩)
       go_ret
       exact⟨rfl,by with_reducible exact four_below _ _ _ _ _⟩
      | true=>
       rw [Bool.true_and] at hJ
       cases b2 with
       | false=>
        rw [Bool.false_and] at hJ
        subst hJ
        go_wp2_with (go_at_call 140;(with_reducible refine (C36.out _).mono ?_);rintro e w' ⟨rfl,rfl⟩)
        go_ret
        exact⟨rfl,by with_reducible exact four_below _ _ _ _ _⟩
       | true=>
        rw [Bool.true_and] at hJ
        cases q4 with
        | false=>
         subst hJ
         go_wp2_with (go_at_call 140;(with_reducible refine (C36.out _).mono ?_);rintro e w' ⟨rfl,rfl⟩)
         go_ret
         exact⟨rfl,by with_reducible exact four_below _ _ _ _ _⟩
        | true=>
         subst hJ
         go_wp2_with (go_at_call 140;(with_reducible refine (C36.out _).mono ?_);rintro e w' ⟨rfl,rfl⟩)
         go_ret
         exact⟨rfl,by with_reducible exact four_below _ _ _ _ _⟩
end Go.Proofs.YtbkgbhlmeeodgaaGreatDoor.Uc
