/- A part. -/
import Derived.Test.YtmellioacefjjaaGreatDoorQB14
namespace Go.Proofs.YtmellioacefjjaaGreatDoor.Uc
open Go.RowKit
set_option maxRecDepth 100000 in
set_option maxHeartbeats 4000000 in
theorem row22_val (F:Option Addr) (cf:Nat) (f:List (List UInt8)) (w:World) (hV:Vals w F 15 (strs f)) (hfl:∀ x∈f,x.length≤4000) (c:Nat) (hp:point (fld f 0)=some c) (ho:okB f=false):
 Calls Tryz.prog 76 #[.slice F 15 cf] w (RowPost f w):=by
 have hl:f.length=15:=by have:=hV.1;rwa [strs_length] at this
 obtain⟨b,off,rfl,hbl,q0,-,q2,q3,q4,q5⟩:=flds hV rfl
 have hb0:Below w.heap.size w (w.alloc (.cells #[.int .i64 0,.int .i64 0,.string ⟨#[]⟩,.int .i64 0,.string ⟨#[]⟩,.slice none 0 0] 33)):=(Below.refl _ _).alloc (Nat.le_refl _) _
 have c39:=point12 (fld f 0) (w.alloc (.cells #[.int .i64 0,.int .i64 0,.string ⟨#[]⟩,.int .i64 0,.string ⟨#[]⟩,.slice none 0 0] 33)) (by have:=fld_len hfl 0;omega)
 have HE:=Lib.hid (row_val hl hp ho)
 rw [hp] at c39
 simp only [ptI] at c39
 have c40:=fun W=>number40 (fld f 3) W (by have:=fld_len hfl 3;omega)
 have c41:=fun W=>capitals41 ((fld f 2).take 1) W (by rw [List.length_take];omega)
 have c42:=fun W=>capitals41 (fld f 4) W (by have:=fld_len hfl 4;omega)
 have hs2:=bs_size (fld f 2)
 have hs4:=bs_size (fld f 4)
 have hx2:=bs_ext (fld f 2) 0 1
 have hy2:=bs_oct (fld f 2) 1
 have hyr:=oct_range (fld f 2) 1
 rw [List.drop_zero,Nat.sub_zero] at hx2
 have hok:=ok_parts (f:=f)
 obtain⟨S0,hS0⟩:∃ S,bs (fld f 0)=S:=⟨_,rfl⟩
 obtain⟨S2,hS2⟩:∃ S,bs (fld f 2)=S:=⟨_,rfl⟩
 obtain⟨S3,hS3⟩:∃ S,bs (fld f 3)=S:=⟨_,rfl⟩
 obtain⟨S4,hS4⟩:∃ S,bs (fld f 4)=S:=⟨_,rfl⟩
 obtain⟨S5,hS5⟩:∃ S,bs (fld f 5)=S:=⟨_,rfl⟩
 obtain⟨T2,hT2⟩:∃ S,bs ((fld f 2).take 1)=S:=⟨_,rfl⟩
 obtain⟨n2,hn2⟩:∃ n,(fld f 2).length=n:=⟨_,rfl⟩
 obtain⟨n4,hn4⟩:∃ n,(fld f 4).length=n:=⟨_,rfl⟩
 obtain⟨Y,hY⟩:∃ Y,oct (fld f 2) 1=Y:=⟨_,rfl⟩
 obtain⟨N,hN⟩:∃ N,cccOf (fld f 3)=N:=⟨_,rfl⟩
 obtain⟨B2,hB2⟩:∃ B,caps ((fld f 2).take 1)=B:=⟨_,rfl⟩
 obtain⟨B4,hB4⟩:∃ B,caps (fld f 4)=B:=⟨_,rfl⟩
 rw [hS0] at q0 c39
 rw [hS2] at q2 hs2 hx2 hy2
 rw [hS3] at q3 c40
 rw [hS4] at q4 c42 hs4
 rw [hS5] at q5
 rw [hT2] at hx2 c41
 rw [hn2] at hs2 hok
 rw [hn4] at hs4 hok
 rw [hY] at hy2 hyr hok
 rw [hN] at c40 hok
 rw [hB2] at c41 hok
 rw [hB4] at c42 hok
 obtain⟨hy0,hy1⟩:=hyr
 have C40:=Lib.hid c40
 have C41:=Lib.hid c41
 have C42:=Lib.hid c42
 have HB:=Lib.hid hb0
 have hl2:n2≤4000:=by have:=fld_len hfl 2;omega
 have hl4:n4≤4000:=by have:=fld_len hfl 4;omega
 rw [ho] at hok
 have hno:=of_decide_eq_false hok.symm
 clear hV hfl hl hp hS0 hS2 hS3 hS4 hS5 hT2 hn2 hn4 hY hN hB2 hB4 hok hb0 c40 c41 c42
 by_cases h1:n2=2
 rotate_left
 · have g1:((n2:Int)==2)=false:=beq_false_of_ne (by omega)
   have g1':((n2:Int) != 2)=true:=bne_iff_ne.2 (by omega)
   clear hno
   go_enter Tryz.func76,Tryz.ntmps76
   go_wp2_with (first
   | (go_at_call 81;(with_reducible refine c39.mono ?_);rintro e w1 ⟨rfl,hb1⟩;have HB1:=Lib.hid hb1;obtain⟨⟨e0,e1,e2,e3,e4,e5⟩,ef⟩:=six_box hb1;have hbw:b<w1.heap.size:=(by have:=hb1.size;simp at this;omega);have k2:=(hb1.cell (p:=⟨b,off+2,none⟩) (by show b<_;simp;omega)).trans ((HB.out.cell (p:=⟨b,off+2,none⟩) hbl).trans q2);have k3:=(hb1.cell (p:=⟨b,off+3,none⟩) (by show b<_;simp;omega)).trans ((HB.out.cell (p:=⟨b,off+3,none⟩) hbl).trans q3);have k4:=(hb1.cell (p:=⟨b,off+4,none⟩) (by show b<_;simp;omega)).trans ((HB.out.cell (p:=⟨b,off+4,none⟩) hbl).trans q4);have k5:=(hb1.cell (p:=⟨b,off+5,none⟩) (by show b<_;simp;omega)).trans ((HB.out.cell (p:=⟨b,off+5,none⟩) hbl).trans q5);clear hb1)
   | (go_at_call 102;(with_reducible refine (C40.out _).mono ?_);rintro e w' ⟨rfl,rfl⟩)
   | (go_at_call 103;(with_reducible refine (C41.out _).mono ?_);rintro e w' ⟨rfl,rfl⟩)
   | (go_at_call 103;(with_reducible refine (C42.out _).mono ?_);rintro e w' ⟨rfl,rfl⟩))
   exact bodyPost_ret (v:=.tuple #[rwV rw0,.int .i64 16]) (by simp [results,Tryz.results76,go_sem,e0,e1,e2,e3,e4,e5,rwV,rw0,bs_nil]) rfl (row_bad HE.out (by decide) (below_store _ HB.out HB1.out))
 subst h1
 by_cases h2:B2=true
 rotate_left
 · obtain rfl:B2=false:=by simpa using h2
   clear hno
   go_enter Tryz.func76,Tryz.ntmps76
   go_wp2_with (first
   | (go_at_call 81;(with_reducible refine c39.mono ?_);rintro e w1 ⟨rfl,hb1⟩;have HB1:=Lib.hid hb1;obtain⟨⟨e0,e1,e2,e3,e4,e5⟩,ef⟩:=six_box hb1;have hbw:b<w1.heap.size:=(by have:=hb1.size;simp at this;omega);have k2:=(hb1.cell (p:=⟨b,off+2,none⟩) (by show b<_;simp;omega)).trans ((HB.out.cell (p:=⟨b,off+2,none⟩) hbl).trans q2);have k3:=(hb1.cell (p:=⟨b,off+3,none⟩) (by show b<_;simp;omega)).trans ((HB.out.cell (p:=⟨b,off+3,none⟩) hbl).trans q3);have k4:=(hb1.cell (p:=⟨b,off+4,none⟩) (by show b<_;simp;omega)).trans ((HB.out.cell (p:=⟨b,off+4,none⟩) hbl).trans q4);have k5:=(hb1.cell (p:=⟨b,off+5,none⟩) (by show b<_;simp;omega)).trans ((HB.out.cell (p:=⟨b,off+5,none⟩) hbl).trans q5);clear hb1)
   | (go_at_call 102;(with_reducible refine (C40.out _).mono ?_);rintro e w' ⟨rfl,rfl⟩)
   | (go_at_call 103;(with_reducible refine (C41.out _).mono ?_);rintro e w' ⟨rfl,rfl⟩)
   | (go_at_call 103;(with_reducible refine (C42.out _).mono ?_);rintro e w' ⟨rfl,rfl⟩))
   exact bodyPost_ret (v:=.tuple #[rwV rw0,.int .i64 16]) (by simp [results,Tryz.results76,go_sem,e0,e1,e2,e3,e4,e5,rwV,rw0,bs_nil]) rfl (row_bad HE.out (by decide) (below_store _ HB.out HB1.out))
 subst h2
 by_cases h3:97≤Y
 rotate_left
 · have h3':Y<97:=by omega
   have h3d:decide (Y<97)=true:=decide_eq_true h3'
   clear hno
   go_enter Tryz.func76,Tryz.ntmps76
   go_wp2_with (first
   | (go_at_call 81;(with_reducible refine c39.mono ?_);rintro e w1 ⟨rfl,hb1⟩;have HB1:=Lib.hid hb1;obtain⟨⟨e0,e1,e2,e3,e4,e5⟩,ef⟩:=six_box hb1;have hbw:b<w1.heap.size:=(by have:=hb1.size;simp at this;omega);have k2:=(hb1.cell (p:=⟨b,off+2,none⟩) (by show b<_;simp;omega)).trans ((HB.out.cell (p:=⟨b,off+2,none⟩) hbl).trans q2);have k3:=(hb1.cell (p:=⟨b,off+3,none⟩) (by show b<_;simp;omega)).trans ((HB.out.cell (p:=⟨b,off+3,none⟩) hbl).trans q3);have k4:=(hb1.cell (p:=⟨b,off+4,none⟩) (by show b<_;simp;omega)).trans ((HB.out.cell (p:=⟨b,off+4,none⟩) hbl).trans q4);have k5:=(hb1.cell (p:=⟨b,off+5,none⟩) (by show b<_;simp;omega)).trans ((HB.out.cell (p:=⟨b,off+5,none⟩) hbl).trans q5);clear hb1)
   | (go_at_call 102;(with_reducible refine (C40.out _).mono ?_);rintro e w' ⟨rfl,rfl⟩)
   | (go_at_call 103;(with_reducible refine (C41.out _).mono ?_);rintro e w' ⟨rfl,rfl⟩)
   | (go_at_call 103;(with_reducible refine (C42.out _).mono ?_);rintro e w' ⟨rfl,rfl⟩))
   exact bodyPost_ret (v:=.tuple #[rwV rw0,.int .i64 16]) (by simp [results,Tryz.results76,go_sem,e0,e1,e2,e3,e4,e5,rwV,rw0,bs_nil]) rfl (row_bad HE.out (by decide) (below_store _ HB.out HB1.out))
 have h3':¬Y<97:=by omega
 have h3d:decide (Y<97)=false:=decide_eq_false h3'
 by_cases h4:Y≤122
 rotate_left
 · have h4':122<Y:=by omega
   have h4d:decide (122<Y)=true:=decide_eq_true h4'
   clear hno
   go_enter Tryz.func76,Tryz.ntmps76
   go_wp2_with (first
   | (go_at_call 81;(with_reducible refine c39.mono ?_);rintro e w1 ⟨rfl,hb1⟩;have HB1:=Lib.hid hb1;obtain⟨⟨e0,e1,e2,e3,e4,e5⟩,ef⟩:=six_box hb1;have hbw:b<w1.heap.size:=(by have:=hb1.size;simp at this;omega);have k2:=(hb1.cell (p:=⟨b,off+2,none⟩) (by show b<_;simp;omega)).trans ((HB.out.cell (p:=⟨b,off+2,none⟩) hbl).trans q2);have k3:=(hb1.cell (p:=⟨b,off+3,none⟩) (by show b<_;simp;omega)).trans ((HB.out.cell (p:=⟨b,off+3,none⟩) hbl).trans q3);have k4:=(hb1.cell (p:=⟨b,off+4,none⟩) (by show b<_;simp;omega)).trans ((HB.out.cell (p:=⟨b,off+4,none⟩) hbl).trans q4);have k5:=(hb1.cell (p:=⟨b,off+5,none⟩) (by show b<_;simp;omega)).trans ((HB.out.cell (p:=⟨b,off+5,none⟩) hbl).trans q5);clear hb1)
   | (go_at_call 102;(with_reducible refine (C40.out _).mono ?_);rintro e w' ⟨rfl,rfl⟩)
   | (go_at_call 103;(with_reducible refine (C41.out _).mono ?_);rintro e w' ⟨rfl,rfl⟩)
   | (go_at_call 103;(with_reducible refine (C42.out _).mono ?_);rintro e w' ⟨rfl,rfl⟩))
   exact bodyPost_ret (v:=.tuple #[rwV rw0,.int .i64 16]) (by simp [results,Tryz.results76,go_sem,e0,e1,e2,e3,e4,e5,rwV,rw0,bs_nil]) rfl (row_bad HE.out (by decide) (below_store _ HB.out HB1.out))
 have h4':¬122<Y:=by omega
 have h4d:decide (122<Y)=false:=decide_eq_false h4'
 by_cases h5:0≤N
 rotate_left
 · have h5':N<0:=by omega
   have h5d:decide (N<0)=true:=decide_eq_true h5'
   clear hno
   go_enter Tryz.func76,Tryz.ntmps76
   go_wp2_with (first
   | (go_at_call 81;(with_reducible refine c39.mono ?_);rintro e w1 ⟨rfl,hb1⟩;have HB1:=Lib.hid hb1;obtain⟨⟨e0,e1,e2,e3,e4,e5⟩,ef⟩:=six_box hb1;have hbw:b<w1.heap.size:=(by have:=hb1.size;simp at this;omega);have k2:=(hb1.cell (p:=⟨b,off+2,none⟩) (by show b<_;simp;omega)).trans ((HB.out.cell (p:=⟨b,off+2,none⟩) hbl).trans q2);have k3:=(hb1.cell (p:=⟨b,off+3,none⟩) (by show b<_;simp;omega)).trans ((HB.out.cell (p:=⟨b,off+3,none⟩) hbl).trans q3);have k4:=(hb1.cell (p:=⟨b,off+4,none⟩) (by show b<_;simp;omega)).trans ((HB.out.cell (p:=⟨b,off+4,none⟩) hbl).trans q4);have k5:=(hb1.cell (p:=⟨b,off+5,none⟩) (by show b<_;simp;omega)).trans ((HB.out.cell (p:=⟨b,off+5,none⟩) hbl).trans q5);clear hb1)
   | (go_at_call 102;(with_reducible refine (C40.out _).mono ?_);rintro e w' ⟨rfl,rfl⟩)
   | (go_at_call 103;(with_reducible refine (C41.out _).mono ?_);rintro e w' ⟨rfl,rfl⟩)
   | (go_at_call 103;(with_reducible refine (C42.out _).mono ?_);rintro e w' ⟨rfl,rfl⟩))
   exact bodyPost_ret (v:=.tuple #[rwV rw0,.int .i64 16]) (by simp [results,Tryz.results76,go_sem,e0,e1,e2,e3,e4,e5,rwV,rw0,bs_nil]) rfl (row_bad HE.out (by decide) (below_store _ HB.out HB1.out))
 have h5':¬N<0:=by omega
 have h5d:decide (N<0)=false:=decide_eq_false h5'
 by_cases h6:1≤n4
 rotate_left
 · have h6':(n4:Int)<1:=by omega
   have h6d:decide ((n4:Int)<1)=true:=decide_eq_true h6'
   clear hno
   go_enter Tryz.func76,Tryz.ntmps76
   go_wp2_with (first
   | (go_at_call 81;(with_reducible refine c39.mono ?_);rintro e w1 ⟨rfl,hb1⟩;have HB1:=Lib.hid hb1;obtain⟨⟨e0,e1,e2,e3,e4,e5⟩,ef⟩:=six_box hb1;have hbw:b<w1.heap.size:=(by have:=hb1.size;simp at this;omega);have k2:=(hb1.cell (p:=⟨b,off+2,none⟩) (by show b<_;simp;omega)).trans ((HB.out.cell (p:=⟨b,off+2,none⟩) hbl).trans q2);have k3:=(hb1.cell (p:=⟨b,off+3,none⟩) (by show b<_;simp;omega)).trans ((HB.out.cell (p:=⟨b,off+3,none⟩) hbl).trans q3);have k4:=(hb1.cell (p:=⟨b,off+4,none⟩) (by show b<_;simp;omega)).trans ((HB.out.cell (p:=⟨b,off+4,none⟩) hbl).trans q4);have k5:=(hb1.cell (p:=⟨b,off+5,none⟩) (by show b<_;simp;omega)).trans ((HB.out.cell (p:=⟨b,off+5,none⟩) hbl).trans q5);clear hb1)
   | (go_at_call 102;(with_reducible refine (C40.out _).mono ?_);rintro e w' ⟨rfl,rfl⟩)
   | (go_at_call 103;(with_reducible refine (C41.out _).mono ?_);rintro e w' ⟨rfl,rfl⟩)
   | (go_at_call 103;(with_reducible refine (C42.out _).mono ?_);rintro e w' ⟨rfl,rfl⟩))
   exact bodyPost_ret (v:=.tuple #[rwV rw0,.int .i64 16]) (by simp [results,Tryz.results76,go_sem,e0,e1,e2,e3,e4,e5,rwV,rw0,bs_nil]) rfl (row_bad HE.out (by decide) (below_store _ HB.out HB1.out))
 have h6':¬(n4:Int)<1:=by omega
 have h6d:decide ((n4:Int)<1)=false:=decide_eq_false h6'
 by_cases h7:n4≤3
 rotate_left
 · have h7':3<(n4:Int):=by omega
   have h7d:decide (3<(n4:Int))=true:=decide_eq_true h7'
   clear hno
   go_enter Tryz.func76,Tryz.ntmps76
   go_wp2_with (first
   | (go_at_call 81;(with_reducible refine c39.mono ?_);rintro e w1 ⟨rfl,hb1⟩;have HB1:=Lib.hid hb1;obtain⟨⟨e0,e1,e2,e3,e4,e5⟩,ef⟩:=six_box hb1;have hbw:b<w1.heap.size:=(by have:=hb1.size;simp at this;omega);have k2:=(hb1.cell (p:=⟨b,off+2,none⟩) (by show b<_;simp;omega)).trans ((HB.out.cell (p:=⟨b,off+2,none⟩) hbl).trans q2);have k3:=(hb1.cell (p:=⟨b,off+3,none⟩) (by show b<_;simp;omega)).trans ((HB.out.cell (p:=⟨b,off+3,none⟩) hbl).trans q3);have k4:=(hb1.cell (p:=⟨b,off+4,none⟩) (by show b<_;simp;omega)).trans ((HB.out.cell (p:=⟨b,off+4,none⟩) hbl).trans q4);have k5:=(hb1.cell (p:=⟨b,off+5,none⟩) (by show b<_;simp;omega)).trans ((HB.out.cell (p:=⟨b,off+5,none⟩) hbl).trans q5);clear hb1)
   | (go_at_call 102;(with_reducible refine (C40.out _).mono ?_);rintro e w' ⟨rfl,rfl⟩)
   | (go_at_call 103;(with_reducible refine (C41.out _).mono ?_);rintro e w' ⟨rfl,rfl⟩)
   | (go_at_call 103;(with_reducible refine (C42.out _).mono ?_);rintro e w' ⟨rfl,rfl⟩))
   exact bodyPost_ret (v:=.tuple #[rwV rw0,.int .i64 16]) (by simp [results,Tryz.results76,go_sem,e0,e1,e2,e3,e4,e5,rwV,rw0,bs_nil]) rfl (row_bad HE.out (by decide) (below_store _ HB.out HB1.out))
 have h7':¬3<(n4:Int):=by omega
 have h7d:decide (3<(n4:Int))=false:=decide_eq_false h7'
 by_cases h8:B4=true
 rotate_left
 · obtain rfl:B4=false:=by simpa using h8
   clear hno
   go_enter Tryz.func76,Tryz.ntmps76
   go_wp2_with (first
   | (go_at_call 81;(with_reducible refine c39.mono ?_);rintro e w1 ⟨rfl,hb1⟩;have HB1:=Lib.hid hb1;obtain⟨⟨e0,e1,e2,e3,e4,e5⟩,ef⟩:=six_box hb1;have hbw:b<w1.heap.size:=(by have:=hb1.size;simp at this;omega);have k2:=(hb1.cell (p:=⟨b,off+2,none⟩) (by show b<_;simp;omega)).trans ((HB.out.cell (p:=⟨b,off+2,none⟩) hbl).trans q2);have k3:=(hb1.cell (p:=⟨b,off+3,none⟩) (by show b<_;simp;omega)).trans ((HB.out.cell (p:=⟨b,off+3,none⟩) hbl).trans q3);have k4:=(hb1.cell (p:=⟨b,off+4,none⟩) (by show b<_;simp;omega)).trans ((HB.out.cell (p:=⟨b,off+4,none⟩) hbl).trans q4);have k5:=(hb1.cell (p:=⟨b,off+5,none⟩) (by show b<_;simp;omega)).trans ((HB.out.cell (p:=⟨b,off+5,none⟩) hbl).trans q5);clear hb1)
   | (go_at_call 102;(with_reducible refine (C40.out _).mono ?_);rintro e w' ⟨rfl,rfl⟩)
   | (go_at_call 103;(with_reducible refine (C41.out _).mono ?_);rintro e w' ⟨rfl,rfl⟩)
   | (go_at_call 103;(with_reducible refine (C42.out _).mono ?_);rintro e w' ⟨rfl,rfl⟩))
   exact bodyPost_ret (v:=.tuple #[rwV rw0,.int .i64 16]) (by simp [results,Tryz.results76,go_sem,e0,e1,e2,e3,e4,e5,rwV,rw0,bs_nil]) rfl (row_bad HE.out (by decide) (below_store _ HB.out HB1.out))
 exact absurd ⟨rfl,rfl,h3,h4,h5,h6,h7,h8⟩ hno
theorem decv_ge:∀ (l:List UInt8) (a b:Nat),decv a l=some b→a≤b
 | [],a,b,h=>by simp [decv] at h;omega
 | x::l,a,b,h=>by
  unfold decv at h
  split at h
  · have:=decv_ge l _ _ h;omega
  · cases h
def cccP (l:List UInt8):Value:=if 0≤cccOf l then .tuple #[.int .i64 (cccOf l),.bool true] else .tuple #[.int .i64 0,.bool false]
theorem cccP_no {l:List UInt8} (h:cccOf l = -1):cccP l=.tuple #[.int .i64 0,.bool false]:=by unfold cccP;rw [h];rfl
theorem cccP_yes {l:List UInt8} {a:Nat} (h:cccOf l=a):cccP l=.tuple #[.int .i64 a,.bool true]:=by unfold cccP;rw [h,if_pos (by omega)]
theorem ccc_more {l:List UInt8} {k a:Nat} (h:decv 0 l=decv a (l.drop k)) (ha:254<a):cccOf l = -1:=by
 cases hd:decv a (l.drop k) with
 | none=>rw [hd] at h;exact ccc_none h
 | some b=>
  have:=decv_ge _ _ _ hd
  rw [hd] at h
  exact ccc_big h (by omega)
theorem ccc_full {l:List UInt8} {a:Nat} (h0:l.length=1∨(1<l.length∧¬oct l 0=48∧10 ^ (l.length-1)≤a)) (h:decv 0 l=some a) (ha:a≤254):cccOf l=a:=by
 refine ccc_yes a ?_ h (by omega)
 rcases h0 with h1 | ⟨h1,h2,h3⟩
 · omega
 · have:l.length≤3:=by
    rcases Nat.lt_or_ge 3 l.length with h | h
    · have:(10:Nat) ^ 3≤10 ^ (l.length-1):=Nat.pow_le_pow_right (by decide) (by omega)
      omega
    · exact h
   omega
set_option maxRecDepth 100000 in
set_option maxHeartbeats 4000000 in
theorem ccc57 (l:List UInt8) (w:World) (hl:l.length≤1000000):Calls Tryz.prog 144 #[.string (bs l)] w fun e w'=>e=.returned (cccP l)∧Below w.heap.size w w':=by
 by_cases hne:l = []
 · have hc:cccOf l = -1:=ccc_out (Or.inl (by rw [hne];decide))
   have HP:=Lib.hid (cccP_no hc)
   subst hne
   rw [bs_nil]
   clear hc
   go_enter Tryz.func144,Tryz.ntmps144
   go_wp2
   go_ret2
   exact⟨by rw [HP.out];rfl,Below.refl _ _⟩
 have hlen:0<l.length:=List.length_pos_iff.2 hne
 have hsz:=bs_size l
 have hemp:=bs_some hne
 have htl:=bs_toList' l
 have HNE:=Lib.hid hne
 clear hne
 obtain⟨n,hn⟩:∃ n,l.length=n:=⟨_,rfl⟩
 have hz:=bs_oct l 0
 have hzr:=oct_range l 0
 have HX:=Lib.hid (fun k=>bs_oct l k)
 rw [hn] at hsz hl hlen
 have HN:=Lib.hid hn
 clear hn
 obtain⟨Z,hZ⟩:∃ Z,oct l 0=Z:=⟨_,rfl⟩
 rw [hZ] at hz hzr
 have HZ:=Lib.hid hZ
 clear hZ
 obtain⟨hz0,hz1⟩:=hzr
 obtain⟨S,hS⟩:∃ S,bs l=S:=⟨_,rfl⟩
 rw [hS] at hsz hemp htl hz HX ⊢
 have HS:=Lib.hid hS
 clear hS
 by_cases hbad:Z=48∧¬l = [48]
 · obtain⟨rfl,hl1⟩:=hbad
   have hq:(S.toList == [48])=false:=by rw [htl];exact beq_false_of_ne hl1
   have hc:cccOf l = -1:=by
    refine ccc_out (Or.inr (Or.inr ⟨?_,HZ.out⟩))
    have h1:=HN.out
    rcases Nat.lt_or_ge 1 n with h | h
    · omega
    · exfalso
      obtain⟨x,hx⟩:=List.length_eq_one_iff.1 (show l.length=1 by omega)
      subst hx
      have:=HZ.out
      unfold oct at this
      have e:x=48:=UInt8.toNat_inj.1 (by have h2:(x.toNat:Int)=48:=this;show x.toNat=48;omega)
      exact hl1 (by rw [e])
   have HP:=Lib.hid (cccP_no hc)
   clear hl1 htl hc HX
   go_enter Tryz.func144,Tryz.ntmps144
   go_wp2
   go_ret2
   exact⟨by rw [HP.out];rfl,Below.refl _ _⟩
 have hfirst:n=1∨¬Z=48:=by
  by_cases h48:Z=48
  · refine .inl ?_
    have h1:=HN.out
    by_cases hl1:l = [48]
    · rw [hl1] at h1;simp at h1;omega
    · exact absurd ⟨h48,hl1⟩ hbad
  · exact .inr h48
 have hY:∀ a:Nat,decv 0 l=some a→a≤254→(n=1∨(1≤n∧10 ^ (n-1)≤a))→cccP l=.tuple #[.int .i64 a,.bool true]:=fun a h ha h10=>by
  refine cccP_yes (ccc_full ?_ h ha)
  rw [HN.out,HZ.out]
  omega
 have HF:=Lib.hid hfirst
 have HY:=Lib.hid hY
 have htest:(Z=48∧(S.toList == [48])=true)∨(Z==48)=false:=by
  by_cases h48:Z=48
  · by_cases hl1:l = [48]
    · exact .inl ⟨h48,by rw [htl,hl1];rfl⟩
    · exact absurd ⟨h48,hl1⟩ hbad
  · exact .inr (beq_false_of_ne h48)
 clear hbad hfirst hY htl
 rcases htest with ⟨rfl,hq⟩ | hq
 all_goals
  go_enter Tryz.func144,Tryz.ntmps144
  go_wp2
  clear hz hq hemp
  go_loopw [4] (fun c wr=>∃ (k a:Nat),c=.int .i64 a∧wr=w.iter S k∧k≤n∧a≤254∧decv 0 l=decv a (l.drop k)∧(n=1∨(k=0∧a=0)∨(1≤k∧10 ^ (k-1)≤a))) (fun _ wr=>n-wr.iterPos w.heap.size)
  case atStart=>exact⟨0,0,rfl,rfl,Nat.zero_le _,by decide,rfl,.inr (.inl ⟨rfl,rfl⟩)⟩
  case round=>
   obtain⟨k,a,rfl,rfl,hkn,ha,hv,h10⟩:=hrel
   have H10:=Lib.hid h10
   clear h10
   by_cases hlt:k<n
   · have hlt':k<l.length:=by rw [HN.out];exact hlt
     have hx:=HX.out k
     have hxr:=oct_range l k
     have hk0:k=0→oct l k=oct l 0:=fun h=>by rw [h]
     rw [HZ.out] at hk0
     rw [decv_drop hlt'] at hv
     obtain⟨X,hX⟩:∃ X,oct l k=X:=⟨_,rfl⟩
     rw [hX] at hx hv hxr hk0
     clear hX hlt'
     obtain⟨hx0,hx1⟩:=hxr
     have HK0:=Lib.hid hk0
     clear hk0
     have hks:k<S.size:=by rw [hsz];exact hlt
     by_cases hasc:X<128
     · have hnx:=next_low (P:=Tryz.prog) (w:=w) hks hx hasc
       clear hx hks
       by_cases g1:X<48
       · rw [if_neg (by omega)] at hv
         have HV:=Lib.hid (cccP_no (ccc_none hv))
         clear hv
         go_wp2
         go_ret2
         exact⟨by rw [HV.out];rfl,below_iter w S _⟩
       by_cases g2:57<X
       · rw [if_neg (by omega)] at hv
         have HV:=Lib.hid (cccP_no (ccc_none hv))
         clear hv
         go_wp2
         go_ret2
         exact⟨by rw [HV.out];rfl,below_iter w S _⟩
       rw [if_pos (by omega)] at hv
       have hg2:X≤57:=by omega
       have hg1:48≤X:=by omega
       by_cases hbig:254<a*10+(X-48).toNat
       · have HP:=Lib.hid (cccP_no (ccc_more hv hbig))
         have hbi:254<10*(a:Int)+(X-48):=by omega
         clear hv hbig
         go_wp2
         go_ret2
         exact⟨by rw [HP.out];rfl,below_iter w S _⟩
       · have HV:=Lib.hid hv
         have hbi:10*(a:Int)+(X-48)≤254:=by omega
         clear hv
         go_wp2
         go_roundw
         case rel=>
          refine⟨k+1,a*10+(X-48).toNat,val_int (by omega),rfl,by omega,by omega,HV.out,?_⟩
          rcases H10.out with h | ⟨h,h'⟩ | ⟨h,h'⟩
          · exact .inl h
          · rcases HF.out with h1 | h1
            · exact .inl h1
            · have:=HK0.out h
              refine .inr (.inr ⟨by omega,?_⟩)
              have hX48:¬X=48:=by rw [this];first | exact h1 | exact absurd trivial h1
              rw [h,h']
              have e:(X-48).toNat≥1:=by omega
              show 1≤0*10+(X-48).toNat
              omega
          · refine .inr (.inr ⟨by omega,?_⟩)
            obtain⟨j,rfl⟩:∃ j,k=j+1:=⟨k-1,by omega⟩
            rw [Nat.add_sub_cancel] at h' ⊢
            rw [Nat.pow_succ]
            omega
         case measure=>simp;omega
     · obtain⟨R,d,hR1,hR2,hnx⟩:=next_high (P:=Tryz.prog) (w:=w) hks hx hasc
       rw [if_neg (by omega)] at hv
       have HV:=Lib.hid (cccP_no (ccc_none hv))
       clear hv hx hks
       go_wp2
       go_ret2
       exact⟨by rw [HV.out];rfl,below_iter w S _⟩
   · have hke:k=n:=by omega
     subst hke
     rw [List.drop_of_length_le (by rw [HN.out];exact Nat.le_refl _)] at hv
     have HP:=Lib.hid (HY.out a hv ha (by have:=H10.out;rcases this with h | h | h;exact .inl h;omega;exact .inr h))
     have hks:¬k<S.size:=by rw [hsz];exact hlt
     have hnx:∀ ty,(Instr.next (.pointer (some ⟨w.heap.size,0,none⟩)) true ty).run Tryz.prog (w.iter S k)=.ok (.tuple #[.bool false]) (w.iter S k):=fun ty=>run_next_end w S k ty hks
     clear hv hks hlt
     go_wp2
     go_ret2
     exact⟨by rw [HP.out];rfl,below_iter w S _⟩
theorem pre_tag (l:List UInt8):Lib.hasPrefix l [60]=tagB l:=by
 unfold tagB oct
 rw [Bool.eq_iff_iff,decide_eq_true_eq]
 cases l with
 | nil=>simp [Lib.hasPrefix]
 | cons x t=>
  simp [Lib.hasPrefix]
  constructor
  · intro h;rw [←h];rfl
  · intro h;exact UInt8.toNat_inj.1 (by show 60=x.toNat;omega)
theorem suf_iff (s e:List UInt8):Lib.hasSuffix s e=true↔e <:+ s:=by
 unfold Lib.hasSuffix
 simp
theorem named_eq (s e:List UInt8):(Lib.hasPrefix s [60]&&Lib.hasSuffix s e)=namedB s e:=by
 rw [pre_tag,Bool.eq_iff_iff,named_iff,Bool.and_eq_true,suf_iff]
 unfold tagB
 rw [decide_eq_true_eq,and_assoc]
set_option maxRecDepth 100000 in
set_option maxHeartbeats 1000000 in
theorem named36 (s e:List UInt8) (w:World) (hl:s.length≤1000000):Calls Tryz.prog 112 #[.string (bs s),.string (bs e)] w fun r w'=>r=.returned (.bool (namedB s e))∧w=w':=by
 have c63:=Tryz.strings_HasPrefix (bs s) ⟨#[60]⟩ w
 have c64:=Tryz.strings_HasSuffix (bs s) (bs e) w (by rw [bs_size];omega)
 rw [bs_data] at c63 c64
 rw [bs_data] at c64
 rw [←named_eq]
 have e60:(⟨#[60]⟩:ByteArray).data.toList = [60]:=rfl
 rw [e60] at c63
 obtain⟨P,hP⟩:∃ P,Lib.hasPrefix s [60]=P:=⟨_,rfl⟩
 obtain⟨Q,hQ⟩:∃ Q,Lib.hasSuffix s e=Q:=⟨_,rfl⟩
 rw [hP] at c63 ⊢
 rw [hQ] at c64 ⊢
 obtain⟨S,hS⟩:∃ S,bs s=S:=⟨_,rfl⟩
 obtain⟨E,hE⟩:∃ E,bs e=E:=⟨_,rfl⟩
 rw [hS] at c63 c64 ⊢
 rw [hE] at c64 ⊢
 clear hP hQ hS hE e60 hl
 cases P with
 | true=>
  go_enter Tryz.func112,Tryz.ntmps112
  go_wp2_with (first
   | (go_at_call 149;(with_reducible refine c63.mono ?_);rintro e w' ⟨rfl,rfl⟩)
   | (go_at_call 150;(with_reducible refine c64.mono ?_);rintro e w' ⟨rfl,rfl⟩))
  go_ret
  exact⟨rfl,rfl⟩
 | false=>
  clear c64
  go_enter Tryz.func112,Tryz.ntmps112
  go_wp2_with (go_at_call 149;(with_reducible refine c63.mono ?_);rintro e w' ⟨rfl,rfl⟩)
  go_ret
  exact⟨rfl,rfl⟩
set_option maxRecDepth 100000 in
set_option maxHeartbeats 1000000 in
theorem clone61 (S:ByteArray) (w:World) (hl:S.size≤1000000):Calls Tryz.prog 117 #[.string S] w fun e w'=>e=.returned (.string S)∧Below w.heap.size w w':=by
 have c77:=Tryz.stringslite_Clone S w (by omega)
 go_enter Tryz.func117,Tryz.ntmps117
 go_wp2_with (go_at_call 155;(with_reducible refine c77.mono ?_);rintro e w' ⟨rfl,hb⟩)
 go_ret
 exact⟨rfl,hb⟩
def DecPost (l:List UInt8) (w:World) (e:Ending) (w':World):Prop:=
 Below w.heap.size w w'∧∃ A n ca,e=.returned (.tuple #[.slice A n ca,.int .i64 (decErr l)])∧Hid (decErr l=0→n=(decVal l).length∧Vals w' A n (i64s (decVal l))∧∀ a,A=some a→w.heap.size≤a.block)
set_option maxRecDepth 100000 in
set_option maxHeartbeats 2000000 in
theorem dec60 (l:List UInt8) (w:World) (hl:l.length≤4000) (hM:ML w):Calls Tryz.prog 147 #[.string (bs l)] w (DecPost l w):=by
 have c63:=Tryz.strings_HasPrefix (bs l) ⟨#[60]⟩ w
 have e60:(⟨#[60]⟩:ByteArray).data.toList = [60]:=rfl
 rw [e60,bs_data,pre_tag] at c63
 have c76:=sequence15 l w hl hM
 obtain⟨S,hS⟩:∃ S,bs l=S:=⟨_,rfl⟩
 rw [hS] at c63 c76 ⊢
 clear hS e60 hM
 cases ht:tagB l with
 | true=>
  rw [ht] at c63
  have HD:Hid (decErr l=0):=Lib.hid (by unfold decErr;rw [if_pos ht])
  have HV:Hid (decVal l = []):=Lib.hid (by unfold decVal;rw [if_pos ht])
  clear ht c76
  go_enter Tryz.func147,Tryz.ntmps147
  go_wp2_with (go_at_call 149;(with_reducible refine c63.mono ?_);rintro e w' ⟨rfl,rfl⟩)
  go_ret2
  exact⟨Below.refl _ _,none,0,0,by rw [HD.out];rfl,Lib.hid fun _=>⟨by rw [HV.out];rfl,by rw [HV.out];exact Vals.nil _ _,fun a h=>by cases h⟩⟩
 | false=>
  rw [ht] at c63
  have hde:=dec_err ht
  cases hs:seqOf l with
  | none=>
   replace c76:=c76.mono (fun e w' h=>seq_none hs h)
   rw [hs] at hde
   have HD:=Lib.hid hde
   clear ht hs hde
   go_enter Tryz.func147,Tryz.ntmps147
   go_wp2_with (first
    | (go_at_call 149;(with_reducible refine c63.mono ?_);rintro e w' ⟨rfl,rfl⟩)
    | (go_at_call 127;(with_reducible refine c76.mono ?_);rintro e w3 ⟨rfl,hb3⟩))
   go_ret2
   exact⟨hb3,none,0,0,by rw [HD.out];rfl,Lib.hid fun h=>by rw [HD.out] at h;cases h⟩
  | some cs=>
   replace c76:=c76.mono (fun e w' h=>seq_some hs h)
   rw [hs] at hde
   have HV:Hid (decVal l=cs):=Lib.hid (by unfold decVal;rw [if_neg (by rw [ht];decide),hs];rfl)
   by_cases hlong:2<cs.length
   · have HD:Hid (decErr l=16):=Lib.hid (by rw [hde];simp only [if_pos hlong])
     have hlI:2<(cs.length:Int):=by omega
     clear ht hs hde
     go_enter Tryz.func147,Tryz.ntmps147
     go_wp2_with (first
      | (go_at_call 149;(with_reducible refine c63.mono ?_);rintro e w' ⟨rfl,rfl⟩)
      | (go_at_call 127;(with_reducible refine c76.mono ?_);rintro e w3 ⟨hb3,A3,ca3,rfl,hV3⟩))
     go_ret2
     exact⟨hb3,none,0,0,by rw [HD.out];rfl,Lib.hid fun h=>by rw [HD.out] at h;cases h⟩
   · have HD:Hid (decErr l=0):=Lib.hid (by rw [hde];simp only [if_neg hlong])
     have hlI:¬2<(cs.length:Int):=by omega
     clear ht hs hde
     go_enter Tryz.func147,Tryz.ntmps147
     go_wp2_with (first
      | (go_at_call 149;(with_reducible refine c63.mono ?_);rintro e w' ⟨rfl,rfl⟩)
      | (go_at_call 127;(with_reducible refine c76.mono ?_);rintro e w3 ⟨hb3,A3,ca3,rfl,hV3⟩))
     go_ret2
     exact⟨hb3,A3,cs.length,ca3,by rw [HD.out];rfl,Lib.hid fun _=>⟨by rw [HV.out],by rw [HV.out];exact hV3.out.1,hV3.out.2⟩⟩
end Go.Proofs.YtmellioacefjjaaGreatDoor.Uc
