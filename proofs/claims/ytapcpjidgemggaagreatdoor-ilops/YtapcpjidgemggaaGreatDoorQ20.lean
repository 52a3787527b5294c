/- Signs ahead of operands; operators (stage 13). -/
import Derived.RegionCalls
import Derived.Deep.RegionHeld3
import Derived.Test.YtapcpjidgemggaaGreatDoorQ19
namespace Go.Proofs.YtapcpjidgemggaaGreatDoor
open Go.RowKit
open Adr Lx Sx
theorem una_s (T:TL) (d i:Nat):una T (d+1) i=if !beg T i then no 130 i else if isT T [45] i then un1 3 (ca T i) (una T d (i+1)) else if isT T [78,79,84] i then un1 4 (ca T i) (una T d (i+1)) else pri T (bi T (una T d) 6) i:=rfl
set_option maxHeartbeats 4000000 in
set_option maxRecDepth 100000 in
theorem p_unaryOf {w:World} {rb tb cap:Nat} {T:TL} {i:Nat} (h:Rd w rb tb cap T i) (dp:Nat) (hd:dp≤40) (x:Nat→Re Tr) (U:Hid (∀ W i,Rd W rb tb cap T i→Calls Tryz.prog 193 #[.pointer (some ⟨rb,0,none⟩),.int .i64 ((dp:Int)+1)] W fun e w'=>Outc rb tb cap T i W (x i) (qE W) e w')) (op:Nat) (hn:¬ (cu T i).1=nul):Calls Tryz.prog 197 #[.pointer (some ⟨rb,0,none⟩),.int .i64 op,.int .i64 dp] w fun e w'=>Outc rb tb cap T i w (un1 op (ca T i) (x (i+1))) (qE w) e w':=by
  have hrl:=h.rlt
  have htl:=h.lt
  have B0:=hid_as (Bk.fresh w #[.int .i64 0,.int .i64 0,.int .i64 0,.string ⟨#[]⟩,.string ⟨#[]⟩,.slice none 0 0,.int .i64 0] 53)
  have K0:=hid_as ((Kp.refl rb w).alloc (.cells #[.int .i64 0,.int .i64 0,.int .i64 0,.string ⟨#[]⟩,.string ⟨#[]⟩,.slice none 0 0,.int .i64 0] 53))
  have H:=hid_as (h.alloc (.cells #[.int .i64 0,.int .i64 0,.int .i64 0,.string ⟨#[]⟩,.string ⟨#[]⟩,.slice none 0 0,.int .i64 0] 53))
  have em:un1 op (ca T i) (x (i+1))=th (x (i+1)) fun a k=>ok (mkT ⟨op,0,0,[],[],ca T i,1⟩ [a]) k:=rfl
  generalize un1 op (ca T i) (x (i+1))=M at *
  have M0:=hid_as em
  have D:=hid_as (fun W (H:Rd W rb tb cap T i)=>take_c H hn)
  unfold tv at D
  unfold ca at M0
  clear h em hn
  have mw:IntKind.i64.wrap ((dp:Int)+1)=(dp:Int)+1:=by rw [IntKind.wrap_i64];omega
  generalize cu T i=c at *
  obtain ⟨⟨ta,tk,tn,tt⟩,pl⟩:=c
  simp only at D M0
  go_enter Tryz.func197,Tryz.ntmps197
  go_wp2_with (first
    | (go_at_call 128;(with_reducible refine (D.out _ H.out).mono ?_);rintro e w1 ⟨rfl,k1,r1⟩;have R1:=hid_as r1;have K1:=hid_as ((K0.out).trans k1);have B1:=hid_as (B0.out.kp k1 (by omega));have z1:=K1.out.size;have q1:=k1.size;(try rw [World.size_alloc] at q1);have J1:=hid_as k1;clear k1 r1;have y1:=B1.out.lt;have V1:=hid_as (Bk.fresh w1 #[.int .i64 ta,.int .i64 tk,.int .i64 tn,.string (tx tt),.int .i64 pl] 42).drew;have B2:=hid_as (B1.out.alloc (.cells #[.int .i64 ta,.int .i64 tk,.int .i64 tn,.string (tx tt),.int .i64 pl] 42)).drew;have R2:=hid_as (R1.out.alloc (.cells #[.int .i64 ta,.int .i64 tk,.int .i64 tn,.string (tx tt),.int .i64 pl] 42)).drew;have K2:=hid_as (K1.out.alloc (.cells #[.int .i64 ta,.int .i64 tk,.int .i64 tn,.string (tx tt),.int .i64 pl] 42)).drew;obtain ⟨u0,u1,u2,u3,u4⟩:=bk5 V1.out;have uf:=V1.out.fr))
  go_region_with (first
    | (go_at_call 193;(with_reducible refine (U.out _ (i+1) R2.out).mono ?_);rintro e w3 ⟨k3,⟨t3,i3,_,m3,rfl,⟨o3,kd3,v3,nm3,fl3,lp3,ln3,lc3,p3,rfl,E3'⟩,r3,l3⟩ | ⟨n3,i3,m3,rfl⟩⟩;rotate_left;exact And.intro rfl (Outc.stop M0.out m3 ((K2.out).trans k3));have R3:=hid_as r3;have K3:=hid_as ((K2.out).trans k3);have M3:=hid_as (th_go M0.out m3);have B3:=hid_as (B2.out.kp k3 (by omega));have V3:=hid_as (V1.out.kp k3 (by omega));have z3:=K3.out.size;have q3:=k3.size;(try rw [World.size_alloc] at q3);have J3:=hid_as k3;clear k3 r3 m3;have E3:=hid_as E3';clear E3';clear u0 u1 u2 u3 u4 uf;obtain ⟨u0,u1,u2,u3,u4⟩:=bk5 V3.out;have uf:=V3.out.fr;obtain ⟨s0,s1,s2,s3,s4,s5,s6⟩:=bk7 B3.out;have sf:=B3.out.fr;have y3:=V3.out.lt;have d1:¬ w1.heap.size=w3.heap.size:=(by omega);have d2:¬ w.heap.size=w3.heap.size:=(by omega);have a0:=fun o=>(bk7 (B3.out.alloc o)).1;have a1:=fun o=>(bk7 (B3.out.alloc o)).2.1;have a2:=fun o=>(bk7 (B3.out.alloc o)).2.2.1;have a3:=fun o=>(bk7 (B3.out.alloc o)).2.2.2.1;have a4:=fun o=>(bk7 (B3.out.alloc o)).2.2.2.2.1;have a5:=fun o=>(bk7 (B3.out.alloc o)).2.2.2.2.2.1;have a6:=fun o=>(bk7 (B3.out.alloc o)).2.2.2.2.2.2;have af:=fun o=>(B3.out.alloc o).fr))
  all_goals go_wp2
  all_goals
    have E4:=E3.out.into (S':=fun x=>w.heap.size+1≤x) (fun x hx _=>Nat.le_trans (show w.heap.size+1≤((w1.alloc (.cells #[.int .i64 ta,.int .i64 tk,.int .i64 tn,.string (tx tt),.int .i64 pl] 42)).drew).heap.size by (show w.heap.size+1≤(w1.alloc (.cells #[.int .i64 ta,.int .i64 tk,.int .i64 tn,.string (tx tt),.int .i64 pl] 42)).heap.size;rw [World.size_alloc];omega)) hx)
    have G:=Bk.fresh w3 #[.int .i64 o3,.int .i64 kd3,.int .i64 v3,.string nm3,.string fl3,.slice lp3 ln3 lc3,.int .i64 p3] 53
    exact bodyPost_ret (v:=.agg #[.int .i64 op,.int .i64 0,.int .i64 0,.string ⟨#[]⟩,.string ⟨#[]⟩,.slice (some ⟨w3.heap.size,0,none⟩) 1 1,.int .i64 pl]) (by simp [results,Tryz.results197,go_sem,a0,a1,a2,a3,a4,a5,a6]) rfl ⟨(K3.out.alloc _).put7 (by omega) _ _ _ _ _ _ _,Or.inl ⟨_,_,_,M3.out,rfl,⟨_,_,_,_,_,_,_,_,_,rfl,(((Et.node1 (d:=⟨op,0,0,[],[],pl,1⟩) rfl (Nat.le_refl _) (show w.heap.size+1≤w3.heap.size by omega) G.lt G.fr (RowE.of_bk G) (E4.alloc _))).set7 (by show ¬ (_≤_);omega) _ _ _ _ _ _ _).into (fun x (hx:w.heap.size+1≤x) _=>(by show w.heap.size≤x;omega))⟩,(R3.out.alloc _).put7 (by omega) (by omega) _ _ _ _ _ _ _,(by omega)⟩⟩
set_option maxHeartbeats 4000000 in
set_option maxRecDepth 100000 in
theorem p_unary_no {w:World} {rb tb cap:Nat} {T:TL} {i:Nat} (h:Rd w rb tb cap T i) (dp:Nat) (d:Nat) (hb:beg T i=false):Calls Tryz.prog 193 #[.pointer (some ⟨rb,0,none⟩),.int .i64 dp] w fun e w'=>Outc rb tb cap T i w (una T d i) (qE w) e w':=by
  have K0:=hid_as ((Kp.refl rb w).alloc (.cells #[.int .i64 0,.int .i64 0,.int .i64 0,.string ⟨#[]⟩,.string ⟨#[]⟩,.slice none 0 0,.int .i64 0] 53))
  have H:=hid_as (h.alloc (.cells #[.int .i64 0,.int .i64 0,.int .i64 0,.string ⟨#[]⟩,.string ⟨#[]⟩,.slice none 0 0,.int .i64 0] 53))
  have BE:=hid_as (fun W (H:Rd W rb tb cap T i)=>beginsExpr_c H)
  rw [hb] at BE
  have em:una T d i=no 130 i:=by cases d <;> (unfold una;rw [hb];rfl)
  rw [em]
  have D:=hid_as (fun W (H:Rd W rb tb cap T i)=>refuse_130 H)
  clear h hb em
  go_enter Tryz.func193,Tryz.ntmps193
  go_wp2_with (first
    | (go_at_call 196;(with_reducible refine (BE.out _ H.out).mono ?_);rintro e w1 ⟨rfl,b1⟩;have R1:=hid_as (H.out.below b1);have K1:=hid_as (K0.out.below b1);clear b1)
    | (go_at_call 130;(with_reducible refine (D.out _ R1.out).mono ?_);rintro e w2 ⟨rfl,b2⟩))
  exact ⟨rfl,K1.out.below b2,Or.inr ⟨130,i,rfl,rfl⟩⟩
set_option maxHeartbeats 4000000 in
set_option maxRecDepth 100000 in
theorem p_unary_deep {w:World} {rb tb cap:Nat} {T:TL} {i:Nat} (h:Rd w rb tb cap T i) (dp:Nat) (hd:32 < dp) (hb:beg T i=true):Calls Tryz.prog 193 #[.pointer (some ⟨rb,0,none⟩),.int .i64 dp] w fun e w'=>Outc rb tb cap T i w (una T 0 i) (qE w) e w':=by
  have K0:=hid_as ((Kp.refl rb w).alloc (.cells #[.int .i64 0,.int .i64 0,.int .i64 0,.string ⟨#[]⟩,.string ⟨#[]⟩,.slice none 0 0,.int .i64 0] 53))
  have H:=hid_as (h.alloc (.cells #[.int .i64 0,.int .i64 0,.int .i64 0,.string ⟨#[]⟩,.string ⟨#[]⟩,.slice none 0 0,.int .i64 0] 53))
  have BE:=hid_as (fun W (H:Rd W rb tb cap T i)=>beginsExpr_c H)
  rw [hb] at BE
  have em:una T 0 i=no 131 i:=by unfold una;rw [if_pos hb]
  rw [em]
  have D:=hid_as (fun W (H:Rd W rb tb cap T i)=>refuse_131 H)
  have hd':(32:Int) < dp:=by omega
  clear h hb em
  go_enter Tryz.func193,Tryz.ntmps193
  go_wp2_with (first
    | (go_at_call 196;(with_reducible refine (BE.out _ H.out).mono ?_);rintro e w1 ⟨rfl,b1⟩;have R1:=hid_as (H.out.below b1);have K1:=hid_as (K0.out.below b1);clear b1)
    | (go_at_call 130;(with_reducible refine (D.out _ R1.out).mono ?_);rintro e w2 ⟨rfl,b2⟩))
  exact ⟨rfl,K1.out.below b2,Or.inr ⟨131,i,rfl,rfl⟩⟩
set_option maxHeartbeats 4000000 in
set_option maxRecDepth 100000 in
theorem p_unary_neg {w:World} {rb tb cap:Nat} {T:TL} {i:Nat} (h:Rd w rb tb cap T i) (dp:Nat) (hd:dp≤32) (d:Nat) (U:Hid (∀ W i,Rd W rb tb cap T i→Calls Tryz.prog 193 #[.pointer (some ⟨rb,0,none⟩),.int .i64 ((dp:Int)+1)] W fun e w'=>Outc rb tb cap T i W (una T d i) (qE W) e w')) (hb:beg T i=true) (h1:isT T [45] i=true):Calls Tryz.prog 193 #[.pointer (some ⟨rb,0,none⟩),.int .i64 dp] w fun e w'=>Outc rb tb cap T i w (una T (d+1) i) (qE w) e w':=by
  have hrl:=h.rlt
  have htl:=h.lt
  have B0:=hid_as (Bk.fresh w #[.int .i64 0,.int .i64 0,.int .i64 0,.string ⟨#[]⟩,.string ⟨#[]⟩,.slice none 0 0,.int .i64 0] 53)
  have K0:=hid_as ((Kp.refl rb w).alloc (.cells #[.int .i64 0,.int .i64 0,.int .i64 0,.string ⟨#[]⟩,.string ⟨#[]⟩,.slice none 0 0,.int .i64 0] 53))
  have H:=hid_as (h.alloc (.cells #[.int .i64 0,.int .i64 0,.int .i64 0,.string ⟨#[]⟩,.string ⟨#[]⟩,.slice none 0 0,.int .i64 0] 53))
  have BE:=hid_as (fun W (H:Rd W rb tb cap T i)=>beginsExpr_c H)
  rw [hb] at BE
  have em:una T (d+1) i=un1 3 (ca T i) (una T d (i+1)):=by rw [una_s,hb,h1];rfl
  generalize una T (d+1) i=M at *
  have M0:=hid_as em
  have I1:Hid (∀ W,Rd W rb tb cap T i→Calls Tryz.prog 127 #[.pointer (some ⟨rb,0,none⟩),.string ⟨#[45]⟩] W fun e w'=>e=.returned (.bool true)∧Below W.heap.size W w'):=fun W H=>by have q:=is_c H ⟨#[45]⟩;rw [show isT T (⟨#[45]⟩:ByteArray).data.toList i=true from h1] at q;exact q
  have C:Hid (∀ W,Rd W rb tb cap T i→Calls Tryz.prog 197 #[.pointer (some ⟨rb,0,none⟩),.int .i64 3,.int .i64 dp] W fun e w'=>Outc rb tb cap T i W (un1 3 (ca T i) (una T d (i+1))) (qE W) e w'):=fun W H=>p_unaryOf H dp (by omega) (una T d) U 3 (ct_more h1 (by decide))
  have hd':¬ (32:Int) < dp:=by omega
  clear h hb em U h1
  go_enter Tryz.func193,Tryz.ntmps193
  go_wp2_with (first
    | (go_at_call 196;(with_reducible refine (BE.out _ H.out).mono ?_);rintro e w1 ⟨rfl,b1⟩;have R1:=hid_as ((H.out).below b1);have K1:=hid_as ((K0.out).below b1);have B1:=hid_as (B0.out.below b1);have z1:=K1.out.size;have q1:=b1.size;(try rw [World.size_alloc] at q1);have J1:=hid_as (kp_of_below (rb:=rb) b1);clear b1;have y1:=B1.out.lt)
    | (go_at_call 127;(with_reducible refine (I1.out _ R1.out).mono ?_);rintro e w2 ⟨rfl,b2⟩;have R2:=hid_as ((R1.out).below b2);have K2:=hid_as ((K1.out).below b2);have B2:=hid_as (B1.out.below b2);have z2:=K2.out.size;have q2:=b2.size;(try rw [World.size_alloc] at q2);have J2:=hid_as (kp_of_below (rb:=rb) b2);clear b2)
    | (go_at_call 197;(with_reducible refine (C.out _ R2.out).mono ?_);rintro e w4 ⟨k4,⟨t4,i4,_,m4,rfl,⟨o4,kd4,v4,nm4,fl4,lp4,ln4,lc4,p4,rfl,E4'⟩,r4,l4⟩ | ⟨n4,i4,m4,rfl⟩⟩;rotate_left;exact And.intro rfl (Outc.stop0 M0.out m4 ((K2.out).trans k4));have R4:=hid_as r4;have K4:=hid_as ((K2.out).trans k4);have M4:=hid_as (M0.out.trans m4);have B4:=hid_as (B2.out.kp k4 (by omega));have z4:=K4.out.size;have q4:=k4.size;(try rw [World.size_alloc] at q4);have J4:=hid_as k4;clear k4 r4 m4;have E4:=hid_as E4';clear E4';obtain ⟨s0,s1,s2,s3,s4,s5,s6⟩:=bk7 B4.out;have sf:=B4.out.fr))
  exact bodyPost_ret (v:=.agg #[.int .i64 o4,.int .i64 kd4,.int .i64 v4,.string nm4,.string fl4,.slice lp4 ln4 lc4,.int .i64 p4]) (by simp [results,Tryz.results193,go_sem,s0,s1,s2,s3,s4,s5,s6]) rfl ⟨K4.out.put7 (by omega) _ _ _ _ _ _ _,Or.inl ⟨_,_,_,M4.out,rfl,⟨_,_,_,_,_,_,_,_,_,rfl,((E4.out).set7 (by show ¬ (_≤_);omega) _ _ _ _ _ _ _).into (fun x (hx:w2.heap.size≤x) _=>(by show w.heap.size≤x;omega))⟩,R4.out.put7 (by omega) (by omega) _ _ _ _ _ _ _,l4⟩⟩
set_option maxHeartbeats 4000000 in
set_option maxRecDepth 100000 in
theorem p_unary_not {w:World} {rb tb cap:Nat} {T:TL} {i:Nat} (h:Rd w rb tb cap T i) (dp:Nat) (hd:dp≤32) (d:Nat) (U:Hid (∀ W i,Rd W rb tb cap T i→Calls Tryz.prog 193 #[.pointer (some ⟨rb,0,none⟩),.int .i64 ((dp:Int)+1)] W fun e w'=>Outc rb tb cap T i W (una T d i) (qE W) e w')) (hb:beg T i=true) (h1:isT T [45] i=false) (h2:isT T [78,79,84] i=true):Calls Tryz.prog 193 #[.pointer (some ⟨rb,0,none⟩),.int .i64 dp] w fun e w'=>Outc rb tb cap T i w (una T (d+1) i) (qE w) e w':=by
  have hrl:=h.rlt
  have htl:=h.lt
  have B0:=hid_as (Bk.fresh w #[.int .i64 0,.int .i64 0,.int .i64 0,.string ⟨#[]⟩,.string ⟨#[]⟩,.slice none 0 0,.int .i64 0] 53)
  have K0:=hid_as ((Kp.refl rb w).alloc (.cells #[.int .i64 0,.int .i64 0,.int .i64 0,.string ⟨#[]⟩,.string ⟨#[]⟩,.slice none 0 0,.int .i64 0] 53))
  have H:=hid_as (h.alloc (.cells #[.int .i64 0,.int .i64 0,.int .i64 0,.string ⟨#[]⟩,.string ⟨#[]⟩,.slice none 0 0,.int .i64 0] 53))
  have BE:=hid_as (fun W (H:Rd W rb tb cap T i)=>beginsExpr_c H)
  rw [hb] at BE
  have em:una T (d+1) i=un1 4 (ca T i) (una T d (i+1)):=by rw [una_s,hb,h1,h2];rfl
  generalize una T (d+1) i=M at *
  have M0:=hid_as em
  have I1:Hid (∀ W,Rd W rb tb cap T i→Calls Tryz.prog 127 #[.pointer (some ⟨rb,0,none⟩),.string ⟨#[45]⟩] W fun e w'=>e=.returned (.bool false)∧Below W.heap.size W w'):=fun W H=>by have q:=is_c H ⟨#[45]⟩;rw [show isT T (⟨#[45]⟩:ByteArray).data.toList i=false from h1] at q;exact q
  have I2:Hid (∀ W,Rd W rb tb cap T i→Calls Tryz.prog 127 #[.pointer (some ⟨rb,0,none⟩),.string ⟨#[78,79,84]⟩] W fun e w'=>e=.returned (.bool true)∧Below W.heap.size W w'):=fun W H=>by have q:=is_c H ⟨#[78,79,84]⟩;rw [show isT T (⟨#[78,79,84]⟩:ByteArray).data.toList i=true from h2] at q;exact q
  have C:Hid (∀ W,Rd W rb tb cap T i→Calls Tryz.prog 197 #[.pointer (some ⟨rb,0,none⟩),.int .i64 4,.int .i64 dp] W fun e w'=>Outc rb tb cap T i W (un1 4 (ca T i) (una T d (i+1))) (qE W) e w'):=fun W H=>p_unaryOf H dp (by omega) (una T d) U 4 (ct_more h2 (by decide))
  have hd':¬ (32:Int) < dp:=by omega
  clear h hb em U h1 h2
  go_enter Tryz.func193,Tryz.ntmps193
  go_wp2_with (first
    | (go_at_call 196;(with_reducible refine (BE.out _ H.out).mono ?_);rintro e w1 ⟨rfl,b1⟩;have R1:=hid_as ((H.out).below b1);have K1:=hid_as ((K0.out).below b1);have B1:=hid_as (B0.out.below b1);have z1:=K1.out.size;have q1:=b1.size;(try rw [World.size_alloc] at q1);have J1:=hid_as (kp_of_below (rb:=rb) b1);clear b1;have y1:=B1.out.lt)
    | (go_at_call 127;(with_reducible refine (I1.out _ R1.out).mono ?_);rintro e w2 ⟨rfl,b2⟩;have R2:=hid_as ((R1.out).below b2);have K2:=hid_as ((K1.out).below b2);have B2:=hid_as (B1.out.below b2);have z2:=K2.out.size;have q2:=b2.size;(try rw [World.size_alloc] at q2);have J2:=hid_as (kp_of_below (rb:=rb) b2);clear b2)
    | (go_at_call 127;(with_reducible refine (I2.out _ R2.out).mono ?_);rintro e w3 ⟨rfl,b3⟩;have R3:=hid_as ((R2.out).below b3);have K3:=hid_as ((K2.out).below b3);have B3:=hid_as (B2.out.below b3);have z3:=K3.out.size;have q3:=b3.size;(try rw [World.size_alloc] at q3);have J3:=hid_as (kp_of_below (rb:=rb) b3);clear b3)
    | (go_at_call 197;(with_reducible refine (C.out _ R3.out).mono ?_);rintro e w4 ⟨k4,⟨t4,i4,_,m4,rfl,⟨o4,kd4,v4,nm4,fl4,lp4,ln4,lc4,p4,rfl,E4'⟩,r4,l4⟩ | ⟨n4,i4,m4,rfl⟩⟩;rotate_left;exact And.intro rfl (Outc.stop0 M0.out m4 ((K3.out).trans k4));have R4:=hid_as r4;have K4:=hid_as ((K3.out).trans k4);have M4:=hid_as (M0.out.trans m4);have B4:=hid_as (B3.out.kp k4 (by omega));have z4:=K4.out.size;have q4:=k4.size;(try rw [World.size_alloc] at q4);have J4:=hid_as k4;clear k4 r4 m4;have E4:=hid_as E4';clear E4';obtain ⟨s0,s1,s2,s3,s4,s5,s6⟩:=bk7 B4.out;have sf:=B4.out.fr))
  exact bodyPost_ret (v:=.agg #[.int .i64 o4,.int .i64 kd4,.int .i64 v4,.string nm4,.string fl4,.slice lp4 ln4 lc4,.int .i64 p4]) (by simp [results,Tryz.results193,go_sem,s0,s1,s2,s3,s4,s5,s6]) rfl ⟨K4.out.put7 (by omega) _ _ _ _ _ _ _,Or.inl ⟨_,_,_,M4.out,rfl,⟨_,_,_,_,_,_,_,_,_,rfl,((E4.out).set7 (by show ¬ (_≤_);omega) _ _ _ _ _ _ _).into (fun x (hx:w3.heap.size≤x) _=>(by show w.heap.size≤x;omega))⟩,R4.out.put7 (by omega) (by omega) _ _ _ _ _ _ _,l4⟩⟩
set_option maxHeartbeats 4000000 in
set_option maxRecDepth 100000 in
theorem p_unary_pri {w:World} {rb tb cap:Nat} {T:TL} {i:Nat} (h:Rd w rb tb cap T i) (dp:Nat) (hd:dp≤32) (d:Nat) (X:Hid (∀ W i,Rd W rb tb cap T i→Calls Tryz.prog 186 #[.pointer (some ⟨rb,0,none⟩),.int .i64 ((dp:Int)+1)] W fun e w'=>Outc rb tb cap T i W (xpr T d i) (qE W) e w')) (hb:beg T i=true) (h1:isT T [45] i=false) (h2:isT T [78,79,84] i=false):Calls Tryz.prog 193 #[.pointer (some ⟨rb,0,none⟩),.int .i64 dp] w fun e w'=>Outc rb tb cap T i w (una T (d+1) i) (qE w) e w':=by
  have hrl:=h.rlt
  have htl:=h.lt
  have B0:=hid_as (Bk.fresh w #[.int .i64 0,.int .i64 0,.int .i64 0,.string ⟨#[]⟩,.string ⟨#[]⟩,.slice none 0 0,.int .i64 0] 53)
  have K0:=hid_as ((Kp.refl rb w).alloc (.cells #[.int .i64 0,.int .i64 0,.int .i64 0,.string ⟨#[]⟩,.string ⟨#[]⟩,.slice none 0 0,.int .i64 0] 53))
  have H:=hid_as (h.alloc (.cells #[.int .i64 0,.int .i64 0,.int .i64 0,.string ⟨#[]⟩,.string ⟨#[]⟩,.slice none 0 0,.int .i64 0] 53))
  have BE:=hid_as (fun W (H:Rd W rb tb cap T i)=>beginsExpr_c H)
  rw [hb] at BE
  have em:una T (d+1) i=pri T (xpr T d) i:=by rw [una_s,hb,h1,h2];rfl
  generalize una T (d+1) i=M at *
  have M0:=hid_as em
  have I1:Hid (∀ W,Rd W rb tb cap T i→Calls Tryz.prog 127 #[.pointer (some ⟨rb,0,none⟩),.string ⟨#[45]⟩] W fun e w'=>e=.returned (.bool false)∧Below W.heap.size W w'):=fun W H=>by have q:=is_c H ⟨#[45]⟩;rw [show isT T (⟨#[45]⟩:ByteArray).data.toList i=false from h1] at q;exact q
  have I2:Hid (∀ W,Rd W rb tb cap T i→Calls Tryz.prog 127 #[.pointer (some ⟨rb,0,none⟩),.string ⟨#[78,79,84]⟩] W fun e w'=>e=.returned (.bool false)∧Below W.heap.size W w'):=fun W H=>by have q:=is_c H ⟨#[78,79,84]⟩;rw [show isT T (⟨#[78,79,84]⟩:ByteArray).data.toList i=false from h2] at q;exact q
  have C:=hid_as (fun W (H:Rd W rb tb cap T i)=>p_primary H dp (by omega) (xpr T d) X)
  have hd':¬ (32:Int) < dp:=by omega
  clear h hb em X h1 h2
  go_enter Tryz.func193,Tryz.ntmps193
  go_wp2_with (first
    | (go_at_call 196;(with_reducible refine (BE.out _ H.out).mono ?_);rintro e w1 ⟨rfl,b1⟩;have R1:=hid_as ((H.out).below b1);have K1:=hid_as ((K0.out).below b1);have B1:=hid_as (B0.out.below b1);have z1:=K1.out.size;have q1:=b1.size;(try rw [World.size_alloc] at q1);have J1:=hid_as (kp_of_below (rb:=rb) b1);clear b1;have y1:=B1.out.lt)
    | (go_at_call 127;(with_reducible refine (I1.out _ R1.out).mono ?_);rintro e w2 ⟨rfl,b2⟩;have R2:=hid_as ((R1.out).below b2);have K2:=hid_as ((K1.out).below b2);have B2:=hid_as (B1.out.below b2);have z2:=K2.out.size;have q2:=b2.size;(try rw [World.size_alloc] at q2);have J2:=hid_as (kp_of_below (rb:=rb) b2);clear b2)
    | (go_at_call 127;(with_reducible refine (I2.out _ R2.out).mono ?_);rintro e w3 ⟨rfl,b3⟩;have R3:=hid_as ((R2.out).below b3);have K3:=hid_as ((K2.out).below b3);have B3:=hid_as (B2.out.below b3);have z3:=K3.out.size;have q3:=b3.size;(try rw [World.size_alloc] at q3);have J3:=hid_as (kp_of_below (rb:=rb) b3);clear b3)
    | (go_at_call 198;(with_reducible refine (C.out _ R3.out).mono ?_);rintro e w4 ⟨k4,⟨t4,i4,_,m4,rfl,⟨o4,kd4,v4,nm4,fl4,lp4,ln4,lc4,p4,rfl,E4'⟩,r4,l4⟩ | ⟨n4,i4,m4,rfl⟩⟩;rotate_left;exact And.intro rfl (Outc.stop0 M0.out m4 ((K3.out).trans k4));have R4:=hid_as r4;have K4:=hid_as ((K3.out).trans k4);have M4:=hid_as (M0.out.trans m4);have B4:=hid_as (B3.out.kp k4 (by omega));have z4:=K4.out.size;have q4:=k4.size;(try rw [World.size_alloc] at q4);have J4:=hid_as k4;clear k4 r4 m4;have E4:=hid_as E4';clear E4';obtain ⟨s0,s1,s2,s3,s4,s5,s6⟩:=bk7 B4.out;have sf:=B4.out.fr))
  exact bodyPost_ret (v:=.agg #[.int .i64 o4,.int .i64 kd4,.int .i64 v4,.string nm4,.string fl4,.slice lp4 ln4 lc4,.int .i64 p4]) (by simp [results,Tryz.results193,go_sem,s0,s1,s2,s3,s4,s5,s6]) rfl ⟨K4.out.put7 (by omega) _ _ _ _ _ _ _,Or.inl ⟨_,_,_,M4.out,rfl,⟨_,_,_,_,_,_,_,_,_,rfl,((E4.out).set7 (by show ¬ (_≤_);omega) _ _ _ _ _ _ _).into (fun x (hx:w3.heap.size≤x) _=>(by show w.heap.size≤x;omega))⟩,R4.out.put7 (by omega) (by omega) _ _ _ _ _ _ _,l4⟩⟩
end Go.Proofs.YtapcpjidgemggaaGreatDoor
