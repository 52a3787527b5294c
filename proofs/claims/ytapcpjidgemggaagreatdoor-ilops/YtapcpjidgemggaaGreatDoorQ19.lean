/- Operands (stage 13). -/
import Derived.Test.YtapcpjidgemggaaGreatDoorQ18
namespace Go.Proofs.YtapcpjidgemggaaGreatDoor
open Go.RowKit
open Adr Lx Sx
theorem p_variable {w:World} {rb tb cap:Nat} {T:TL} {i:Nat} (h:Rd w rb tb cap T i) (ta tk:Nat) (tn:Int) (tt:List UInt8) (pl:Nat) (dp:Nat) (hd:dp≤40) (x:Nat→Re Tr) (X:Hid (∀ W i,Rd W rb tb cap T i→Calls Tryz.prog 186 #[.pointer (some ⟨rb,0,none⟩),.int .i64 ((dp:Int)+1)] W fun e w'=>Outc rb tb cap T i W (x i) (qE W) e w')) :
    Calls Tryz.prog 190 #[.pointer (some ⟨rb,0,none⟩),.agg #[.int .i64 ta,.int .i64 tk,.int .i64 tn,.string (tx tt),.int .i64 pl],.int .i64 dp] w fun e w'=>Outc rb tb cap T i w (vr T x (⟨ta,tk,tn,tt⟩,pl) i) (qE w) e w':=by
  cases h1:isT T [46] i with
  | true=>exact p_variable_f h ta tk tn tt pl dp x h1
  | false =>
    cases h2:isT T [91] i with
    | true=>exact p_variable_x h ta tk tn tt pl dp hd x X h1 h2
    | false=>exact p_variable_p h ta tk tn tt pl dp x h1 h2
set_option maxHeartbeats 4000000 in
set_option maxRecDepth 100000 in
theorem p_primary_b {w:World} {rb tb cap:Nat} {T:TL} {i:Nat} (h:Rd w rb tb cap T i) (dp:Nat) (hd:dp≤40) (x:Nat→Re Tr) (X:Hid (∀ W i,Rd W rb tb cap T i→Calls Tryz.prog 186 #[.pointer (some ⟨rb,0,none⟩),.int .i64 ((dp:Int)+1)] W fun e w'=>Outc rb tb cap T i W (x i) (qE W) e w')) (h1:isT T [40] i=true):Calls Tryz.prog 198 #[.pointer (some ⟨rb,0,none⟩),.int .i64 dp] w fun e w'=>Outc rb tb cap T i w (pri T x i) (qE w) e w':=by
  have hrl:=h.rlt
  have htl:=h.lt
  have B0:=hid_as (Bk.fresh w #[.int .i64 0,.int .i64 0,.int .i64 0,.string ⟨#[]⟩,.string ⟨#[]⟩,.slice none 0 0,.int .i64 0] 53)
  have K0:=hid_as ((Kp.refl rb w).alloc (.cells #[.int .i64 0,.int .i64 0,.int .i64 0,.string ⟨#[]⟩,.string ⟨#[]⟩,.slice none 0 0,.int .i64 0] 53))
  have H:=hid_as (h.alloc (.cells #[.int .i64 0,.int .i64 0,.int .i64 0,.string ⟨#[]⟩,.string ⟨#[]⟩,.slice none 0 0,.int .i64 0] 53))
  have em:pri T x i=th (x (i+1)) fun a k=>th (xp T [41] k) fun _ m=>ok a m:=by unfold pri;rw [if_pos h1]
  generalize pri T x i=M at *
  have M0:=hid_as em
  have A1:Hid (∀ W,Rd W rb tb cap T (i)→Calls Tryz.prog 85 #[.pointer (some ⟨rb,0,none⟩),.string ⟨#[40]⟩] W fun e w'=>e=.returned (.bool true)∧Kp rb W w'∧Rd w' rb tb cap T (i+1)):=fun W H=>accept_y H ⟨#[40]⟩ h1 (by decide)
  have C:Hid (∀ W i,Rd W rb tb cap T i→Calls Tryz.prog 87 #[.pointer (some ⟨rb,0,none⟩),.string ⟨#[41]⟩] W fun e w'=>Outc rb tb cap T i W (xp T [41] i) (qU W) e w'):=expect_c ⟨#[41]⟩ (by decide)
  clear h h1 em
  go_enter Tryz.func198,Tryz.ntmps198
  go_wp2_with (first
    | (go_at_call 85;(with_reducible refine (A1.out _ H.out).mono ?_);rintro e w1 ⟨rfl,k1,r1⟩;have R1:=hid_as r1;have K1:=hid_as ((K0.out).trans k1);have B1:=hid_as (B0.out.kp k1 (by omega));have z1:=K1.out.size;have q1:=k1.size;(try rw [World.size_alloc] at q1);have J1:=hid_as k1;clear k1 r1;have y1:=B1.out.lt)
    | (go_at_call 186;(with_reducible refine (X.out _ (i+1) R1.out).mono ?_);rintro e w2 ⟨k2,⟨t2,i2,_,m2,rfl,⟨o2,kd2,v2,nm2,fl2,lp2,ln2,lc2,p2,rfl,E2'⟩,r2,l2⟩ | ⟨n2,i2,m2,rfl⟩⟩;rotate_left;exact And.intro rfl (Outc.stop M0.out m2 ((K1.out).trans k2));have R2:=hid_as r2;have K2:=hid_as ((K1.out).trans k2);have M2:=hid_as (th_go M0.out m2);have B2:=hid_as (B1.out.kp k2 (by omega));have z2:=K2.out.size;have q2:=k2.size;(try rw [World.size_alloc] at q2);have J2:=hid_as k2;clear k2 r2 m2;have E2:=hid_as E2';clear E2';have V2:=hid_as (Bk.fresh w2 #[.int .i64 o2,.int .i64 kd2,.int .i64 v2,.string nm2,.string fl2,.slice lp2 ln2 lc2,.int .i64 p2] 53))
    | (go_at_call 87;(with_reducible refine (C.out _ i2 (R2.out.alloc _)).mono ?_);rintro e w3 ⟨k3,⟨_,i3,_,m3,rfl,rfl,r3,l3⟩ | ⟨n3,i3,m3,rfl⟩⟩;rotate_left;exact And.intro rfl (Outc.stop M2.out m3 ((K2.out.alloc _).trans k3));have R3:=hid_as r3;have K3:=hid_as ((K2.out.alloc _).trans k3);have M3:=hid_as (th_go M2.out m3);have B3:=hid_as ((B2.out.alloc (.cells #[.int .i64 o2,.int .i64 kd2,.int .i64 v2,.string nm2,.string fl2,.slice lp2 ln2 lc2,.int .i64 p2] 53)).kp k3 (by omega));have V3:=hid_as (V2.out.kp k3 (by omega));have z3:=K3.out.size;have q3:=k3.size;(try rw [World.size_alloc] at q3);have J3:=hid_as k3;clear k3 r3 m3;have E3:=hid_as ((E2.out.alloc (.cells #[.int .i64 o2,.int .i64 kd2,.int .i64 v2,.string nm2,.string fl2,.slice lp2 ln2 lc2,.int .i64 p2] 53)).kp J3.out (by show ¬ (_≤_);omega));obtain ⟨s0,s1,s2,s3,s4,s5,s6⟩:=bk7 B3.out;have sf:=B3.out.fr;obtain ⟨u0,u1,u2,u3,u4,u5,u6⟩:=bk7 V3.out;have uf:=V3.out.fr))
  exact bodyPost_ret (v:=.agg #[.int .i64 o2,.int .i64 kd2,.int .i64 v2,.string nm2,.string fl2,.slice lp2 ln2 lc2,.int .i64 p2]) (by simp [results,Tryz.results198,go_sem,s0,s1,s2,s3,s4,s5,s6]) rfl ⟨K3.out.put7 (by omega) _ _ _ _ _ _ _,Or.inl ⟨_,_,_,M3.out,rfl,⟨_,_,_,_,_,_,_,_,_,rfl,((E3.out).set7 (by show ¬ (_≤_);omega) _ _ _ _ _ _ _).into (fun x (hx:w1.heap.size≤x) _=>(by show w.heap.size≤x;omega))⟩,R3.out.put7 (by omega) (by omega) _ _ _ _ _ _ _,(by omega)⟩⟩
set_option maxHeartbeats 4000000 in
set_option maxRecDepth 100000 in
theorem p_primary_l {w:World} {rb tb cap:Nat} {T:TL} {i:Nat} (h:Rd w rb tb cap T i) (dp:Nat) (x:Nat→Re Tr) (h1:isT T [40] i=false) (h2:¬ ck T i=2):Calls Tryz.prog 198 #[.pointer (some ⟨rb,0,none⟩),.int .i64 dp] w fun e w'=>Outc rb tb cap T i w (pri T x i) (qE w) e w':=by
  have hrl:=h.rlt
  have htl:=h.lt
  have B0:=hid_as (Bk.fresh w #[.int .i64 0,.int .i64 0,.int .i64 0,.string ⟨#[]⟩,.string ⟨#[]⟩,.slice none 0 0,.int .i64 0] 53)
  have K0:=hid_as ((Kp.refl rb w).alloc (.cells #[.int .i64 0,.int .i64 0,.int .i64 0,.string ⟨#[]⟩,.string ⟨#[]⟩,.slice none 0 0,.int .i64 0] 53))
  have H:=hid_as (h.alloc (.cells #[.int .i64 0,.int .i64 0,.int .i64 0,.string ⟨#[]⟩,.string ⟨#[]⟩,.slice none 0 0,.int .i64 0] 53))
  have em:pri T x i=litT T i:=by unfold pri;rw [h1,if_neg Bool.false_ne_true,if_neg h2]
  generalize pri T x i=M at *
  have M0:=hid_as em
  have N0:=hid_as (fun W (H:Rd W rb tb cap T i)=>now_c H)
  have F0:=fd0
  have C:Hid (∀ W i,Rd W rb tb cap T i→Calls Tryz.prog 173 #[.pointer (some ⟨rb,0,none⟩)] W fun e w'=>Outc rb tb cap T i W (litT T i) (qE W) e w'):=p_literal
  have h2':¬ ((cu T i).1.tok:Int)=2:=by unfold ck at h2;omega
  unfold tv at N0
  have A1:Hid (∀ W,Rd W rb tb cap T (i)→Calls Tryz.prog 85 #[.pointer (some ⟨rb,0,none⟩),.string ⟨#[40]⟩] W fun e w'=>e=.returned (.bool false)∧Below W.heap.size W w'):=fun W H=>accept_n H ⟨#[40]⟩ h1
  clear h h1 h2 em
  generalize cu T i=c at *
  obtain ⟨⟨ta,tk,tn,tt⟩,pl⟩:=c
  simp only at N0 h2'
  go_enter Tryz.func198,Tryz.ntmps198
  go_wp2_with (first
    | (go_at_call 85;(with_reducible refine (A1.out _ H.out).mono ?_);rintro e w1 ⟨rfl,b1⟩;have R1:=hid_as ((H.out).below b1);have K1:=hid_as ((K0.out).below b1);have B1:=hid_as (B0.out.below b1);have z1:=K1.out.size;have q1:=b1.size;(try rw [World.size_alloc] at q1);have J1:=hid_as (kp_of_below (rb:=rb) b1);clear b1;have y1:=B1.out.lt)
    | (go_at_call 136;(with_reducible refine (N0.out _ R1.out).mono ?_);rintro e w2 ⟨rfl,b2⟩;have R2:=hid_as ((R1.out).below b2);have K2:=hid_as ((K1.out).below b2);have B2:=hid_as (B1.out.below b2);have z2:=K2.out.size;have q2:=b2.size;(try rw [World.size_alloc] at q2);have J2:=hid_as (kp_of_below (rb:=rb) b2);clear b2)
    | (go_at_call 173;(with_reducible refine (C.out _ i R2.out).mono ?_);rintro e w3 ⟨k3,⟨t3,i3,_,m3,rfl,⟨o3,kd3,v3,nm3,fl3,lp3,ln3,lc3,p3,rfl,E3'⟩,r3,l3⟩ | ⟨n3,i3,m3,rfl⟩⟩;rotate_left;exact And.intro rfl (Outc.stop0 M0.out m3 ((K2.out).trans k3));have R3:=hid_as r3;have K3:=hid_as ((K2.out).trans k3);have M3:=hid_as (M0.out.trans m3);have B3:=hid_as (B2.out.kp k3 (by omega));have z3:=K3.out.size;have q3:=k3.size;(try rw [World.size_alloc] at q3);have J3:=hid_as k3;clear k3 r3 m3;have E3:=hid_as E3';clear E3';obtain ⟨s0,s1,s2,s3,s4,s5,s6⟩:=bk7 B3.out;have sf:=B3.out.fr))
  exact bodyPost_ret (v:=.agg #[.int .i64 o3,.int .i64 kd3,.int .i64 v3,.string nm3,.string fl3,.slice lp3 ln3 lc3,.int .i64 p3]) (by simp [results,Tryz.results198,go_sem,s0,s1,s2,s3,s4,s5,s6]) rfl ⟨K3.out.put7 (by omega) _ _ _ _ _ _ _,Or.inl ⟨_,_,_,M3.out,rfl,⟨_,_,_,_,_,_,_,_,_,rfl,((E3.out).set7 (by show ¬ (_≤_);omega) _ _ _ _ _ _ _).into (fun x (hx:w2.heap.size≤x) _=>(by show w.heap.size≤x;omega))⟩,R3.out.put7 (by omega) (by omega) _ _ _ _ _ _ _,l3⟩⟩
set_option maxHeartbeats 4000000 in
set_option maxRecDepth 100000 in
theorem p_primary_c {w:World} {rb tb cap:Nat} {T:TL} {i:Nat} (h:Rd w rb tb cap T i) (dp:Nat) (hd:dp≤40) (x:Nat→Re Tr) (X:Hid (∀ W i,Rd W rb tb cap T i→Calls Tryz.prog 186 #[.pointer (some ⟨rb,0,none⟩),.int .i64 ((dp:Int)+1)] W fun e w'=>Outc rb tb cap T i W (x i) (qE W) e w')) (h1:isT T [40] i=false) (h2:ck T i=2) (h3:isT T [40] (i+1)=true):Calls Tryz.prog 198 #[.pointer (some ⟨rb,0,none⟩),.int .i64 dp] w fun e w'=>Outc rb tb cap T i w (pri T x i) (qE w) e w':=by
  have hrl:=h.rlt
  have htl:=h.lt
  have B0:=hid_as (Bk.fresh w #[.int .i64 0,.int .i64 0,.int .i64 0,.string ⟨#[]⟩,.string ⟨#[]⟩,.slice none 0 0,.int .i64 0] 53)
  have K0:=hid_as ((Kp.refl rb w).alloc (.cells #[.int .i64 0,.int .i64 0,.int .i64 0,.string ⟨#[]⟩,.string ⟨#[]⟩,.slice none 0 0,.int .i64 0] 53))
  have H:=hid_as (h.alloc (.cells #[.int .i64 0,.int .i64 0,.int .i64 0,.string ⟨#[]⟩,.string ⟨#[]⟩,.slice none 0 0,.int .i64 0] 53))
  have em:pri T x i=cal T x (cu T i) (i+2):=by unfold pri;rw [h1,if_neg Bool.false_ne_true,if_pos h2,h3];rfl
  generalize pri T x i=M at *
  have M0:=hid_as em
  have N0:=hid_as (fun W (H:Rd W rb tb cap T i)=>now_c H)
  have D:=hid_as (fun W (H:Rd W rb tb cap T i)=>take_c H (ck_more h2 (by decide)))
  have F0:=fd0
  have h2':(cu T i).1.tok=2:=h2
  unfold tv at N0 D
  have A1:Hid (∀ W,Rd W rb tb cap T (i)→Calls Tryz.prog 85 #[.pointer (some ⟨rb,0,none⟩),.string ⟨#[40]⟩] W fun e w'=>e=.returned (.bool false)∧Below W.heap.size W w'):=fun W H=>accept_n H ⟨#[40]⟩ h1
  have A2:Hid (∀ W,Rd W rb tb cap T (i+1)→Calls Tryz.prog 85 #[.pointer (some ⟨rb,0,none⟩),.string ⟨#[40]⟩] W fun e w'=>e=.returned (.bool true)∧Kp rb W w'∧Rd w' rb tb cap T (i+1+1)):=fun W H=>accept_y H ⟨#[40]⟩ h3 (by decide)
  clear h h1 h2 h3 em
  generalize cu T i=c at *
  obtain ⟨⟨ta,tk,tn,tt⟩,pl⟩:=c
  simp only at N0 h2' D
  subst h2'
  have C:Hid (∀ W,Rd W rb tb cap T (i+2)→Calls Tryz.prog 199 #[.pointer (some ⟨rb,0,none⟩),.agg #[.int .i64 2,.int .i64 tk,.int .i64 tn,.string (tx tt),.int .i64 pl],.int .i64 dp] W fun e w'=>Outc rb tb cap T (i+2) W (cal T x (⟨2,tk,tn,tt⟩,pl) (i+2)) (qE W) e w'):=fun W H=>p_call H 2 tk tn tt pl dp hd x X
  go_enter Tryz.func198,Tryz.ntmps198
  go_wp2_with (first
    | (go_at_call 85;(with_reducible refine (A1.out _ H.out).mono ?_);rintro e w1 ⟨rfl,b1⟩;have R1:=hid_as ((H.out).below b1);have K1:=hid_as ((K0.out).below b1);have B1:=hid_as (B0.out.below b1);have z1:=K1.out.size;have q1:=b1.size;(try rw [World.size_alloc] at q1);have J1:=hid_as (kp_of_below (rb:=rb) b1);clear b1;have y1:=B1.out.lt)
    | (go_at_call 136;(with_reducible refine (N0.out _ R1.out).mono ?_);rintro e w2 ⟨rfl,b2⟩;have R2:=hid_as ((R1.out).below b2);have K2:=hid_as ((K1.out).below b2);have B2:=hid_as (B1.out.below b2);have z2:=K2.out.size;have q2:=b2.size;(try rw [World.size_alloc] at q2);have J2:=hid_as (kp_of_below (rb:=rb) b2);clear b2)
    | (go_at_call 128;(with_reducible refine (D.out _ R2.out).mono ?_);rintro e w3 ⟨rfl,k3,r3⟩;have R3:=hid_as r3;have K3:=hid_as ((K2.out).trans k3);have B3:=hid_as (B2.out.kp k3 (by omega));have z3:=K3.out.size;have q3:=k3.size;(try rw [World.size_alloc] at q3);have J3:=hid_as k3;clear k3 r3;have V3:=hid_as (Bk.fresh w3 #[.int .i64 2,.int .i64 tk,.int .i64 tn,.string (tx tt),.int .i64 pl] 42))
    | (go_at_call 85;(with_reducible refine (A2.out _ (R3.out.alloc _)).mono ?_);rintro e w4 ⟨rfl,k4,r4⟩;have R4:=hid_as r4;have K4:=hid_as ((K3.out.alloc _).trans k4);have B4:=hid_as ((B3.out.alloc (.cells #[.int .i64 2,.int .i64 tk,.int .i64 tn,.string (tx tt),.int .i64 pl] 42)).kp k4 (by omega));have V4:=hid_as (V3.out.kp k4 (by omega));have z4:=K4.out.size;have q4:=k4.size;(try rw [World.size_alloc] at q4);have J4:=hid_as k4;clear k4 r4;obtain ⟨u0,u1,u2,u3,u4⟩:=bk5 V4.out;have uf:=V4.out.fr;have y4:=B4.out.lt)
    | (go_at_call 199;(with_reducible refine (C.out _ R4.out).mono ?_);rintro e w5 ⟨k5,⟨t5,i5,_,m5,rfl,⟨o5,kd5,v5,nm5,fl5,lp5,ln5,lc5,p5,rfl,E5'⟩,r5,l5⟩ | ⟨n5,i5,m5,rfl⟩⟩;rotate_left;exact And.intro rfl (Outc.stop0 M0.out m5 ((K4.out).trans k5));have R5:=hid_as r5;have K5:=hid_as ((K4.out).trans k5);have M5:=hid_as (M0.out.trans m5);have B5:=hid_as (B4.out.kp k5 (by omega));have z5:=K5.out.size;have q5:=k5.size;(try rw [World.size_alloc] at q5);have J5:=hid_as k5;clear k5 r5 m5;have E5:=hid_as E5';clear E5';obtain ⟨s0,s1,s2,s3,s4,s5,s6⟩:=bk7 B5.out;have sf:=B5.out.fr))
  exact bodyPost_ret (v:=.agg #[.int .i64 o5,.int .i64 kd5,.int .i64 v5,.string nm5,.string fl5,.slice lp5 ln5 lc5,.int .i64 p5]) (by simp [results,Tryz.results198,go_sem,s0,s1,s2,s3,s4,s5,s6]) rfl ⟨K5.out.put7 (by omega) _ _ _ _ _ _ _,Or.inl ⟨_,_,_,M5.out,rfl,⟨_,_,_,_,_,_,_,_,_,rfl,((E5.out).set7 (by show ¬ (_≤_);omega) _ _ _ _ _ _ _).into (fun x (hx:w4.heap.size≤x) _=>(by show w.heap.size≤x;omega))⟩,R5.out.put7 (by omega) (by omega) _ _ _ _ _ _ _,(by omega)⟩⟩
set_option maxHeartbeats 4000000 in
set_option maxRecDepth 100000 in
theorem p_primary_v {w:World} {rb tb cap:Nat} {T:TL} {i:Nat} (h:Rd w rb tb cap T i) (dp:Nat) (hd:dp≤40) (x:Nat→Re Tr) (X:Hid (∀ W i,Rd W rb tb cap T i→Calls Tryz.prog 186 #[.pointer (some ⟨rb,0,none⟩),.int .i64 ((dp:Int)+1)] W fun e w'=>Outc rb tb cap T i W (x i) (qE W) e w')) (h1:isT T [40] i=false) (h2:ck T i=2) (h3:isT T [40] (i+1)=false):Calls Tryz.prog 198 #[.pointer (some ⟨rb,0,none⟩),.int .i64 dp] w fun e w'=>Outc rb tb cap T i w (pri T x i) (qE w) e w':=by
  have hrl:=h.rlt
  have htl:=h.lt
  have B0:=hid_as (Bk.fresh w #[.int .i64 0,.int .i64 0,.int .i64 0,.string ⟨#[]⟩,.string ⟨#[]⟩,.slice none 0 0,.int .i64 0] 53)
  have K0:=hid_as ((Kp.refl rb w).alloc (.cells #[.int .i64 0,.int .i64 0,.int .i64 0,.string ⟨#[]⟩,.string ⟨#[]⟩,.slice none 0 0,.int .i64 0] 53))
  have H:=hid_as (h.alloc (.cells #[.int .i64 0,.int .i64 0,.int .i64 0,.string ⟨#[]⟩,.string ⟨#[]⟩,.slice none 0 0,.int .i64 0] 53))
  have em:pri T x i=vr T x (cu T i) (i+1):=by unfold pri;rw [h1,if_neg Bool.false_ne_true,if_pos h2,h3];rfl
  generalize pri T x i=M at *
  have M0:=hid_as em
  have N0:=hid_as (fun W (H:Rd W rb tb cap T i)=>now_c H)
  have D:=hid_as (fun W (H:Rd W rb tb cap T i)=>take_c H (ck_more h2 (by decide)))
  have F0:=fd0
  have h2':(cu T i).1.tok=2:=h2
  unfold tv at N0 D
  have A1:Hid (∀ W,Rd W rb tb cap T (i)→Calls Tryz.prog 85 #[.pointer (some ⟨rb,0,none⟩),.string ⟨#[40]⟩] W fun e w'=>e=.returned (.bool false)∧Below W.heap.size W w'):=fun W H=>accept_n H ⟨#[40]⟩ h1
  have A2:Hid (∀ W,Rd W rb tb cap T (i+1)→Calls Tryz.prog 85 #[.pointer (some ⟨rb,0,none⟩),.string ⟨#[40]⟩] W fun e w'=>e=.returned (.bool false)∧Below W.heap.size W w'):=fun W H=>accept_n H ⟨#[40]⟩ h3
  clear h h1 h2 h3 em
  generalize cu T i=c at *
  obtain ⟨⟨ta,tk,tn,tt⟩,pl⟩:=c
  simp only at N0 h2' D
  subst h2'
  have C:Hid (∀ W,Rd W rb tb cap T (i+1)→Calls Tryz.prog 190 #[.pointer (some ⟨rb,0,none⟩),.agg #[.int .i64 2,.int .i64 tk,.int .i64 tn,.string (tx tt),.int .i64 pl],.int .i64 dp] W fun e w'=>Outc rb tb cap T (i+1) W (vr T x (⟨2,tk,tn,tt⟩,pl) (i+1)) (qE W) e w'):=fun W H=>p_variable H 2 tk tn tt pl dp hd x X
  go_enter Tryz.func198,Tryz.ntmps198
  go_wp2_with (first
    | (go_at_call 85;(with_reducible refine (A1.out _ H.out).mono ?_);rintro e w1 ⟨rfl,b1⟩;have R1:=hid_as ((H.out).below b1);have K1:=hid_as ((K0.out).below b1);have B1:=hid_as (B0.out.below b1);have z1:=K1.out.size;have q1:=b1.size;(try rw [World.size_alloc] at q1);have J1:=hid_as (kp_of_below (rb:=rb) b1);clear b1;have y1:=B1.out.lt)
    | (go_at_call 136;(with_reducible refine (N0.out _ R1.out).mono ?_);rintro e w2 ⟨rfl,b2⟩;have R2:=hid_as ((R1.out).below b2);have K2:=hid_as ((K1.out).below b2);have B2:=hid_as (B1.out.below b2);have z2:=K2.out.size;have q2:=b2.size;(try rw [World.size_alloc] at q2);have J2:=hid_as (kp_of_below (rb:=rb) b2);clear b2)
    | (go_at_call 128;(with_reducible refine (D.out _ R2.out).mono ?_);rintro e w3 ⟨rfl,k3,r3⟩;have R3:=hid_as r3;have K3:=hid_as ((K2.out).trans k3);have B3:=hid_as (B2.out.kp k3 (by omega));have z3:=K3.out.size;have q3:=k3.size;(try rw [World.size_alloc] at q3);have J3:=hid_as k3;clear k3 r3;have V3:=hid_as (Bk.fresh w3 #[.int .i64 2,.int .i64 tk,.int .i64 tn,.string (tx tt),.int .i64 pl] 42))
    | (go_at_call 85;(with_reducible refine (A2.out _ (R3.out.alloc _)).mono ?_);rintro e w4 ⟨rfl,b4⟩;have R4:=hid_as (((R3.out.alloc _)).below b4);have K4:=hid_as ((K3.out.alloc _).below b4);have B4:=hid_as ((B3.out.alloc (.cells #[.int .i64 2,.int .i64 tk,.int .i64 tn,.string (tx tt),.int .i64 pl] 42)).below b4);have V4:=hid_as (V3.out.below b4);have z4:=K4.out.size;have q4:=b4.size;(try rw [World.size_alloc] at q4);have J4:=hid_as (kp_of_below (rb:=rb) b4);clear b4;obtain ⟨u0,u1,u2,u3,u4⟩:=bk5 V4.out;have uf:=V4.out.fr;have y4:=B4.out.lt)
    | (go_at_call 190;(with_reducible refine (C.out _ R4.out).mono ?_);rintro e w5 ⟨k5,⟨t5,i5,_,m5,rfl,⟨o5,kd5,v5,nm5,fl5,lp5,ln5,lc5,p5,rfl,E5'⟩,r5,l5⟩ | ⟨n5,i5,m5,rfl⟩⟩;rotate_left;exact And.intro rfl (Outc.stop0 M0.out m5 ((K4.out).trans k5));have R5:=hid_as r5;have K5:=hid_as ((K4.out).trans k5);have M5:=hid_as (M0.out.trans m5);have B5:=hid_as (B4.out.kp k5 (by omega));have z5:=K5.out.size;have q5:=k5.size;(try rw [World.size_alloc] at q5);have J5:=hid_as k5;clear k5 r5 m5;have E5:=hid_as E5';clear E5';obtain ⟨s0,s1,s2,s3,s4,s5,s6⟩:=bk7 B5.out;have sf:=B5.out.fr))
  exact bodyPost_ret (v:=.agg #[.int .i64 o5,.int .i64 kd5,.int .i64 v5,.string nm5,.string fl5,.slice lp5 ln5 lc5,.int .i64 p5]) (by simp [results,Tryz.results198,go_sem,s0,s1,s2,s3,s4,s5,s6]) rfl ⟨K5.out.put7 (by omega) _ _ _ _ _ _ _,Or.inl ⟨_,_,_,M5.out,rfl,⟨_,_,_,_,_,_,_,_,_,rfl,((E5.out).set7 (by show ¬ (_≤_);omega) _ _ _ _ _ _ _).into (fun x (hx:w4.heap.size≤x) _=>(by show w.heap.size≤x;omega))⟩,R5.out.put7 (by omega) (by omega) _ _ _ _ _ _ _,(by omega)⟩⟩
theorem p_primary {w:World} {rb tb cap:Nat} {T:TL} {i:Nat} (h:Rd w rb tb cap T i) (dp:Nat) (hd:dp≤40) (x:Nat→Re Tr) (X:Hid (∀ W i,Rd W rb tb cap T i→Calls Tryz.prog 186 #[.pointer (some ⟨rb,0,none⟩),.int .i64 ((dp:Int)+1)] W fun e w'=>Outc rb tb cap T i W (x i) (qE W) e w')):Calls Tryz.prog 198 #[.pointer (some ⟨rb,0,none⟩),.int .i64 dp] w fun e w'=>Outc rb tb cap T i w (pri T x i) (qE w) e w':=by
  cases h1:isT T [40] i with
  | true=>exact p_primary_b h dp hd x X h1
  | false =>
    by_cases h2:ck T i=2
    · cases h3:isT T [40] (i+1) with
      | true=>exact p_primary_c h dp hd x X h1 h2 h3
      | false=>exact p_primary_v h dp hd x X h1 h2 h3
    · exact p_primary_l h dp x h1 h2
end Go.Proofs.YtapcpjidgemggaaGreatDoor
