/- Bounds, types, fields, declarations, arguments, labels (stage 13). -/
import Derived.Test.YtapcpjidgemggaaGreatDoorQ29
namespace Go.Proofs.YtapcpjidgemggaaGreatDoor
open Go.RowKit
open Adr Lx Sx
set_option maxHeartbeats 4000000 in
set_option maxRecDepth 100000 in
theorem p_bound_my {w:World} {rb tb cap:Nat} {T:TL} {i:Nat} (h:Rd w rb tb cap T i) (h1:isT T [45] i=true) (h2:(cu T (i+1)).1.kind=0):Calls Tryz.prog 172 #[.pointer (some ⟨rb,0,none⟩)] w fun e w'=>Outc rb tb cap T i w (bnd T i) (qI w) e w':=by
  have em:bnd T i=th (tof T 3 (i+1)) fun _ b=>ok () b:=by unfold bnd;rw [if_pos h1];show (if (cu T (i+1)).1.kind=0 then th (tof T 3 (i+1)) fun _ b=>ok () b else no 130 (i+1))=_;rw [if_pos h2]
  generalize bnd T i=M at *
  have M0:=hid_as em
  have K0:=hid_as (Kp.refl rb w)
  have H:=hid_as h
  have N0:=hid_as (fun W (H:Rd W rb tb cap T (i+1))=>now_c H)
  have F1:=fd1
  have F2:=fd2
  have h2':((cu T (i+1)).1.kind:Int)=0:=by omega
  unfold tv at N0
  have A1:Hid (∀ W,Rd W rb tb cap T (i)→Calls Tryz.prog 85 #[.pointer (some ⟨rb,0,none⟩),.string ⟨#[45]⟩] W fun e w'=>e=.returned (.bool true)∧Kp rb W w'∧Rd w' rb tb cap T (i+1)):=fun W H=>accept_y H ⟨#[45]⟩ h1 (by decide)
  have C:Hid (∀ W i,Rd W rb tb cap T i→Calls Tryz.prog 131 #[.pointer (some ⟨rb,0,none⟩),.int .i64 3] W fun e w'=>Outc rb tb cap T i W (tof T 3 i) (qT W) e w'):=takeOf_c 3 (by decide)
  clear h h1 h2 em
  generalize cu T (i+1)=c at *
  obtain ⟨⟨ta,tk,tn,tt⟩,pl⟩:=c
  simp only at N0 h2'
  obtain rfl:tk=0:=by omega
  clear h2'
  go_enter Tryz.func172,Tryz.ntmps172
  go_wp2_with (first
    | (go_at_call 85;(with_reducible refine (A1.out _ H.out).mono ?_);rintro e w1 ⟨rfl,k1,r1⟩;have R1:=hid_as r1;have K1:=hid_as ((K0.out).trans k1);have z1:=K1.out.size;have q1:=k1.size;(try rw [World.size_alloc] at q1);have J1:=hid_as k1;clear k1 r1)
    | (go_at_call 136;(with_reducible refine (N0.out _ R1.out).mono ?_);rintro e w2 ⟨rfl,b2⟩;have R2:=hid_as ((R1.out).below b2);have K2:=hid_as ((K1.out).below b2);have z2:=K2.out.size;have q2:=b2.size;(try rw [World.size_alloc] at q2);have J2:=hid_as (kp_of_below (rb:=rb) b2);clear b2)
    | (go_at_call 131;(with_reducible refine (C.out _ (i+1) R2.out).mono ?_);rintro e w3 ⟨k3,⟨⟨⟨ta3,tk3,tn3,tt3⟩,pl3⟩,i3,_,m3,rfl,rfl,r3,l3⟩ | ⟨n3,i3,m3,rfl⟩⟩;rotate_left;exact And.intro rfl (Outc.stop M0.out m3 ((K2.out).trans k3));have R3:=hid_as r3;have K3:=hid_as ((K2.out).trans k3);have M3:=hid_as (th_go M0.out m3);have z3:=K3.out.size;have q3:=k3.size;(try rw [World.size_alloc] at q3);have J3:=hid_as k3;clear k3 r3 m3;unfold tv))
  go_ret
  exact ⟨K3.out,Or.inl ⟨(),_,_,M3.out,rfl,⟨_,rfl⟩,R3.out,by omega⟩⟩
set_option maxHeartbeats 4000000 in
set_option maxRecDepth 100000 in
theorem p_bound_mn {w:World} {rb tb cap:Nat} {T:TL} {i:Nat} (h:Rd w rb tb cap T i) (h1:isT T [45] i=true) (h2:¬ (cu T (i+1)).1.kind=0):Calls Tryz.prog 172 #[.pointer (some ⟨rb,0,none⟩)] w fun e w'=>Outc rb tb cap T i w (bnd T i) (qI w) e w':=by
  have em:bnd T i=no 130 (i+1):=by unfold bnd;rw [if_pos h1];show (if (cu T (i+1)).1.kind=0 then th (tof T 3 (i+1)) fun _ b=>ok () b else no 130 (i+1))=_;rw [if_neg h2]
  generalize bnd T i=M at *
  have M0:=hid_as em
  have K0:=hid_as (Kp.refl rb w)
  have H:=hid_as h
  have N0:=hid_as (fun W (H:Rd W rb tb cap T (i+1))=>now_c H)
  have F1:=fd1
  have F2:=fd2
  have h2':¬ ((cu T (i+1)).1.kind:Int)=0:=by omega
  unfold tv at N0
  have A1:Hid (∀ W,Rd W rb tb cap T (i)→Calls Tryz.prog 85 #[.pointer (some ⟨rb,0,none⟩),.string ⟨#[45]⟩] W fun e w'=>e=.returned (.bool true)∧Kp rb W w'∧Rd w' rb tb cap T (i+1)):=fun W H=>accept_y H ⟨#[45]⟩ h1 (by decide)
  have D:=hid_as (fun W (H:Rd W rb tb cap T (i+1))=>refuse_130 H)
  clear h h1 h2 em
  generalize cu T (i+1)=c at *
  obtain ⟨⟨ta,tk,tn,tt⟩,pl⟩:=c
  simp only at N0 h2'
  go_enter Tryz.func172,Tryz.ntmps172
  go_wp2_with (first
    | (go_at_call 85;(with_reducible refine (A1.out _ H.out).mono ?_);rintro e w1 ⟨rfl,k1,r1⟩;have R1:=hid_as r1;have K1:=hid_as ((K0.out).trans k1);have z1:=K1.out.size;have q1:=k1.size;(try rw [World.size_alloc] at q1);have J1:=hid_as k1;clear k1 r1)
    | (go_at_call 136;(with_reducible refine (N0.out _ R1.out).mono ?_);rintro e w2 ⟨rfl,b2⟩;have R2:=hid_as ((R1.out).below b2);have K2:=hid_as ((K1.out).below b2);have z2:=K2.out.size;have q2:=b2.size;(try rw [World.size_alloc] at q2);have J2:=hid_as (kp_of_below (rb:=rb) b2);clear b2)
    | (go_at_call 130;(with_reducible refine (D.out _ R2.out).mono ?_);rintro e w3 ⟨rfl,b3⟩))
  exact ⟨rfl,K2.out.below b3,Or.inr ⟨130,_,M0.out,rfl⟩⟩
set_option maxHeartbeats 4000000 in
set_option maxRecDepth 100000 in
theorem p_bound_py {w:World} {rb tb cap:Nat} {T:TL} {i:Nat} (h:Rd w rb tb cap T i) (h1:isT T [45] i=false) (h2:(cu T (i)).1.kind=0):Calls Tryz.prog 172 #[.pointer (some ⟨rb,0,none⟩)] w fun e w'=>Outc rb tb cap T i w (bnd T i) (qI w) e w':=by
  have em:bnd T i=th (tof T 3 (i)) fun _ b=>ok () b:=by unfold bnd;rw [if_neg (by rw [h1];exact Bool.false_ne_true)];show (if (cu T (i)).1.kind=0 then th (tof T 3 (i)) fun _ b=>ok () b else no 130 (i))=_;rw [if_pos h2]
  generalize bnd T i=M at *
  have M0:=hid_as em
  have K0:=hid_as (Kp.refl rb w)
  have H:=hid_as h
  have N0:=hid_as (fun W (H:Rd W rb tb cap T (i))=>now_c H)
  have F1:=fd1
  have F2:=fd2
  have h2':((cu T (i)).1.kind:Int)=0:=by omega
  unfold tv at N0
  have A1:Hid (∀ W,Rd W rb tb cap T (i)→Calls Tryz.prog 85 #[.pointer (some ⟨rb,0,none⟩),.string ⟨#[45]⟩] W fun e w'=>e=.returned (.bool false)∧Below W.heap.size W w'):=fun W H=>accept_n H ⟨#[45]⟩ h1
  have C:Hid (∀ W i,Rd W rb tb cap T i→Calls Tryz.prog 131 #[.pointer (some ⟨rb,0,none⟩),.int .i64 3] W fun e w'=>Outc rb tb cap T i W (tof T 3 i) (qT W) e w'):=takeOf_c 3 (by decide)
  clear h h1 h2 em
  generalize cu T (i)=c at *
  obtain ⟨⟨ta,tk,tn,tt⟩,pl⟩:=c
  simp only at N0 h2'
  obtain rfl:tk=0:=by omega
  clear h2'
  go_enter Tryz.func172,Tryz.ntmps172
  go_wp2_with (first
    | (go_at_call 85;(with_reducible refine (A1.out _ H.out).mono ?_);rintro e w1 ⟨rfl,b1⟩;have R1:=hid_as ((H.out).below b1);have K1:=hid_as ((K0.out).below b1);have z1:=K1.out.size;have q1:=b1.size;(try rw [World.size_alloc] at q1);have J1:=hid_as (kp_of_below (rb:=rb) b1);clear b1)
    | (go_at_call 136;(with_reducible refine (N0.out _ R1.out).mono ?_);rintro e w2 ⟨rfl,b2⟩;have R2:=hid_as ((R1.out).below b2);have K2:=hid_as ((K1.out).below b2);have z2:=K2.out.size;have q2:=b2.size;(try rw [World.size_alloc] at q2);have J2:=hid_as (kp_of_below (rb:=rb) b2);clear b2)
    | (go_at_call 131;(with_reducible refine (C.out _ (i) R2.out).mono ?_);rintro e w3 ⟨k3,⟨⟨⟨ta3,tk3,tn3,tt3⟩,pl3⟩,i3,_,m3,rfl,rfl,r3,l3⟩ | ⟨n3,i3,m3,rfl⟩⟩;rotate_left;exact And.intro rfl (Outc.stop M0.out m3 ((K2.out).trans k3));have R3:=hid_as r3;have K3:=hid_as ((K2.out).trans k3);have M3:=hid_as (th_go M0.out m3);have z3:=K3.out.size;have q3:=k3.size;(try rw [World.size_alloc] at q3);have J3:=hid_as k3;clear k3 r3 m3;unfold tv))
  go_ret
  exact ⟨K3.out,Or.inl ⟨(),_,_,M3.out,rfl,⟨_,rfl⟩,R3.out,by omega⟩⟩
set_option maxHeartbeats 4000000 in
set_option maxRecDepth 100000 in
theorem p_bound_pn {w:World} {rb tb cap:Nat} {T:TL} {i:Nat} (h:Rd w rb tb cap T i) (h1:isT T [45] i=false) (h2:¬ (cu T (i)).1.kind=0):Calls Tryz.prog 172 #[.pointer (some ⟨rb,0,none⟩)] w fun e w'=>Outc rb tb cap T i w (bnd T i) (qI w) e w':=by
  have em:bnd T i=no 130 (i):=by unfold bnd;rw [if_neg (by rw [h1];exact Bool.false_ne_true)];show (if (cu T (i)).1.kind=0 then th (tof T 3 (i)) fun _ b=>ok () b else no 130 (i))=_;rw [if_neg h2]
  generalize bnd T i=M at *
  have M0:=hid_as em
  have K0:=hid_as (Kp.refl rb w)
  have H:=hid_as h
  have N0:=hid_as (fun W (H:Rd W rb tb cap T (i))=>now_c H)
  have F1:=fd1
  have F2:=fd2
  have h2':¬ ((cu T (i)).1.kind:Int)=0:=by omega
  unfold tv at N0
  have A1:Hid (∀ W,Rd W rb tb cap T (i)→Calls Tryz.prog 85 #[.pointer (some ⟨rb,0,none⟩),.string ⟨#[45]⟩] W fun e w'=>e=.returned (.bool false)∧Below W.heap.size W w'):=fun W H=>accept_n H ⟨#[45]⟩ h1
  have D:=hid_as (fun W (H:Rd W rb tb cap T (i))=>refuse_130 H)
  clear h h1 h2 em
  generalize cu T (i)=c at *
  obtain ⟨⟨ta,tk,tn,tt⟩,pl⟩:=c
  simp only at N0 h2'
  go_enter Tryz.func172,Tryz.ntmps172
  go_wp2_with (first
    | (go_at_call 85;(with_reducible refine (A1.out _ H.out).mono ?_);rintro e w1 ⟨rfl,b1⟩;have R1:=hid_as ((H.out).below b1);have K1:=hid_as ((K0.out).below b1);have z1:=K1.out.size;have q1:=b1.size;(try rw [World.size_alloc] at q1);have J1:=hid_as (kp_of_below (rb:=rb) b1);clear b1)
    | (go_at_call 136;(with_reducible refine (N0.out _ R1.out).mono ?_);rintro e w2 ⟨rfl,b2⟩;have R2:=hid_as ((R1.out).below b2);have K2:=hid_as ((K1.out).below b2);have z2:=K2.out.size;have q2:=b2.size;(try rw [World.size_alloc] at q2);have J2:=hid_as (kp_of_below (rb:=rb) b2);clear b2)
    | (go_at_call 130;(with_reducible refine (D.out _ R2.out).mono ?_);rintro e w3 ⟨rfl,b3⟩))
  exact ⟨rfl,K2.out.below b3,Or.inr ⟨130,_,M0.out,rfl⟩⟩
theorem p_bound {rb tb cap:Nat} {T:TL}:Cn 172 #[] rb tb cap T (bnd T) qI:=fun _ i h=>by
  cases h1:isT T [45] i with
  | true=>exact if h2:(cu T (i+1)).1.kind=0 then p_bound_my h h1 h2 else p_bound_mn h h1 h2
  | false=>exact if h2:(cu T i).1.kind=0 then p_bound_py h h1 h2 else p_bound_pn h h1 h2
set_option maxHeartbeats 4000000 in
set_option maxRecDepth 100000 in
theorem p_array {w:World} {rb tb cap:Nat} {T:TL} {i:Nat} (h:Rd w rb tb cap T i):Calls Tryz.prog 156 #[.pointer (some ⟨rb,0,none⟩)] w fun e w'=>Outc rb tb cap T i w (arr T i) (qType w) e w':=by
  have hrl:=h.rlt
  have htl:=h.lt
  have B0:=hid_as (Bk.fresh w #[.int .i64 0,.int .i64 0,.int .i64 0,.int .i64 0,.string ⟨#[]⟩] 109)
  have K0:=hid_as ((Kp.refl rb w).alloc (.cells #[.int .i64 0,.int .i64 0,.int .i64 0,.int .i64 0,.string ⟨#[]⟩] 109))
  have H:=hid_as (h.alloc (.cells #[.int .i64 0,.int .i64 0,.int .i64 0,.int .i64 0,.string ⟨#[]⟩] 109))
  have em:arr T i=th (xp T [91] i) fun _ a=>th (bnd T a) fun _ b=>th (xp T [46,46] b) fun _ c=>th (bnd T c) fun _ d=>th (xp T [93] d) fun _ e=>th (xp T [79,70] e) fun _ f=>knd T f:=rfl
  generalize arr T i=M at *
  have M0:=hid_as em
  have C1:Hid (∀ W i,Rd W rb tb cap T i→Calls Tryz.prog 87 #[.pointer (some ⟨rb,0,none⟩),.string ⟨#[91]⟩] W fun e w'=>Outc rb tb cap T i W (xp T [91] i) (qU W) e w'):=expect_c ⟨#[91]⟩ (by decide)
  have C2:Hid (∀ W i,Rd W rb tb cap T i→Calls Tryz.prog 87 #[.pointer (some ⟨rb,0,none⟩),.string ⟨#[46,46]⟩] W fun e w'=>Outc rb tb cap T i W (xp T [46,46] i) (qU W) e w'):=expect_c ⟨#[46,46]⟩ (by decide)
  have C3:Hid (∀ W i,Rd W rb tb cap T i→Calls Tryz.prog 87 #[.pointer (some ⟨rb,0,none⟩),.string ⟨#[93]⟩] W fun e w'=>Outc rb tb cap T i W (xp T [93] i) (qU W) e w'):=expect_c ⟨#[93]⟩ (by decide)
  have C4:Hid (∀ W i,Rd W rb tb cap T i→Calls Tryz.prog 87 #[.pointer (some ⟨rb,0,none⟩),.string ⟨#[79,70]⟩] W fun e w'=>Outc rb tb cap T i W (xp T [79,70] i) (qU W) e w'):=expect_c ⟨#[79,70]⟩ (by decide)
  have KC:Hid (∀ W i,Rd W rb tb cap T i→Calls Tryz.prog 155 #[.pointer (some ⟨rb,0,none⟩)] W fun e w'=>Outc rb tb cap T i W (knd T i) (qI W) e w'):=p_kind
  have BC:Hid (∀ W i,Rd W rb tb cap T i→Calls Tryz.prog 172 #[.pointer (some ⟨rb,0,none⟩)] W fun e w'=>Outc rb tb cap T i W (bnd T i) (qI W) e w'):=p_bound
  clear h em
  go_enter Tryz.func156,Tryz.ntmps156
  go_wp2_with (first
    | (go_at_call 87;(with_reducible refine (C1.out _ i H.out).mono ?_);rintro e w1 ⟨k1,⟨_,i1,_,m1,rfl,rfl,r1,l1⟩ | ⟨n1,i1,m1,rfl⟩⟩;rotate_left;exact And.intro rfl (Outc.stop M0.out m1 ((K0.out).trans k1));have R1:=hid_as r1;have K1:=hid_as ((K0.out).trans k1);have M1:=hid_as (th_go M0.out m1);have B1:=hid_as (B0.out.kp k1 (by omega));have z1:=K1.out.size;have q1:=k1.size;(try rw [World.size_alloc] at q1);have J1:=hid_as k1;clear k1 r1 m1)
    | (go_at_call 172;(with_reducible refine (BC.out _ i1 R1.out).mono ?_);rintro e w2 ⟨k2,⟨_,i2,_,m2,rfl,⟨x2,rfl⟩,r2,l2⟩ | ⟨n2,i2,m2,rfl⟩⟩;rotate_left;exact And.intro rfl (Outc.stop M1.out m2 ((K1.out).trans k2));have R2:=hid_as r2;have K2:=hid_as ((K1.out).trans k2);have M2:=hid_as (th_go M1.out m2);have B2:=hid_as (B1.out.kp k2 (by omega));have z2:=K2.out.size;have q2:=k2.size;(try rw [World.size_alloc] at q2);have J2:=hid_as k2;clear k2 r2 m2)
    | (go_at_call 87;(with_reducible refine (C2.out _ i2 R2.out).mono ?_);rintro e w3 ⟨k3,⟨_,i3,_,m3,rfl,rfl,r3,l3⟩ | ⟨n3,i3,m3,rfl⟩⟩;rotate_left;exact And.intro rfl (Outc.stop M2.out m3 ((K2.out).trans k3));have R3:=hid_as r3;have K3:=hid_as ((K2.out).trans k3);have M3:=hid_as (th_go M2.out m3);have B3:=hid_as (B2.out.kp k3 (by omega));have z3:=K3.out.size;have q3:=k3.size;(try rw [World.size_alloc] at q3);have J3:=hid_as k3;clear k3 r3 m3)
    | (go_at_call 172;(with_reducible refine (BC.out _ i3 R3.out).mono ?_);rintro e w4 ⟨k4,⟨_,i4,_,m4,rfl,⟨x4,rfl⟩,r4,l4⟩ | ⟨n4,i4,m4,rfl⟩⟩;rotate_left;exact And.intro rfl (Outc.stop M3.out m4 ((K3.out).trans k4));have R4:=hid_as r4;have K4:=hid_as ((K3.out).trans k4);have M4:=hid_as (th_go M3.out m4);have B4:=hid_as (B3.out.kp k4 (by omega));have z4:=K4.out.size;have q4:=k4.size;(try rw [World.size_alloc] at q4);have J4:=hid_as k4;clear k4 r4 m4)
    | (go_at_call 87;(with_reducible refine (C3.out _ i4 R4.out).mono ?_);rintro e w5 ⟨k5,⟨_,i5,_,m5,rfl,rfl,r5,l5⟩ | ⟨n5,i5,m5,rfl⟩⟩;rotate_left;exact And.intro rfl (Outc.stop M4.out m5 ((K4.out).trans k5));have R5:=hid_as r5;have K5:=hid_as ((K4.out).trans k5);have M5:=hid_as (th_go M4.out m5);have B5:=hid_as (B4.out.kp k5 (by omega));have z5:=K5.out.size;have q5:=k5.size;(try rw [World.size_alloc] at q5);have J5:=hid_as k5;clear k5 r5 m5)
    | (go_at_call 87;(with_reducible refine (C4.out _ i5 R5.out).mono ?_);rintro e w6 ⟨k6,⟨_,i6,_,m6,rfl,rfl,r6,l6⟩ | ⟨n6,i6,m6,rfl⟩⟩;rotate_left;exact And.intro rfl (Outc.stop M5.out m6 ((K5.out).trans k6));have R6:=hid_as r6;have K6:=hid_as ((K5.out).trans k6);have M6:=hid_as (th_go M5.out m6);have B6:=hid_as (B5.out.kp k6 (by omega));have z6:=K6.out.size;have q6:=k6.size;(try rw [World.size_alloc] at q6);have J6:=hid_as k6;clear k6 r6 m6)
    | (go_at_call 155;(with_reducible refine (KC.out _ i6 R6.out).mono ?_);rintro e w7 ⟨k7,⟨_,i7,_,m7,rfl,⟨x7,rfl⟩,r7,l7⟩ | ⟨n7,i7,m7,rfl⟩⟩;rotate_left;exact And.intro rfl (Outc.stop0 M6.out m7 ((K6.out).trans k7));have R7:=hid_as r7;have K7:=hid_as ((K6.out).trans k7);have M7:=hid_as (M6.out.trans m7);have B7:=hid_as (B6.out.kp k7 (by omega));have z7:=K7.out.size;have q7:=k7.size;(try rw [World.size_alloc] at q7);have J7:=hid_as k7;clear k7 r7 m7;obtain ⟨s0,s1,s2,s3,s4⟩:=bk5 B7.out;have sf:=B7.out.fr))
  exact bodyPost_ret (v:=.agg #[.int .i64 12,.int .i64 x2,.int .i64 x4,.int .i64 x7,.string ⟨#[]⟩]) (by simp [results,Tryz.results156,go_sem,s0,s1,s2,s3,s4]) rfl ⟨K7.out.put5 (by omega) _ _ _ _ _,Or.inl ⟨(),_,_,M7.out,rfl,⟨_,_,_,_,_,rfl⟩,R7.out.put5 (by omega) (by omega) _ _ _ _ _,(by omega)⟩⟩
set_option maxHeartbeats 4000000 in
set_option maxRecDepth 100000 in
theorem p_varType_a {w:World} {rb tb cap:Nat} {T:TL} {i:Nat} (h:Rd w rb tb cap T i) (h1:isT T [65,82,82,65,89] i=true):Calls Tryz.prog 132 #[.pointer (some ⟨rb,0,none⟩)] w fun e w'=>Outc rb tb cap T i w (vty T i) (qType w) e w':=by
  have hrl:=h.rlt
  have htl:=h.lt
  have B0:=hid_as (Bk.fresh w #[.int .i64 0,.int .i64 0,.int .i64 0,.int .i64 0,.string ⟨#[]⟩] 109)
  have K0:=hid_as ((Kp.refl rb w).alloc (.cells #[.int .i64 0,.int .i64 0,.int .i64 0,.int .i64 0,.string ⟨#[]⟩] 109))
  have H:=hid_as (h.alloc (.cells #[.int .i64 0,.int .i64 0,.int .i64 0,.int .i64 0,.string ⟨#[]⟩] 109))
  have em:vty T i=arr T (i+1):=by unfold vty;rw [if_pos h1]
  generalize vty T i=M at *
  have M0:=hid_as em
  have A1:Hid (∀ W,Rd W rb tb cap T (i)→Calls Tryz.prog 85 #[.pointer (some ⟨rb,0,none⟩),.string ⟨#[65,82,82,65,89]⟩] W fun e w'=>e=.returned (.bool true)∧Kp rb W w'∧Rd w' rb tb cap T (i+1)):=fun W H=>accept_y H ⟨#[65,82,82,65,89]⟩ h1 (by decide)
  have AC:Hid (∀ W i,Rd W rb tb cap T i→Calls Tryz.prog 156 #[.pointer (some ⟨rb,0,none⟩)] W fun e w'=>Outc rb tb cap T i W (arr T i) (qType W) e w'):=fun _ _ H=>p_array H
  clear h em h1
  go_enter Tryz.func132,Tryz.ntmps132
  go_wp2_with (first
    | (go_at_call 85;(with_reducible refine (A1.out _ H.out).mono ?_);rintro e w1 ⟨rfl,k1,r1⟩;have R1:=hid_as r1;have K1:=hid_as ((K0.out).trans k1);have B1:=hid_as (B0.out.kp k1 (by omega));have z1:=K1.out.size;have q1:=k1.size;(try rw [World.size_alloc] at q1);have J1:=hid_as k1;clear k1 r1)
    | (go_at_call 156;(with_reducible refine (AC.out _ (i+1) R1.out).mono ?_);rintro e w2 ⟨k2,⟨_,i2,_,m2,rfl,⟨x2_0,x2_1,x2_2,x2_3,x2_4,rfl⟩,r2,l2⟩ | ⟨n2,i2,m2,rfl⟩⟩;rotate_left;exact And.intro rfl (Outc.stop0 M0.out m2 ((K1.out).trans k2));have R2:=hid_as r2;have K2:=hid_as ((K1.out).trans k2);have M2:=hid_as (M0.out.trans m2);have B2:=hid_as (B1.out.kp k2 (by omega));have z2:=K2.out.size;have q2:=k2.size;(try rw [World.size_alloc] at q2);have J2:=hid_as k2;clear k2 r2 m2;obtain ⟨s0,s1,s2,s3,s4⟩:=bk5 B2.out;have sf:=B2.out.fr))
  exact bodyPost_ret (v:=.agg #[.int .i64 x2_0,.int .i64 x2_1,.int .i64 x2_2,.int .i64 x2_3,.string x2_4]) (by simp [results,Tryz.results132,go_sem,s0,s1,s2,s3,s4]) rfl ⟨K2.out.put5 (by omega) _ _ _ _ _,Or.inl ⟨(),_,_,M2.out,rfl,⟨_,_,_,_,_,rfl⟩,R2.out.put5 (by omega) (by omega) _ _ _ _ _,(by omega)⟩⟩
set_option maxHeartbeats 4000000 in
set_option maxRecDepth 100000 in
theorem p_varType_n {w:World} {rb tb cap:Nat} {T:TL} {i:Nat} (h:Rd w rb tb cap T i) (h1:isT T [65,82,82,65,89] i=false) (h2:ck T i=2):Calls Tryz.prog 132 #[.pointer (some ⟨rb,0,none⟩)] w fun e w'=>Outc rb tb cap T i w (vty T i) (qType w) e w':=by
  have hrl:=h.rlt
  have htl:=h.lt
  have B0:=hid_as (Bk.fresh w #[.int .i64 0,.int .i64 0,.int .i64 0,.int .i64 0,.string ⟨#[]⟩] 109)
  have K0:=hid_as ((Kp.refl rb w).alloc (.cells #[.int .i64 0,.int .i64 0,.int .i64 0,.int .i64 0,.string ⟨#[]⟩] 109))
  have H:=hid_as (h.alloc (.cells #[.int .i64 0,.int .i64 0,.int .i64 0,.int .i64 0,.string ⟨#[]⟩] 109))
  have em:vty T i=ok () (i+1):=by unfold vty;rw [h1,if_neg Bool.false_ne_true,if_pos h2]
  generalize vty T i=M at *
  have M0:=hid_as em
  have A1:Hid (∀ W,Rd W rb tb cap T (i)→Calls Tryz.prog 85 #[.pointer (some ⟨rb,0,none⟩),.string ⟨#[65,82,82,65,89]⟩] W fun e w'=>e=.returned (.bool false)∧Below W.heap.size W w'):=fun W H=>accept_n H ⟨#[65,82,82,65,89]⟩ h1
  have N0:=hid_as (fun W (H:Rd W rb tb cap T i)=>now_c H)
  have F0:=fd0
  have F3:=fd3
  unfold tv at N0
  have D:=hid_as (fun W (H:Rd W rb tb cap T i)=>take_c H (ck_more h2 (by decide)))
  unfold tv at D
  have h2':(cu T i).1.tok=2:=h2
  clear h em h1 h2
  generalize cu T i=c at *
  obtain ⟨⟨ta,tk,tn,tt⟩,pl⟩:=c
  simp only at N0 D h2'
  subst h2'
  go_enter Tryz.func132,Tryz.ntmps132
  go_wp2_with (first
    | (go_at_call 85;(with_reducible refine (A1.out _ H.out).mono ?_);rintro e w1 ⟨rfl,b1⟩;have R1:=hid_as ((H.out).below b1);have K1:=hid_as ((K0.out).below b1);have B1:=hid_as (B0.out.below b1);have z1:=K1.out.size;have q1:=b1.size;(try rw [World.size_alloc] at q1);have J1:=hid_as (kp_of_below (rb:=rb) b1);clear b1)
    | (go_at_call 136;(with_reducible refine (N0.out _ R1.out).mono ?_);rintro e w2 ⟨rfl,b2⟩;have R2:=hid_as ((R1.out).below b2);have K2:=hid_as ((K1.out).below b2);have B2:=hid_as (B1.out.below b2);have z2:=K2.out.size;have q2:=b2.size;(try rw [World.size_alloc] at q2);have J2:=hid_as (kp_of_below (rb:=rb) b2);clear b2)
    | (go_at_call 128;(with_reducible refine (D.out _ R2.out).mono ?_);rintro e w3 ⟨rfl,k3,r3⟩;have R3:=hid_as r3;have K3:=hid_as ((K2.out).trans k3);have B3:=hid_as (B2.out.kp k3 (by omega));have z3:=K3.out.size;have q3:=k3.size;(try rw [World.size_alloc] at q3);have J3:=hid_as k3;clear k3 r3;obtain ⟨s0,s1,s2,s3,s4⟩:=bk5 B3.out;have sf:=B3.out.fr))
  exact bodyPost_ret (v:=.agg #[.int .i64 0,.int .i64 0,.int .i64 0,.int .i64 0,.string (tx tt)]) (by simp [results,Tryz.results132,go_sem,s0,s1,s2,s3,s4]) rfl ⟨K3.out.put5 (by omega) _ _ _ _ _,Or.inl ⟨(),_,_,M0.out,rfl,⟨_,_,_,_,_,rfl⟩,R3.out.put5 (by omega) (by omega) _ _ _ _ _,(by omega)⟩⟩
set_option maxHeartbeats 4000000 in
set_option maxRecDepth 100000 in
theorem p_varType_k {w:World} {rb tb cap:Nat} {T:TL} {i:Nat} (h:Rd w rb tb cap T i) (h1:isT T [65,82,82,65,89] i=false) (h2:¬ ck T i=2):Calls Tryz.prog 132 #[.pointer (some ⟨rb,0,none⟩)] w fun e w'=>Outc rb tb cap T i w (vty T i) (qType w) e w':=by
  have hrl:=h.rlt
  have htl:=h.lt
  have B0:=hid_as (Bk.fresh w #[.int .i64 0,.int .i64 0,.int .i64 0,.int .i64 0,.string ⟨#[]⟩] 109)
  have K0:=hid_as ((Kp.refl rb w).alloc (.cells #[.int .i64 0,.int .i64 0,.int .i64 0,.int .i64 0,.string ⟨#[]⟩] 109))
  have H:=hid_as (h.alloc (.cells #[.int .i64 0,.int .i64 0,.int .i64 0,.int .i64 0,.string ⟨#[]⟩] 109))
  have em:vty T i=knd T i:=by unfold vty;rw [h1,if_neg Bool.false_ne_true,if_neg h2]
  generalize vty T i=M at *
  have M0:=hid_as em
  have A1:Hid (∀ W,Rd W rb tb cap T (i)→Calls Tryz.prog 85 #[.pointer (some ⟨rb,0,none⟩),.string ⟨#[65,82,82,65,89]⟩] W fun e w'=>e=.returned (.bool false)∧Below W.heap.size W w'):=fun W H=>accept_n H ⟨#[65,82,82,65,89]⟩ h1
  have N0:=hid_as (fun W (H:Rd W rb tb cap T i)=>now_c H)
  have F0:=fd0
  unfold tv at N0
  have KC:Hid (∀ W i,Rd W rb tb cap T i→Calls Tryz.prog 155 #[.pointer (some ⟨rb,0,none⟩)] W fun e w'=>Outc rb tb cap T i W (knd T i) (qI W) e w'):=p_kind
  have h2':¬ ((cu T i).1.tok:Int)=2:=by unfold ck at h2;omega
  clear h em h1 h2
  generalize cu T i=c at *
  obtain ⟨⟨ta,tk,tn,tt⟩,pl⟩:=c
  simp only at N0 h2'
  go_enter Tryz.func132,Tryz.ntmps132
  go_wp2_with (first
    | (go_at_call 85;(with_reducible refine (A1.out _ H.out).mono ?_);rintro e w1 ⟨rfl,b1⟩;have R1:=hid_as ((H.out).below b1);have K1:=hid_as ((K0.out).below b1);have B1:=hid_as (B0.out.below b1);have z1:=K1.out.size;have q1:=b1.size;(try rw [World.size_alloc] at q1);have J1:=hid_as (kp_of_below (rb:=rb) b1);clear b1)
    | (go_at_call 136;(with_reducible refine (N0.out _ R1.out).mono ?_);rintro e w2 ⟨rfl,b2⟩;have R2:=hid_as ((R1.out).below b2);have K2:=hid_as ((K1.out).below b2);have B2:=hid_as (B1.out.below b2);have z2:=K2.out.size;have q2:=b2.size;(try rw [World.size_alloc] at q2);have J2:=hid_as (kp_of_below (rb:=rb) b2);clear b2)
    | (go_at_call 155;(with_reducible refine (KC.out _ i R2.out).mono ?_);rintro e w3 ⟨k3,⟨_,i3,_,m3,rfl,⟨x3,rfl⟩,r3,l3⟩ | ⟨n3,i3,m3,rfl⟩⟩;rotate_left;exact And.intro rfl (Outc.stop0 M0.out m3 ((K2.out).trans k3));have R3:=hid_as r3;have K3:=hid_as ((K2.out).trans k3);have M3:=hid_as (M0.out.trans m3);have B3:=hid_as (B2.out.kp k3 (by omega));have z3:=K3.out.size;have q3:=k3.size;(try rw [World.size_alloc] at q3);have J3:=hid_as k3;clear k3 r3 m3;obtain ⟨s0,s1,s2,s3,s4⟩:=bk5 B3.out;have sf:=B3.out.fr))
  exact bodyPost_ret (v:=.agg #[.int .i64 x3,.int .i64 0,.int .i64 0,.int .i64 0,.string ⟨#[]⟩]) (by simp [results,Tryz.results132,go_sem,s0,s1,s2,s3,s4]) rfl ⟨K3.out.put5 (by omega) _ _ _ _ _,Or.inl ⟨(),_,_,M3.out,rfl,⟨_,_,_,_,_,rfl⟩,R3.out.put5 (by omega) (by omega) _ _ _ _ _,l3⟩⟩
theorem p_varType {rb tb cap:Nat} {T:TL}:Cn 132 #[] rb tb cap T (vty T) qType:=fun _ i h=>by
  cases h1:isT T [65,82,82,65,89] i with
  | true=>exact p_varType_a h h1
  | false=>exact if h2:ck T i=2 then p_varType_n h h1 h2 else p_varType_k h h1 h2
set_option maxHeartbeats 4000000 in
set_option maxRecDepth 100000 in
theorem p_field {w:World} {rb tb cap:Nat} {T:TL} {i:Nat} (h:Rd w rb tb cap T i):Calls Tryz.prog 129 #[.pointer (some ⟨rb,0,none⟩)] w fun e w'=>Outc rb tb cap T i w (fld T i) (qVar w) e w':=by
  have hrl:=h.rlt
  have htl:=h.lt
  have B0:=hid_as (Bk.fresh w #[.string ⟨#[]⟩,.int .i64 0,.int .i64 0,.int .i64 0,.int .i64 0,.string ⟨#[]⟩,.bool false,.string ⟨#[]⟩,.slice none 0 0,.int .i64 0] 111)
  have K0:=hid_as ((Kp.refl rb w).alloc (.cells #[.string ⟨#[]⟩,.int .i64 0,.int .i64 0,.int .i64 0,.int .i64 0,.string ⟨#[]⟩,.bool false,.string ⟨#[]⟩,.slice none 0 0,.int .i64 0] 111))
  have H:=hid_as (h.alloc (.cells #[.string ⟨#[]⟩,.int .i64 0,.int .i64 0,.int .i64 0,.int .i64 0,.string ⟨#[]⟩,.bool false,.string ⟨#[]⟩,.slice none 0 0,.int .i64 0] 111))
  have em:fld T i=th (tof T 2 i) fun _ a=>th (xp T [58] a) fun _ b=>th (knd T b) fun _ c=>th (fst1 T c) fun _ d=>xp T [59] d:=rfl
  generalize fld T i=M at *
  have M0:=hid_as em
  have NC:Hid (∀ W i,Rd W rb tb cap T i→Calls Tryz.prog 88 #[.pointer (some ⟨rb,0,none⟩)] W fun e w'=>Outc rb tb cap T i W (tof T 2 i) (qT W) e w'):=name_c
  have C1:Hid (∀ W i,Rd W rb tb cap T i→Calls Tryz.prog 87 #[.pointer (some ⟨rb,0,none⟩),.string ⟨#[58]⟩] W fun e w'=>Outc rb tb cap T i W (xp T [58] i) (qU W) e w'):=expect_c ⟨#[58]⟩ (by decide)
  have C2:Hid (∀ W i,Rd W rb tb cap T i→Calls Tryz.prog 87 #[.pointer (some ⟨rb,0,none⟩),.string ⟨#[59]⟩] W fun e w'=>Outc rb tb cap T i W (xp T [59] i) (qU W) e w'):=expect_c ⟨#[59]⟩ (by decide)
  have KC:Hid (∀ W i,Rd W rb tb cap T i→Calls Tryz.prog 155 #[.pointer (some ⟨rb,0,none⟩)] W fun e w'=>Outc rb tb cap T i W (knd T i) (qI W) e w'):=p_kind
  have VC1:Hid (∀ W i,Rd W rb tb cap T i→Calls Tryz.prog 133 #[.pointer (some ⟨rb,0,none⟩)] W fun e w'=>Outc rb tb cap T i W (fst1 T i) (qS W) e w'):=p_firstValue
  clear h em
  go_enter Tryz.func129,Tryz.ntmps129
  go_wp2_with (first
    | (go_at_call 88;(with_reducible refine (NC.out _ i H.out).mono ?_);rintro e w1 ⟨k1,⟨⟨⟨ta1,tk1,tn1,tt1⟩,pl1⟩,i1,_,m1,rfl,rfl,r1,l1⟩ | ⟨n1,i1,m1,rfl⟩⟩;rotate_left;exact And.intro rfl (Outc.stop M0.out m1 ((K0.out).trans k1));have R1:=hid_as r1;have K1:=hid_as ((K0.out).trans k1);have M1:=hid_as (th_go M0.out m1);have B1:=hid_as (B0.out.kp k1 (by omega));have z1:=K1.out.size;have q1:=k1.size;(try rw [World.size_alloc] at q1);have J1:=hid_as k1;clear k1 r1 m1;unfold tv;have y1:=B1.out.lt;have N1:=hid_as (Bk.fresh w1 #[.int .i64 ta1,.int .i64 tk1,.int .i64 tn1,.string (tx tt1),.int .i64 pl1] 42))
    | (go_at_call 87;(with_reducible refine (C1.out _ i1 (R1.out.alloc _)).mono ?_);rintro e w2 ⟨k2,⟨_,i2,_,m2,rfl,rfl,r2,l2⟩ | ⟨n2,i2,m2,rfl⟩⟩;rotate_left;exact And.intro rfl (Outc.stop M1.out m2 ((K1.out.alloc _).trans k2));have R2:=hid_as r2;have K2:=hid_as ((K1.out.alloc _).trans k2);have M2:=hid_as (th_go M1.out m2);have B2:=hid_as ((B1.out.alloc (.cells #[.int .i64 ta1,.int .i64 tk1,.int .i64 tn1,.string (tx tt1),.int .i64 pl1] 42)).kp k2 (by omega));have N2:=hid_as (N1.out.kp k2 (by omega));have z2:=K2.out.size;have q2:=k2.size;(try rw [World.size_alloc] at q2);have J2:=hid_as k2;clear k2 r2 m2;have y2:=N2.out.lt)
    | (go_at_call 155;(with_reducible refine (KC.out _ i2 R2.out).mono ?_);rintro e w3 ⟨k3,⟨_,i3,_,m3,rfl,⟨x3,rfl⟩,r3,l3⟩ | ⟨n3,i3,m3,rfl⟩⟩;rotate_left;exact And.intro rfl (Outc.stop M2.out m3 ((K2.out).trans k3));have R3:=hid_as r3;have K3:=hid_as ((K2.out).trans k3);have M3:=hid_as (th_go M2.out m3);have B3:=hid_as (B2.out.kp k3 (by omega));have N3:=hid_as (N2.out.kp k3 (by omega));have z3:=K3.out.size;have q3:=k3.size;(try rw [World.size_alloc] at q3);have J3:=hid_as k3;clear k3 r3 m3;have Y3:=hid_as (Bk.fresh w3 #[.int .i64 x3,.int .i64 0,.int .i64 0,.int .i64 0,.string ⟨#[]⟩] 109))
    | (go_at_call 133;(with_reducible refine (VC1.out _ i3 (R3.out.alloc _)).mono ?_);rintro e w4 ⟨k4,⟨_,i4,_,m4,rfl,⟨a4,b4,c4,rfl⟩,r4,l4⟩ | ⟨n4,i4,m4,rfl⟩⟩;rotate_left;exact And.intro rfl (Outc.stop M3.out m4 ((K3.out.alloc _).trans k4));have R4:=hid_as r4;have K4:=hid_as ((K3.out.alloc _).trans k4);have M4:=hid_as (th_go M3.out m4);have B4:=hid_as ((B3.out.alloc (.cells #[.int .i64 x3,.int .i64 0,.int .i64 0,.int .i64 0,.string ⟨#[]⟩] 109)).kp k4 (by omega));have N4:=hid_as ((N3.out.alloc (.cells #[.int .i64 x3,.int .i64 0,.int .i64 0,.int .i64 0,.string ⟨#[]⟩] 109)).kp k4 (by omega));have Y4:=hid_as (Y3.out.kp k4 (by omega));have z4:=K4.out.size;have q4:=k4.size;(try rw [World.size_alloc] at q4);have J4:=hid_as k4;clear k4 r4 m4;have y4:=Y4.out.lt)
    | (go_at_call 87;(with_reducible refine (C2.out _ i4 R4.out).mono ?_);rintro e w5 ⟨k5,⟨_,i5,_,m5,rfl,rfl,r5,l5⟩ | ⟨n5,i5,m5,rfl⟩⟩;rotate_left;exact And.intro rfl (Outc.stop0 M4.out m5 ((K4.out).trans k5));have R5:=hid_as r5;have K5:=hid_as ((K4.out).trans k5);have M5:=hid_as (M4.out.trans m5);have B5:=hid_as (B4.out.kp k5 (by omega));have N5:=hid_as (N4.out.kp k5 (by omega));have Y5:=hid_as (Y4.out.kp k5 (by omega));have z5:=K5.out.size;have q5:=k5.size;(try rw [World.size_alloc] at q5);have J5:=hid_as k5;clear k5 r5 m5;obtain ⟨s0,s1,s2,s3,s4,s5,s6,s7,s8,s9⟩:=bk10 B5.out;have sf:=B5.out.fr;obtain ⟨g0,g1,g2,g3,g4⟩:=bk5 N5.out;have gf:=N5.out.fr;obtain ⟨u0,u1,u2,u3,u4⟩:=bk5 Y5.out;have uf:=Y5.out.fr))
  exact bodyPost_ret (v:=.agg #[.string (tx tt1),.int .i64 x3,.int .i64 0,.int .i64 0,.int .i64 0,.string ⟨#[]⟩,.bool false,.string ⟨#[]⟩,.slice a4 b4 c4,.int .i64 pl1]) (by simp [results,Tryz.results129,go_sem,s0,s1,s2,s3,s4,s5,s6,s7,s8,s9]) rfl ⟨K5.out.put10 (by omega) _ _ _ _ _ _ _ _ _ _,Or.inl ⟨(),_,_,M5.out,rfl,⟨_,_,_,_,_,_,_,_,_,_,_,_,rfl⟩,R5.out.put10 (by omega) (by omega) _ _ _ _ _ _ _ _ _ _,(by omega)⟩⟩
set_option maxHeartbeats 4000000 in
set_option maxRecDepth 100000 in
theorem p_decl_a {w:World} {rb tb cap:Nat} {T:TL} {i:Nat} (h:Rd w rb tb cap T i) (rt:Bool) (XH:Hid (∀ a,tof T 2 i=ok a (i+1)→isT T [65,84] (i+1)=true)):Calls Tryz.prog 89 #[.pointer (some ⟨rb,0,none⟩),.bool rt] w fun e w'=>Outc rb tb cap T i w (dcl T i) (qVar w) e w':=by
  have hrl:=h.rlt
  have htl:=h.lt
  have B0:=hid_as (Bk.fresh w #[.string ⟨#[]⟩,.int .i64 0,.int .i64 0,.int .i64 0,.int .i64 0,.string ⟨#[]⟩,.bool false,.string ⟨#[]⟩,.slice none 0 0,.int .i64 0] 111)
  have K0:=hid_as ((Kp.refl rb w).alloc (.cells #[.string ⟨#[]⟩,.int .i64 0,.int .i64 0,.int .i64 0,.int .i64 0,.string ⟨#[]⟩,.bool false,.string ⟨#[]⟩,.slice none 0 0,.int .i64 0] 111))
  have H:=hid_as (h.alloc (.cells #[.string ⟨#[]⟩,.int .i64 0,.int .i64 0,.int .i64 0,.int .i64 0,.string ⟨#[]⟩,.bool false,.string ⟨#[]⟩,.slice none 0 0,.int .i64 0] 111))
  have em:dcl T i=th (tof T 2 i) fun _ a=>th (if isT T [65,84] a then th (tof T 5 (a+1)) fun _ k=>ok () k else ok () a) fun _ b=>th (xp T [58] b) fun _ c=>th (vty T c) fun _ d=>th (fst1 T d) fun _ e=>xp T [59] e:=rfl
  generalize dcl T i=M at *
  have M0:=hid_as em
  have F3:=fd3
  have NC:Hid (∀ W i,Rd W rb tb cap T i→Calls Tryz.prog 88 #[.pointer (some ⟨rb,0,none⟩)] W fun e w'=>Outc rb tb cap T i W (tof T 2 i) (qT W) e w'):=name_c
  have AC:Hid (∀ W i,Rd W rb tb cap T i→Calls Tryz.prog 131 #[.pointer (some ⟨rb,0,none⟩),.int .i64 5] W fun e w'=>Outc rb tb cap T i W (tof T 5 i) (qT W) e w'):=takeOf_c 5 (by decide)
  have C1:Hid (∀ W i,Rd W rb tb cap T i→Calls Tryz.prog 87 #[.pointer (some ⟨rb,0,none⟩),.string ⟨#[58]⟩] W fun e w'=>Outc rb tb cap T i W (xp T [58] i) (qU W) e w'):=expect_c ⟨#[58]⟩ (by decide)
  have C2:Hid (∀ W i,Rd W rb tb cap T i→Calls Tryz.prog 87 #[.pointer (some ⟨rb,0,none⟩),.string ⟨#[59]⟩] W fun e w'=>Outc rb tb cap T i W (xp T [59] i) (qU W) e w'):=expect_c ⟨#[59]⟩ (by decide)
  have TC:Hid (∀ W i,Rd W rb tb cap T i→Calls Tryz.prog 132 #[.pointer (some ⟨rb,0,none⟩)] W fun e w'=>Outc rb tb cap T i W (vty T i) (qType W) e w'):=p_varType
  have VC1:Hid (∀ W i,Rd W rb tb cap T i→Calls Tryz.prog 133 #[.pointer (some ⟨rb,0,none⟩)] W fun e w'=>Outc rb tb cap T i W (fst1 T i) (qS W) e w'):=p_firstValue
  have tf2:Hid (∀ a k,tof T 2 i=ok a k→k=i+1):=fun a k q=>by unfold tof at q;split at q;exact (ok_in q).2.symm;exact (ok_ne q.symm).elim
  clear h em
  go_enter Tryz.func89,Tryz.ntmps89
  go_wp2_with (first
    | (go_at_call 88;(with_reducible refine (NC.out _ i H.out).mono ?_);rintro e w1 ⟨k1,⟨⟨⟨ta1,tk1,tn1,tt1⟩,pl1⟩,i1,_,m1,rfl,rfl,r1,l1⟩ | ⟨n1,i1,m1,rfl⟩⟩;rotate_left;exact And.intro rfl (Outc.stop M0.out m1 ((K0.out).trans k1));obtain rfl:=tf2.out _ _ m1;have h1:=XH.out _ m1;have R1:=hid_as r1;have K1:=hid_as ((K0.out).trans k1);have M1:=hid_as (th_go M0.out m1);have B1:=hid_as (B0.out.kp k1 (by omega));have z1:=K1.out.size;have q1:=k1.size;(try rw [World.size_alloc] at q1);have J1:=hid_as k1;clear k1 r1 m1;unfold tv;have y1:=B1.out.lt;have N1:=hid_as (Bk.fresh w1 #[.int .i64 ta1,.int .i64 tk1,.int .i64 tn1,.string (tx tt1),.int .i64 pl1] 42))
    | (go_at_call 85;(with_reducible refine (accept_y (R1.out.alloc (.cells #[.int .i64 ta1,.int .i64 tk1,.int .i64 tn1,.string (tx tt1),.int .i64 pl1] 42)) ⟨#[65,84]⟩ h1 (by decide)).mono ?_);rintro e w2 ⟨rfl,k2,r2⟩;have R2:=hid_as r2;have K2:=hid_as ((K1.out.alloc _).trans k2);have B2:=hid_as ((B1.out.alloc (.cells #[.int .i64 ta1,.int .i64 tk1,.int .i64 tn1,.string (tx tt1),.int .i64 pl1] 42)).kp k2 (by omega));have N2:=hid_as (N1.out.kp k2 (by omega));have z2:=K2.out.size;have y2:=N2.out.lt;have M2:Hid (M=th (tof T 5 (i+1+1)) fun _ b=>th (xp T [58] b) fun _ c=>th (vty T c) fun _ d=>th (fst1 T d) fun _ e=>xp T [59] e):=(by have q:=M1.out;simp only [h1,if_true] at q;rw [th_th] at q;exact hid_as q);clear k2 r2 h1)
    | (go_at_call 131;(with_reducible refine (AC.out _ (i+1+1) R2.out).mono ?_);rintro e w3 ⟨k3,⟨⟨⟨ta3,tk3,tn3,tt3⟩,pl3⟩,i3,_,m3,rfl,rfl,r3,l3⟩ | ⟨n3,i3,m3,rfl⟩⟩;rotate_left;exact And.intro rfl (Outc.stop M2.out m3 ((K2.out).trans k3));have R3:=hid_as r3;have K3:=hid_as ((K2.out).trans k3);have M3:=hid_as (th_go M2.out m3);have B3:=hid_as (B2.out.kp k3 (by omega));have N3:=hid_as (N2.out.kp k3 (by omega));have z3:=K3.out.size;have q3:=k3.size;(try rw [World.size_alloc] at q3);have J3:=hid_as k3;clear k3 r3 m3;unfold tv)
    | (go_at_call 87;(with_reducible refine (C1.out _ i3 R3.out).mono ?_);rintro e w4 ⟨k4,⟨_,i4,_,m4,rfl,rfl,r4,l4⟩ | ⟨n4,i4,m4,rfl⟩⟩;rotate_left;exact And.intro rfl (Outc.stop M3.out m4 ((K3.out).trans k4));have R4:=hid_as r4;have K4:=hid_as ((K3.out).trans k4);have M4:=hid_as (th_go M3.out m4);have B4x:=hid_as (B3.out.kp k4 (by omega));have N4x:=hid_as (N3.out.kp k4 (by omega));have z4:=K4.out.size;have q4:=k4.size;(try rw [World.size_alloc] at q4);have J4:=hid_as k4;clear k4 r4 m4;have y4:=N4x.out.lt)
    | (go_at_call 132;(with_reducible refine (TC.out _ i4 R4.out).mono ?_);rintro e w5 ⟨k5,⟨_,i5,_,m5,rfl,⟨x4_0,x4_1,x4_2,x4_3,x4_4,rfl⟩,r5,l5⟩ | ⟨n5,i5,m5,rfl⟩⟩;rotate_left;exact And.intro rfl (Outc.stop M4.out m5 ((K4.out).trans k5));have R5:=hid_as r5;have K5:=hid_as ((K4.out).trans k5);have M5:=hid_as (th_go M4.out m5);have B5:=hid_as (B4x.out.kp k5 (by omega));have N5:=hid_as (N4x.out.kp k5 (by omega));have z5:=K5.out.size;have q5:=k5.size;(try rw [World.size_alloc] at q5);have J5:=hid_as k5;clear k5 r5 m5;have Y5:=hid_as (Bk.fresh w5 #[.int .i64 x4_0,.int .i64 x4_1,.int .i64 x4_2,.int .i64 x4_3,.string x4_4] 109);have y5:=N5.out.lt)
    | (go_at_call 133;(with_reducible refine (VC1.out _ i5 (R5.out.alloc _)).mono ?_);rintro e w6 ⟨k6,⟨_,i6,_,m6,rfl,⟨a6,b6,c6,rfl⟩,r6,l6⟩ | ⟨n6,i6,m6,rfl⟩⟩;rotate_left;exact And.intro rfl (Outc.stop M5.out m6 ((K5.out.alloc _).trans k6));have R6:=hid_as r6;have K6:=hid_as ((K5.out.alloc _).trans k6);have M6:=hid_as (th_go M5.out m6);have B6:=hid_as ((B5.out.alloc (.cells #[.int .i64 x4_0,.int .i64 x4_1,.int .i64 x4_2,.int .i64 x4_3,.string x4_4] 109)).kp k6 (by omega));have N6:=hid_as ((N5.out.alloc (.cells #[.int .i64 x4_0,.int .i64 x4_1,.int .i64 x4_2,.int .i64 x4_3,.string x4_4] 109)).kp k6 (by omega));have Y6:=hid_as (Y5.out.kp k6 (by omega));have z6:=K6.out.size;have q6:=k6.size;(try rw [World.size_alloc] at q6);have J6:=hid_as k6;clear k6 r6 m6;have y6:=Y6.out.lt)
    | (go_at_call 87;(with_reducible refine (C2.out _ i6 R6.out).mono ?_);rintro e w7 ⟨k7,⟨_,i7,_,m7,rfl,rfl,r7,l7⟩ | ⟨n7,i7,m7,rfl⟩⟩;rotate_left;exact And.intro rfl (Outc.stop0 M6.out m7 ((K6.out).trans k7));have R7:=hid_as r7;have K7:=hid_as ((K6.out).trans k7);have M7:=hid_as (M6.out.trans m7);have B7:=hid_as (B6.out.kp k7 (by omega));have N7:=hid_as (N6.out.kp k7 (by omega));have Y7:=hid_as (Y6.out.kp k7 (by omega));have z7:=K7.out.size;have q7:=k7.size;(try rw [World.size_alloc] at q7);have J7:=hid_as k7;clear k7 r7 m7;obtain ⟨s0,s1,s2,s3,s4,s5,s6,s7,s8,s9⟩:=bk10 B7.out;have sf:=B7.out.fr;obtain ⟨g0,g1,g2,g3,g4⟩:=bk5 N7.out;have gf:=N7.out.fr;obtain ⟨u0,u1,u2,u3,u4⟩:=bk5 Y7.out;have uf:=Y7.out.fr))
  exact bodyPost_ret (v:=.agg #[.string (tx tt1),.int .i64 x4_0,.int .i64 x4_1,.int .i64 x4_2,.int .i64 x4_3,.string x4_4,.bool rt,.string (tx tt3),.slice a6 b6 c6,.int .i64 pl1]) (by simp [results,Tryz.results89,go_sem,s0,s1,s2,s3,s4,s5,s6,s7,s8,s9]) rfl ⟨K7.out.put10 (by omega) _ _ _ _ _ _ _ _ _ _,Or.inl ⟨(),_,_,M7.out,rfl,⟨_,_,_,_,_,_,_,_,_,_,_,_,rfl⟩,R7.out.put10 (by omega) (by omega) _ _ _ _ _ _ _ _ _ _,(by omega)⟩⟩
set_option maxHeartbeats 4000000 in
set_option maxRecDepth 100000 in
theorem p_decl_n {w:World} {rb tb cap:Nat} {T:TL} {i:Nat} (h:Rd w rb tb cap T i) (rt:Bool) (XH:Hid (∀ a,tof T 2 i=ok a (i+1)→isT T [65,84] (i+1)=false)):Calls Tryz.prog 89 #[.pointer (some ⟨rb,0,none⟩),.bool rt] w fun e w'=>Outc rb tb cap T i w (dcl T i) (qVar w) e w':=by
  have hrl:=h.rlt
  have htl:=h.lt
  have B0:=hid_as (Bk.fresh w #[.string ⟨#[]⟩,.int .i64 0,.int .i64 0,.int .i64 0,.int .i64 0,.string ⟨#[]⟩,.bool false,.string ⟨#[]⟩,.slice none 0 0,.int .i64 0] 111)
  have K0:=hid_as ((Kp.refl rb w).alloc (.cells #[.string ⟨#[]⟩,.int .i64 0,.int .i64 0,.int .i64 0,.int .i64 0,.string ⟨#[]⟩,.bool false,.string ⟨#[]⟩,.slice none 0 0,.int .i64 0] 111))
  have H:=hid_as (h.alloc (.cells #[.string ⟨#[]⟩,.int .i64 0,.int .i64 0,.int .i64 0,.int .i64 0,.string ⟨#[]⟩,.bool false,.string ⟨#[]⟩,.slice none 0 0,.int .i64 0] 111))
  have em:dcl T i=th (tof T 2 i) fun _ a=>th (if isT T [65,84] a then th (tof T 5 (a+1)) fun _ k=>ok () k else ok () a) fun _ b=>th (xp T [58] b) fun _ c=>th (vty T c) fun _ d=>th (fst1 T d) fun _ e=>xp T [59] e:=rfl
  generalize dcl T i=M at *
  have M0:=hid_as em
  have F3:=fd3
  have NC:Hid (∀ W i,Rd W rb tb cap T i→Calls Tryz.prog 88 #[.pointer (some ⟨rb,0,none⟩)] W fun e w'=>Outc rb tb cap T i W (tof T 2 i) (qT W) e w'):=name_c
  have C1:Hid (∀ W i,Rd W rb tb cap T i→Calls Tryz.prog 87 #[.pointer (some ⟨rb,0,none⟩),.string ⟨#[58]⟩] W fun e w'=>Outc rb tb cap T i W (xp T [58] i) (qU W) e w'):=expect_c ⟨#[58]⟩ (by decide)
  have C2:Hid (∀ W i,Rd W rb tb cap T i→Calls Tryz.prog 87 #[.pointer (some ⟨rb,0,none⟩),.string ⟨#[59]⟩] W fun e w'=>Outc rb tb cap T i W (xp T [59] i) (qU W) e w'):=expect_c ⟨#[59]⟩ (by decide)
  have TC:Hid (∀ W i,Rd W rb tb cap T i→Calls Tryz.prog 132 #[.pointer (some ⟨rb,0,none⟩)] W fun e w'=>Outc rb tb cap T i W (vty T i) (qType W) e w'):=p_varType
  have VC1:Hid (∀ W i,Rd W rb tb cap T i→Calls Tryz.prog 133 #[.pointer (some ⟨rb,0,none⟩)] W fun e w'=>Outc rb tb cap T i W (fst1 T i) (qS W) e w'):=p_firstValue
  have tf2:Hid (∀ a k,tof T 2 i=ok a k→k=i+1):=fun a k q=>by unfold tof at q;split at q;exact (ok_in q).2.symm;exact (ok_ne q.symm).elim
  clear h em
  go_enter Tryz.func89,Tryz.ntmps89
  go_wp2_with (first
    | (go_at_call 88;(with_reducible refine (NC.out _ i H.out).mono ?_);rintro e w1 ⟨k1,⟨⟨⟨ta1,tk1,tn1,tt1⟩,pl1⟩,i1,_,m1,rfl,rfl,r1,l1⟩ | ⟨n1,i1,m1,rfl⟩⟩;rotate_left;exact And.intro rfl (Outc.stop M0.out m1 ((K0.out).trans k1));obtain rfl:=tf2.out _ _ m1;have h1:=XH.out _ m1;have R1:=hid_as r1;have K1:=hid_as ((K0.out).trans k1);have M1:=hid_as (th_go M0.out m1);have B1:=hid_as (B0.out.kp k1 (by omega));have z1:=K1.out.size;have q1:=k1.size;(try rw [World.size_alloc] at q1);have J1:=hid_as k1;clear k1 r1 m1;unfold tv;have y1:=B1.out.lt;have N1:=hid_as (Bk.fresh w1 #[.int .i64 ta1,.int .i64 tk1,.int .i64 tn1,.string (tx tt1),.int .i64 pl1] 42))
    | (go_at_call 85;(with_reducible refine (accept_n (R1.out.alloc (.cells #[.int .i64 ta1,.int .i64 tk1,.int .i64 tn1,.string (tx tt1),.int .i64 pl1] 42)) ⟨#[65,84]⟩ h1).mono ?_);rintro e w3 ⟨rfl,b3⟩;have R3:=hid_as ((R1.out.alloc (.cells #[.int .i64 ta1,.int .i64 tk1,.int .i64 tn1,.string (tx tt1),.int .i64 pl1] 42)).below b3);have K3:=hid_as ((K1.out.alloc (.cells #[.int .i64 ta1,.int .i64 tk1,.int .i64 tn1,.string (tx tt1),.int .i64 pl1] 42)).below b3);have B3:=hid_as ((B1.out.alloc (.cells #[.int .i64 ta1,.int .i64 tk1,.int .i64 tn1,.string (tx tt1),.int .i64 pl1] 42)).below b3);have N3:=hid_as (N1.out.below b3);have z3:=K3.out.size;have y2:=N3.out.lt;have M3:Hid (M=(fun b=>th (xp T [58] b) fun _ c=>th (vty T c) fun _ d=>th (fst1 T d) fun _ e=>xp T [59] e) (i+1)):=(by have q:=M1.out;simp only [h1,Bool.false_eq_true,if_false] at q;exact hid_as q);clear b3 h1)
    | (go_at_call 87;(with_reducible refine (C1.out _ (i+1) R3.out).mono ?_);rintro e w4 ⟨k4,⟨_,i4,_,m4,rfl,rfl,r4,l4⟩ | ⟨n4,i4,m4,rfl⟩⟩;rotate_left;exact And.intro rfl (Outc.stop M3.out m4 ((K3.out).trans k4));have R4:=hid_as r4;have K4:=hid_as ((K3.out).trans k4);have M4:=hid_as (th_go M3.out m4);have B4x:=hid_as (B3.out.kp k4 (by omega));have N4x:=hid_as (N3.out.kp k4 (by omega));have z4:=K4.out.size;have q4:=k4.size;(try rw [World.size_alloc] at q4);have J4:=hid_as k4;clear k4 r4 m4;have y4:=N4x.out.lt)
    | (go_at_call 132;(with_reducible refine (TC.out _ i4 R4.out).mono ?_);rintro e w5 ⟨k5,⟨_,i5,_,m5,rfl,⟨x4_0,x4_1,x4_2,x4_3,x4_4,rfl⟩,r5,l5⟩ | ⟨n5,i5,m5,rfl⟩⟩;rotate_left;exact And.intro rfl (Outc.stop M4.out m5 ((K4.out).trans k5));have R5:=hid_as r5;have K5:=hid_as ((K4.out).trans k5);have M5:=hid_as (th_go M4.out m5);have B5:=hid_as (B4x.out.kp k5 (by omega));have N5:=hid_as (N4x.out.kp k5 (by omega));have z5:=K5.out.size;have q5:=k5.size;(try rw [World.size_alloc] at q5);have J5:=hid_as k5;clear k5 r5 m5;have Y5:=hid_as (Bk.fresh w5 #[.int .i64 x4_0,.int .i64 x4_1,.int .i64 x4_2,.int .i64 x4_3,.string x4_4] 109);have y5:=N5.out.lt)
    | (go_at_call 133;(with_reducible refine (VC1.out _ i5 (R5.out.alloc _)).mono ?_);rintro e w6 ⟨k6,⟨_,i6,_,m6,rfl,⟨a6,b6,c6,rfl⟩,r6,l6⟩ | ⟨n6,i6,m6,rfl⟩⟩;rotate_left;exact And.intro rfl (Outc.stop M5.out m6 ((K5.out.alloc _).trans k6));have R6:=hid_as r6;have K6:=hid_as ((K5.out.alloc _).trans k6);have M6:=hid_as (th_go M5.out m6);have B6:=hid_as ((B5.out.alloc (.cells #[.int .i64 x4_0,.int .i64 x4_1,.int .i64 x4_2,.int .i64 x4_3,.string x4_4] 109)).kp k6 (by omega));have N6:=hid_as ((N5.out.alloc (.cells #[.int .i64 x4_0,.int .i64 x4_1,.int .i64 x4_2,.int .i64 x4_3,.string x4_4] 109)).kp k6 (by omega));have Y6:=hid_as (Y5.out.kp k6 (by omega));have z6:=K6.out.size;have q6:=k6.size;(try rw [World.size_alloc] at q6);have J6:=hid_as k6;clear k6 r6 m6;have y6:=Y6.out.lt)
    | (go_at_call 87;(with_reducible refine (C2.out _ i6 R6.out).mono ?_);rintro e w7 ⟨k7,⟨_,i7,_,m7,rfl,rfl,r7,l7⟩ | ⟨n7,i7,m7,rfl⟩⟩;rotate_left;exact And.intro rfl (Outc.stop0 M6.out m7 ((K6.out).trans k7));have R7:=hid_as r7;have K7:=hid_as ((K6.out).trans k7);have M7:=hid_as (M6.out.trans m7);have B7:=hid_as (B6.out.kp k7 (by omega));have N7:=hid_as (N6.out.kp k7 (by omega));have Y7:=hid_as (Y6.out.kp k7 (by omega));have z7:=K7.out.size;have q7:=k7.size;(try rw [World.size_alloc] at q7);have J7:=hid_as k7;clear k7 r7 m7;obtain ⟨s0,s1,s2,s3,s4,s5,s6,s7,s8,s9⟩:=bk10 B7.out;have sf:=B7.out.fr;obtain ⟨g0,g1,g2,g3,g4⟩:=bk5 N7.out;have gf:=N7.out.fr;obtain ⟨u0,u1,u2,u3,u4⟩:=bk5 Y7.out;have uf:=Y7.out.fr))
  exact bodyPost_ret (v:=.agg #[.string (tx tt1),.int .i64 x4_0,.int .i64 x4_1,.int .i64 x4_2,.int .i64 x4_3,.string x4_4,.bool rt,.string ⟨#[]⟩,.slice a6 b6 c6,.int .i64 pl1]) (by simp [results,Tryz.results89,go_sem,s0,s1,s2,s3,s4,s5,s6,s7,s8,s9]) rfl ⟨K7.out.put10 (by omega) _ _ _ _ _ _ _ _ _ _,Or.inl ⟨(),_,_,M7.out,rfl,⟨_,_,_,_,_,_,_,_,_,_,_,_,rfl⟩,R7.out.put10 (by omega) (by omega) _ _ _ _ _ _ _ _ _ _,(by omega)⟩⟩
theorem p_decl {rb tb cap:Nat} {T:TL} (rt:Bool):Cn 89 #[.bool rt] rb tb cap T (dcl T) qVar:=fun _ i h=>by
  cases h1:isT T [65,84] (i+1) with
  | true=>exact p_decl_a h rt (fun _ _=>h1)
  | false=>exact p_decl_n h rt (fun _ _=>h1)
end Go.Proofs.YtapcpjidgemggaaGreatDoor
