/- Arguments, labels, structures (stage 13). · Labels (stage 13). -/
import Derived.Test.YtapcpjidgemggaaGreatDoorQ30
namespace Go.Proofs.YtapcpjidgemggaaGreatDoor
open Go.RowKit
open Adr Lx Sx
set_option maxHeartbeats 4000000 in
set_option maxRecDepth 100000 in
theorem p_arg {w:World} {rb tb cap:Nat} {T:TL} {i:Nat} (h:Rd w rb tb cap T i):Calls Tryz.prog 189 #[.pointer (some ⟨rb,0,none⟩)] w fun e w'=>Outc rb tb cap T i w (arg T i) (qArg w) e w':=by
  have hrl:=h.rlt
  have htl:=h.lt
  have B0:=hid_as (Bk.fresh w #[.string ⟨#[]⟩,.int .i64 0,.int .i64 0,.int .i64 0,.string ⟨#[]⟩,.string ⟨#[]⟩,.slice none 0 0,.int .i64 0,.int .i64 0] 77)
  have K0:=hid_as ((Kp.refl rb w).alloc (.cells #[.string ⟨#[]⟩,.int .i64 0,.int .i64 0,.int .i64 0,.string ⟨#[]⟩,.string ⟨#[]⟩,.slice none 0 0,.int .i64 0,.int .i64 0] 77))
  have H:=hid_as (h.alloc (.cells #[.string ⟨#[]⟩,.int .i64 0,.int .i64 0,.int .i64 0,.string ⟨#[]⟩,.string ⟨#[]⟩,.slice none 0 0,.int .i64 0,.int .i64 0] 77))
  have em:arg T i=th (tof T 2 i) fun _ a=>th (xp T [58,61] a) fun _ b=>th (xpr T 32 b) fun _ k=>ok () k:=rfl
  generalize arg T i=M at *
  have M0:=hid_as em
  have NC:Hid (∀ W i,Rd W rb tb cap T i→Calls Tryz.prog 88 #[.pointer (some ⟨rb,0,none⟩)] W fun e w'=>Outc rb tb cap T i W (tof T 2 i) (qT W) e w'):=name_c
  have C1:Hid (∀ W i,Rd W rb tb cap T i→Calls Tryz.prog 87 #[.pointer (some ⟨rb,0,none⟩),.string ⟨#[58,61]⟩] W fun e w'=>Outc rb tb cap T i W (xp T [58,61] i) (qU W) e w'):=expect_c ⟨#[58,61]⟩ (by decide)
  have XC:Hid (∀ W i,Rd W rb tb cap T i→Calls Tryz.prog 186 #[.pointer (some ⟨rb,0,none⟩),.int .i64 1] W fun e w'=>Outc rb tb cap T i W (xpr T 32 i) (qE W) e w'):=p_xpr 32 1 rfl
  clear h em
  go_enter Tryz.func189,Tryz.ntmps189
  go_wp2_with (first
    | (go_at_call 88;(with_reducible refine (NC.out _ i H.out).mono ?_);rintro e w1 ⟨k1,⟨⟨⟨ta1,tk1,tn1,tt1⟩,pl1⟩,i1,_,m1,rfl,rfl,r1,l1⟩ | ⟨n1,i1,m1,rfl⟩⟩;rotate_left;exact And.intro rfl (Outc.stop M0.out m1 ((K0.out).trans k1));have R1:=hid_as r1;have K1:=hid_as ((K0.out).trans k1);have M1:=hid_as (th_go M0.out m1);have B1:=hid_as (B0.out.kp k1 (by omega));have z1:=K1.out.size;have q1:=k1.size;(try rw [World.size_alloc] at q1);have J1:=hid_as k1;clear k1 r1 m1;unfold tv;have y1:=B1.out.lt;have N1:=hid_as (Bk.fresh w1 #[.int .i64 ta1,.int .i64 tk1,.int .i64 tn1,.string (tx tt1),.int .i64 pl1] 42))
    | (go_at_call 87;(with_reducible refine (C1.out _ i1 (R1.out.alloc _)).mono ?_);rintro e w2 ⟨k2,⟨_,i2,_,m2,rfl,rfl,r2,l2⟩ | ⟨n2,i2,m2,rfl⟩⟩;rotate_left;exact And.intro rfl (Outc.stop M1.out m2 ((K1.out.alloc _).trans k2));have R2:=hid_as r2;have K2:=hid_as ((K1.out.alloc _).trans k2);have M2:=hid_as (th_go M1.out m2);have B2:=hid_as ((B1.out.alloc (.cells #[.int .i64 ta1,.int .i64 tk1,.int .i64 tn1,.string (tx tt1),.int .i64 pl1] 42)).kp k2 (by omega));have N2:=hid_as (N1.out.kp k2 (by omega));have z2:=K2.out.size;have q2:=k2.size;(try rw [World.size_alloc] at q2);have J2:=hid_as k2;clear k2 r2 m2;have y2:=N2.out.lt;have N2d:=hid_as N2.out.drew;obtain ⟨g0,g1,g2,g3,g4⟩:=bk5 N2d.out;have gf:=N2d.out.fr))
  go_region_with (first
    | (go_at_call 186;(with_reducible refine (XC.out _ i2 R2.out.drew).mono ?_);rintro e w3 ⟨k3,⟨t3,i3,_,m3,rfl,⟨o3,kd3,v3,nm3,fl3,lp3,ln3,lc3,p3,rfl,E3'⟩,r3,l3⟩ | ⟨n3,i3,m3,rfl⟩⟩;rotate_left;exact And.intro rfl (Outc.stop M2.out m3 ((K2.out.drew).trans k3));have R3:=hid_as r3;have K3:=hid_as ((K2.out.drew).trans k3);have M3:=hid_as (th_go M2.out m3);have B3:=hid_as ((B2.out.drew).kp k3 (by omega));have N3:=hid_as ((N2.out.drew).kp k3 (by omega));have z3:=K3.out.size;have q3:=k3.size;(try rw [World.size_alloc] at q3);have J3:=hid_as k3;clear k3 r3 m3;clear g0 g1 g2 g3 g4 gf;obtain ⟨g0,g1,g2,g3,g4⟩:=bk5 N3.out;have gf:=N3.out.fr;obtain ⟨s0,s1,s2,s3,s4,s5,s6,s7,s8⟩:=bk9 B3.out;have sf:=B3.out.fr))
  all_goals go_wp2
  all_goals
    exact bodyPost_ret (v:=.agg #[.string (tx tt1),.int .i64 o3,.int .i64 kd3,.int .i64 v3,.string nm3,.string fl3,.slice lp3 ln3 lc3,.int .i64 p3,.int .i64 pl1]) (by simp [results,Tryz.results189,go_sem,s0,s1,s2,s3,s4,s5,s6,s7,s8]) rfl ⟨K3.out.put9 (by omega) _ _ _ _ _ _ _ _ _,Or.inl ⟨(),_,_,M3.out,rfl,⟨_,_,_,_,_,_,_,_,_,_,_,rfl⟩,R3.out.put9 (by omega) (by omega) _ _ _ _ _ _ _ _ _,(by omega)⟩⟩
set_option maxHeartbeats 4000000 in
set_option maxRecDepth 100000 in
theorem p_label_y {w:World} {rb tb cap:Nat} {T:TL} {i:Nat} (h:Rd w rb tb cap T i) (h1:Hid (∀ k,slt T i=ok () k→isT T [46,46] k=true)):Calls Tryz.prog 192 #[.pointer (some ⟨rb,0,none⟩)] w fun e w'=>Outc rb tb cap T i w (lab T i) (qLab w) e w':=by
  have hrl:=h.rlt
  have htl:=h.lt
  have B0:=hid_as (Bk.fresh w #[.int .i64 0,.int .i64 0,.int .i64 0,.string ⟨#[]⟩,.string ⟨#[]⟩,.slice none 0 0,.int .i64 0,.int .i64 0,.int .i64 0,.int .i64 0,.string ⟨#[]⟩,.string ⟨#[]⟩,.slice none 0 0,.int .i64 0] 164)
  have K0:=hid_as ((Kp.refl rb w).alloc (.cells #[.int .i64 0,.int .i64 0,.int .i64 0,.string ⟨#[]⟩,.string ⟨#[]⟩,.slice none 0 0,.int .i64 0,.int .i64 0,.int .i64 0,.int .i64 0,.string ⟨#[]⟩,.string ⟨#[]⟩,.slice none 0 0,.int .i64 0] 164))
  have H:=hid_as (h.alloc (.cells #[.int .i64 0,.int .i64 0,.int .i64 0,.string ⟨#[]⟩,.string ⟨#[]⟩,.slice none 0 0,.int .i64 0,.int .i64 0,.int .i64 0,.int .i64 0,.string ⟨#[]⟩,.string ⟨#[]⟩,.slice none 0 0,.int .i64 0] 164))
  have em:lab T i=th (slt T i) fun _ k=>if isT T [46,46] k then slt T (k+1) else ok () k:=rfl
  generalize lab T i=M at *
  have M0:=hid_as em
  have LC:Hid (∀ W i,Rd W rb tb cap T i→Calls Tryz.prog 157 #[.pointer (some ⟨rb,0,none⟩)] W fun e w'=>Outc rb tb cap T i W (slt T i) (qL W) e w'):=p_lit
  clear h em
  go_enter Tryz.func192,Tryz.ntmps192
  go_wp2_with (first
    | (go_at_call 157;(with_reducible refine (LC.out _ i H.out).mono ?_);rintro e w1 ⟨k1,⟨_,i1,_,m1,rfl,⟨o1,kd1,v1,nm1,fl1,lp1,ln1,lc1,p1,rfl,Q1⟩,r1,l1⟩ | ⟨n1,i1,m1,rfl⟩⟩;rotate_left;exact And.intro rfl (Outc.stop M0.out m1 ((K0.out).trans k1));have ha:=h1.out _ m1;have R1:=hid_as r1;have K1:=hid_as ((K0.out).trans k1);have M1:=hid_as (th_go M0.out m1);have B1:=hid_as (B0.out.kp k1 (by omega));have z1:=K1.out.size;have q1:=k1.size;(try rw [World.size_alloc] at q1);have J1:=hid_as k1;clear k1 r1 m1;have y1:=B1.out.lt;have V1:=hid_as (Bk.fresh w1 #[.int .i64 o1,.int .i64 kd1,.int .i64 v1,.string nm1,.string fl1,.slice lp1 ln1 lc1,.int .i64 p1] 53))
    | (go_at_call 85;(with_reducible refine (accept_y (R1.out.alloc (.cells #[.int .i64 o1,.int .i64 kd1,.int .i64 v1,.string nm1,.string fl1,.slice lp1 ln1 lc1,.int .i64 p1] 53)) ⟨#[46,46]⟩ ha (by decide)).mono ?_);rintro e w2 ⟨rfl,k2,r2⟩;have R2:=hid_as r2;have K2:=hid_as ((K1.out.alloc _).trans k2);have B2:=hid_as ((B1.out.alloc (.cells #[.int .i64 o1,.int .i64 kd1,.int .i64 v1,.string nm1,.string fl1,.slice lp1 ln1 lc1,.int .i64 p1] 53)).kp k2 (by omega));have V2:=hid_as (V1.out.kp k2 (by omega));have z2:=K2.out.size;have y2:=V2.out.lt;have M2:Hid (M=slt T (i1+1)):=(by have q:=M1.out;simp only [ha,if_true] at q;exact hid_as q);clear k2 r2 ha;have V2d:=hid_as V2.out.drew;obtain ⟨g0,g1,g2,g3,g4,g5,g6⟩:=bk7 V2d.out;have gf:=V2d.out.fr))
  go_region_with (first
    | (go_at_call 157;(with_reducible refine (LC.out _ (i1+1) R2.out.drew).mono ?_);rintro e w3 ⟨k3,⟨_,i3,_,m3,rfl,⟨o3,kd3,v3,nm3,fl3,lp3,ln3,lc3,p3,rfl,Q3⟩,r3,l3⟩ | ⟨n3,i3,m3,rfl⟩⟩;rotate_left;exact And.intro rfl (Outc.stop0 M2.out m3 ((K2.out.drew).trans k3));have R3:=hid_as r3;have K3:=hid_as ((K2.out.drew).trans k3);have M3:=hid_as (M2.out.trans m3);have B3:=hid_as ((B2.out.drew).kp k3 (by omega));have V3:=hid_as ((V2.out.drew).kp k3 (by omega));have z3:=K3.out.size;have q3:=k3.size;(try rw [World.size_alloc] at q3);have J3:=hid_as k3;clear k3 r3 m3;clear g0 g1 g2 g3 g4 g5 g6 gf;obtain ⟨g0,g1,g2,g3,g4,g5,g6⟩:=bk7 V3.out;have gf:=V3.out.fr;obtain ⟨s0,s1,s2,s3,s4,s5,s6,s7,s8,s9,s10,s11,s12,s13⟩:=bk14 B3.out;have sf:=B3.out.fr))
  all_goals go_wp2
  all_goals
    exact bodyPost_ret (v:=.agg #[.int .i64 o1,.int .i64 kd1,.int .i64 v1,.string nm1,.string fl1,.slice lp1 ln1 lc1,.int .i64 p1,.int .i64 o3,.int .i64 kd3,.int .i64 v3,.string nm3,.string fl3,.slice lp3 ln3 lc3,.int .i64 p3]) (by simp [results,Tryz.results192,go_sem,s0,s1,s2,s3,s4,s5,s6,s7,s8,s9,s10,s11,s12,s13]) rfl ⟨K3.out.put14 (by omega) _ _ _ _ _ _ _ _ _ _ _ _ _ _,Or.inl ⟨(),_,_,M3.out,rfl,⟨_,_,_,_,_,_,_,_,_,_,_,_,_,_,_,_,_,_,rfl⟩,R3.out.put14 (by omega) (by omega) _ _ _ _ _ _ _ _ _ _ _ _ _ _,(by omega)⟩⟩
end Go.Proofs.YtapcpjidgemggaaGreatDoor
namespace Go.Proofs.YtapcpjidgemggaaGreatDoor
open Go.RowKit
open Adr Lx Sx
set_option maxHeartbeats 4000000 in
set_option maxRecDepth 100000 in
theorem p_label_n {w:World} {rb tb cap:Nat} {T:TL} {i:Nat} (h:Rd w rb tb cap T i) (h1:Hid (∀ k,slt T i=ok () k→isT T [46,46] k=false)):Calls Tryz.prog 192 #[.pointer (some ⟨rb,0,none⟩)] w fun e w'=>Outc rb tb cap T i w (lab T i) (qLab w) e w':=by
  have hrl:=h.rlt
  have htl:=h.lt
  have B0:=hid_as (Bk.fresh w #[.int .i64 0,.int .i64 0,.int .i64 0,.string ⟨#[]⟩,.string ⟨#[]⟩,.slice none 0 0,.int .i64 0,.int .i64 0,.int .i64 0,.int .i64 0,.string ⟨#[]⟩,.string ⟨#[]⟩,.slice none 0 0,.int .i64 0] 164)
  have K0:=hid_as ((Kp.refl rb w).alloc (.cells #[.int .i64 0,.int .i64 0,.int .i64 0,.string ⟨#[]⟩,.string ⟨#[]⟩,.slice none 0 0,.int .i64 0,.int .i64 0,.int .i64 0,.int .i64 0,.string ⟨#[]⟩,.string ⟨#[]⟩,.slice none 0 0,.int .i64 0] 164))
  have H:=hid_as (h.alloc (.cells #[.int .i64 0,.int .i64 0,.int .i64 0,.string ⟨#[]⟩,.string ⟨#[]⟩,.slice none 0 0,.int .i64 0,.int .i64 0,.int .i64 0,.int .i64 0,.string ⟨#[]⟩,.string ⟨#[]⟩,.slice none 0 0,.int .i64 0] 164))
  have em:lab T i=th (slt T i) fun _ k=>if isT T [46,46] k then slt T (k+1) else ok () k:=rfl
  generalize lab T i=M at *
  have M0:=hid_as em
  have LC:Hid (∀ W i,Rd W rb tb cap T i→Calls Tryz.prog 157 #[.pointer (some ⟨rb,0,none⟩)] W fun e w'=>Outc rb tb cap T i W (slt T i) (qL W) e w'):=p_lit
  clear h em
  go_enter Tryz.func192,Tryz.ntmps192
  go_wp2_with (first
    | (go_at_call 157;(with_reducible refine (LC.out _ i H.out).mono ?_);rintro e w1 ⟨k1,⟨_,i1,_,m1,rfl,⟨o1,kd1,v1,nm1,fl1,lp1,ln1,lc1,p1,rfl,Q1⟩,r1,l1⟩ | ⟨n1,i1,m1,rfl⟩⟩;rotate_left;exact And.intro rfl (Outc.stop M0.out m1 ((K0.out).trans k1));have ha:=h1.out _ m1;have R1:=hid_as r1;have K1:=hid_as ((K0.out).trans k1);have M1:=hid_as (th_go M0.out m1);have B1:=hid_as (B0.out.kp k1 (by omega));have z1:=K1.out.size;have q1:=k1.size;(try rw [World.size_alloc] at q1);have J1:=hid_as k1;clear k1 r1 m1;have y1:=B1.out.lt;have V1:=hid_as (Bk.fresh w1 #[.int .i64 o1,.int .i64 kd1,.int .i64 v1,.string nm1,.string fl1,.slice lp1 ln1 lc1,.int .i64 p1] 53);replace Q1:=hid_as Q1)
    | (go_at_call 85;(with_reducible refine (accept_n (R1.out.alloc (.cells #[.int .i64 o1,.int .i64 kd1,.int .i64 v1,.string nm1,.string fl1,.slice lp1 ln1 lc1,.int .i64 p1] 53)) ⟨#[46,46]⟩ ha).mono ?_);rintro e w2 ⟨rfl,b2⟩;have R2:=hid_as ((R1.out.alloc (.cells #[.int .i64 o1,.int .i64 kd1,.int .i64 v1,.string nm1,.string fl1,.slice lp1 ln1 lc1,.int .i64 p1] 53)).below b2);have K2:=hid_as ((K1.out.alloc (.cells #[.int .i64 o1,.int .i64 kd1,.int .i64 v1,.string nm1,.string fl1,.slice lp1 ln1 lc1,.int .i64 p1] 53)).below b2);have B2:=hid_as ((B1.out.alloc (.cells #[.int .i64 o1,.int .i64 kd1,.int .i64 v1,.string nm1,.string fl1,.slice lp1 ln1 lc1,.int .i64 p1] 53)).below b2);have V2:=hid_as (V1.out.below b2);have z2:=K2.out.size;have y2:=V2.out.lt;have M2:Hid (M=ok () i1):=(by have q:=M1.out;simp only [ha,Bool.false_eq_true,if_false] at q;exact hid_as q);have J2:=hid_as b2;clear b2 ha;obtain ⟨g0,g1,g2,g3,g4,g5,g6⟩:=bk7 V2.out;have gf:=V2.out.fr;have ww0:=fun o=>(bk7 (V2.out.alloc o)).1;have ww1:=fun o=>(bk7 (V2.out.alloc o)).2.1;have ww2:=fun o=>(bk7 (V2.out.alloc o)).2.2.1;have ww3:=fun o=>(bk7 (V2.out.alloc o)).2.2.2.1;have ww4:=fun o=>(bk7 (V2.out.alloc o)).2.2.2.2.1;have ww5:=fun o=>(bk7 (V2.out.alloc o)).2.2.2.2.2.1;have ww6:=fun o=>(bk7 (V2.out.alloc o)).2.2.2.2.2.2;have wwf:=fun o=>(V2.out.alloc o).fr))
  rcases Q1.out with ⟨rfl,rfl,rfl⟩ | ⟨g,o',k',n',nm',fl',p',rfl,rfl,rfl,hg,bk⟩
  · have CN:=hid_as clone_nil
    have s0:=fun o=>(bk14 (B2.out.alloc o)).1
    have s1:=fun o=>(bk14 (B2.out.alloc o)).2.1
    have s2:=fun o=>(bk14 (B2.out.alloc o)).2.2.1
    have s3:=fun o=>(bk14 (B2.out.alloc o)).2.2.2.1
    have s4:=fun o=>(bk14 (B2.out.alloc o)).2.2.2.2.1
    have s5:=fun o=>(bk14 (B2.out.alloc o)).2.2.2.2.2.1
    have s6:=fun o=>(bk14 (B2.out.alloc o)).2.2.2.2.2.2.1
    have s7:=fun o=>(bk14 (B2.out.alloc o)).2.2.2.2.2.2.2.1
    have s8:=fun o=>(bk14 (B2.out.alloc o)).2.2.2.2.2.2.2.2.1
    have s9:=fun o=>(bk14 (B2.out.alloc o)).2.2.2.2.2.2.2.2.2.1
    have s10:=fun o=>(bk14 (B2.out.alloc o)).2.2.2.2.2.2.2.2.2.2.1
    have s11:=fun o=>(bk14 (B2.out.alloc o)).2.2.2.2.2.2.2.2.2.2.2.1
    have s12:=fun o=>(bk14 (B2.out.alloc o)).2.2.2.2.2.2.2.2.2.2.2.2.1
    have s13:=fun o=>(bk14 (B2.out.alloc o)).2.2.2.2.2.2.2.2.2.2.2.2.2
    have sf:=fun o=>(B2.out.alloc o).fr
    go_wp2_with (go_at_call 195;(with_reducible refine (CN.out _).mono ?_);rintro e w' ⟨rfl,hw⟩;subst w')
    exact bodyPost_ret (v:=.agg #[.int .i64 o1,.int .i64 kd1,.int .i64 v1,.string nm1,.string fl1,.slice none 0 0,.int .i64 p1,.int .i64 o1,.int .i64 kd1,.int .i64 v1,.string nm1,.string fl1,.slice none 0 0,.int .i64 p1]) (by simp [results,Tryz.results192,go_sem,s0,s1,s2,s3,s4,s5,s6,s7,s8,s9,s10,s11,s12,s13]) rfl ⟨(K2.out.alloc _).put14 (by omega) _ _ _ _ _ _ _ _ _ _ _ _ _ _,Or.inl ⟨(),_,_,M2.out,rfl,⟨_,_,_,_,_,_,_,_,_,_,_,_,_,_,_,_,_,_,rfl⟩,(R2.out.alloc _).put14 (by omega) (by omega) _ _ _ _ _ _ _ _ _ _ _ _ _ _,(by omega)⟩⟩
  · have y3:=bk.lt
    have bk2:=((bk.alloc (.cells #[.int .i64 o1,.int .i64 kd1,.int .i64 v1,.string nm1,.string fl1,.slice (some ⟨g,0,none⟩) 1 1,.int .i64 p1] 53)).below J2.out).alloc (.cells #[.int .i64 o1,.int .i64 kd1,.int .i64 v1,.string nm1,.string fl1,.slice (some ⟨g,0,none⟩) 1 1,.int .i64 p1] 53)
    have V3:=V2.out.alloc (.cells #[.int .i64 o1,.int .i64 kd1,.int .i64 v1,.string nm1,.string fl1,.slice (some ⟨g,0,none⟩) 1 1,.int .i64 p1] 53)
    have H3:=Bk.fresh w2 #[.int .i64 o1,.int .i64 kd1,.int .i64 v1,.string nm1,.string fl1,.slice (some ⟨g,0,none⟩) 1 1,.int .i64 p1] 53
    have CN:=hid_as (clone_one bk2)
    have B3:=hid_as (B2.out.alloc (.cells #[.int .i64 o1,.int .i64 kd1,.int .i64 v1,.string nm1,.string fl1,.slice (some ⟨g,0,none⟩) 1 1,.int .i64 p1] 53))
    have K3:=hid_as (K2.out.alloc (.cells #[.int .i64 o1,.int .i64 kd1,.int .i64 v1,.string nm1,.string fl1,.slice (some ⟨g,0,none⟩) 1 1,.int .i64 p1] 53))
    have R3:=hid_as (R2.out.alloc (.cells #[.int .i64 o1,.int .i64 kd1,.int .i64 v1,.string nm1,.string fl1,.slice (some ⟨g,0,none⟩) 1 1,.int .i64 p1] 53))
    clear bk bk2
    go_wp2_with (go_at_call 195;(with_reducible refine CN.out.mono ?_);rintro e w4 ⟨⟨a4,b4,c4,rfl⟩,b5⟩;have R4:=hid_as (R3.out.below b5);have K4:=hid_as (K3.out.below b5);have B4:=hid_as (B3.out.below b5);have V4:=hid_as (V3.below b5);have H4:=hid_as (H3.below b5);have z4:=K4.out.size;have y4:=H4.out.lt;clear b5;obtain ⟨s0,s1,s2,s3,s4,s5,s6,s7,s8,s9,s10,s11,s12,s13⟩:=bk14 B4.out;have sf:=B4.out.fr;clear g0 g1 g2 g3 g4 g5 g6 gf;obtain ⟨g0,g1,g2,g3,g4,g5,g6⟩:=bk7 V4.out;have gf:=V4.out.fr;obtain ⟨u0,u1,u2,u3,u4,u5,u6⟩:=bk7 H4.out;have uf:=H4.out.fr)
    exact bodyPost_ret (v:=.agg #[.int .i64 o1,.int .i64 kd1,.int .i64 v1,.string nm1,.string fl1,.slice (some ⟨g,0,none⟩) 1 1,.int .i64 p1,.int .i64 o1,.int .i64 kd1,.int .i64 v1,.string nm1,.string fl1,.slice a4 b4 c4,.int .i64 p1]) (by simp [results,Tryz.results192,go_sem,s0,s1,s2,s3,s4,s5,s6,s7,s8,s9,s10,s11,s12,s13]) rfl ⟨(K4.out.set (g:=w2.heap.size) (by omega) _ _).put14 (by omega) _ _ _ _ _ _ _ _ _ _ _ _ _ _,Or.inl ⟨(),_,_,M2.out,rfl,⟨_,_,_,_,_,_,_,_,_,_,_,_,_,_,_,_,_,_,rfl⟩,(R4.out.other (b:=w2.heap.size) (by omega) (by omega) _ _).put14 (by omega) (by omega) _ _ _ _ _ _ _ _ _ _ _ _ _ _,(by omega)⟩⟩
theorem p_label {rb tb cap:Nat} {T:TL}:Cn 192 #[] rb tb cap T (lab T) qLab:=fun _ i h=>by
  rcases hs:slt T i with ⟨v,k,e⟩
  cases h1:isT T [46,46] k with
  | true=>exact p_label_y h (fun k' q=>by rw [hs] at q;obtain rfl:k=k':=congrArg Re.k q;exact h1)
  | false=>exact p_label_n h (fun k' q=>by rw [hs] at q;obtain rfl:k=k':=congrArg Re.k q;exact h1)
end Go.Proofs.YtapcpjidgemggaaGreatDoor
