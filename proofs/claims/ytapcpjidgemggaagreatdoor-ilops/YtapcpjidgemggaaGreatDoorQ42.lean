/- CASE (stage 13). -/
import Derived.Test.YtapcpjidgemggaaGreatDoorQ32
namespace Go.Proofs.YtapcpjidgemggaaGreatDoor
open Go.RowKit
open Adr Lx Sx
theorem th_v {α β:Type} {p:Re α} {f:α→Nat→Re β} {b:β} (h:(th p f).v=some b):∃ a,p.v=some a∧(f a p.k).v=some b∧(th p f).k=(f a p.k).k:=by
  obtain ⟨v,k,e⟩:=p
  cases v with
  | none=>cases h
  | some a=>exact ⟨a,rfl,h,rfl⟩
theorem tof_lt {T:TL} {t i:Nat} {a:Tk × Nat} (h:(tof T t i).v=some a):(tof T t i).k=i+1:=by
  unfold tof at h ⊢
  split at h
  · rename_i q;rw [if_pos q];rfl
  · cases h
theorem litT_lt {T:TL} {i:Nat} {t:Tr} (h:(litT T i).v=some t):i < (litT T i).k:=by
  unfold litT at h ⊢
  split at h
  · rename_i q;rw [if_pos q];exact Nat.lt_succ_self _
  · rename_i q
    rw [if_neg q]
    obtain ⟨a,h1,_,h3⟩:=th_v h
    rw [h3,show (ok (litOf a) (tof T 3 i).k:Re Tr).k=(tof T 3 i).k from rfl,tof_lt h1]
    exact Nat.lt_succ_self _
theorem slt_lt {T:TL} {i:Nat} {u:Unit} (h:(slt T i).v=some u):i < (slt T i).k:=by
  unfold slt at h ⊢
  split at h
  · rename_i q
    rw [if_pos q]
    obtain ⟨a,h1,_,h3⟩:=th_v h
    rw [h3,show (ok () (tof T 3 (i+1)).k:Re Unit).k=(tof T 3 (i+1)).k from rfl,tof_lt h1]
    omega
  · rename_i q
    rw [if_neg q]
    obtain ⟨a,h1,_,h3⟩:=th_v h
    rw [h3]
    exact litT_lt h1
theorem lab_lt {T:TL} {i k:Nat} {u:Unit} (h:lab T i=ok u k):i+1≤k:=by
  have hv:(lab T i).v=some u:=congrArg Re.v h
  have hk:(lab T i).k=k:=congrArg Re.k h
  unfold lab at hv hk
  obtain ⟨a,h1,h2,h3⟩:=th_v hv
  rw [h3] at hk
  have q:=slt_lt h1
  split at h2
  · rename_i g
    rw [if_pos g] at hk
    have:=slt_lt h2
    omega
  · rename_i g
    rw [if_neg g] at hk
    have:(slt T i).k=k:=hk
    omega
set_option maxHeartbeats 4000000 in
set_option maxRecDepth 100000 in
theorem p_caseArm {w:World} {rb tb cap:Nat} {T:TL} {i:Nat} (h:Rd w rb tb cap T i) (inn:Int) (s:Nat→Re (List Nat)) (S:Hid (∀ W i,Rd W rb tb cap T i→Calls Tryz.prog 90 #[.pointer (some ⟨rb,0,none⟩),.int .i64 inn] W fun e w'=>Outc rb tb cap T i W (s i) (qSs W) e w')):Calls Tryz.prog 187 #[.pointer (some ⟨rb,0,none⟩),.int .i64 inn] w fun e w'=>Outc rb tb cap T (i+1) w (carm T s i) (qArm w) e w':=by
  have hrl:=h.rlt
  have htl:=h.lt
  have B0:=hid_as (Bk.fresh w #[.slice none 0 0,.slice none 0 0,.slice none 0 0] 119)
  have K0:=hid_as ((Kp.refl rb w).alloc (.cells #[.slice none 0 0,.slice none 0 0,.slice none 0 0] 119))
  have H:=hid_as (h.alloc (.cells #[.slice none 0 0,.slice none 0 0,.slice none 0 0] 119))
  have hwf:=h.wf.1
  have em:carm T s i=th (lab T i) fun _ k=>th (rp (isT T [44]) (fun _ m=>lab T (m+1)) (T.length+1) () k) (fun _ m=>th (xp T [58] m) fun _ z=>th (s z) fun _ y=>ok () y):=rfl
  generalize carm T s i=M at *
  have M0:=hid_as em
  have LB:Hid (∀ W i,Rd W rb tb cap T i→Calls Tryz.prog 192 #[.pointer (some ⟨rb,0,none⟩)] W fun e w'=>Outc rb tb cap T i W (lab T i) (qLab W) e w'):=p_label
  have C1:Hid (∀ W i,Rd W rb tb cap T i→Calls Tryz.prog 87 #[.pointer (some ⟨rb,0,none⟩),.string ⟨#[58]⟩] W fun e w'=>Outc rb tb cap T i W (xp T [58] i) (qU W) e w'):=expect_c ⟨#[58]⟩ (by decide)
  clear h em
  go_enter Tryz.func187,Tryz.ntmps187
  go_wp2_with (first
    | (go_at_call 192;(with_reducible refine (LB.out _ i H.out).mono ?_);rintro e w1 ⟨k1,⟨_,i1,_,m1,rfl,⟨x1_0,x1_1,x1_2,x1_3,x1_4,a1_5,b1_5,c1_5,x1_6,x1_7,x1_8,x1_9,x1_10,x1_11,a1_12,b1_12,c1_12,x1_13,rfl⟩,r1,l1⟩ | ⟨n1,i1,m1,rfl⟩⟩;rotate_left;exact And.intro rfl (Outc.stop M0.out m1 ((K0.out).trans k1));have hi1:=lab_lt m1;have R1:=hid_as r1;have K1:=hid_as ((K0.out).trans k1);have M1:=hid_as (th_go M0.out m1);have B1:=hid_as (B0.out.kp k1 (by omega));have z1:=K1.out.size;have q1:=k1.size;(try rw [World.size_alloc] at q1);have J1:=hid_as k1;clear k1 r1 m1;have y1:=B1.out.lt))
  go_loopw [5] (fun v wr=>∃ (k f n:Nat) (xs:List Value),T.length < k+f∧i+1≤k∧n≤k+1∧Hid (Rd wr rb tb cap T k)∧Hid (Kp rb w wr)∧Hid (Bk wr w.heap.size #[.slice none 0 0,.slice none 0 0,.slice none 0 0])∧Hid (wr.ownsRow (w.heap.size+1) 164 14 v n xs)∧Hid (M=th (rp (isT T [44]) (fun _ m=>lab T (m+1)) f () k) (fun _ m=>th (xp T [58] m) fun _ z=>th (s z) fun _ y=>ok () y))) (fun _ wr=>T.length - rdn rb wr)
  case atStart =>
    exact ⟨i1,T.length+1,1,_,by omega,hi1,by omega,hid_as (R1.out.alloc _),hid_as (K1.out.alloc _),hid_as (B1.out.alloc _),hid_as (own_one (by omega) rfl),M1⟩
  case round =>
    obtain ⟨k,f,n,xs,hf,hik,hnk,hR,hK,hB,hO,hM⟩:=hrel
    have hat:=hid_as hR.out.rdn
    have hkl:=hR.out.ir
    have z0:=hK.out.size
    have y0:=hB.out.lt
    obtain ⟨f,rfl⟩:∃ f',f=f'+1:=⟨f - 1,by omega⟩
    cases hc:isT T [44] k with
    | true =>
      have A2:Hid (∀ W,Rd W rb tb cap T (k)→Calls Tryz.prog 85 #[.pointer (some ⟨rb,0,none⟩),.string ⟨#[44]⟩] W fun e w'=>e=.returned (.bool true)∧Kp rb W w'∧Rd w' rb tb cap T (k+1)):=fun W H=>accept_y H ⟨#[44]⟩ hc (by decide)
      have Mr:=hid_as (rp_yes hM.out hc)
      clear hM hc
      go_wp2_with (first
        | (go_at_call 85;(with_reducible refine (A2.out _ hR.out).mono ?_);rintro e w2 ⟨rfl,k2,r2⟩;have R2:=hid_as r2;have K2:=hid_as ((hK.out).trans k2);have B2:=hid_as (hB.out.kp k2 (by omega));have z2:=K2.out.size;have q2:=k2.size;(try rw [World.size_alloc] at q2);have J2:=hid_as k2;clear k2 r2)
        | (go_at_call 192;(with_reducible refine (LB.out _ (k+1) R2.out).mono ?_);rintro e w3 ⟨k3,⟨_,i3,_,m3,rfl,⟨x3_0,x3_1,x3_2,x3_3,x3_4,a3_5,b3_5,c3_5,x3_6,x3_7,x3_8,x3_9,x3_10,x3_11,a3_12,b3_12,c3_12,x3_13,rfl⟩,r3,l3⟩ | ⟨n3,i3,m3,rfl⟩⟩;rotate_left;exact And.intro rfl (Outc.stop Mr.out m3 ((K2.out).trans k3));have R3:=hid_as r3;have K3:=hid_as ((K2.out).trans k3);have M3:=hid_as (th_go Mr.out m3);have B3:=hid_as (B2.out.kp k3 (by omega));have z3:=K3.out.size;have q3:=k3.size;(try rw [World.size_alloc] at q3);have J3:=hid_as k3;clear k3 r3 m3;have O3:=hid_as (own_kp hO.out (J2.out.trans J3.out) (by omega));obtain ⟨v5,w5,hr5,ho5,hg5,_⟩:=push_at (cs:=#[.int .i64 x3_0,.int .i64 x3_1,.int .i64 x3_2,.string x3_3,.string x3_4,.slice a3_5 b3_5 c3_5,.int .i64 x3_6,.int .i64 x3_7,.int .i64 x3_8,.int .i64 x3_9,.string x3_10,.string x3_11,.slice a3_12 b3_12 c3_12,.int .i64 x3_13]) Tryz.underlying117 infoLab rfl (by decide) (by decide) O3.out (by omega) (by omega) rfl (by intro u hu;simp at hu;rcases hu with rfl | rfl | rfl | rfl | rfl | rfl | rfl | rfl | rfl | rfl | rfl | rfl | rfl | rfl <;> rfl);have K5:=hid_as ((K3.out.alloc (.cells #[.int .i64 x3_0,.int .i64 x3_1,.int .i64 x3_2,.string x3_3,.string x3_4,.slice a3_5 b3_5 c3_5,.int .i64 x3_6,.int .i64 x3_7,.int .i64 x3_8,.int .i64 x3_9,.string x3_10,.string x3_11,.slice a3_12 b3_12 c3_12,.int .i64 x3_13] 164)).grown hg5 (fun k hk=>Nat.le_trans (by omega) (World.ownsRow.lt O3.out k hk).1));have R5:=hid_as ((R3.out.alloc (.cells #[.int .i64 x3_0,.int .i64 x3_1,.int .i64 x3_2,.string x3_3,.string x3_4,.slice a3_5 b3_5 c3_5,.int .i64 x3_6,.int .i64 x3_7,.int .i64 x3_8,.int .i64 x3_9,.string x3_10,.string x3_11,.slice a3_12 b3_12 c3_12,.int .i64 x3_13] 164)).grown hg5 (fun e=>by have:=(World.ownsRow.lt O3.out rb e).1;omega) (fun e=>by have:=(World.ownsRow.lt O3.out tb e).1;omega));have B5:=hid_as ((B3.out.alloc (.cells #[.int .i64 x3_0,.int .i64 x3_1,.int .i64 x3_2,.string x3_3,.string x3_4,.slice a3_5 b3_5 c3_5,.int .i64 x3_6,.int .i64 x3_7,.int .i64 x3_8,.int .i64 x3_9,.string x3_10,.string x3_11,.slice a3_12 b3_12 c3_12,.int .i64 x3_13] 164)).grown hg5 (fun e=>by have:=(World.ownsRow.lt O3.out _ e).1;omega));have z5:=K5.out.size;replace hr5:=hid_as hr5;replace ho5:=hid_as ho5;clear hg5)
        | (at_builtin;refine Lib.wpList_append_run _ rfl _ _ _ _ rfl _ _ rfl rfl _ _ hr5.out ?_))
      go_roundw
      case rel=>exact ⟨i3,f,n+1,_,by omega,by omega,by omega,R5,K5,B5,ho5,M3⟩
      case measure=>rw [R5.out.rdn,hat.out];omega
    | false =>
      have A2:Hid (∀ W,Rd W rb tb cap T (k)→Calls Tryz.prog 85 #[.pointer (some ⟨rb,0,none⟩),.string ⟨#[44]⟩] W fun e w'=>e=.returned (.bool false)∧Below W.heap.size W w'):=fun W H=>accept_n H ⟨#[44]⟩ hc
      have Mr:=hid_as (rp_not hM.out hc)
      clear hM hc
      obtain ⟨a6,b6,c6,rfl⟩:=own_shape hO.out
      go_wp2_with (first
        | (go_at_call 85;(with_reducible refine (A2.out _ hR.out).mono ?_);rintro e w2 ⟨rfl,b2⟩;have R2:=hid_as ((hR.out).below b2);have K2:=hid_as ((hK.out).below b2);have B2:=hid_as (hB.out.below b2);have z2:=K2.out.size;have q2:=b2.size;(try rw [World.size_alloc] at q2);have J2:=hid_as (kp_of_below (rb:=rb) b2);clear b2)
        | (go_at_call 87;(with_reducible refine (C1.out _ k R2.out).mono ?_);rintro e w3 ⟨k3,⟨_,i3,_,m3,rfl,rfl,r3,l3⟩ | ⟨n3,i3,m3,rfl⟩⟩;rotate_left;exact And.intro rfl (Outc.stop Mr.out m3 ((K2.out).trans k3));have R3:=hid_as r3;have K3:=hid_as ((K2.out).trans k3);have M3:=hid_as (th_go Mr.out m3);have B3:=hid_as (B2.out.kp k3 (by omega));have z3:=K3.out.size;have q3:=k3.size;(try rw [World.size_alloc] at q3);have J3:=hid_as k3;clear k3 r3 m3)
        | (go_at_call 90;(with_reducible refine (S.out _ i3 R3.out).mono ?_);rintro e w4 ⟨k4,⟨_,i4,_,m4,rfl,⟨a4,b4,c4,xs4,rfl,os4,_⟩,r4,l4⟩ | ⟨n4,i4,m4,rfl⟩⟩;rotate_left;exact And.intro rfl (Outc.stop M3.out m4 ((K3.out).trans k4));have R4:=hid_as r4;have K4:=hid_as ((K3.out).trans k4);have M4:=hid_as (th_go M3.out m4);have B4:=hid_as (B3.out.kp k4 (by omega));have z4:=K4.out.size;have q4:=k4.size;(try rw [World.size_alloc] at q4);have J4:=hid_as k4;clear k4 r4 m4;obtain ⟨s0,s1,s2⟩:=bk3 B4.out;have sf:=B4.out.fr))
      exact bodyPost_ret (v:=.agg #[.slice none 0 0,.slice a6 b6 c6,.slice a4 b4 c4]) (by simp [results,Tryz.results187,go_sem,s0,s1,s2]) rfl ⟨K4.out.put3 (by omega) _ _ _,Or.inl ⟨(),_,_,M4.out,rfl,⟨_,_,_,_,_,_,_,_,_,rfl⟩,R4.out.put3 (by omega) (by omega) _ _ _,(by omega)⟩⟩
set_option maxHeartbeats 4000000 in
set_option maxRecDepth 100000 in
theorem p_caseStmt {w:World} {rb tb cap:Nat} {T:TL} {i:Nat} (h:Rd w rb tb cap T i) (inn:Int) (s:Nat→Re (List Nat)) (S:Hid (∀ W i,Rd W rb tb cap T i→Calls Tryz.prog 90 #[.pointer (some ⟨rb,0,none⟩),.int .i64 inn] W fun e w'=>Outc rb tb cap T i W (s i) (qSs W) e w')):Calls Tryz.prog 176 #[.pointer (some ⟨rb,0,none⟩),.int .i64 inn] w fun e w'=>Outc rb tb cap T i w (casS T s i) (qSt w) e w':=by
  have hrl:=h.rlt
  have htl:=h.lt
  have B0:=hid_as (Bk.fresh w #[.int .i64 0,.int .i64 0,.int .i64 0,.int .i64 0,.string ⟨#[]⟩,.string ⟨#[]⟩,.slice none 0 0,.int .i64 0,.slice none 0 0,.slice none 0 0,.slice none 0 0,.slice none 0 0,.int .i64 0] 114)
  have K0:=hid_as ((Kp.refl rb w).alloc (.cells #[.int .i64 0,.int .i64 0,.int .i64 0,.int .i64 0,.string ⟨#[]⟩,.string ⟨#[]⟩,.slice none 0 0,.int .i64 0,.slice none 0 0,.slice none 0 0,.slice none 0 0,.slice none 0 0,.int .i64 0] 114))
  have H:=hid_as (h.alloc (.cells #[.int .i64 0,.int .i64 0,.int .i64 0,.int .i64 0,.string ⟨#[]⟩,.string ⟨#[]⟩,.slice none 0 0,.int .i64 0,.slice none 0 0,.slice none 0 0,.slice none 0 0,.slice none 0 0,.int .i64 0] 114))
  have hwf:=h.wf.1
  have em:casS T s i=th (xpr T 32 i) fun _ k=>th (xp T [79,70] k) fun _ m=>th (carm T s m) fun _ z=>th (rp (fun j=>decide (ck T j=3) || isT T [45] j) (fun _ j=>carm T s j) (T.length+1) () z) (fun _ y=>th (els T s y) fun _ a=>th (xp T [69,78,68,95,67,65,83,69] a) fun _ b=>ok 3 b):=by unfold casS xps;rw [th_th];rfl
  generalize casS T s i=M at *
  have M0:=hid_as em
  have CA:=hid_as (fun W i (H:Rd W rb tb cap T i)=>p_caseArm H inn s S)
  have XC:Hid (∀ W i,Rd W rb tb cap T i→Calls Tryz.prog 186 #[.pointer (some ⟨rb,0,none⟩),.int .i64 1] W fun e w'=>Outc rb tb cap T i W (xpr T 32 i) (qE W) e w'):=p_xpr 32 1 rfl
  have C0:Hid (∀ W i,Rd W rb tb cap T i→Calls Tryz.prog 87 #[.pointer (some ⟨rb,0,none⟩),.string ⟨#[79,70]⟩] W fun e w'=>Outc rb tb cap T i W (xp T [79,70] i) (qU W) e w'):=expect_c ⟨#[79,70]⟩ (by decide)
  have C1:Hid (∀ W i,Rd W rb tb cap T i→Calls Tryz.prog 87 #[.pointer (some ⟨rb,0,none⟩),.string ⟨#[69,78,68,95,67,65,83,69]⟩] W fun e w'=>Outc rb tb cap T i W (xp T [69,78,68,95,67,65,83,69] i) (qU W) e w'):=expect_c ⟨#[69,78,68,95,67,65,83,69]⟩ (by decide)
  have F0:=fd0
  clear h em
  go_enter Tryz.func176,Tryz.ntmps176
  go_wp2_with (first
    | (go_at_call 186;(with_reducible refine (XC.out _ i H.out).mono ?_);rintro e w1 ⟨k1,⟨t1,i1,_,m1,rfl,⟨o1,kd1,v1,nm1,fl1,lp1,ln1,lc1,p1,rfl,E1'⟩,r1,l1⟩ | ⟨n1,i1,m1,rfl⟩⟩;rotate_left;exact And.intro rfl (Outc.stop M0.out m1 ((K0.out).trans k1));have R1:=hid_as r1;have K1:=hid_as ((K0.out).trans k1);have M1:=hid_as (th_go M0.out m1);have B1:=hid_as (B0.out.kp k1 (by omega));have z1:=K1.out.size;have q1:=k1.size;(try rw [World.size_alloc] at q1);have J1:=hid_as k1;clear k1 r1 m1;clear E1';have y1:=B1.out.lt;have V1:=hid_as (Bk.fresh w1 #[.int .i64 o1,.int .i64 kd1,.int .i64 v1,.string nm1,.string fl1,.slice lp1 ln1 lc1,.int .i64 p1] 53))
    | (go_at_call 87;(with_reducible refine (C0.out _ i1 (R1.out.alloc _)).mono ?_);rintro e w2 ⟨k2,⟨_,i2,_,m2,rfl,rfl,r2,l2⟩ | ⟨n2,i2,m2,rfl⟩⟩;rotate_left;exact And.intro rfl (Outc.stop M1.out m2 ((K1.out.alloc _).trans k2));have R2:=hid_as r2;have K2:=hid_as ((K1.out.alloc _).trans k2);have M2:=hid_as (th_go M1.out m2);have B2:=hid_as ((B1.out.alloc (.cells #[.int .i64 o1,.int .i64 kd1,.int .i64 v1,.string nm1,.string fl1,.slice lp1 ln1 lc1,.int .i64 p1] 53)).kp k2 (by omega));have V2:=hid_as (V1.out.kp k2 (by omega));have z2:=K2.out.size;have q2:=k2.size;(try rw [World.size_alloc] at q2);have J2:=hid_as k2;clear k2 r2 m2;have y2:=V2.out.lt)
    | (go_at_call 187;(with_reducible refine (CA.out _ i2 R2.out).mono ?_);rintro e w3 ⟨k3,⟨_,i3,_,m3,rfl,⟨a3_0,b3_0,c3_0,a3_1,b3_1,c3_1,a3_2,b3_2,c3_2,rfl⟩,r3,l3⟩ | ⟨n3,i3,m3,rfl⟩⟩;rotate_left;exact And.intro rfl (Outc.stop M2.out m3 ((K2.out).trans k3));have R3:=hid_as r3;have K3:=hid_as ((K2.out).trans k3);have M3:=hid_as (th_go M2.out m3);have B3:=hid_as (B2.out.kp k3 (by omega));have V3:=hid_as (V2.out.kp k3 (by omega));have z3:=K3.out.size;have q3:=k3.size;(try rw [World.size_alloc] at q3);have J3:=hid_as k3;clear k3 r3 m3;have y3:=V3.out.lt))
  go_loopw [6] (fun v wr=>∃ (k f n:Nat) (xs:List Value),T.length < k+f∧i≤k∧n≤k+1∧Hid (Rd wr rb tb cap T k)∧Hid (Kp rb w wr)∧Hid (Bk wr w.heap.size #[.int .i64 0,.int .i64 0,.int .i64 0,.int .i64 0,.string ⟨#[]⟩,.string ⟨#[]⟩,.slice none 0 0,.int .i64 0,.slice none 0 0,.slice none 0 0,.slice none 0 0,.slice none 0 0,.int .i64 0])∧Hid (Bk wr w1.heap.size #[.int .i64 o1,.int .i64 kd1,.int .i64 v1,.string nm1,.string fl1,.slice lp1 ln1 lc1,.int .i64 p1])∧Hid (wr.ownsRow (w1.heap.size+1) 119 3 v n xs)∧Hid (M=th (rp (fun j=>decide (ck T j=3) || isT T [45] j) (fun _ j=>carm T s j) f () k) (fun _ y=>th (els T s y) fun _ a=>th (xp T [69,78,68,95,67,65,83,69] a) fun _ b=>ok 3 b))) (fun _ wr=>T.length - rdn rb wr)
  case atStart =>
    exact ⟨i3,T.length+1,1,_,by omega,by omega,by omega,hid_as (R3.out.alloc _),hid_as (K3.out.alloc _),hid_as (B3.out.alloc _),hid_as (V3.out.alloc _),hid_as (own_one (by omega) rfl),M3⟩
  case round =>
    clear V1 V2 V3 B0 B1 B2 B3 R1 R2 R3 K0 K1 K2 K3 M0 M1 M2 M3 J1 J2 J3 z1 z2 z3 q1 q2 q3 H
    obtain ⟨k,f,n,xs,hf,hik,hnk,hR,hK,hB,hV,hO,hM⟩:=hrel
    have hat:=hid_as hR.out.rdn
    have hkl:=hR.out.ir
    have z0:=hK.out.size
    have y0:=hV.out.lt
    obtain ⟨f,rfl⟩:∃ f',f=f'+1:=⟨f - 1,by omega⟩
    have N0:=hid_as (fun W (H:Rd W rb tb cap T k)=>now_c H)
    unfold tv at N0
    by_cases ht:ck T k=3
    · have hg:(fun j=>decide (ck T j=3) || isT T [45] j) k=true:=by show (decide (ck T k=3) || isT T [45] k)=true;rw [decide_eq_true ht];rfl
      have Mr:=hid_as (rp_yes hM.out hg)
      have ht':(cu T k).1.tok=3:=ht
      clear hM hg ht
      generalize cu T k=c at *
      obtain ⟨⟨ta,tk,tn,tt⟩,pl⟩:=c
      simp only at N0 ht'
      subst ht'
      go_wp2_with (first
        | (go_at_call 136;(with_reducible refine (N0.out _ hR.out).mono ?_);rintro e w2 ⟨rfl,b2⟩;have R2:=hid_as ((hR.out).below b2);have K2:=hid_as ((hK.out).below b2);have B2:=hid_as (hB.out.below b2);have V2:=hid_as (hV.out.below b2);have z2:=K2.out.size;have q2:=b2.size;(try rw [World.size_alloc] at q2);have J2:=hid_as (kp_of_below (rb:=rb) b2);clear b2)
        | (go_at_call 187;(with_reducible refine (CA.out _ k R2.out).mono ?_);rintro e w4 ⟨k4,⟨_,i4,_,m4,rfl,⟨a4_0,b4_0,c4_0,a4_1,b4_1,c4_1,a4_2,b4_2,c4_2,rfl⟩,r4,l4⟩ | ⟨n4,i4,m4,rfl⟩⟩;rotate_left;exact And.intro rfl (Outc.stop Mr.out m4 ((K2.out).trans k4));have R4:=hid_as r4;have K4:=hid_as ((K2.out).trans k4);have M4:=hid_as (th_go Mr.out m4);have B4:=hid_as (B2.out.kp k4 (by omega));have V4:=hid_as (V2.out.kp k4 (by omega));have z4:=K4.out.size;have q4:=k4.size;(try rw [World.size_alloc] at q4);have J4:=hid_as k4;clear k4 r4 m4;have O4:=hid_as (own_kp hO.out (J2.out.trans J4.out) (by omega));obtain ⟨v5,w5,hr5,ho5,hg5,_⟩:=push_at (cs:=#[.slice a4_0 b4_0 c4_0,.slice a4_1 b4_1 c4_1,.slice a4_2 b4_2 c4_2]) Tryz.underlying112 infoArm rfl (by decide) (by decide) O4.out (by omega) (by omega) rfl (by intro u hu;simp at hu;rcases hu with rfl | rfl | rfl <;> rfl);have K5:=hid_as ((K4.out.alloc (.cells #[.slice a4_0 b4_0 c4_0,.slice a4_1 b4_1 c4_1,.slice a4_2 b4_2 c4_2] 119)).grown hg5 (fun k hk=>Nat.le_trans (by omega) (World.ownsRow.lt O4.out k hk).1));have R5:=hid_as ((R4.out.alloc (.cells #[.slice a4_0 b4_0 c4_0,.slice a4_1 b4_1 c4_1,.slice a4_2 b4_2 c4_2] 119)).grown hg5 (fun e=>by have:=(World.ownsRow.lt O4.out rb e).1;omega) (fun e=>by have:=(World.ownsRow.lt O4.out tb e).1;omega));have B5:=hid_as ((B4.out.alloc (.cells #[.slice a4_0 b4_0 c4_0,.slice a4_1 b4_1 c4_1,.slice a4_2 b4_2 c4_2] 119)).grown hg5 (fun e=>by have:=(World.ownsRow.lt O4.out _ e).1;omega));have V5:=hid_as ((V4.out.alloc (.cells #[.slice a4_0 b4_0 c4_0,.slice a4_1 b4_1 c4_1,.slice a4_2 b4_2 c4_2] 119)).grown hg5 (fun e=>by have:=(World.ownsRow.lt O4.out _ e).1;omega));have z5:=K5.out.size;replace hr5:=hid_as hr5;replace ho5:=hid_as ho5;clear hg5)
        | (at_builtin;refine Lib.wpList_append_run _ rfl _ _ _ _ rfl _ _ rfl rfl _ _ hr5.out ?_))
      go_roundw
      case rel=>exact ⟨i4,f,n+1,_,by omega,by omega,by omega,R5,K5,B5,V5,ho5,M4⟩
      case measure=>rw [R5.out.rdn,hat.out];omega
    · have ht':¬ ((cu T k).1.tok:Int)=3:=by unfold ck at ht;omega
      cases hc:isT T [45] k with
      | true =>
        have hg:(fun j=>decide (ck T j=3) || isT T [45] j) k=true:=by show (decide (ck T k=3) || isT T [45] k)=true;rw [hc,Bool.or_true]
        have Mr:=hid_as (rp_yes hM.out hg)
        have I1:Hid (∀ W,Rd W rb tb cap T k→Calls Tryz.prog 127 #[.pointer (some ⟨rb,0,none⟩),.string ⟨#[45]⟩] W fun e w'=>e=.returned (.bool true)∧Below W.heap.size W w'):=fun W H=>by have q:=is_c H ⟨#[45]⟩;rw [show isT T (⟨#[45]⟩:ByteArray).data.toList k=true from hc] at q;exact q
        clear hM hg ht hc
        generalize cu T k=c at *
        obtain ⟨⟨ta,tk,tn,tt⟩,pl⟩:=c
        simp only at N0 ht'
        go_wp2_with (first
          | (go_at_call 136;(with_reducible refine (N0.out _ hR.out).mono ?_);rintro e w2 ⟨rfl,b2⟩;have R2:=hid_as ((hR.out).below b2);have K2:=hid_as ((hK.out).below b2);have B2:=hid_as (hB.out.below b2);have V2:=hid_as (hV.out.below b2);have z2:=K2.out.size;have q2:=b2.size;(try rw [World.size_alloc] at q2);have J2:=hid_as (kp_of_below (rb:=rb) b2);clear b2)
          | (go_at_call 127;(with_reducible refine (I1.out _ R2.out).mono ?_);rintro e w3 ⟨rfl,b3⟩;have R3:=hid_as ((R2.out).below b3);have K3:=hid_as ((K2.out).below b3);have B3:=hid_as (B2.out.below b3);have V3:=hid_as (V2.out.below b3);have z3:=K3.out.size;have q3:=b3.size;(try rw [World.size_alloc] at q3);have J3:=hid_as (kp_of_below (rb:=rb) b3);clear b3)
          | (go_at_call 187;(with_reducible refine (CA.out _ k R3.out).mono ?_);rintro e w4 ⟨k4,⟨_,i4,_,m4,rfl,⟨a4_0,b4_0,c4_0,a4_1,b4_1,c4_1,a4_2,b4_2,c4_2,rfl⟩,r4,l4⟩ | ⟨n4,i4,m4,rfl⟩⟩;rotate_left;exact And.intro rfl (Outc.stop Mr.out m4 ((K3.out).trans k4));have R4:=hid_as r4;have K4:=hid_as ((K3.out).trans k4);have M4:=hid_as (th_go Mr.out m4);have B4:=hid_as (B3.out.kp k4 (by omega));have V4:=hid_as (V3.out.kp k4 (by omega));have z4:=K4.out.size;have q4:=k4.size;(try rw [World.size_alloc] at q4);have J4:=hid_as k4;clear k4 r4 m4;have O4:=hid_as (own_kp hO.out ((J2.out.trans J3.out).trans J4.out) (by omega));obtain ⟨v5,w5,hr5,ho5,hg5,_⟩:=push_at (cs:=#[.slice a4_0 b4_0 c4_0,.slice a4_1 b4_1 c4_1,.slice a4_2 b4_2 c4_2]) Tryz.underlying112 infoArm rfl (by decide) (by decide) O4.out (by omega) (by omega) rfl (by intro u hu;simp at hu;rcases hu with rfl | rfl | rfl <;> rfl);have K5:=hid_as ((K4.out.alloc (.cells #[.slice a4_0 b4_0 c4_0,.slice a4_1 b4_1 c4_1,.slice a4_2 b4_2 c4_2] 119)).grown hg5 (fun k hk=>Nat.le_trans (by omega) (World.ownsRow.lt O4.out k hk).1));have R5:=hid_as ((R4.out.alloc (.cells #[.slice a4_0 b4_0 c4_0,.slice a4_1 b4_1 c4_1,.slice a4_2 b4_2 c4_2] 119)).grown hg5 (fun e=>by have:=(World.ownsRow.lt O4.out rb e).1;omega) (fun e=>by have:=(World.ownsRow.lt O4.out tb e).1;omega));have B5:=hid_as ((B4.out.alloc (.cells #[.slice a4_0 b4_0 c4_0,.slice a4_1 b4_1 c4_1,.slice a4_2 b4_2 c4_2] 119)).grown hg5 (fun e=>by have:=(World.ownsRow.lt O4.out _ e).1;omega));have V5:=hid_as ((V4.out.alloc (.cells #[.slice a4_0 b4_0 c4_0,.slice a4_1 b4_1 c4_1,.slice a4_2 b4_2 c4_2] 119)).grown hg5 (fun e=>by have:=(World.ownsRow.lt O4.out _ e).1;omega));have z5:=K5.out.size;replace hr5:=hid_as hr5;replace ho5:=hid_as ho5;clear hg5)
          | (at_builtin;refine Lib.wpList_append_run _ rfl _ _ _ _ rfl _ _ rfl rfl _ _ hr5.out ?_))
        go_roundw
        case rel=>exact ⟨i4,f,n+1,_,by omega,by omega,by omega,R5,K5,B5,V5,ho5,M4⟩
        case measure=>rw [R5.out.rdn,hat.out];omega
      | false =>
        have hg:(fun j=>decide (ck T j=3) || isT T [45] j) k=false:=by show (decide (ck T k=3) || isT T [45] k)=false;rw [hc,decide_eq_false ht];rfl
        have Mr:=hid_as (rp_not hM.out hg)
        have I1:Hid (∀ W,Rd W rb tb cap T k→Calls Tryz.prog 127 #[.pointer (some ⟨rb,0,none⟩),.string ⟨#[45]⟩] W fun e w'=>e=.returned (.bool false)∧Below W.heap.size W w'):=fun W H=>by have q:=is_c H ⟨#[45]⟩;rw [show isT T (⟨#[45]⟩:ByteArray).data.toList k=false from hc] at q;exact q
        clear hM hg ht hc
        generalize cu T k=c at *
        obtain ⟨⟨ta,tk,tn,tt⟩,pl⟩:=c
        simp only at N0 ht'
        cases he:isT T [69,76,83,69] k with
        | true =>
          have A3:Hid (∀ W,Rd W rb tb cap T (k)→Calls Tryz.prog 85 #[.pointer (some ⟨rb,0,none⟩),.string ⟨#[69,76,83,69]⟩] W fun e w'=>e=.returned (.bool true)∧Kp rb W w'∧Rd w' rb tb cap T (k+1)):=fun W H=>accept_y H ⟨#[69,76,83,69]⟩ he (by decide)
          have Me:Hid (M=th (s (k+1)) fun _ z=>th (xp T [69,78,68,95,67,65,83,69] z) fun _ y=>ok 3 y):=(by have q:=Mr.out;simp only [els,he,if_true] at q;rw [th_th] at q;exact hid_as q)
          clear Mr he
          go_wp2_with (first
            | (go_at_call 136;(with_reducible refine (N0.out _ hR.out).mono ?_);rintro e w2 ⟨rfl,b2⟩;have R2:=hid_as ((hR.out).below b2);have K2:=hid_as ((hK.out).below b2);have B2:=hid_as (hB.out.below b2);have V2:=hid_as (hV.out.below b2);have z2:=K2.out.size;have q2:=b2.size;(try rw [World.size_alloc] at q2);have J2:=hid_as (kp_of_below (rb:=rb) b2);clear b2)
            | (go_at_call 127;(with_reducible refine (I1.out _ R2.out).mono ?_);rintro e w3 ⟨rfl,b3⟩;have R3:=hid_as ((R2.out).below b3);have K3:=hid_as ((K2.out).below b3);have B3:=hid_as (B2.out.below b3);have V3:=hid_as (V2.out.below b3);have z3:=K3.out.size;have q3:=b3.size;(try rw [World.size_alloc] at q3);have J3:=hid_as (kp_of_below (rb:=rb) b3);clear b3)
            | (go_at_call 85;(with_reducible refine (A3.out _ R3.out).mono ?_);rintro e w4 ⟨rfl,k4,r4⟩;have R4:=hid_as r4;have K4:=hid_as ((K3.out).trans k4);have B4:=hid_as (B3.out.kp k4 (by omega));have V4:=hid_as (V3.out.kp k4 (by omega));have z4:=K4.out.size;have q4:=k4.size;(try rw [World.size_alloc] at q4);have J4:=hid_as k4;clear k4 r4)
            | (go_at_call 90;(with_reducible refine (S.out _ (k+1) R4.out).mono ?_);rintro e w5 ⟨k5,⟨_,i5,_,m5,rfl,⟨a5,b5,c5,xs5,rfl,os5,_⟩,r5,l5⟩ | ⟨n5,i5,m5,rfl⟩⟩;rotate_left;exact And.intro rfl (Outc.stop Me.out m5 ((K4.out).trans k5));have R5:=hid_as r5;have K5:=hid_as ((K4.out).trans k5);have M5:=hid_as (th_go Me.out m5);have B5:=hid_as (B4.out.kp k5 (by omega));have V5:=hid_as (V4.out.kp k5 (by omega));have z5:=K5.out.size;have q5:=k5.size;(try rw [World.size_alloc] at q5);have J5:=hid_as k5;clear k5 r5 m5;have O5:=hid_as (own_kp hO.out (((J2.out.trans J3.out).trans J4.out).trans J5.out) (by omega));obtain ⟨v6,w6,hr6,ho6,hg6,_⟩:=push_at (cs:=#[.slice none 0 0,.slice none 0 0,.slice a5 b5 c5]) Tryz.underlying112 infoArm rfl (by decide) (by decide) O5.out (by omega) (by omega) rfl (by intro u hu;simp at hu;rcases hu with rfl | rfl | rfl <;> rfl);have K6:=hid_as ((K5.out.alloc (.cells #[.slice none 0 0,.slice none 0 0,.slice a5 b5 c5] 119)).grown hg6 (fun k hk=>Nat.le_trans (by omega) (World.ownsRow.lt O5.out k hk).1));have R6:=hid_as ((R5.out.alloc (.cells #[.slice none 0 0,.slice none 0 0,.slice a5 b5 c5] 119)).grown hg6 (fun e=>by have:=(World.ownsRow.lt O5.out rb e).1;omega) (fun e=>by have:=(World.ownsRow.lt O5.out tb e).1;omega));have B6:=hid_as ((B5.out.alloc (.cells #[.slice none 0 0,.slice none 0 0,.slice a5 b5 c5] 119)).grown hg6 (fun e=>by have:=(World.ownsRow.lt O5.out _ e).1;omega));have V6:=hid_as ((V5.out.alloc (.cells #[.slice none 0 0,.slice none 0 0,.slice a5 b5 c5] 119)).grown hg6 (fun e=>by have:=(World.ownsRow.lt O5.out _ e).1;omega));have z6:=K6.out.size;replace hr6:=hid_as hr6;replace ho6:=hid_as ho6;clear hg6;obtain ⟨a6,b6,c6,rfl⟩:=own_shape ho6.out)
            | (at_builtin;refine Lib.wpList_append_run _ rfl _ _ _ _ rfl _ _ rfl rfl _ _ hr6.out ?_)
            | (go_at_call 87;(with_reducible refine (C1.out _ i5 R6.out).mono ?_);rintro e w7 ⟨k7,⟨_,i7,_,m7,rfl,rfl,r7,l7⟩ | ⟨n7,i7,m7,rfl⟩⟩;rotate_left;exact And.intro rfl (Outc.stop M5.out m7 ((K6.out).trans k7));have R7:=hid_as r7;have K7:=hid_as ((K6.out).trans k7);have M7:=hid_as (th_go M5.out m7);have B7:=hid_as (B6.out.kp k7 (by omega));have V7:=hid_as (V6.out.kp k7 (by omega));have z7:=K7.out.size;have q7:=k7.size;(try rw [World.size_alloc] at q7);have J7:=hid_as k7;clear k7 r7 m7;have s0:=fun o=>(bk13 (B7.out.alloc o)).1;have s1:=fun o=>(bk13 (B7.out.alloc o)).2.1;have s2:=fun o=>(bk13 (B7.out.alloc o)).2.2.1;have s3:=fun o=>(bk13 (B7.out.alloc o)).2.2.2.1;have s4:=fun o=>(bk13 (B7.out.alloc o)).2.2.2.2.1;have s5:=fun o=>(bk13 (B7.out.alloc o)).2.2.2.2.2.1;have s6:=fun o=>(bk13 (B7.out.alloc o)).2.2.2.2.2.2.1;have s7:=fun o=>(bk13 (B7.out.alloc o)).2.2.2.2.2.2.2.1;have s8:=fun o=>(bk13 (B7.out.alloc o)).2.2.2.2.2.2.2.2.1;have s9:=fun o=>(bk13 (B7.out.alloc o)).2.2.2.2.2.2.2.2.2.1;have s10:=fun o=>(bk13 (B7.out.alloc o)).2.2.2.2.2.2.2.2.2.2.1;have s11:=fun o=>(bk13 (B7.out.alloc o)).2.2.2.2.2.2.2.2.2.2.2.1;have s12:=fun o=>(bk13 (B7.out.alloc o)).2.2.2.2.2.2.2.2.2.2.2.2;have sf:=fun o=>(B7.out.alloc o).fr;obtain ⟨u0,u1,u2,u3,u4,u5,u6⟩:=bk7 V7.out;have uf:=V7.out.fr))
          exact bodyPost_ret (v:=.agg #[.int .i64 3,.int .i64 0,.int .i64 0,.int .i64 0,.string ⟨#[]⟩,.string ⟨#[]⟩,.slice none 0 0,.int .i64 0,.slice (some ⟨w7.heap.size,0,none⟩) 1 1,.slice a6 b6 c6,.slice none 0 0,.slice none 0 0,.int .i64 0]) (by simp [results,Tryz.results176,go_sem,s0,s1,s2,s3,s4,s5,s6,s7,s8,s9,s10,s11,s12]) rfl ⟨(K7.out.alloc _).put13 (by omega) _ _ _ _ _ _ _ _ _ _ _ _ _,Or.inl ⟨3,_,_,M7.out,rfl,⟨_,_,_,_,_,_,_,_,_,_,_,_,_,_,_,_,_,_,_,_,_,_,rfl⟩,(R7.out.alloc _).put13 (by omega) (by omega) _ _ _ _ _ _ _ _ _ _ _ _ _,(by omega)⟩⟩
        | false =>
          have A3:Hid (∀ W,Rd W rb tb cap T (k)→Calls Tryz.prog 85 #[.pointer (some ⟨rb,0,none⟩),.string ⟨#[69,76,83,69]⟩] W fun e w'=>e=.returned (.bool false)∧Below W.heap.size W w'):=fun W H=>accept_n H ⟨#[69,76,83,69]⟩ he
          have Me:Hid (M=th (xp T [69,78,68,95,67,65,83,69] k) fun _ y=>ok 3 y):=(by have q:=Mr.out;simp only [els,he,Bool.false_eq_true,if_false] at q;exact hid_as q)
          clear Mr he
          obtain ⟨a6,b6,c6,rfl⟩:=own_shape hO.out
          go_wp2_with (first
            | (go_at_call 136;(with_reducible refine (N0.out _ hR.out).mono ?_);rintro e w2 ⟨rfl,b2⟩;have R2:=hid_as ((hR.out).below b2);have K2:=hid_as ((hK.out).below b2);have B2:=hid_as (hB.out.below b2);have V2:=hid_as (hV.out.below b2);have z2:=K2.out.size;have q2:=b2.size;(try rw [World.size_alloc] at q2);have J2:=hid_as (kp_of_below (rb:=rb) b2);clear b2)
            | (go_at_call 127;(with_reducible refine (I1.out _ R2.out).mono ?_);rintro e w3 ⟨rfl,b3⟩;have R3:=hid_as ((R2.out).below b3);have K3:=hid_as ((K2.out).below b3);have B3:=hid_as (B2.out.below b3);have V3:=hid_as (V2.out.below b3);have z3:=K3.out.size;have q3:=b3.size;(try rw [World.size_alloc] at q3);have J3:=hid_as (kp_of_below (rb:=rb) b3);clear b3)
            | (go_at_call 85;(with_reducible refine (A3.out _ R3.out).mono ?_);rintro e w4 ⟨rfl,b4⟩;have R4:=hid_as ((R3.out).below b4);have K4:=hid_as ((K3.out).below b4);have B4:=hid_as (B3.out.below b4);have V4:=hid_as (V3.out.below b4);have z4:=K4.out.size;have q4:=b4.size;(try rw [World.size_alloc] at q4);have J4:=hid_as (kp_of_below (rb:=rb) b4);clear b4)
            | (go_at_call 87;(with_reducible refine (C1.out _ k R4.out).mono ?_);rintro e w7 ⟨k7,⟨_,i7,_,m7,rfl,rfl,r7,l7⟩ | ⟨n7,i7,m7,rfl⟩⟩;rotate_left;exact And.intro rfl (Outc.stop Me.out m7 ((K4.out).trans k7));have R7:=hid_as r7;have K7:=hid_as ((K4.out).trans k7);have M7:=hid_as (th_go Me.out m7);have B7:=hid_as (B4.out.kp k7 (by omega));have V7:=hid_as (V4.out.kp k7 (by omega));have z7:=K7.out.size;have q7:=k7.size;(try rw [World.size_alloc] at q7);have J7:=hid_as k7;clear k7 r7 m7;have s0:=fun o=>(bk13 (B7.out.alloc o)).1;have s1:=fun o=>(bk13 (B7.out.alloc o)).2.1;have s2:=fun o=>(bk13 (B7.out.alloc o)).2.2.1;have s3:=fun o=>(bk13 (B7.out.alloc o)).2.2.2.1;have s4:=fun o=>(bk13 (B7.out.alloc o)).2.2.2.2.1;have s5:=fun o=>(bk13 (B7.out.alloc o)).2.2.2.2.2.1;have s6:=fun o=>(bk13 (B7.out.alloc o)).2.2.2.2.2.2.1;have s7:=fun o=>(bk13 (B7.out.alloc o)).2.2.2.2.2.2.2.1;have s8:=fun o=>(bk13 (B7.out.alloc o)).2.2.2.2.2.2.2.2.1;have s9:=fun o=>(bk13 (B7.out.alloc o)).2.2.2.2.2.2.2.2.2.1;have s10:=fun o=>(bk13 (B7.out.alloc o)).2.2.2.2.2.2.2.2.2.2.1;have s11:=fun o=>(bk13 (B7.out.alloc o)).2.2.2.2.2.2.2.2.2.2.2.1;have s12:=fun o=>(bk13 (B7.out.alloc o)).2.2.2.2.2.2.2.2.2.2.2.2;have sf:=fun o=>(B7.out.alloc o).fr;obtain ⟨u0,u1,u2,u3,u4,u5,u6⟩:=bk7 V7.out;have uf:=V7.out.fr))
          exact bodyPost_ret (v:=.agg #[.int .i64 3,.int .i64 0,.int .i64 0,.int .i64 0,.string ⟨#[]⟩,.string ⟨#[]⟩,.slice none 0 0,.int .i64 0,.slice (some ⟨w7.heap.size,0,none⟩) 1 1,.slice a6 b6 c6,.slice none 0 0,.slice none 0 0,.int .i64 0]) (by simp [results,Tryz.results176,go_sem,s0,s1,s2,s3,s4,s5,s6,s7,s8,s9,s10,s11,s12]) rfl ⟨(K7.out.alloc _).put13 (by omega) _ _ _ _ _ _ _ _ _ _ _ _ _,Or.inl ⟨3,_,_,M7.out,rfl,⟨_,_,_,_,_,_,_,_,_,_,_,_,_,_,_,_,_,_,_,_,_,_,rfl⟩,(R7.out.alloc _).put13 (by omega) (by omega) _ _ _ _ _ _ _ _ _ _ _ _ _,(by omega)⟩⟩
end Go.Proofs.YtapcpjidgemggaaGreatDoor
