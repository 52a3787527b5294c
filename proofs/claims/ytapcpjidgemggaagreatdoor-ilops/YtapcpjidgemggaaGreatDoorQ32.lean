/- Arms of an IF (stage 13). -/
import Derived.Test.YtapcpjidgemggaaGreatDoorQ31
namespace Go.Proofs.YtapcpjidgemggaaGreatDoor
open Go.RowKit
open Adr Lx Sx
theorem infoArm:(Tryz.prog.info? 119).map (fun i=>(i.zero,i.size,i.bytes))=some (some (.agg #[.slice none 0 0,.slice none 0 0,.slice none 0 0]),3,72):=by kernel_rfl
theorem infoStmt:(Tryz.prog.info? 114).map (fun i=>(i.zero,i.size,i.bytes))=some (some (.agg #[.int .i64 0,.int .i64 0,.int .i64 0,.int .i64 0,.string ⟨#[]⟩,.string ⟨#[]⟩,.slice none 0 0,.int .i64 0,.slice none 0 0,.slice none 0 0,.slice none 0 0,.slice none 0 0,.int .i64 0]),13,200):=by kernel_rfl
theorem infoArg:(Tryz.prog.info? 77).map (fun i=>(i.zero,i.size,i.bytes))=some (some (.agg #[.string ⟨#[]⟩,.int .i64 0,.int .i64 0,.int .i64 0,.string ⟨#[]⟩,.string ⟨#[]⟩,.slice none 0 0,.int .i64 0,.int .i64 0]),9,112):=by kernel_rfl
theorem infoVar:(Tryz.prog.info? 111).map (fun i=>(i.zero,i.size,i.bytes))=some (some (.agg #[.string ⟨#[]⟩,.int .i64 0,.int .i64 0,.int .i64 0,.int .i64 0,.string ⟨#[]⟩,.bool false,.string ⟨#[]⟩,.slice none 0 0,.int .i64 0]),10,120):=by kernel_rfl
theorem infoStruct:(Tryz.prog.info? 72).map (fun i=>(i.zero,i.size,i.bytes))=some (some (.agg #[.string ⟨#[]⟩,.slice none 0 0,.int .i64 0]),3,48):=by kernel_rfl
theorem infoLab:(Tryz.prog.info? 164).map (fun i=>(i.zero,i.size,i.bytes))=some (some (.agg #[.int .i64 0,.int .i64 0,.int .i64 0,.string ⟨#[]⟩,.string ⟨#[]⟩,.slice none 0 0,.int .i64 0,.int .i64 0,.int .i64 0,.int .i64 0,.string ⟨#[]⟩,.string ⟨#[]⟩,.slice none 0 0,.int .i64 0]),14,176):=by kernel_rfl
/-- Statements in a row: which they are. -/
def qSs:World→List Nat→Value→World→Prop:=fun W l v w'=>∃ a b c xs,v=.slice a b c∧w'.ownsRow W.heap.size 114 13 (.slice a b c) l.length xs∧∀ j o,l[j]?=some o→xs[j * 13]?=some (.int .i64 (o:Int))
def qSt:World→Nat→Value→World→Prop:=fun _ o v _=>∃ (x_1:Int) (x_2:Int) (x_3:Int) (x_4:ByteArray) (x_5:ByteArray) (a_6:Option Addr) (b_6 c_6:Nat) (x_7:Int) (a_8:Option Addr) (b_8 c_8:Nat) (a_9:Option Addr) (b_9 c_9:Nat) (a_10:Option Addr) (b_10 c_10:Nat) (a_11:Option Addr) (b_11 c_11:Nat) (x_12:Int),v=.agg #[.int .i64 (o:Int),.int .i64 x_1,.int .i64 x_2,.int .i64 x_3,.string x_4,.string x_5,.slice a_6 b_6 c_6,.int .i64 x_7,.slice a_8 b_8 c_8,.slice a_9 b_9 c_9,.slice a_10 b_10 c_10,.slice a_11 b_11 c_11,.int .i64 x_12]
theorem own_shape {W:World} {base e n:Nat} {v:Value} {m:Nat} {xs:List Value} (o:W.ownsRow base e n v m xs):∃ a b c,v=.slice a b c:=by
  rcases o.2 with ⟨rfl,_⟩ | ⟨_,_,_,rfl,_⟩
  · exact ⟨_,_,_,rfl⟩
  · exact ⟨_,_,_,rfl⟩
set_option maxHeartbeats 4000000 in
set_option maxRecDepth 100000 in
theorem p_ifArm {w:World} {rb tb cap:Nat} {T:TL} {i:Nat} (h:Rd w rb tb cap T i) (inn:Int) (s:Nat→Re (List Nat)) (S:Hid (∀ W i,Rd W rb tb cap T i→Calls Tryz.prog 90 #[.pointer (some ⟨rb,0,none⟩),.int .i64 inn] W fun e w'=>Outc rb tb cap T i W (s i) (qSs W) e w')):Calls Tryz.prog 185 #[.pointer (some ⟨rb,0,none⟩),.int .i64 inn] w fun e w'=>Outc rb tb cap T i w (arm T s i) (qArm w) e w':=by
  have hrl:=h.rlt
  have htl:=h.lt
  have B0:=hid_as (Bk.fresh w #[.slice none 0 0,.slice none 0 0,.slice none 0 0] 119)
  have K0:=hid_as ((Kp.refl rb w).alloc (.cells #[.slice none 0 0,.slice none 0 0,.slice none 0 0] 119))
  have H:=hid_as (h.alloc (.cells #[.slice none 0 0,.slice none 0 0,.slice none 0 0] 119))
  have em:arm T s i=th (xpr T 32 i) fun _ k=>th (xp T [84,72,69,78] k) fun _ m=>th (s m) fun _ z=>ok () z:=by unfold arm xps;rw [th_th];rfl
  generalize arm T s i=M at *
  have M0:=hid_as em
  have XC:Hid (∀ W i,Rd W rb tb cap T i→Calls Tryz.prog 186 #[.pointer (some ⟨rb,0,none⟩),.int .i64 1] W fun e w'=>Outc rb tb cap T i W (xpr T 32 i) (qE W) e w'):=p_xpr 32 1 rfl
  have C1:Hid (∀ W i,Rd W rb tb cap T i→Calls Tryz.prog 87 #[.pointer (some ⟨rb,0,none⟩),.string ⟨#[84,72,69,78]⟩] W fun e w'=>Outc rb tb cap T i W (xp T [84,72,69,78] i) (qU W) e w'):=expect_c ⟨#[84,72,69,78]⟩ (by decide)
  clear h em
  go_enter Tryz.func185,Tryz.ntmps185
  go_wp2_with (first
    | (go_at_call 186;(with_reducible refine (XC.out _ i H.out).mono ?_);rintro e w1 ⟨k1,⟨t1,i1,_,m1,rfl,⟨o1,kd1,v1,nm1,fl1,lp1,ln1,lc1,p1,rfl,E1'⟩,r1,l1⟩ | ⟨n1,i1,m1,rfl⟩⟩;rotate_left;exact And.intro rfl (Outc.stop M0.out m1 ((K0.out).trans k1));have R1:=hid_as r1;have K1:=hid_as ((K0.out).trans k1);have M1:=hid_as (th_go M0.out m1);have B1:=hid_as (B0.out.kp k1 (by omega));have z1:=K1.out.size;have q1:=k1.size;(try rw [World.size_alloc] at q1);have J1:=hid_as k1;clear k1 r1 m1;clear E1';have y1:=B1.out.lt;have V1:=hid_as (Bk.fresh w1 #[.int .i64 o1,.int .i64 kd1,.int .i64 v1,.string nm1,.string fl1,.slice lp1 ln1 lc1,.int .i64 p1] 53))
    | (go_at_call 87;(with_reducible refine (C1.out _ i1 (R1.out.alloc _)).mono ?_);rintro e w2 ⟨k2,⟨_,i2,_,m2,rfl,rfl,r2,l2⟩ | ⟨n2,i2,m2,rfl⟩⟩;rotate_left;exact And.intro rfl (Outc.stop M1.out m2 ((K1.out.alloc _).trans k2));have R2:=hid_as r2;have K2:=hid_as ((K1.out.alloc _).trans k2);have M2:=hid_as (th_go M1.out m2);have B2:=hid_as ((B1.out.alloc (.cells #[.int .i64 o1,.int .i64 kd1,.int .i64 v1,.string nm1,.string fl1,.slice lp1 ln1 lc1,.int .i64 p1] 53)).kp k2 (by omega));have V2:=hid_as (V1.out.kp k2 (by omega));have z2:=K2.out.size;have q2:=k2.size;(try rw [World.size_alloc] at q2);have J2:=hid_as k2;clear k2 r2 m2;have y2:=V2.out.lt;have V2d:=hid_as V2.out.drew;obtain ⟨g0,g1,g2,g3,g4,g5,g6⟩:=bk7 V2d.out;have gf:=V2d.out.fr))
  go_region_with (first
    | (go_at_call 90;(with_reducible refine (S.out _ i2 R2.out.drew).mono ?_);rintro e w3 ⟨k3,⟨_,i3,_,m3,rfl,⟨a3,b3,c3,xs3,rfl,os3,_⟩,r3,l3⟩ | ⟨n3,i3,m3,rfl⟩⟩;rotate_left;exact And.intro rfl (Outc.stop M2.out m3 ((K2.out.drew).trans k3));have R3:=hid_as r3;have K3:=hid_as ((K2.out.drew).trans k3);have M3:=hid_as (th_go M2.out m3);have B3:=hid_as ((B2.out.drew).kp k3 (by omega));have V3:=hid_as ((V2.out.drew).kp k3 (by omega));have z3:=K3.out.size;have q3:=k3.size;(try rw [World.size_alloc] at q3);have J3:=hid_as k3;clear k3 r3 m3;clear g0 g1 g2 g3 g4 g5 g6 gf;have y3:=V3.out.lt;obtain ⟨g0,g1,g2,g3,g4,g5,g6⟩:=bk7 V3.out;have gf:=V3.out.fr;have s0:=fun o=>(bk3 (B3.out.alloc o)).1;have s1:=fun o=>(bk3 (B3.out.alloc o)).2.1;have s2:=fun o=>(bk3 (B3.out.alloc o)).2.2;have sf:=fun o=>(B3.out.alloc o).fr;obtain ⟨e0,e1,e2⟩:=bk3 B3.out;have ef:=B3.out.fr)
    | (go_at_call 90;(with_reducible refine (S.out _ i2 ((R2.out.alloc (.cells #[.int .i64 o1,.int .i64 kd1,.int .i64 v1,.string nm1,.string fl1,.slice lp1 ln1 lc1,.int .i64 p1] 53)).drew)).mono ?_);rintro e w3 ⟨k3,⟨_,i3,_,m3,rfl,⟨a3,b3,c3,xs3,rfl,os3,_⟩,r3,l3⟩ | ⟨n3,i3,m3,rfl⟩⟩;rotate_left;exact And.intro rfl (Outc.stop M2.out m3 (((K2.out.alloc (.cells #[.int .i64 o1,.int .i64 kd1,.int .i64 v1,.string nm1,.string fl1,.slice lp1 ln1 lc1,.int .i64 p1] 53)).drew).trans k3));have R3:=hid_as r3;have K3:=hid_as (((K2.out.alloc (.cells #[.int .i64 o1,.int .i64 kd1,.int .i64 v1,.string nm1,.string fl1,.slice lp1 ln1 lc1,.int .i64 p1] 53)).drew).trans k3);have M3:=hid_as (th_go M2.out m3);have B3:=hid_as (((B2.out.alloc (.cells #[.int .i64 o1,.int .i64 kd1,.int .i64 v1,.string nm1,.string fl1,.slice lp1 ln1 lc1,.int .i64 p1] 53)).drew).kp k3 (by omega));have V3:=hid_as (((V2.out.alloc (.cells #[.int .i64 o1,.int .i64 kd1,.int .i64 v1,.string nm1,.string fl1,.slice lp1 ln1 lc1,.int .i64 p1] 53)).drew).kp k3 (by omega));have z3:=K3.out.size;have q3:=k3.size;(try rw [World.size_alloc] at q3);have J3:=hid_as k3;clear k3 r3 m3;clear g0 g1 g2 g3 g4 g5 g6 gf;have y3:=V3.out.lt;obtain ⟨g0,g1,g2,g3,g4,g5,g6⟩:=bk7 V3.out;have gf:=V3.out.fr;obtain ⟨s0,s1,s2⟩:=bk3 B3.out;have sf:=B3.out.fr)
    | (go_at_call 90;(with_reducible refine (S.out _ i2 (R2.out.drew.alloc (.cells #[.int .i64 o1,.int .i64 kd1,.int .i64 v1,.string nm1,.string fl1,.slice lp1 ln1 lc1,.int .i64 p1] 53))).mono ?_);rintro e w3 ⟨k3,⟨_,i3,_,m3,rfl,⟨a3,b3,c3,xs3,rfl,os3,_⟩,r3,l3⟩ | ⟨n3,i3,m3,rfl⟩⟩;rotate_left;exact And.intro rfl (Outc.stop M2.out m3 ((K2.out.drew.alloc (.cells #[.int .i64 o1,.int .i64 kd1,.int .i64 v1,.string nm1,.string fl1,.slice lp1 ln1 lc1,.int .i64 p1] 53)).trans k3));have R3:=hid_as r3;have K3:=hid_as ((K2.out.drew.alloc (.cells #[.int .i64 o1,.int .i64 kd1,.int .i64 v1,.string nm1,.string fl1,.slice lp1 ln1 lc1,.int .i64 p1] 53)).trans k3);have M3:=hid_as (th_go M2.out m3);have B3:=hid_as ((B2.out.drew.alloc (.cells #[.int .i64 o1,.int .i64 kd1,.int .i64 v1,.string nm1,.string fl1,.slice lp1 ln1 lc1,.int .i64 p1] 53)).kp k3 (by omega));have V3:=hid_as ((V2.out.drew.alloc (.cells #[.int .i64 o1,.int .i64 kd1,.int .i64 v1,.string nm1,.string fl1,.slice lp1 ln1 lc1,.int .i64 p1] 53)).kp k3 (by omega));have z3:=K3.out.size;have q3:=k3.size;(try rw [World.size_alloc] at q3);have J3:=hid_as k3;clear k3 r3 m3;clear g0 g1 g2 g3 g4 g5 g6 gf;have y3:=V3.out.lt;obtain ⟨g0,g1,g2,g3,g4,g5,g6⟩:=bk7 V3.out;have gf:=V3.out.fr;obtain ⟨s0,s1,s2⟩:=bk3 B3.out;have sf:=B3.out.fr))
  all_goals go_wp2
  all_goals first
    | (exact bodyPost_ret (v:=.agg #[.slice (some ⟨w3.heap.size,0,none⟩) 1 1,.slice none 0 0,.slice a3 b3 c3]) (by simp [results,Tryz.results185,go_sem,s0,s1,s2]) rfl ⟨(K3.out.alloc _).put3 (by omega) _ _ _,Or.inl ⟨(),_,_,M3.out,rfl,⟨_,_,_,_,_,_,_,_,_,rfl⟩,(R3.out.alloc _).put3 (by omega) (by omega) _ _ _,(by omega)⟩⟩)
    | (exact bodyPost_ret (v:=.agg #[.slice (some ⟨w2.heap.size,0,none⟩) 1 1,.slice none 0 0,.slice a3 b3 c3]) (by simp [results,Tryz.results185,go_sem,s0,s1,s2]) rfl ⟨K3.out.put3 (by omega) _ _ _,Or.inl ⟨(),_,_,M3.out,rfl,⟨_,_,_,_,_,_,_,_,_,rfl⟩,R3.out.put3 (by omega) (by omega) _ _ _,(by omega)⟩⟩)
set_option maxHeartbeats 4000000 in
set_option maxRecDepth 100000 in
theorem p_ifStmt {w:World} {rb tb cap:Nat} {T:TL} {i:Nat} (h:Rd w rb tb cap T i) (inn:Int) (s:Nat→Re (List Nat)) (S:Hid (∀ W i,Rd W rb tb cap T i→Calls Tryz.prog 90 #[.pointer (some ⟨rb,0,none⟩),.int .i64 inn] W fun e w'=>Outc rb tb cap T i W (s i) (qSs W) e w')):Calls Tryz.prog 175 #[.pointer (some ⟨rb,0,none⟩),.int .i64 inn] w fun e w'=>Outc rb tb cap T i w (ifS T s i) (qSt w) e w':=by
  have hrl:=h.rlt
  have htl:=h.lt
  have B0:=hid_as (Bk.fresh w #[.int .i64 0,.int .i64 0,.int .i64 0,.int .i64 0,.string ⟨#[]⟩,.string ⟨#[]⟩,.slice none 0 0,.int .i64 0,.slice none 0 0,.slice none 0 0,.slice none 0 0,.slice none 0 0,.int .i64 0] 114)
  have K0:=hid_as ((Kp.refl rb w).alloc (.cells #[.int .i64 0,.int .i64 0,.int .i64 0,.int .i64 0,.string ⟨#[]⟩,.string ⟨#[]⟩,.slice none 0 0,.int .i64 0,.slice none 0 0,.slice none 0 0,.slice none 0 0,.slice none 0 0,.int .i64 0] 114))
  have H:=hid_as (h.alloc (.cells #[.int .i64 0,.int .i64 0,.int .i64 0,.int .i64 0,.string ⟨#[]⟩,.string ⟨#[]⟩,.slice none 0 0,.int .i64 0,.slice none 0 0,.slice none 0 0,.slice none 0 0,.slice none 0 0,.int .i64 0] 114))
  have hwf:=h.wf.1
  have em:ifS T s i=th (arm T s i) fun _ k=>th (rp (isT T [69,76,83,73,70]) (fun _ m=>arm T s (m+1)) (T.length+1) () k) (fun _ m=>th (els T s m) fun _ z=>th (xp T [69,78,68,95,73,70] z) fun _ y=>ok 2 y):=rfl
  generalize ifS T s i=M at *
  have M0:=hid_as em
  have IA:=hid_as (fun W i (H:Rd W rb tb cap T i)=>p_ifArm H inn s S)
  have C1:Hid (∀ W i,Rd W rb tb cap T i→Calls Tryz.prog 87 #[.pointer (some ⟨rb,0,none⟩),.string ⟨#[69,78,68,95,73,70]⟩] W fun e w'=>Outc rb tb cap T i W (xp T [69,78,68,95,73,70] i) (qU W) e w'):=expect_c ⟨#[69,78,68,95,73,70]⟩ (by decide)
  clear h em
  go_enter Tryz.func175,Tryz.ntmps175
  go_wp2_with (first
    | (go_at_call 185;(with_reducible refine (IA.out _ i H.out).mono ?_);rintro e w1 ⟨k1,⟨_,i1,_,m1,rfl,⟨a1_0,b1_0,c1_0,a1_1,b1_1,c1_1,a1_2,b1_2,c1_2,rfl⟩,r1,l1⟩ | ⟨n1,i1,m1,rfl⟩⟩;rotate_left;exact And.intro rfl (Outc.stop M0.out m1 ((K0.out).trans k1));have R1:=hid_as r1;have K1:=hid_as ((K0.out).trans k1);have M1:=hid_as (th_go M0.out m1);have B1:=hid_as (B0.out.kp k1 (by omega));have z1:=K1.out.size;have q1:=k1.size;(try rw [World.size_alloc] at q1);have J1:=hid_as k1;clear k1 r1 m1;have y1:=B1.out.lt))
  go_loopw [5] (fun v wr=>∃ (k f n:Nat) (xs:List Value),T.length < k+f∧i≤k∧n≤k+1∧Hid (Rd wr rb tb cap T k)∧Hid (Kp rb w wr)∧Hid (Bk wr w.heap.size #[.int .i64 0,.int .i64 0,.int .i64 0,.int .i64 0,.string ⟨#[]⟩,.string ⟨#[]⟩,.slice none 0 0,.int .i64 0,.slice none 0 0,.slice none 0 0,.slice none 0 0,.slice none 0 0,.int .i64 0])∧Hid (wr.ownsRow (w.heap.size+1) 119 3 v n xs)∧Hid (M=th (rp (isT T [69,76,83,73,70]) (fun _ m=>arm T s (m+1)) f () k) (fun _ m=>th (els T s m) fun _ z=>th (xp T [69,78,68,95,73,70] z) fun _ y=>ok 2 y))) (fun _ wr=>T.length - rdn rb wr)
  case atStart =>
    exact ⟨i1,T.length+1,1,_,by omega,l1,by omega,hid_as (R1.out.alloc _),hid_as (K1.out.alloc _),hid_as (B1.out.alloc _),hid_as (own_one (by omega) rfl),M1⟩
  case round =>
    obtain ⟨k,f,n,xs,hf,hik,hnk,hR,hK,hB,hO,hM⟩:=hrel
    have hat:=hid_as hR.out.rdn
    have hkl:=hR.out.ir
    have z0:=hK.out.size
    have y0:=hB.out.lt
    obtain ⟨f,rfl⟩:∃ f',f=f'+1:=⟨f - 1,by omega⟩
    cases hc:isT T [69,76,83,73,70] k with
    | true =>
      have A2:Hid (∀ W,Rd W rb tb cap T (k)→Calls Tryz.prog 85 #[.pointer (some ⟨rb,0,none⟩),.string ⟨#[69,76,83,73,70]⟩] W fun e w'=>e=.returned (.bool true)∧Kp rb W w'∧Rd w' rb tb cap T (k+1)):=fun W H=>accept_y H ⟨#[69,76,83,73,70]⟩ hc (by decide)
      have Mr:=hid_as (rp_yes hM.out hc)
      clear hM hc
      go_wp2_with (first
        | (go_at_call 85;(with_reducible refine (A2.out _ hR.out).mono ?_);rintro e w2 ⟨rfl,k2,r2⟩;have R2:=hid_as r2;have K2:=hid_as ((hK.out).trans k2);have B2:=hid_as (hB.out.kp k2 (by omega));have z2:=K2.out.size;have q2:=k2.size;(try rw [World.size_alloc] at q2);have J2:=hid_as k2;clear k2 r2)
        | (go_at_call 185;(with_reducible refine (IA.out _ (k+1) R2.out).mono ?_);rintro e w3 ⟨k3,⟨_,i3,_,m3,rfl,⟨a3_0,b3_0,c3_0,a3_1,b3_1,c3_1,a3_2,b3_2,c3_2,rfl⟩,r3,l3⟩ | ⟨n3,i3,m3,rfl⟩⟩;rotate_left;exact And.intro rfl (Outc.stop Mr.out m3 ((K2.out).trans k3));have R3:=hid_as r3;have K3:=hid_as ((K2.out).trans k3);have M3:=hid_as (th_go Mr.out m3);have B3:=hid_as (B2.out.kp k3 (by omega));have z3:=K3.out.size;have q3:=k3.size;(try rw [World.size_alloc] at q3);have J3:=hid_as k3;clear k3 r3 m3;have O3:=hid_as (own_kp hO.out (J2.out.trans J3.out) (by omega));obtain ⟨v5,w5,hr5,ho5,hg5,_⟩:=push_at (cs:=#[.slice a3_0 b3_0 c3_0,.slice a3_1 b3_1 c3_1,.slice a3_2 b3_2 c3_2]) Tryz.underlying112 infoArm rfl (by decide) (by decide) O3.out (by omega) (by omega) rfl (by intro u hu;simp at hu;rcases hu with rfl | rfl | rfl <;> rfl);have K5:=hid_as ((K3.out.alloc (.cells #[.slice a3_0 b3_0 c3_0,.slice a3_1 b3_1 c3_1,.slice a3_2 b3_2 c3_2] 119)).grown hg5 (fun k hk=>Nat.le_trans (by omega) (World.ownsRow.lt O3.out k hk).1));have R5:=hid_as ((R3.out.alloc (.cells #[.slice a3_0 b3_0 c3_0,.slice a3_1 b3_1 c3_1,.slice a3_2 b3_2 c3_2] 119)).grown hg5 (fun e=>by have:=(World.ownsRow.lt O3.out rb e).1;omega) (fun e=>by have:=(World.ownsRow.lt O3.out tb e).1;omega));have B5:=hid_as ((B3.out.alloc (.cells #[.slice a3_0 b3_0 c3_0,.slice a3_1 b3_1 c3_1,.slice a3_2 b3_2 c3_2] 119)).grown hg5 (fun e=>by have:=(World.ownsRow.lt O3.out _ e).1;omega));have z5:=K5.out.size;replace hr5:=hid_as hr5;replace ho5:=hid_as ho5;clear hg5)
        | (at_builtin;refine Lib.wpList_append_run _ rfl _ _ _ _ rfl _ _ rfl rfl _ _ hr5.out ?_))
      go_roundw
      case rel=>exact ⟨i3,f,n+1,_,by omega,by omega,by omega,R5,K5,B5,ho5,M3⟩
      case measure=>rw [R5.out.rdn,hat.out];omega
    | false =>
      have A2:Hid (∀ W,Rd W rb tb cap T (k)→Calls Tryz.prog 85 #[.pointer (some ⟨rb,0,none⟩),.string ⟨#[69,76,83,73,70]⟩] W fun e w'=>e=.returned (.bool false)∧Below W.heap.size W w'):=fun W H=>accept_n H ⟨#[69,76,83,73,70]⟩ hc
      have Mr:=hid_as (rp_not hM.out hc)
      clear hM hc
      cases he:isT T [69,76,83,69] k with
      | true =>
        have A3:Hid (∀ W,Rd W rb tb cap T (k)→Calls Tryz.prog 85 #[.pointer (some ⟨rb,0,none⟩),.string ⟨#[69,76,83,69]⟩] W fun e w'=>e=.returned (.bool true)∧Kp rb W w'∧Rd w' rb tb cap T (k+1)):=fun W H=>accept_y H ⟨#[69,76,83,69]⟩ he (by decide)
        have Me:Hid (M=th (s (k+1)) fun _ z=>th (xp T [69,78,68,95,73,70] z) fun _ y=>ok 2 y):=(by have q:=Mr.out;simp only [els,he,if_true] at q;rw [th_th] at q;exact hid_as q)
        clear Mr he
        go_wp2_with (first
          | (go_at_call 85;(with_reducible refine (A2.out _ hR.out).mono ?_);rintro e w2 ⟨rfl,b2⟩;have R2:=hid_as ((hR.out).below b2);have K2:=hid_as ((hK.out).below b2);have B2:=hid_as (hB.out.below b2);have z2:=K2.out.size;have q2:=b2.size;(try rw [World.size_alloc] at q2);have J2:=hid_as (kp_of_below (rb:=rb) b2);clear b2)
          | (go_at_call 85;(with_reducible refine (A3.out _ R2.out).mono ?_);rintro e w3 ⟨rfl,k3,r3⟩;have R3:=hid_as r3;have K3:=hid_as ((K2.out).trans k3);have B3:=hid_as (B2.out.kp k3 (by omega));have z3:=K3.out.size;have q3:=k3.size;(try rw [World.size_alloc] at q3);have J3:=hid_as k3;clear k3 r3)
          | (go_at_call 90;(with_reducible refine (S.out _ (k+1) R3.out).mono ?_);rintro e w4 ⟨k4,⟨_,i4,_,m4,rfl,⟨a4,b4,c4,xs4,rfl,os4,_⟩,r4,l4⟩ | ⟨n4,i4,m4,rfl⟩⟩;rotate_left;exact And.intro rfl (Outc.stop Me.out m4 ((K3.out).trans k4));have R4:=hid_as r4;have K4:=hid_as ((K3.out).trans k4);have M4:=hid_as (th_go Me.out m4);have B4:=hid_as (B3.out.kp k4 (by omega));have z4:=K4.out.size;have q4:=k4.size;(try rw [World.size_alloc] at q4);have J4:=hid_as k4;clear k4 r4 m4;have O4:=hid_as (own_kp hO.out ((J2.out.trans J3.out).trans J4.out) (by omega));obtain ⟨v6,w6,hr6,ho6,hg6,_⟩:=push_at (cs:=#[.slice none 0 0,.slice none 0 0,.slice a4 b4 c4]) Tryz.underlying112 infoArm rfl (by decide) (by decide) O4.out (by omega) (by omega) rfl (by intro u hu;simp at hu;rcases hu with rfl | rfl | rfl <;> rfl);have K6:=hid_as ((K4.out.alloc (.cells #[.slice none 0 0,.slice none 0 0,.slice a4 b4 c4] 119)).grown hg6 (fun k hk=>Nat.le_trans (by omega) (World.ownsRow.lt O4.out k hk).1));have R6:=hid_as ((R4.out.alloc (.cells #[.slice none 0 0,.slice none 0 0,.slice a4 b4 c4] 119)).grown hg6 (fun e=>by have:=(World.ownsRow.lt O4.out rb e).1;omega) (fun e=>by have:=(World.ownsRow.lt O4.out tb e).1;omega));have B6:=hid_as ((B4.out.alloc (.cells #[.slice none 0 0,.slice none 0 0,.slice a4 b4 c4] 119)).grown hg6 (fun e=>by have:=(World.ownsRow.lt O4.out _ e).1;omega));have z6:=K6.out.size;replace hr6:=hid_as hr6;replace ho6:=hid_as ho6;clear hg6;obtain ⟨a6,b6,c6,rfl⟩:=own_shape ho6.out)
          | (at_builtin;refine Lib.wpList_append_run _ rfl _ _ _ _ rfl _ _ rfl rfl _ _ hr6.out ?_)
          | (go_at_call 87;(with_reducible refine (C1.out _ i4 R6.out).mono ?_);rintro e w7 ⟨k7,⟨_,i7,_,m7,rfl,rfl,r7,l7⟩ | ⟨n7,i7,m7,rfl⟩⟩;rotate_left;exact And.intro rfl (Outc.stop M4.out m7 ((K6.out).trans k7));have R7:=hid_as r7;have K7:=hid_as ((K6.out).trans k7);have M7:=hid_as (th_go M4.out m7);have B7:=hid_as (B6.out.kp k7 (by omega));have z7:=K7.out.size;have q7:=k7.size;(try rw [World.size_alloc] at q7);have J7:=hid_as k7;clear k7 r7 m7;obtain ⟨s0,s1,s2,s3,s4,s5,s6,s7,s8,s9,s10,s11,s12⟩:=bk13 B7.out;have sf:=B7.out.fr))
        exact bodyPost_ret (v:=.agg #[.int .i64 2,.int .i64 0,.int .i64 0,.int .i64 0,.string ⟨#[]⟩,.string ⟨#[]⟩,.slice none 0 0,.int .i64 0,.slice none 0 0,.slice a6 b6 c6,.slice none 0 0,.slice none 0 0,.int .i64 0]) (by simp [results,Tryz.results175,go_sem,s0,s1,s2,s3,s4,s5,s6,s7,s8,s9,s10,s11,s12]) rfl ⟨K7.out.put13 (by omega) _ _ _ _ _ _ _ _ _ _ _ _ _,Or.inl ⟨2,_,_,M7.out,rfl,⟨_,_,_,_,_,_,_,_,_,_,_,_,_,_,_,_,_,_,_,_,_,_,rfl⟩,R7.out.put13 (by omega) (by omega) _ _ _ _ _ _ _ _ _ _ _ _ _,(by omega)⟩⟩
      | false =>
        have A3:Hid (∀ W,Rd W rb tb cap T (k)→Calls Tryz.prog 85 #[.pointer (some ⟨rb,0,none⟩),.string ⟨#[69,76,83,69]⟩] W fun e w'=>e=.returned (.bool false)∧Below W.heap.size W w'):=fun W H=>accept_n H ⟨#[69,76,83,69]⟩ he
        have Me:Hid (M=th (xp T [69,78,68,95,73,70] k) fun _ y=>ok 2 y):=(by have q:=Mr.out;simp only [els,he,Bool.false_eq_true,if_false] at q;exact hid_as q)
        clear Mr he
        obtain ⟨a6,b6,c6,rfl⟩:=own_shape hO.out
        go_wp2_with (first
          | (go_at_call 85;(with_reducible refine (A2.out _ hR.out).mono ?_);rintro e w2 ⟨rfl,b2⟩;have R2:=hid_as ((hR.out).below b2);have K2:=hid_as ((hK.out).below b2);have B2:=hid_as (hB.out.below b2);have z2:=K2.out.size;have q2:=b2.size;(try rw [World.size_alloc] at q2);have J2:=hid_as (kp_of_below (rb:=rb) b2);clear b2)
          | (go_at_call 85;(with_reducible refine (A3.out _ R2.out).mono ?_);rintro e w3 ⟨rfl,b3⟩;have R3:=hid_as ((R2.out).below b3);have K3:=hid_as ((K2.out).below b3);have B3:=hid_as (B2.out.below b3);have z3:=K3.out.size;have q3:=b3.size;(try rw [World.size_alloc] at q3);have J3:=hid_as (kp_of_below (rb:=rb) b3);clear b3)
          | (go_at_call 87;(with_reducible refine (C1.out _ k R3.out).mono ?_);rintro e w4 ⟨k4,⟨_,i4,_,m4,rfl,rfl,r4,l4⟩ | ⟨n4,i4,m4,rfl⟩⟩;rotate_left;exact And.intro rfl (Outc.stop Me.out m4 ((K3.out).trans k4));have R4:=hid_as r4;have K4:=hid_as ((K3.out).trans k4);have M4:=hid_as (th_go Me.out m4);have B4:=hid_as (B3.out.kp k4 (by omega));have z4:=K4.out.size;have q4:=k4.size;(try rw [World.size_alloc] at q4);have J4:=hid_as k4;clear k4 r4 m4;obtain ⟨s0,s1,s2,s3,s4,s5,s6,s7,s8,s9,s10,s11,s12⟩:=bk13 B4.out;have sf:=B4.out.fr))
        exact bodyPost_ret (v:=.agg #[.int .i64 2,.int .i64 0,.int .i64 0,.int .i64 0,.string ⟨#[]⟩,.string ⟨#[]⟩,.slice none 0 0,.int .i64 0,.slice none 0 0,.slice a6 b6 c6,.slice none 0 0,.slice none 0 0,.int .i64 0]) (by simp [results,Tryz.results175,go_sem,s0,s1,s2,s3,s4,s5,s6,s7,s8,s9,s10,s11,s12]) rfl ⟨K4.out.put13 (by omega) _ _ _ _ _ _ _ _ _ _ _ _ _,Or.inl ⟨2,_,_,M4.out,rfl,⟨_,_,_,_,_,_,_,_,_,_,_,_,_,_,_,_,_,_,_,_,_,_,rfl⟩,R4.out.put13 (by omega) (by omega) _ _ _ _ _ _ _ _ _ _ _ _ _,(by omega)⟩⟩
end Go.Proofs.YtapcpjidgemggaaGreatDoor
