/- Literals, variables, brackets, calls (stage 13). -/
import Derived.Lib.AppendZeros
import Derived.Laws.AppendOwn
import Derived.Test.YtapcpjidgemggaaGreatDoorQ13
namespace Go.Proofs.YtapcpjidgemggaaGreatDoor
open Go.RowKit
open Adr Lx Sx
set_option maxHeartbeats 4000000 in
set_option maxRecDepth 100000 in
theorem p_literal_t {w:World} {rb tb cap:Nat} {T:TL} {i:Nat} (h:Rd w rb tb cap T i) (hs:ck T i=4):Calls Tryz.prog 173 #[.pointer (some ⟨rb,0,none⟩)] w fun e w'=>Outc rb tb cap T i w (litT T i) (qE w) e w':=by
  have hrl:=h.rlt
  have htl:=h.lt
  have B0:=hid_as (Bk.fresh w #[.int .i64 0,.int .i64 0,.int .i64 0,.string ⟨#[]⟩,.string ⟨#[]⟩,.slice none 0 0,.int .i64 0] 53)
  have K0:=hid_as ((Kp.refl rb w).alloc (.cells #[.int .i64 0,.int .i64 0,.int .i64 0,.string ⟨#[]⟩,.string ⟨#[]⟩,.slice none 0 0,.int .i64 0] 53))
  have H:=hid_as (h.alloc (.cells #[.int .i64 0,.int .i64 0,.int .i64 0,.string ⟨#[]⟩,.string ⟨#[]⟩,.slice none 0 0,.int .i64 0] 53))
  have em:litT T i=ok (litOf (cu T i)) (i+1):=by unfold litT;rw [if_pos hs]
  have N0:=hid_as (fun W (H:Rd W rb tb cap T i)=>now_c H)
  have D:=hid_as (fun W (H:Rd W rb tb cap T i)=>take_c H (ck_more hs (by decide)))
  have F0:=fd0
  have LO:=hid_as literalOf_c
  rw [em]
  unfold tv at N0 D
  have hs':(cu T i).1.tok=4:=hs
  clear em h hs
  generalize cu T i=c at *
  obtain ⟨⟨ta,tk,tn,tt⟩,pl⟩:=c
  simp only at N0 D hs'
  subst hs'
  go_enter Tryz.func173,Tryz.ntmps173
  go_wp2_with (first
    | (go_at_call 136;(with_reducible refine (N0.out _ H.out).mono ?_);rintro e w1 ⟨rfl,b1⟩;have R1:=hid_as ((H.out).below b1);have K1:=hid_as ((K0.out).below b1);have B1:=hid_as (B0.out.below b1);have z1:=K1.out.size;have q1:=b1.size;(try rw [World.size_alloc] at q1);have J1:=hid_as (kp_of_below (rb:=rb) b1);clear b1)
    | (go_at_call 128;(with_reducible refine (D.out _ R1.out).mono ?_);rintro e w2 ⟨rfl,k2,r2⟩;have R2:=hid_as r2;have K2:=hid_as ((K1.out).trans k2);have B2:=hid_as (B1.out.kp k2 (by omega));have z2:=K2.out.size;have q2:=k2.size;(try rw [World.size_alloc] at q2);have J2:=hid_as k2;clear k2 r2)
    | (go_at_call 174;(with_reducible refine (LO.out _ _ _ _ _ _).mono ?_);rintro e w3 ⟨rfl,b3⟩;have R3:=hid_as ((R2.out).below b3);have K3:=hid_as ((K2.out).below b3);have B3:=hid_as (B2.out.below b3);have z3:=K3.out.size;have q3:=b3.size;(try rw [World.size_alloc] at q3);have J3:=hid_as (kp_of_below (rb:=rb) b3);clear b3;obtain ⟨s0,s1,s2,s3,s4,s5,s6⟩:=bk7 B3.out;have sf:=B3.out.fr))
  exact bodyPost_ret (v:=.agg #[.int .i64 1,.int .i64 tk,.int .i64 tn,.string ⟨#[]⟩,.string ⟨#[]⟩,.slice none 0 0,.int .i64 pl]) (by simp [results,Tryz.results173,go_sem,s0,s1,s2,s3,s4,s5,s6]) rfl ⟨K3.out.put7 (by omega) _ _ _ _ _ _ _,Or.inl ⟨_,_,_,rfl,rfl,⟨_,_,_,_,_,_,_,_,_,rfl,((Et.leaf (fun x=>w.heap.size+1≤x) w3 ⟨1,tk,tn,[],[],pl,0⟩ rfl).set7 (by show ¬ (_≤_);omega) _ _ _ _ _ _ _).into (fun x (hx:w.heap.size+1≤x) _=>(by show w.heap.size≤x;omega))⟩,R3.out.put7 (by omega) (by omega) _ _ _ _ _ _ _,Nat.le_succ _⟩⟩
set_option maxHeartbeats 4000000 in
set_option maxRecDepth 100000 in
theorem p_literal_n {w:World} {rb tb cap:Nat} {T:TL} {i:Nat} (h:Rd w rb tb cap T i) (hs:¬ ck T i=4):Calls Tryz.prog 173 #[.pointer (some ⟨rb,0,none⟩)] w fun e w'=>Outc rb tb cap T i w (litT T i) (qE w) e w':=by
  have hrl:=h.rlt
  have htl:=h.lt
  have B0:=hid_as (Bk.fresh w #[.int .i64 0,.int .i64 0,.int .i64 0,.string ⟨#[]⟩,.string ⟨#[]⟩,.slice none 0 0,.int .i64 0] 53)
  have K0:=hid_as ((Kp.refl rb w).alloc (.cells #[.int .i64 0,.int .i64 0,.int .i64 0,.string ⟨#[]⟩,.string ⟨#[]⟩,.slice none 0 0,.int .i64 0] 53))
  have H:=hid_as (h.alloc (.cells #[.int .i64 0,.int .i64 0,.int .i64 0,.string ⟨#[]⟩,.string ⟨#[]⟩,.slice none 0 0,.int .i64 0] 53))
  have em:litT T i=th (tof T 3 i) fun t k=>ok (litOf t) k:=by unfold litT;rw [if_neg hs]
  generalize litT T i=M at *
  have M0:=hid_as em
  have N0:=hid_as (fun W (H:Rd W rb tb cap T i)=>now_c H)
  have D:Hid (∀ W i,Rd W rb tb cap T i→Calls Tryz.prog 131 #[.pointer (some ⟨rb,0,none⟩),.int .i64 3] W fun e w'=>Outc rb tb cap T i W (tof T 3 i) (qT W) e w'):=takeOf_c 3 (by decide)
  have F0:=fd0
  have LO:=hid_as literalOf_c
  unfold tv at N0
  have hs':¬ ((cu T i).1.tok:Int)=4:=by unfold ck at hs;omega
  clear em h hs
  generalize cu T i=c at *
  obtain ⟨⟨ta,tk,tn,tt⟩,pl⟩:=c
  simp only at N0 hs'
  go_enter Tryz.func173,Tryz.ntmps173
  go_wp2_with (first
    | (go_at_call 136;(with_reducible refine (N0.out _ H.out).mono ?_);rintro e w1 ⟨rfl,b1⟩;have R1:=hid_as ((H.out).below b1);have K1:=hid_as ((K0.out).below b1);have B1:=hid_as (B0.out.below b1);have z1:=K1.out.size;have q1:=b1.size;(try rw [World.size_alloc] at q1);have J1:=hid_as (kp_of_below (rb:=rb) b1);clear b1)
    | (go_at_call 131;(with_reducible refine (D.out _ i R1.out).mono ?_);rintro e w2 ⟨k2,⟨⟨⟨ta2,tk2,tn2,tt2⟩,pl2⟩,i2,_,m2,rfl,rfl,r2,l2⟩ | ⟨n2,i2,m2,rfl⟩⟩;rotate_left;exact And.intro rfl (Outc.stop M0.out m2 ((K1.out).trans k2));have R2:=hid_as r2;have K2:=hid_as ((K1.out).trans k2);have M2:=hid_as (th_go M0.out m2);have B2:=hid_as (B1.out.kp k2 (by omega));have z2:=K2.out.size;have q2:=k2.size;(try rw [World.size_alloc] at q2);have J2:=hid_as k2;clear k2 r2 m2;unfold tv)
    | (go_at_call 174;(with_reducible refine (LO.out _ _ _ _ _ _).mono ?_);rintro e w3 ⟨rfl,b3⟩;have R3:=hid_as ((R2.out).below b3);have K3:=hid_as ((K2.out).below b3);have B3:=hid_as (B2.out.below b3);have z3:=K3.out.size;have q3:=b3.size;(try rw [World.size_alloc] at q3);have J3:=hid_as (kp_of_below (rb:=rb) b3);clear b3;obtain ⟨s0,s1,s2,s3,s4,s5,s6⟩:=bk7 B3.out;have sf:=B3.out.fr))
  exact bodyPost_ret (v:=.agg #[.int .i64 1,.int .i64 tk2,.int .i64 tn2,.string ⟨#[]⟩,.string ⟨#[]⟩,.slice none 0 0,.int .i64 pl2]) (by simp [results,Tryz.results173,go_sem,s0,s1,s2,s3,s4,s5,s6]) rfl ⟨K3.out.put7 (by omega) _ _ _ _ _ _ _,Or.inl ⟨_,_,_,M2.out,rfl,⟨_,_,_,_,_,_,_,_,_,rfl,((Et.leaf (fun x=>w.heap.size+1≤x) w3 ⟨1,tk2,tn2,[],[],pl2,0⟩ rfl).set7 (by show ¬ (_≤_);omega) _ _ _ _ _ _ _).into (fun x (hx:w.heap.size+1≤x) _=>(by show w.heap.size≤x;omega))⟩,R3.out.put7 (by omega) (by omega) _ _ _ _ _ _ _,l2⟩⟩
theorem p_literal {rb tb cap:Nat} {T:TL}:Cn 173 #[] rb tb cap T (litT T) qE:=fun _ i h=>if hs:ck T i=4 then p_literal_t h hs else p_literal_n h hs
set_option maxHeartbeats 4000000 in
set_option maxRecDepth 100000 in
theorem p_variable_p {w:World} {rb tb cap:Nat} {T:TL} {i:Nat} (h:Rd w rb tb cap T i) (ta tk:Nat) (tn:Int) (tt:List UInt8) (pl:Nat) (dp:Nat) (x:Nat→Re Tr) (h1:isT T [46] i=false) (h2:isT T [91] i=false):Calls Tryz.prog 190 #[.pointer (some ⟨rb,0,none⟩),.agg #[.int .i64 ta,.int .i64 tk,.int .i64 tn,.string (tx tt),.int .i64 pl],.int .i64 dp] w fun e w'=>Outc rb tb cap T i w (vr T x (⟨ta,tk,tn,tt⟩,pl) i) (qE w) e w':=by
  have hrl:=h.rlt
  have htl:=h.lt
  have B0:Hid (Bk ((w.alloc (.cells #[.int .i64 ta,.int .i64 tk,.int .i64 tn,.string (tx tt),.int .i64 pl] 42)).alloc (.cells #[.int .i64 0,.int .i64 0,.int .i64 0,.string ⟨#[]⟩,.string ⟨#[]⟩,.slice none 0 0,.int .i64 0] 53)) (w.heap.size+1) #[.int .i64 0,.int .i64 0,.int .i64 0,.string ⟨#[]⟩,.string ⟨#[]⟩,.slice none 0 0,.int .i64 0]):=by
    have q:=Bk.fresh (w.alloc (.cells #[.int .i64 ta,.int .i64 tk,.int .i64 tn,.string (tx tt),.int .i64 pl] 42)) #[.int .i64 0,.int .i64 0,.int .i64 0,.string ⟨#[]⟩,.string ⟨#[]⟩,.slice none 0 0,.int .i64 0] 53
    rw [World.size_alloc] at q
    exact hid_as q
  have K0:=hid_as (((Kp.refl rb w).alloc (.cells #[.int .i64 ta,.int .i64 tk,.int .i64 tn,.string (tx tt),.int .i64 pl] 42)).alloc (.cells #[.int .i64 0,.int .i64 0,.int .i64 0,.string ⟨#[]⟩,.string ⟨#[]⟩,.slice none 0 0,.int .i64 0] 53))
  have H:=hid_as ((h.alloc (.cells #[.int .i64 ta,.int .i64 tk,.int .i64 tn,.string (tx tt),.int .i64 pl] 42)).alloc (.cells #[.int .i64 0,.int .i64 0,.int .i64 0,.string ⟨#[]⟩,.string ⟨#[]⟩,.slice none 0 0,.int .i64 0] 53))
  have PV:=hid_as plainVar_c
  have em:vr T x (⟨ta,tk,tn,tt⟩,pl) i=ok (plainV (⟨ta,tk,tn,tt⟩,pl)) i:=by unfold vr;rw [h1,h2];rfl
  rw [em]
  have A1:Hid (∀ W,Rd W rb tb cap T (i)→Calls Tryz.prog 85 #[.pointer (some ⟨rb,0,none⟩),.string ⟨#[46]⟩] W fun e w'=>e=.returned (.bool false)∧Below W.heap.size W w'):=fun W H=>accept_n H ⟨#[46]⟩ h1
  have A2:Hid (∀ W,Rd W rb tb cap T (i)→Calls Tryz.prog 85 #[.pointer (some ⟨rb,0,none⟩),.string ⟨#[91]⟩] W fun e w'=>e=.returned (.bool false)∧Below W.heap.size W w'):=fun W H=>accept_n H ⟨#[91]⟩ h2
  clear h h1 h2 em
  go_enter Tryz.func190,Tryz.ntmps190
  go_wp2_with (first
    | (go_at_call 188;(with_reducible refine (PV.out _ _ _ _ _ _).mono ?_);rintro e w1 ⟨rfl,b1⟩;have R1:=hid_as ((H.out).below b1);have K1:=hid_as ((K0.out).below b1);have B1:=hid_as (B0.out.below b1);have z1:=K1.out.size;have q1:=b1.size;(try rw [World.size_alloc] at q1);have J1:=hid_as (kp_of_below (rb:=rb) b1);clear b1;have V1:=hid_as (Bk.fresh w1 #[.int .i64 2,.int .i64 0,.int .i64 0,.string (tx tt),.string ⟨#[]⟩,.slice none 0 0,.int .i64 pl] 53);have y1:=B1.out.lt)
    | (go_at_call 85;(with_reducible refine (A1.out _ (R1.out.alloc _)).mono ?_);rintro e w2 ⟨rfl,b2⟩;have R2:=hid_as (((R1.out.alloc _)).below b2);have K2:=hid_as ((K1.out.alloc _).below b2);have B2:=hid_as ((B1.out.alloc (.cells #[.int .i64 2,.int .i64 0,.int .i64 0,.string (tx tt),.string ⟨#[]⟩,.slice none 0 0,.int .i64 pl] 53)).below b2);have V2:=hid_as (V1.out.below b2);have z2:=K2.out.size;have q2:=b2.size;(try rw [World.size_alloc] at q2);have J2:=hid_as (kp_of_below (rb:=rb) b2);clear b2)
    | (go_at_call 85;(with_reducible refine (A2.out _ R2.out).mono ?_);rintro e w3 ⟨rfl,b3⟩;have R3:=hid_as ((R2.out).below b3);have K3:=hid_as ((K2.out).below b3);have B3:=hid_as (B2.out.below b3);have V3:=hid_as (V2.out.below b3);have z3:=K3.out.size;have q3:=b3.size;(try rw [World.size_alloc] at q3);have J3:=hid_as (kp_of_below (rb:=rb) b3);clear b3;obtain ⟨s0,s1,s2,s3,s4,s5,s6⟩:=bk7 B3.out;have sf:=B3.out.fr;obtain ⟨u0,u1,u2,u3,u4,u5,u6⟩:=bk7 V3.out;have uf:=V3.out.fr))
  exact bodyPost_ret (v:=.agg #[.int .i64 2,.int .i64 0,.int .i64 0,.string (tx tt),.string ⟨#[]⟩,.slice none 0 0,.int .i64 pl]) (by simp [results,Tryz.results190,go_sem,s0,s1,s2,s3,s4,s5,s6]) rfl ⟨K3.out.put7 (by omega) _ _ _ _ _ _ _,Or.inl ⟨_,_,_,rfl,rfl,⟨_,_,_,_,_,_,_,_,_,rfl,((Et.leaf (fun x=>w.heap.size+2≤x) w3 ⟨2,0,0,tt,[],pl,0⟩ rfl).set7 (by show ¬ (_≤_);omega) _ _ _ _ _ _ _).into (fun x (hx:w.heap.size+2≤x) _=>(by show w.heap.size≤x;omega))⟩,R3.out.put7 (by omega) (by omega) _ _ _ _ _ _ _,Nat.le_refl _⟩⟩
set_option maxHeartbeats 4000000 in
set_option maxRecDepth 100000 in
theorem p_variable_f {w:World} {rb tb cap:Nat} {T:TL} {i:Nat} (h:Rd w rb tb cap T i) (ta tk:Nat) (tn:Int) (tt:List UInt8) (pl:Nat) (dp:Nat) (x:Nat→Re Tr) (h1:isT T [46] i=true):Calls Tryz.prog 190 #[.pointer (some ⟨rb,0,none⟩),.agg #[.int .i64 ta,.int .i64 tk,.int .i64 tn,.string (tx tt),.int .i64 pl],.int .i64 dp] w fun e w'=>Outc rb tb cap T i w (vr T x (⟨ta,tk,tn,tt⟩,pl) i) (qE w) e w':=by
  have hrl:=h.rlt
  have htl:=h.lt
  have B0:Hid (Bk ((w.alloc (.cells #[.int .i64 ta,.int .i64 tk,.int .i64 tn,.string (tx tt),.int .i64 pl] 42)).alloc (.cells #[.int .i64 0,.int .i64 0,.int .i64 0,.string ⟨#[]⟩,.string ⟨#[]⟩,.slice none 0 0,.int .i64 0] 53)) (w.heap.size+1) #[.int .i64 0,.int .i64 0,.int .i64 0,.string ⟨#[]⟩,.string ⟨#[]⟩,.slice none 0 0,.int .i64 0]):=by
    have q:=Bk.fresh (w.alloc (.cells #[.int .i64 ta,.int .i64 tk,.int .i64 tn,.string (tx tt),.int .i64 pl] 42)) #[.int .i64 0,.int .i64 0,.int .i64 0,.string ⟨#[]⟩,.string ⟨#[]⟩,.slice none 0 0,.int .i64 0] 53
    rw [World.size_alloc] at q
    exact hid_as q
  have K0:=hid_as (((Kp.refl rb w).alloc (.cells #[.int .i64 ta,.int .i64 tk,.int .i64 tn,.string (tx tt),.int .i64 pl] 42)).alloc (.cells #[.int .i64 0,.int .i64 0,.int .i64 0,.string ⟨#[]⟩,.string ⟨#[]⟩,.slice none 0 0,.int .i64 0] 53))
  have H:=hid_as ((h.alloc (.cells #[.int .i64 ta,.int .i64 tk,.int .i64 tn,.string (tx tt),.int .i64 pl] 42)).alloc (.cells #[.int .i64 0,.int .i64 0,.int .i64 0,.string ⟨#[]⟩,.string ⟨#[]⟩,.slice none 0 0,.int .i64 0] 53))
  have PV:=hid_as plainVar_c
  have em:vr T x (⟨ta,tk,tn,tt⟩,pl) i=th (tof T 2 (i+1)) fun f k=>ok (mkT ⟨2,0,0,tt,f.1.text,pl,0⟩ []) k:=by unfold vr;rw [if_pos h1]
  generalize vr T x (⟨ta,tk,tn,tt⟩,pl) i=M at *
  have M0:=hid_as em
  have F3:=fd3
  have A1:Hid (∀ W,Rd W rb tb cap T (i)→Calls Tryz.prog 85 #[.pointer (some ⟨rb,0,none⟩),.string ⟨#[46]⟩] W fun e w'=>e=.returned (.bool true)∧Kp rb W w'∧Rd w' rb tb cap T (i+1)):=fun W H=>accept_y H ⟨#[46]⟩ h1 (by decide)
  have C:Hid (∀ W i,Rd W rb tb cap T i→Calls Tryz.prog 88 #[.pointer (some ⟨rb,0,none⟩)] W fun e w'=>Outc rb tb cap T i W (tof T 2 i) (qT W) e w'):=name_c
  clear h h1 em
  go_enter Tryz.func190,Tryz.ntmps190
  go_wp2_with (first
    | (go_at_call 188;(with_reducible refine (PV.out _ _ _ _ _ _).mono ?_);rintro e w1 ⟨rfl,b1⟩;have R1:=hid_as ((H.out).below b1);have K1:=hid_as ((K0.out).below b1);have B1:=hid_as (B0.out.below b1);have z1:=K1.out.size;have q1:=b1.size;(try rw [World.size_alloc] at q1);have J1:=hid_as (kp_of_below (rb:=rb) b1);clear b1;have V1:=hid_as (Bk.fresh w1 #[.int .i64 2,.int .i64 0,.int .i64 0,.string (tx tt),.string ⟨#[]⟩,.slice none 0 0,.int .i64 pl] 53);have y1:=B1.out.lt)
    | (go_at_call 85;(with_reducible refine (A1.out _ (R1.out.alloc _)).mono ?_);rintro e w2 ⟨rfl,k2,r2⟩;have R2:=hid_as r2;have K2:=hid_as ((K1.out.alloc _).trans k2);have B2:=hid_as ((B1.out.alloc (.cells #[.int .i64 2,.int .i64 0,.int .i64 0,.string (tx tt),.string ⟨#[]⟩,.slice none 0 0,.int .i64 pl] 53)).kp k2 (by omega));have V2:=hid_as (V1.out.kp k2 (by omega));have z2:=K2.out.size;have q2:=k2.size;(try rw [World.size_alloc] at q2);have J2:=hid_as k2;clear k2 r2)
    | (go_at_call 88;(with_reducible refine (C.out _ (i+1) R2.out).mono ?_);rintro e w3 ⟨k3,⟨⟨⟨ta3,tk3,tn3,tt3⟩,pl3⟩,i3,_,m3,rfl,rfl,r3,l3⟩ | ⟨n3,i3,m3,rfl⟩⟩;rotate_left;exact And.intro rfl (Outc.stop M0.out m3 ((K2.out).trans k3));have R3:=hid_as r3;have K3:=hid_as ((K2.out).trans k3);have M3:=hid_as (th_go M0.out m3);have B3:=hid_as (B2.out.kp k3 (by omega));have V3:=hid_as (V2.out.kp k3 (by omega));have z3:=K3.out.size;have q3:=k3.size;(try rw [World.size_alloc] at q3);have J3:=hid_as k3;clear k3 r3 m3;unfold tv;obtain ⟨s0,s1,s2,s3,s4,s5,s6⟩:=bk7 B3.out;have sf:=B3.out.fr;obtain ⟨u0,u1,u2,u3,u4,u5,u6⟩:=bk7 V3.out;have uf:=V3.out.fr;have y3:=V3.out.lt))
  exact bodyPost_ret (v:=.agg #[.int .i64 2,.int .i64 0,.int .i64 0,.string (tx tt),.string (tx tt3),.slice none 0 0,.int .i64 pl]) (by simp [results,Tryz.results190,go_sem,s0,s1,s2,s3,s4,s5,s6]) rfl ⟨(K3.out.set (g:=w1.heap.size) (by omega) _ _).put7 (by omega) _ _ _ _ _ _ _,Or.inl ⟨_,_,_,M3.out,rfl,⟨_,_,_,_,_,_,_,_,_,rfl,(((Et.leaf (fun x=>w.heap.size+2≤x) _ ⟨2,0,0,tt,tt3,pl,0⟩ rfl)).set7 (by show ¬ (_≤_);omega) _ _ _ _ _ _ _).into (fun x (hx:w.heap.size+2≤x) _=>(by show w.heap.size≤x;omega))⟩,(R3.out.other (b:=w1.heap.size) (by omega) (by omega) _ _).put7 (by omega) (by omega) _ _ _ _ _ _ _,(by omega)⟩⟩
set_option maxHeartbeats 4000000 in
set_option maxRecDepth 100000 in
theorem p_variable_x {w:World} {rb tb cap:Nat} {T:TL} {i:Nat} (h:Rd w rb tb cap T i) (ta tk:Nat) (tn:Int) (tt:List UInt8) (pl:Nat) (dp:Nat) (hd:dp≤40) (x:Nat→Re Tr)(X:Hid (∀ W i,Rd W rb tb cap T i→Calls Tryz.prog 186 #[.pointer (some ⟨rb,0,none⟩),.int .i64 ((dp:Int)+1)] W fun e w'=>Outc rb tb cap T i W (x i) (qE W) e w')) (h1:isT T [46] i=false) (h2:isT T [91] i=true):Calls Tryz.prog 190 #[.pointer (some ⟨rb,0,none⟩),.agg #[.int .i64 ta,.int .i64 tk,.int .i64 tn,.string (tx tt),.int .i64 pl],.int .i64 dp] w fun e w'=>Outc rb tb cap T i w (vr T x (⟨ta,tk,tn,tt⟩,pl) i) (qE w) e w':=by
  have hrl:=h.rlt
  have htl:=h.lt
  have B0:Hid (Bk ((w.alloc (.cells #[.int .i64 ta,.int .i64 tk,.int .i64 tn,.string (tx tt),.int .i64 pl] 42)).alloc (.cells #[.int .i64 0,.int .i64 0,.int .i64 0,.string ⟨#[]⟩,.string ⟨#[]⟩,.slice none 0 0,.int .i64 0] 53)) (w.heap.size+1) #[.int .i64 0,.int .i64 0,.int .i64 0,.string ⟨#[]⟩,.string ⟨#[]⟩,.slice none 0 0,.int .i64 0]):=by
    have q:=Bk.fresh (w.alloc (.cells #[.int .i64 ta,.int .i64 tk,.int .i64 tn,.string (tx tt),.int .i64 pl] 42)) #[.int .i64 0,.int .i64 0,.int .i64 0,.string ⟨#[]⟩,.string ⟨#[]⟩,.slice none 0 0,.int .i64 0] 53
    rw [World.size_alloc] at q
    exact hid_as q
  have K0:=hid_as (((Kp.refl rb w).alloc (.cells #[.int .i64 ta,.int .i64 tk,.int .i64 tn,.string (tx tt),.int .i64 pl] 42)).alloc (.cells #[.int .i64 0,.int .i64 0,.int .i64 0,.string ⟨#[]⟩,.string ⟨#[]⟩,.slice none 0 0,.int .i64 0] 53))
  have H:=hid_as ((h.alloc (.cells #[.int .i64 ta,.int .i64 tk,.int .i64 tn,.string (tx tt),.int .i64 pl] 42)).alloc (.cells #[.int .i64 0,.int .i64 0,.int .i64 0,.string ⟨#[]⟩,.string ⟨#[]⟩,.slice none 0 0,.int .i64 0] 53))
  have PV:=hid_as plainVar_c
  have em:vr T x (⟨ta,tk,tn,tt⟩,pl) i=th (x (i+1)) fun a k=>th (xp T [93] k) fun _ m=>ok (mkT ⟨2,0,0,tt,[],pl,1⟩ [a]) m:=by unfold vr;rw [h1,if_neg Bool.false_ne_true,if_pos h2]
  generalize vr T x (⟨ta,tk,tn,tt⟩,pl) i=M at *
  have M0:=hid_as em
  have A1:Hid (∀ W,Rd W rb tb cap T (i)→Calls Tryz.prog 85 #[.pointer (some ⟨rb,0,none⟩),.string ⟨#[46]⟩] W fun e w'=>e=.returned (.bool false)∧Below W.heap.size W w'):=fun W H=>accept_n H ⟨#[46]⟩ h1
  have A2:Hid (∀ W,Rd W rb tb cap T (i)→Calls Tryz.prog 85 #[.pointer (some ⟨rb,0,none⟩),.string ⟨#[91]⟩] W fun e w'=>e=.returned (.bool true)∧Kp rb W w'∧Rd w' rb tb cap T (i+1)):=fun W H=>accept_y H ⟨#[91]⟩ h2 (by decide)
  have C:Hid (∀ W i,Rd W rb tb cap T i→Calls Tryz.prog 87 #[.pointer (some ⟨rb,0,none⟩),.string ⟨#[93]⟩] W fun e w'=>Outc rb tb cap T i W (xp T [93] i) (qU W) e w'):=expect_c ⟨#[93]⟩ (by decide)
  clear h h1 h2 em
  go_enter Tryz.func190,Tryz.ntmps190
  go_wp2_with (first
    | (go_at_call 188;(with_reducible refine (PV.out _ _ _ _ _ _).mono ?_);rintro e w1 ⟨rfl,b1⟩;have R1:=hid_as ((H.out).below b1);have K1:=hid_as ((K0.out).below b1);have B1:=hid_as (B0.out.below b1);have z1:=K1.out.size;have q1:=b1.size;(try rw [World.size_alloc] at q1);have J1:=hid_as (kp_of_below (rb:=rb) b1);clear b1;have V1:=hid_as (Bk.fresh w1 #[.int .i64 2,.int .i64 0,.int .i64 0,.string (tx tt),.string ⟨#[]⟩,.slice none 0 0,.int .i64 pl] 53);have y1:=B1.out.lt)
    | (go_at_call 85;(with_reducible refine (A1.out _ (R1.out.alloc _)).mono ?_);rintro e w2 ⟨rfl,b2⟩;have R2:=hid_as (((R1.out.alloc _)).below b2);have K2:=hid_as ((K1.out.alloc _).below b2);have B2:=hid_as ((B1.out.alloc (.cells #[.int .i64 2,.int .i64 0,.int .i64 0,.string (tx tt),.string ⟨#[]⟩,.slice none 0 0,.int .i64 pl] 53)).below b2);have V2:=hid_as (V1.out.below b2);have z2:=K2.out.size;have q2:=b2.size;(try rw [World.size_alloc] at q2);have J2:=hid_as (kp_of_below (rb:=rb) b2);clear b2)
    | (go_at_call 85;(with_reducible refine (A2.out _ R2.out).mono ?_);rintro e w3 ⟨rfl,k3,r3⟩;have R3:=hid_as r3;have K3:=hid_as ((K2.out).trans k3);have B3:=hid_as (B2.out.kp k3 (by omega));have V3:=hid_as (V2.out.kp k3 (by omega));have z3:=K3.out.size;have q3:=k3.size;(try rw [World.size_alloc] at q3);have J3:=hid_as k3;clear k3 r3)
    | (go_at_call 186;(with_reducible refine (X.out _ (i+1) R3.out).mono ?_);rintro e w4 ⟨k4,⟨t4,i4,_,m4,rfl,⟨o4,kd4,v4,nm4,fl4,lp4,ln4,lc4,p4,rfl,E4'⟩,r4,l4⟩ | ⟨n4,i4,m4,rfl⟩⟩;rotate_left;exact And.intro rfl (Outc.stop M0.out m4 ((K3.out).trans k4));have R4:=hid_as r4;have K4:=hid_as ((K3.out).trans k4);have M4:=hid_as (th_go M0.out m4);have B4:=hid_as (B3.out.kp k4 (by omega));have V4:=hid_as (V3.out.kp k4 (by omega));have z4:=K4.out.size;have q4:=k4.size;(try rw [World.size_alloc] at q4);have J4:=hid_as k4;clear k4 r4 m4;have E4:=hid_as E4';clear E4';have y4:=V4.out.lt;obtain ⟨u0,u1,u2,u3,u4,u5,u6⟩:=bk7 V4.out;have uf:=V4.out.fr;have VX:Hid (Bk ((w4.setCell ⟨w1.heap.size,5,none⟩ (.slice (some ⟨w4.heap.size,0,none⟩) 1 1)).alloc (.cells #[.int .i64 o4,.int .i64 kd4,.int .i64 v4,.string nm4,.string fl4,.slice lp4 ln4 lc4,.int .i64 p4] 53)) w1.heap.size #[.int .i64 2,.int .i64 0,.int .i64 0,.string (tx tt),.string ⟨#[]⟩,.slice (some ⟨w4.heap.size,0,none⟩) 1 1,.int .i64 pl]):=(by have q:=V4.out.set 5 (.slice (some ⟨w4.heap.size,0,none⟩) 1 1);simp only [List.setIfInBounds_toArray,List.set_cons_zero,List.set_cons_succ] at q;exact hid_as (q.alloc _));have BX:Hid (Bk ((w4.setCell ⟨w1.heap.size,5,none⟩ (.slice (some ⟨w4.heap.size,0,none⟩) 1 1)).alloc (.cells #[.int .i64 o4,.int .i64 kd4,.int .i64 v4,.string nm4,.string fl4,.slice lp4 ln4 lc4,.int .i64 p4] 53)) (w.heap.size+1) #[.int .i64 0,.int .i64 0,.int .i64 0,.string ⟨#[]⟩,.string ⟨#[]⟩,.slice none 0 0,.int .i64 0]):=hid_as ((B4.out.other _ _ (by omega)).alloc _);have GX:Hid (Bk ((w4.setCell ⟨w1.heap.size,5,none⟩ (.slice (some ⟨w4.heap.size,0,none⟩) 1 1)).alloc (.cells #[.int .i64 o4,.int .i64 kd4,.int .i64 v4,.string nm4,.string fl4,.slice lp4 ln4 lc4,.int .i64 p4] 53)) w4.heap.size #[.int .i64 o4,.int .i64 kd4,.int .i64 v4,.string nm4,.string fl4,.slice lp4 ln4 lc4,.int .i64 p4]):=hid_as (Bk.freshS _ _ _ _ _);have EX:Hid (Et (fun x=>w3.heap.size≤x) ((w4.setCell ⟨w1.heap.size,5,none⟩ (.slice (some ⟨w4.heap.size,0,none⟩) 1 1)).alloc (.cells #[.int .i64 o4,.int .i64 kd4,.int .i64 v4,.string nm4,.string fl4,.slice lp4 ln4 lc4,.int .i64 p4] 53)) (.agg #[.int .i64 o4,.int .i64 kd4,.int .i64 v4,.string nm4,.string fl4,.slice lp4 ln4 lc4,.int .i64 p4]) t4):=hid_as ((E4.out.set (g:=w1.heap.size) (by show ¬ (_≤_);omega) _ _).alloc _))
    | (go_at_call 87;(with_reducible refine (C.out _ i4 ((R4.out.other (b:=w1.heap.size) (by omega) (by omega) _ _).alloc _)).mono ?_);rintro e w5 ⟨k5,⟨_,i5,_,m5,rfl,rfl,r5,l5⟩ | ⟨n5,i5,m5,rfl⟩⟩;rotate_left;exact And.intro rfl (Outc.stop M4.out m5 (((K4.out.set (g:=w1.heap.size) (by omega) _ _).alloc _).trans k5));have R5:=hid_as r5;have K5:=hid_as (((K4.out.set (g:=w1.heap.size) (by omega) _ _).alloc _).trans k5);have M5:=hid_as (th_go M4.out m5);have B5:=hid_as (BX.out.kp k5 (by omega));have V5:=hid_as (VX.out.kp k5 (by omega));have G5:=hid_as (GX.out.kp k5 (by omega));have E5:=hid_as (EX.out.kp k5 (by show ¬ (_≤_);omega));have z5:=K5.out.size;have q5:=k5.size;(try rw [World.size_alloc] at q5);have J5:=hid_as k5;clear k5 r5 m5;clear u0 u1 u2 u3 u4 u5 u6 uf;obtain ⟨s0,s1,s2,s3,s4,s5,s6⟩:=bk7 B5.out;have sf:=B5.out.fr;obtain ⟨u0,u1,u2,u3,u4,u5,u6⟩:=bk7 V5.out;have uf:=V5.out.fr))
  exact bodyPost_ret (v:=.agg #[.int .i64 2,.int .i64 0,.int .i64 0,.string (tx tt),.string ⟨#[]⟩,.slice (some ⟨w4.heap.size,0,none⟩) 1 1,.int .i64 pl]) (by simp [results,Tryz.results190,go_sem,s0,s1,s2,s3,s4,s5,s6]) rfl ⟨K5.out.put7 (by omega) _ _ _ _ _ _ _,Or.inl ⟨_,_,_,M5.out,rfl,⟨_,_,_,_,_,_,_,_,_,rfl,(((Et.node1 (d:=⟨2,0,0,tt,[],pl,1⟩) rfl (Nat.le_refl _) q4 G5.out.lt G5.out.fr (RowE.of_bk G5.out) E5.out)).set7 (by show ¬ (_≤_);omega) _ _ _ _ _ _ _).into (fun x (hx:w3.heap.size≤x) _=>(by show w.heap.size≤x;omega))⟩,R5.out.put7 (by omega) (by omega) _ _ _ _ _ _ _,(by omega)⟩⟩
end Go.Proofs.YtapcpjidgemggaaGreatDoor
