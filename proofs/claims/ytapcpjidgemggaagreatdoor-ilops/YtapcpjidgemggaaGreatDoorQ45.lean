/- A statement (stage 13). -/
import Derived.Test.YtapcpjidgemggaaGreatDoorQ42
import Derived.Test.YtapcpjidgemggaaGreatDoorQ43
import Derived.Test.YtapcpjidgemggaaGreatDoorQ44
namespace Go.Proofs.YtapcpjidgemggaaGreatDoor
open Go.RowKit
open Adr Lx Sx
set_option maxHeartbeats 4000000 in
set_option maxRecDepth 100000 in
theorem beginsStmt_c {w:World} {rb tb cap:Nat} {T:TL} {i:Nat} (h:Rd w rb tb cap T i):Calls Tryz.prog 134 #[.pointer (some ⟨rb,0,none⟩)] w fun e w'=>e=.returned (.bool (bgs T i))∧Below w.heap.size w w':=by
  have N0:=hid_as (fun W (H:Rd W rb tb cap T i)=>now_c H)
  have F0:=fd0
  have F3:=fd3
  have H:=hid_as h
  have hb:bgs T i=(((cu T i).1.text == [59]) || ((cu T i).1.text == [73,70]) || ((cu T i).1.text == [67,65,83,69]) || ((cu T i).1.text == [70,79,82]) || ((cu T i).1.text == [87,72,73,76,69]) || ((cu T i).1.text == [82,69,80,69,65,84]) || ((cu T i).1.text == [69,88,73,84]) || ((cu T i).1.text == [82,69,84,85,82,78]) || decide ((cu T i).1.tok=2)):=rfl
  rw [hb]
  unfold tv at N0
  clear h hb
  generalize cu T i=c at *
  obtain ⟨⟨ta,tk,tn,tt⟩,pl⟩:=c
  simp only at N0 ⊢
  rw [show decide (ta=2)=decide ((ta:Int)=2) from decide_eq_decide.2 (by omega)]
  go_enter Tryz.func134,Tryz.ntmps134
  go_wp2_with (first
    | (go_at_call 136;(with_reducible refine (N0.out _ H.out).mono ?_);rintro e w1 ⟨rfl,b1⟩;have R1:=hid_as (H.out.below b1);have K1:=hid_as b1;clear b1)
    | (go_at_call 136;(with_reducible refine (N0.out _ R1.out).mono ?_);rintro e w2 ⟨rfl,b2⟩;have K2:=hid_as (below_and K1.out b2);clear b2))
  all_goals go_ret
  all_goals refine ⟨ret_bool ?_,by first | exact K2.out | exact K1.out⟩
  all_goals simp only [tx_toList] at *
  all_goals grind
set_option maxHeartbeats 4000000 in
set_option maxRecDepth 100000 in
theorem p_behind_0 {w:World} {rb tb cap:Nat} {T:TL} {i:Nat} (h:Rd w rb tb cap T i) (ta tk:Nat) (tn:Int) (tt:List UInt8) (pl:Nat) (inn:Int) (s:Nat→Re (List Nat)) (S:Hid (∀ W i,Rd W rb tb cap T i→Calls Tryz.prog 90 #[.pointer (some ⟨rb,0,none⟩),.int .i64 inn] W fun e w'=>Outc rb tb cap T i W (s i) (qSs W) e w')) (y0:(tt == [73,70])=true):Calls Tryz.prog 158 #[.pointer (some ⟨rb,0,none⟩),.agg #[.int .i64 ta,.int .i64 tk,.int .i64 tn,.string (tx tt),.int .i64 pl],.int .i64 inn] w fun e w'=>Outc rb tb cap T i w (sbe T s (⟨ta,tk,tn,tt⟩,pl) i) (qSt w) e w':=by
  have hrl:=h.rlt
  have htl:=h.lt
  have B0:Hid (Bk ((w.alloc (.cells #[.int .i64 ta,.int .i64 tk,.int .i64 tn,.string (tx tt),.int .i64 pl] 42)).alloc (.cells #[.int .i64 0,.int .i64 0,.int .i64 0,.int .i64 0,.string ⟨#[]⟩,.string ⟨#[]⟩,.slice none 0 0,.int .i64 0,.slice none 0 0,.slice none 0 0,.slice none 0 0,.slice none 0 0,.int .i64 0] 114)) (w.heap.size+1) #[.int .i64 0,.int .i64 0,.int .i64 0,.int .i64 0,.string ⟨#[]⟩,.string ⟨#[]⟩,.slice none 0 0,.int .i64 0,.slice none 0 0,.slice none 0 0,.slice none 0 0,.slice none 0 0,.int .i64 0]):=by
    have q:=Bk.fresh (w.alloc (.cells #[.int .i64 ta,.int .i64 tk,.int .i64 tn,.string (tx tt),.int .i64 pl] 42)) #[.int .i64 0,.int .i64 0,.int .i64 0,.int .i64 0,.string ⟨#[]⟩,.string ⟨#[]⟩,.slice none 0 0,.int .i64 0,.slice none 0 0,.slice none 0 0,.slice none 0 0,.slice none 0 0,.int .i64 0] 114
    rw [World.size_alloc] at q
    exact hid_as q
  have V0:Hid (Bk ((w.alloc (.cells #[.int .i64 ta,.int .i64 tk,.int .i64 tn,.string (tx tt),.int .i64 pl] 42)).alloc (.cells #[.int .i64 0,.int .i64 0,.int .i64 0,.int .i64 0,.string ⟨#[]⟩,.string ⟨#[]⟩,.slice none 0 0,.int .i64 0,.slice none 0 0,.slice none 0 0,.slice none 0 0,.slice none 0 0,.int .i64 0] 114)) w.heap.size #[.int .i64 ta,.int .i64 tk,.int .i64 tn,.string (tx tt),.int .i64 pl]):=hid_as ((Bk.fresh w #[.int .i64 ta,.int .i64 tk,.int .i64 tn,.string (tx tt),.int .i64 pl] 42).alloc _)
  have K0:=hid_as (((Kp.refl rb w).alloc (.cells #[.int .i64 ta,.int .i64 tk,.int .i64 tn,.string (tx tt),.int .i64 pl] 42)).alloc (.cells #[.int .i64 0,.int .i64 0,.int .i64 0,.int .i64 0,.string ⟨#[]⟩,.string ⟨#[]⟩,.slice none 0 0,.int .i64 0,.slice none 0 0,.slice none 0 0,.slice none 0 0,.slice none 0 0,.int .i64 0] 114))
  have H:=hid_as ((h.alloc (.cells #[.int .i64 ta,.int .i64 tk,.int .i64 tn,.string (tx tt),.int .i64 pl] 42)).alloc (.cells #[.int .i64 0,.int .i64 0,.int .i64 0,.int .i64 0,.string ⟨#[]⟩,.string ⟨#[]⟩,.slice none 0 0,.int .i64 0,.slice none 0 0,.slice none 0 0,.slice none 0 0,.slice none 0 0,.int .i64 0] 114))
  have em:sbe T s (⟨ta,tk,tn,tt⟩,pl) i=ifS T s i:=by unfold sbe;rw [if_pos y0]
  generalize sbe T s (⟨ta,tk,tn,tt⟩,pl) i=M at *
  have M0:=hid_as em
  have C:=hid_as (fun W i (H:Rd W rb tb cap T i)=>p_ifStmt H inn s S)
  have e0:((tx tt).toList == [73,70])=true:=by rw [tx_toList];exact y0
  clear h em y0
  go_enter Tryz.func158,Tryz.ntmps158
  go_wp2_with (first
    | (go_at_call 175;(with_reducible refine (C.out _ i H.out).mono ?_);rintro e w1 ⟨k1,⟨x1_0,i1,_,m1,rfl,⟨x1_1,x1_2,x1_3,x1_4,x1_5,a1_6,b1_6,c1_6,x1_7,a1_8,b1_8,c1_8,a1_9,b1_9,c1_9,a1_10,b1_10,c1_10,a1_11,b1_11,c1_11,x1_12,rfl⟩,r1,l1⟩ | ⟨n1,i1,m1,rfl⟩⟩;rotate_left;exact And.intro rfl (Outc.stop0 M0.out m1 ((K0.out).trans k1));have R1:=hid_as r1;have K1:=hid_as ((K0.out).trans k1);have M1:=hid_as (M0.out.trans m1);have B1:=hid_as (B0.out.kp k1 (by omega));have z1:=K1.out.size;have q1:=k1.size;(try rw [World.size_alloc] at q1);have J1:=hid_as k1;clear k1 r1 m1;obtain ⟨s0,s1,s2,s3,s4,s5,s6,s7,s8,s9,s10,s11,s12⟩:=bk13 B1.out;have sf:=B1.out.fr))
  exact bodyPost_ret (v:=.agg #[.int .i64 (x1_0:Nat),.int .i64 x1_1,.int .i64 x1_2,.int .i64 x1_3,.string x1_4,.string x1_5,.slice a1_6 b1_6 c1_6,.int .i64 x1_7,.slice a1_8 b1_8 c1_8,.slice a1_9 b1_9 c1_9,.slice a1_10 b1_10 c1_10,.slice a1_11 b1_11 c1_11,.int .i64 x1_12]) (by simp [results,Tryz.results158,go_sem,s0,s1,s2,s3,s4,s5,s6,s7,s8,s9,s10,s11,s12]) rfl ⟨K1.out.put13 (by omega) _ _ _ _ _ _ _ _ _ _ _ _ _,Or.inl ⟨x1_0,_,_,M1.out,rfl,⟨_,_,_,_,_,_,_,_,_,_,_,_,_,_,_,_,_,_,_,_,_,_,rfl⟩,R1.out.put13 (by omega) (by omega) _ _ _ _ _ _ _ _ _ _ _ _ _,l1⟩⟩
set_option maxHeartbeats 4000000 in
set_option maxRecDepth 100000 in
theorem p_behind_1 {w:World} {rb tb cap:Nat} {T:TL} {i:Nat} (h:Rd w rb tb cap T i) (ta tk:Nat) (tn:Int) (tt:List UInt8) (pl:Nat) (inn:Int) (s:Nat→Re (List Nat)) (S:Hid (∀ W i,Rd W rb tb cap T i→Calls Tryz.prog 90 #[.pointer (some ⟨rb,0,none⟩),.int .i64 inn] W fun e w'=>Outc rb tb cap T i W (s i) (qSs W) e w')) (n0:(tt == [73,70])=false) (y1:(tt == [67,65,83,69])=true):Calls Tryz.prog 158 #[.pointer (some ⟨rb,0,none⟩),.agg #[.int .i64 ta,.int .i64 tk,.int .i64 tn,.string (tx tt),.int .i64 pl],.int .i64 inn] w fun e w'=>Outc rb tb cap T i w (sbe T s (⟨ta,tk,tn,tt⟩,pl) i) (qSt w) e w':=by
  have hrl:=h.rlt
  have htl:=h.lt
  have B0:Hid (Bk ((w.alloc (.cells #[.int .i64 ta,.int .i64 tk,.int .i64 tn,.string (tx tt),.int .i64 pl] 42)).alloc (.cells #[.int .i64 0,.int .i64 0,.int .i64 0,.int .i64 0,.string ⟨#[]⟩,.string ⟨#[]⟩,.slice none 0 0,.int .i64 0,.slice none 0 0,.slice none 0 0,.slice none 0 0,.slice none 0 0,.int .i64 0] 114)) (w.heap.size+1) #[.int .i64 0,.int .i64 0,.int .i64 0,.int .i64 0,.string ⟨#[]⟩,.string ⟨#[]⟩,.slice none 0 0,.int .i64 0,.slice none 0 0,.slice none 0 0,.slice none 0 0,.slice none 0 0,.int .i64 0]):=by
    have q:=Bk.fresh (w.alloc (.cells #[.int .i64 ta,.int .i64 tk,.int .i64 tn,.string (tx tt),.int .i64 pl] 42)) #[.int .i64 0,.int .i64 0,.int .i64 0,.int .i64 0,.string ⟨#[]⟩,.string ⟨#[]⟩,.slice none 0 0,.int .i64 0,.slice none 0 0,.slice none 0 0,.slice none 0 0,.slice none 0 0,.int .i64 0] 114
    rw [World.size_alloc] at q
    exact hid_as q
  have V0:Hid (Bk ((w.alloc (.cells #[.int .i64 ta,.int .i64 tk,.int .i64 tn,.string (tx tt),.int .i64 pl] 42)).alloc (.cells #[.int .i64 0,.int .i64 0,.int .i64 0,.int .i64 0,.string ⟨#[]⟩,.string ⟨#[]⟩,.slice none 0 0,.int .i64 0,.slice none 0 0,.slice none 0 0,.slice none 0 0,.slice none 0 0,.int .i64 0] 114)) w.heap.size #[.int .i64 ta,.int .i64 tk,.int .i64 tn,.string (tx tt),.int .i64 pl]):=hid_as ((Bk.fresh w #[.int .i64 ta,.int .i64 tk,.int .i64 tn,.string (tx tt),.int .i64 pl] 42).alloc _)
  have K0:=hid_as (((Kp.refl rb w).alloc (.cells #[.int .i64 ta,.int .i64 tk,.int .i64 tn,.string (tx tt),.int .i64 pl] 42)).alloc (.cells #[.int .i64 0,.int .i64 0,.int .i64 0,.int .i64 0,.string ⟨#[]⟩,.string ⟨#[]⟩,.slice none 0 0,.int .i64 0,.slice none 0 0,.slice none 0 0,.slice none 0 0,.slice none 0 0,.int .i64 0] 114))
  have H:=hid_as ((h.alloc (.cells #[.int .i64 ta,.int .i64 tk,.int .i64 tn,.string (tx tt),.int .i64 pl] 42)).alloc (.cells #[.int .i64 0,.int .i64 0,.int .i64 0,.int .i64 0,.string ⟨#[]⟩,.string ⟨#[]⟩,.slice none 0 0,.int .i64 0,.slice none 0 0,.slice none 0 0,.slice none 0 0,.slice none 0 0,.int .i64 0] 114))
  have em:sbe T s (⟨ta,tk,tn,tt⟩,pl) i=casS T s i:=by unfold sbe;rw [n0,if_neg Bool.false_ne_true,if_pos y1]
  generalize sbe T s (⟨ta,tk,tn,tt⟩,pl) i=M at *
  have M0:=hid_as em
  have C:=hid_as (fun W i (H:Rd W rb tb cap T i)=>p_caseStmt H inn s S)
  have m0:((tx tt).toList == [73,70])=false:=by rw [tx_toList];exact n0
  have e1:((tx tt).toList == [67,65,83,69])=true:=by rw [tx_toList];exact y1
  clear h em n0 y1
  go_enter Tryz.func158,Tryz.ntmps158
  go_wp2_with (first
    | (go_at_call 176;(with_reducible refine (C.out _ i H.out).mono ?_);rintro e w1 ⟨k1,⟨x1_0,i1,_,m1,rfl,⟨x1_1,x1_2,x1_3,x1_4,x1_5,a1_6,b1_6,c1_6,x1_7,a1_8,b1_8,c1_8,a1_9,b1_9,c1_9,a1_10,b1_10,c1_10,a1_11,b1_11,c1_11,x1_12,rfl⟩,r1,l1⟩ | ⟨n1,i1,m1,rfl⟩⟩;rotate_left;exact And.intro rfl (Outc.stop0 M0.out m1 ((K0.out).trans k1));have R1:=hid_as r1;have K1:=hid_as ((K0.out).trans k1);have M1:=hid_as (M0.out.trans m1);have B1:=hid_as (B0.out.kp k1 (by omega));have z1:=K1.out.size;have q1:=k1.size;(try rw [World.size_alloc] at q1);have J1:=hid_as k1;clear k1 r1 m1;obtain ⟨s0,s1,s2,s3,s4,s5,s6,s7,s8,s9,s10,s11,s12⟩:=bk13 B1.out;have sf:=B1.out.fr))
  exact bodyPost_ret (v:=.agg #[.int .i64 (x1_0:Nat),.int .i64 x1_1,.int .i64 x1_2,.int .i64 x1_3,.string x1_4,.string x1_5,.slice a1_6 b1_6 c1_6,.int .i64 x1_7,.slice a1_8 b1_8 c1_8,.slice a1_9 b1_9 c1_9,.slice a1_10 b1_10 c1_10,.slice a1_11 b1_11 c1_11,.int .i64 x1_12]) (by simp [results,Tryz.results158,go_sem,s0,s1,s2,s3,s4,s5,s6,s7,s8,s9,s10,s11,s12]) rfl ⟨K1.out.put13 (by omega) _ _ _ _ _ _ _ _ _ _ _ _ _,Or.inl ⟨x1_0,_,_,M1.out,rfl,⟨_,_,_,_,_,_,_,_,_,_,_,_,_,_,_,_,_,_,_,_,_,_,rfl⟩,R1.out.put13 (by omega) (by omega) _ _ _ _ _ _ _ _ _ _ _ _ _,l1⟩⟩
set_option maxHeartbeats 4000000 in
set_option maxRecDepth 100000 in
theorem p_behind_2 {w:World} {rb tb cap:Nat} {T:TL} {i:Nat} (h:Rd w rb tb cap T i) (ta tk:Nat) (tn:Int) (tt:List UInt8) (pl:Nat) (inn:Int) (s:Nat→Re (List Nat)) (S:Hid (∀ W i,Rd W rb tb cap T i→Calls Tryz.prog 90 #[.pointer (some ⟨rb,0,none⟩),.int .i64 inn] W fun e w'=>Outc rb tb cap T i W (s i) (qSs W) e w')) (n0:(tt == [73,70])=false) (n1:(tt == [67,65,83,69])=false) (y2:(tt == [70,79,82])=true):Calls Tryz.prog 158 #[.pointer (some ⟨rb,0,none⟩),.agg #[.int .i64 ta,.int .i64 tk,.int .i64 tn,.string (tx tt),.int .i64 pl],.int .i64 inn] w fun e w'=>Outc rb tb cap T i w (sbe T s (⟨ta,tk,tn,tt⟩,pl) i) (qSt w) e w':=by
  have hrl:=h.rlt
  have htl:=h.lt
  have B0:Hid (Bk ((w.alloc (.cells #[.int .i64 ta,.int .i64 tk,.int .i64 tn,.string (tx tt),.int .i64 pl] 42)).alloc (.cells #[.int .i64 0,.int .i64 0,.int .i64 0,.int .i64 0,.string ⟨#[]⟩,.string ⟨#[]⟩,.slice none 0 0,.int .i64 0,.slice none 0 0,.slice none 0 0,.slice none 0 0,.slice none 0 0,.int .i64 0] 114)) (w.heap.size+1) #[.int .i64 0,.int .i64 0,.int .i64 0,.int .i64 0,.string ⟨#[]⟩,.string ⟨#[]⟩,.slice none 0 0,.int .i64 0,.slice none 0 0,.slice none 0 0,.slice none 0 0,.slice none 0 0,.int .i64 0]):=by
    have q:=Bk.fresh (w.alloc (.cells #[.int .i64 ta,.int .i64 tk,.int .i64 tn,.string (tx tt),.int .i64 pl] 42)) #[.int .i64 0,.int .i64 0,.int .i64 0,.int .i64 0,.string ⟨#[]⟩,.string ⟨#[]⟩,.slice none 0 0,.int .i64 0,.slice none 0 0,.slice none 0 0,.slice none 0 0,.slice none 0 0,.int .i64 0] 114
    rw [World.size_alloc] at q
    exact hid_as q
  have V0:Hid (Bk ((w.alloc (.cells #[.int .i64 ta,.int .i64 tk,.int .i64 tn,.string (tx tt),.int .i64 pl] 42)).alloc (.cells #[.int .i64 0,.int .i64 0,.int .i64 0,.int .i64 0,.string ⟨#[]⟩,.string ⟨#[]⟩,.slice none 0 0,.int .i64 0,.slice none 0 0,.slice none 0 0,.slice none 0 0,.slice none 0 0,.int .i64 0] 114)) w.heap.size #[.int .i64 ta,.int .i64 tk,.int .i64 tn,.string (tx tt),.int .i64 pl]):=hid_as ((Bk.fresh w #[.int .i64 ta,.int .i64 tk,.int .i64 tn,.string (tx tt),.int .i64 pl] 42).alloc _)
  have K0:=hid_as (((Kp.refl rb w).alloc (.cells #[.int .i64 ta,.int .i64 tk,.int .i64 tn,.string (tx tt),.int .i64 pl] 42)).alloc (.cells #[.int .i64 0,.int .i64 0,.int .i64 0,.int .i64 0,.string ⟨#[]⟩,.string ⟨#[]⟩,.slice none 0 0,.int .i64 0,.slice none 0 0,.slice none 0 0,.slice none 0 0,.slice none 0 0,.int .i64 0] 114))
  have H:=hid_as ((h.alloc (.cells #[.int .i64 ta,.int .i64 tk,.int .i64 tn,.string (tx tt),.int .i64 pl] 42)).alloc (.cells #[.int .i64 0,.int .i64 0,.int .i64 0,.int .i64 0,.string ⟨#[]⟩,.string ⟨#[]⟩,.slice none 0 0,.int .i64 0,.slice none 0 0,.slice none 0 0,.slice none 0 0,.slice none 0 0,.int .i64 0] 114))
  have em:sbe T s (⟨ta,tk,tn,tt⟩,pl) i=forS T s i:=by unfold sbe;rw [n0,if_neg Bool.false_ne_true,n1,if_neg Bool.false_ne_true,if_pos y2]
  generalize sbe T s (⟨ta,tk,tn,tt⟩,pl) i=M at *
  have M0:=hid_as em
  have C:=hid_as (fun W i (H:Rd W rb tb cap T i)=>p_forStmt H inn s S)
  have m0:((tx tt).toList == [73,70])=false:=by rw [tx_toList];exact n0
  have m1:((tx tt).toList == [67,65,83,69])=false:=by rw [tx_toList];exact n1
  have e2:((tx tt).toList == [70,79,82])=true:=by rw [tx_toList];exact y2
  clear h em n0 n1 y2
  go_enter Tryz.func158,Tryz.ntmps158
  go_wp2_with (first
    | (go_at_call 177;(with_reducible refine (C.out _ i H.out).mono ?_);rintro e w1 ⟨k1,⟨x1_0,i1,_,m1,rfl,⟨x1_1,x1_2,x1_3,x1_4,x1_5,a1_6,b1_6,c1_6,x1_7,a1_8,b1_8,c1_8,a1_9,b1_9,c1_9,a1_10,b1_10,c1_10,a1_11,b1_11,c1_11,x1_12,rfl⟩,r1,l1⟩ | ⟨n1,i1,m1,rfl⟩⟩;rotate_left;exact And.intro rfl (Outc.stop0 M0.out m1 ((K0.out).trans k1));have R1:=hid_as r1;have K1:=hid_as ((K0.out).trans k1);have M1:=hid_as (M0.out.trans m1);have B1:=hid_as (B0.out.kp k1 (by omega));have z1:=K1.out.size;have q1:=k1.size;(try rw [World.size_alloc] at q1);have J1:=hid_as k1;clear k1 r1 m1;obtain ⟨s0,s1,s2,s3,s4,s5,s6,s7,s8,s9,s10,s11,s12⟩:=bk13 B1.out;have sf:=B1.out.fr))
  exact bodyPost_ret (v:=.agg #[.int .i64 (x1_0:Nat),.int .i64 x1_1,.int .i64 x1_2,.int .i64 x1_3,.string x1_4,.string x1_5,.slice a1_6 b1_6 c1_6,.int .i64 x1_7,.slice a1_8 b1_8 c1_8,.slice a1_9 b1_9 c1_9,.slice a1_10 b1_10 c1_10,.slice a1_11 b1_11 c1_11,.int .i64 x1_12]) (by simp [results,Tryz.results158,go_sem,s0,s1,s2,s3,s4,s5,s6,s7,s8,s9,s10,s11,s12]) rfl ⟨K1.out.put13 (by omega) _ _ _ _ _ _ _ _ _ _ _ _ _,Or.inl ⟨x1_0,_,_,M1.out,rfl,⟨_,_,_,_,_,_,_,_,_,_,_,_,_,_,_,_,_,_,_,_,_,_,rfl⟩,R1.out.put13 (by omega) (by omega) _ _ _ _ _ _ _ _ _ _ _ _ _,l1⟩⟩
set_option maxHeartbeats 4000000 in
set_option maxRecDepth 100000 in
theorem p_behind_3 {w:World} {rb tb cap:Nat} {T:TL} {i:Nat} (h:Rd w rb tb cap T i) (ta tk:Nat) (tn:Int) (tt:List UInt8) (pl:Nat) (inn:Int) (s:Nat→Re (List Nat)) (S:Hid (∀ W i,Rd W rb tb cap T i→Calls Tryz.prog 90 #[.pointer (some ⟨rb,0,none⟩),.int .i64 inn] W fun e w'=>Outc rb tb cap T i W (s i) (qSs W) e w')) (n0:(tt == [73,70])=false) (n1:(tt == [67,65,83,69])=false) (n2:(tt == [70,79,82])=false) (y3:(tt == [87,72,73,76,69])=true):Calls Tryz.prog 158 #[.pointer (some ⟨rb,0,none⟩),.agg #[.int .i64 ta,.int .i64 tk,.int .i64 tn,.string (tx tt),.int .i64 pl],.int .i64 inn] w fun e w'=>Outc rb tb cap T i w (sbe T s (⟨ta,tk,tn,tt⟩,pl) i) (qSt w) e w':=by
  have hrl:=h.rlt
  have htl:=h.lt
  have B0:Hid (Bk ((w.alloc (.cells #[.int .i64 ta,.int .i64 tk,.int .i64 tn,.string (tx tt),.int .i64 pl] 42)).alloc (.cells #[.int .i64 0,.int .i64 0,.int .i64 0,.int .i64 0,.string ⟨#[]⟩,.string ⟨#[]⟩,.slice none 0 0,.int .i64 0,.slice none 0 0,.slice none 0 0,.slice none 0 0,.slice none 0 0,.int .i64 0] 114)) (w.heap.size+1) #[.int .i64 0,.int .i64 0,.int .i64 0,.int .i64 0,.string ⟨#[]⟩,.string ⟨#[]⟩,.slice none 0 0,.int .i64 0,.slice none 0 0,.slice none 0 0,.slice none 0 0,.slice none 0 0,.int .i64 0]):=by
    have q:=Bk.fresh (w.alloc (.cells #[.int .i64 ta,.int .i64 tk,.int .i64 tn,.string (tx tt),.int .i64 pl] 42)) #[.int .i64 0,.int .i64 0,.int .i64 0,.int .i64 0,.string ⟨#[]⟩,.string ⟨#[]⟩,.slice none 0 0,.int .i64 0,.slice none 0 0,.slice none 0 0,.slice none 0 0,.slice none 0 0,.int .i64 0] 114
    rw [World.size_alloc] at q
    exact hid_as q
  have V0:Hid (Bk ((w.alloc (.cells #[.int .i64 ta,.int .i64 tk,.int .i64 tn,.string (tx tt),.int .i64 pl] 42)).alloc (.cells #[.int .i64 0,.int .i64 0,.int .i64 0,.int .i64 0,.string ⟨#[]⟩,.string ⟨#[]⟩,.slice none 0 0,.int .i64 0,.slice none 0 0,.slice none 0 0,.slice none 0 0,.slice none 0 0,.int .i64 0] 114)) w.heap.size #[.int .i64 ta,.int .i64 tk,.int .i64 tn,.string (tx tt),.int .i64 pl]):=hid_as ((Bk.fresh w #[.int .i64 ta,.int .i64 tk,.int .i64 tn,.string (tx tt),.int .i64 pl] 42).alloc _)
  have K0:=hid_as (((Kp.refl rb w).alloc (.cells #[.int .i64 ta,.int .i64 tk,.int .i64 tn,.string (tx tt),.int .i64 pl] 42)).alloc (.cells #[.int .i64 0,.int .i64 0,.int .i64 0,.int .i64 0,.string ⟨#[]⟩,.string ⟨#[]⟩,.slice none 0 0,.int .i64 0,.slice none 0 0,.slice none 0 0,.slice none 0 0,.slice none 0 0,.int .i64 0] 114))
  have H:=hid_as ((h.alloc (.cells #[.int .i64 ta,.int .i64 tk,.int .i64 tn,.string (tx tt),.int .i64 pl] 42)).alloc (.cells #[.int .i64 0,.int .i64 0,.int .i64 0,.int .i64 0,.string ⟨#[]⟩,.string ⟨#[]⟩,.slice none 0 0,.int .i64 0,.slice none 0 0,.slice none 0 0,.slice none 0 0,.slice none 0 0,.int .i64 0] 114))
  have em:sbe T s (⟨ta,tk,tn,tt⟩,pl) i=whiS T s i:=by unfold sbe;rw [n0,if_neg Bool.false_ne_true,n1,if_neg Bool.false_ne_true,n2,if_neg Bool.false_ne_true,if_pos y3]
  generalize sbe T s (⟨ta,tk,tn,tt⟩,pl) i=M at *
  have M0:=hid_as em
  have C:=hid_as (fun W i (H:Rd W rb tb cap T i)=>p_whileStmt H inn s S)
  have m0:((tx tt).toList == [73,70])=false:=by rw [tx_toList];exact n0
  have m1:((tx tt).toList == [67,65,83,69])=false:=by rw [tx_toList];exact n1
  have m2:((tx tt).toList == [70,79,82])=false:=by rw [tx_toList];exact n2
  have e3:((tx tt).toList == [87,72,73,76,69])=true:=by rw [tx_toList];exact y3
  clear h em n0 n1 n2 y3
  go_enter Tryz.func158,Tryz.ntmps158
  go_wp2_with (first
    | (go_at_call 178;(with_reducible refine (C.out _ i H.out).mono ?_);rintro e w1 ⟨k1,⟨x1_0,i1,_,m1,rfl,⟨x1_1,x1_2,x1_3,x1_4,x1_5,a1_6,b1_6,c1_6,x1_7,a1_8,b1_8,c1_8,a1_9,b1_9,c1_9,a1_10,b1_10,c1_10,a1_11,b1_11,c1_11,x1_12,rfl⟩,r1,l1⟩ | ⟨n1,i1,m1,rfl⟩⟩;rotate_left;exact And.intro rfl (Outc.stop0 M0.out m1 ((K0.out).trans k1));have R1:=hid_as r1;have K1:=hid_as ((K0.out).trans k1);have M1:=hid_as (M0.out.trans m1);have B1:=hid_as (B0.out.kp k1 (by omega));have z1:=K1.out.size;have q1:=k1.size;(try rw [World.size_alloc] at q1);have J1:=hid_as k1;clear k1 r1 m1;obtain ⟨s0,s1,s2,s3,s4,s5,s6,s7,s8,s9,s10,s11,s12⟩:=bk13 B1.out;have sf:=B1.out.fr))
  exact bodyPost_ret (v:=.agg #[.int .i64 (x1_0:Nat),.int .i64 x1_1,.int .i64 x1_2,.int .i64 x1_3,.string x1_4,.string x1_5,.slice a1_6 b1_6 c1_6,.int .i64 x1_7,.slice a1_8 b1_8 c1_8,.slice a1_9 b1_9 c1_9,.slice a1_10 b1_10 c1_10,.slice a1_11 b1_11 c1_11,.int .i64 x1_12]) (by simp [results,Tryz.results158,go_sem,s0,s1,s2,s3,s4,s5,s6,s7,s8,s9,s10,s11,s12]) rfl ⟨K1.out.put13 (by omega) _ _ _ _ _ _ _ _ _ _ _ _ _,Or.inl ⟨x1_0,_,_,M1.out,rfl,⟨_,_,_,_,_,_,_,_,_,_,_,_,_,_,_,_,_,_,_,_,_,_,rfl⟩,R1.out.put13 (by omega) (by omega) _ _ _ _ _ _ _ _ _ _ _ _ _,l1⟩⟩
set_option maxHeartbeats 4000000 in
set_option maxRecDepth 100000 in
theorem p_behind_4 {w:World} {rb tb cap:Nat} {T:TL} {i:Nat} (h:Rd w rb tb cap T i) (ta tk:Nat) (tn:Int) (tt:List UInt8) (pl:Nat) (inn:Int) (s:Nat→Re (List Nat)) (S:Hid (∀ W i,Rd W rb tb cap T i→Calls Tryz.prog 90 #[.pointer (some ⟨rb,0,none⟩),.int .i64 inn] W fun e w'=>Outc rb tb cap T i W (s i) (qSs W) e w')) (n0:(tt == [73,70])=false) (n1:(tt == [67,65,83,69])=false) (n2:(tt == [70,79,82])=false) (n3:(tt == [87,72,73,76,69])=false) (y4:(tt == [82,69,80,69,65,84])=true):Calls Tryz.prog 158 #[.pointer (some ⟨rb,0,none⟩),.agg #[.int .i64 ta,.int .i64 tk,.int .i64 tn,.string (tx tt),.int .i64 pl],.int .i64 inn] w fun e w'=>Outc rb tb cap T i w (sbe T s (⟨ta,tk,tn,tt⟩,pl) i) (qSt w) e w':=by
  have hrl:=h.rlt
  have htl:=h.lt
  have B0:Hid (Bk ((w.alloc (.cells #[.int .i64 ta,.int .i64 tk,.int .i64 tn,.string (tx tt),.int .i64 pl] 42)).alloc (.cells #[.int .i64 0,.int .i64 0,.int .i64 0,.int .i64 0,.string ⟨#[]⟩,.string ⟨#[]⟩,.slice none 0 0,.int .i64 0,.slice none 0 0,.slice none 0 0,.slice none 0 0,.slice none 0 0,.int .i64 0] 114)) (w.heap.size+1) #[.int .i64 0,.int .i64 0,.int .i64 0,.int .i64 0,.string ⟨#[]⟩,.string ⟨#[]⟩,.slice none 0 0,.int .i64 0,.slice none 0 0,.slice none 0 0,.slice none 0 0,.slice none 0 0,.int .i64 0]):=by
    have q:=Bk.fresh (w.alloc (.cells #[.int .i64 ta,.int .i64 tk,.int .i64 tn,.string (tx tt),.int .i64 pl] 42)) #[.int .i64 0,.int .i64 0,.int .i64 0,.int .i64 0,.string ⟨#[]⟩,.string ⟨#[]⟩,.slice none 0 0,.int .i64 0,.slice none 0 0,.slice none 0 0,.slice none 0 0,.slice none 0 0,.int .i64 0] 114
    rw [World.size_alloc] at q
    exact hid_as q
  have V0:Hid (Bk ((w.alloc (.cells #[.int .i64 ta,.int .i64 tk,.int .i64 tn,.string (tx tt),.int .i64 pl] 42)).alloc (.cells #[.int .i64 0,.int .i64 0,.int .i64 0,.int .i64 0,.string ⟨#[]⟩,.string ⟨#[]⟩,.slice none 0 0,.int .i64 0,.slice none 0 0,.slice none 0 0,.slice none 0 0,.slice none 0 0,.int .i64 0] 114)) w.heap.size #[.int .i64 ta,.int .i64 tk,.int .i64 tn,.string (tx tt),.int .i64 pl]):=hid_as ((Bk.fresh w #[.int .i64 ta,.int .i64 tk,.int .i64 tn,.string (tx tt),.int .i64 pl] 42).alloc _)
  have K0:=hid_as (((Kp.refl rb w).alloc (.cells #[.int .i64 ta,.int .i64 tk,.int .i64 tn,.string (tx tt),.int .i64 pl] 42)).alloc (.cells #[.int .i64 0,.int .i64 0,.int .i64 0,.int .i64 0,.string ⟨#[]⟩,.string ⟨#[]⟩,.slice none 0 0,.int .i64 0,.slice none 0 0,.slice none 0 0,.slice none 0 0,.slice none 0 0,.int .i64 0] 114))
  have H:=hid_as ((h.alloc (.cells #[.int .i64 ta,.int .i64 tk,.int .i64 tn,.string (tx tt),.int .i64 pl] 42)).alloc (.cells #[.int .i64 0,.int .i64 0,.int .i64 0,.int .i64 0,.string ⟨#[]⟩,.string ⟨#[]⟩,.slice none 0 0,.int .i64 0,.slice none 0 0,.slice none 0 0,.slice none 0 0,.slice none 0 0,.int .i64 0] 114))
  have em:sbe T s (⟨ta,tk,tn,tt⟩,pl) i=repS T s i:=by unfold sbe;rw [n0,if_neg Bool.false_ne_true,n1,if_neg Bool.false_ne_true,n2,if_neg Bool.false_ne_true,n3,if_neg Bool.false_ne_true,if_pos y4]
  generalize sbe T s (⟨ta,tk,tn,tt⟩,pl) i=M at *
  have M0:=hid_as em
  have C:=hid_as (fun W i (H:Rd W rb tb cap T i)=>p_repeatStmt H inn s S)
  have m0:((tx tt).toList == [73,70])=false:=by rw [tx_toList];exact n0
  have m1:((tx tt).toList == [67,65,83,69])=false:=by rw [tx_toList];exact n1
  have m2:((tx tt).toList == [70,79,82])=false:=by rw [tx_toList];exact n2
  have m3:((tx tt).toList == [87,72,73,76,69])=false:=by rw [tx_toList];exact n3
  have e4:((tx tt).toList == [82,69,80,69,65,84])=true:=by rw [tx_toList];exact y4
  clear h em n0 n1 n2 n3 y4
  go_enter Tryz.func158,Tryz.ntmps158
  go_wp2_with (first
    | (go_at_call 179;(with_reducible refine (C.out _ i H.out).mono ?_);rintro e w1 ⟨k1,⟨x1_0,i1,_,m1,rfl,⟨x1_1,x1_2,x1_3,x1_4,x1_5,a1_6,b1_6,c1_6,x1_7,a1_8,b1_8,c1_8,a1_9,b1_9,c1_9,a1_10,b1_10,c1_10,a1_11,b1_11,c1_11,x1_12,rfl⟩,r1,l1⟩ | ⟨n1,i1,m1,rfl⟩⟩;rotate_left;exact And.intro rfl (Outc.stop0 M0.out m1 ((K0.out).trans k1));have R1:=hid_as r1;have K1:=hid_as ((K0.out).trans k1);have M1:=hid_as (M0.out.trans m1);have B1:=hid_as (B0.out.kp k1 (by omega));have z1:=K1.out.size;have q1:=k1.size;(try rw [World.size_alloc] at q1);have J1:=hid_as k1;clear k1 r1 m1;obtain ⟨s0,s1,s2,s3,s4,s5,s6,s7,s8,s9,s10,s11,s12⟩:=bk13 B1.out;have sf:=B1.out.fr))
  exact bodyPost_ret (v:=.agg #[.int .i64 (x1_0:Nat),.int .i64 x1_1,.int .i64 x1_2,.int .i64 x1_3,.string x1_4,.string x1_5,.slice a1_6 b1_6 c1_6,.int .i64 x1_7,.slice a1_8 b1_8 c1_8,.slice a1_9 b1_9 c1_9,.slice a1_10 b1_10 c1_10,.slice a1_11 b1_11 c1_11,.int .i64 x1_12]) (by simp [results,Tryz.results158,go_sem,s0,s1,s2,s3,s4,s5,s6,s7,s8,s9,s10,s11,s12]) rfl ⟨K1.out.put13 (by omega) _ _ _ _ _ _ _ _ _ _ _ _ _,Or.inl ⟨x1_0,_,_,M1.out,rfl,⟨_,_,_,_,_,_,_,_,_,_,_,_,_,_,_,_,_,_,_,_,_,_,rfl⟩,R1.out.put13 (by omega) (by omega) _ _ _ _ _ _ _ _ _ _ _ _ _,l1⟩⟩
set_option maxHeartbeats 4000000 in
set_option maxRecDepth 100000 in
theorem p_behind_5 {w:World} {rb tb cap:Nat} {T:TL} {i:Nat} (h:Rd w rb tb cap T i) (ta tk:Nat) (tn:Int) (tt:List UInt8) (pl:Nat) (inn:Int) (s:Nat→Re (List Nat)) (n0:(tt == [73,70])=false) (n1:(tt == [67,65,83,69])=false) (n2:(tt == [70,79,82])=false) (n3:(tt == [87,72,73,76,69])=false) (n4:(tt == [82,69,80,69,65,84])=false) (y5:(tt == [69,88,73,84])=true):Calls Tryz.prog 158 #[.pointer (some ⟨rb,0,none⟩),.agg #[.int .i64 ta,.int .i64 tk,.int .i64 tn,.string (tx tt),.int .i64 pl],.int .i64 inn] w fun e w'=>Outc rb tb cap T i w (sbe T s (⟨ta,tk,tn,tt⟩,pl) i) (qSt w) e w':=by
  have em:sbe T s (⟨ta,tk,tn,tt⟩,pl) i=ok 7 i:=by unfold sbe;rw [n0,if_neg Bool.false_ne_true,n1,if_neg Bool.false_ne_true,n2,if_neg Bool.false_ne_true,n3,if_neg Bool.false_ne_true,n4,if_neg Bool.false_ne_true,if_pos y5]
  rw [em]
  have m0:((tx tt).toList == [73,70])=false:=by rw [tx_toList];exact n0
  have m1:((tx tt).toList == [67,65,83,69])=false:=by rw [tx_toList];exact n1
  have m2:((tx tt).toList == [70,79,82])=false:=by rw [tx_toList];exact n2
  have m3:((tx tt).toList == [87,72,73,76,69])=false:=by rw [tx_toList];exact n3
  have m4:((tx tt).toList == [82,69,80,69,65,84])=false:=by rw [tx_toList];exact n4
  have e5:((tx tt).toList == [69,88,73,84])=true:=by rw [tx_toList];exact y5
  clear em n0 n1 n2 n3 n4 y5
  go_enter Tryz.func158,Tryz.ntmps158
  go_wp2
  exact bodyPost_ret (v:=.agg #[.int .i64 7,.int .i64 0,.int .i64 0,.int .i64 0,.string ⟨#[]⟩,.string ⟨#[]⟩,.slice none 0 0,.int .i64 0,.slice none 0 0,.slice none 0 0,.slice none 0 0,.slice none 0 0,.int .i64 0]) (by simp [results,Tryz.results158,go_sem]) rfl ⟨((Kp.refl rb w).alloc _).alloc _,Or.inl ⟨7,i,_,rfl,rfl,⟨_,_,_,_,_,_,_,_,_,_,_,_,_,_,_,_,_,_,_,_,_,_,rfl⟩,(h.alloc _).alloc _,Nat.le_refl _⟩⟩
set_option maxHeartbeats 4000000 in
set_option maxRecDepth 100000 in
theorem p_behind_6 {w:World} {rb tb cap:Nat} {T:TL} {i:Nat} (h:Rd w rb tb cap T i) (ta tk:Nat) (tn:Int) (tt:List UInt8) (pl:Nat) (inn:Int) (s:Nat→Re (List Nat)) (n0:(tt == [73,70])=false) (n1:(tt == [67,65,83,69])=false) (n2:(tt == [70,79,82])=false) (n3:(tt == [87,72,73,76,69])=false) (n4:(tt == [82,69,80,69,65,84])=false) (n5:(tt == [69,88,73,84])=false) (y6:(tt == [82,69,84,85,82,78])=true):Calls Tryz.prog 158 #[.pointer (some ⟨rb,0,none⟩),.agg #[.int .i64 ta,.int .i64 tk,.int .i64 tn,.string (tx tt),.int .i64 pl],.int .i64 inn] w fun e w'=>Outc rb tb cap T i w (sbe T s (⟨ta,tk,tn,tt⟩,pl) i) (qSt w) e w':=by
  have em:sbe T s (⟨ta,tk,tn,tt⟩,pl) i=ok 8 i:=by unfold sbe;rw [n0,if_neg Bool.false_ne_true,n1,if_neg Bool.false_ne_true,n2,if_neg Bool.false_ne_true,n3,if_neg Bool.false_ne_true,n4,if_neg Bool.false_ne_true,n5,if_neg Bool.false_ne_true,if_pos y6]
  rw [em]
  have m0:((tx tt).toList == [73,70])=false:=by rw [tx_toList];exact n0
  have m1:((tx tt).toList == [67,65,83,69])=false:=by rw [tx_toList];exact n1
  have m2:((tx tt).toList == [70,79,82])=false:=by rw [tx_toList];exact n2
  have m3:((tx tt).toList == [87,72,73,76,69])=false:=by rw [tx_toList];exact n3
  have m4:((tx tt).toList == [82,69,80,69,65,84])=false:=by rw [tx_toList];exact n4
  have m5:((tx tt).toList == [69,88,73,84])=false:=by rw [tx_toList];exact n5
  have e6:((tx tt).toList == [82,69,84,85,82,78])=true:=by rw [tx_toList];exact y6
  clear em n0 n1 n2 n3 n4 n5 y6
  go_enter Tryz.func158,Tryz.ntmps158
  go_wp2
  exact bodyPost_ret (v:=.agg #[.int .i64 8,.int .i64 0,.int .i64 0,.int .i64 0,.string ⟨#[]⟩,.string ⟨#[]⟩,.slice none 0 0,.int .i64 0,.slice none 0 0,.slice none 0 0,.slice none 0 0,.slice none 0 0,.int .i64 0]) (by simp [results,Tryz.results158,go_sem]) rfl ⟨((Kp.refl rb w).alloc _).alloc _,Or.inl ⟨8,i,_,rfl,rfl,⟨_,_,_,_,_,_,_,_,_,_,_,_,_,_,_,_,_,_,_,_,_,_,rfl⟩,(h.alloc _).alloc _,Nat.le_refl _⟩⟩
set_option maxHeartbeats 4000000 in
set_option maxRecDepth 100000 in
theorem p_behind_b {w:World} {rb tb cap:Nat} {T:TL} {i:Nat} (h:Rd w rb tb cap T i) (ta tk:Nat) (tn:Int) (tt:List UInt8) (pl:Nat) (inn:Int) (s:Nat→Re (List Nat)) (n0:(tt == [73,70])=false) (n1:(tt == [67,65,83,69])=false) (n2:(tt == [70,79,82])=false) (n3:(tt == [87,72,73,76,69])=false) (n4:(tt == [82,69,80,69,65,84])=false) (n5:(tt == [69,88,73,84])=false) (n6:(tt == [82,69,84,85,82,78])=false) (h1:isT T [40] i=true):Calls Tryz.prog 158 #[.pointer (some ⟨rb,0,none⟩),.agg #[.int .i64 ta,.int .i64 tk,.int .i64 tn,.string (tx tt),.int .i64 pl],.int .i64 inn] w fun e w'=>Outc rb tb cap T i w (sbe T s (⟨ta,tk,tn,tt⟩,pl) i) (qSt w) e w':=by
  have hrl:=h.rlt
  have htl:=h.lt
  have B0:Hid (Bk ((w.alloc (.cells #[.int .i64 ta,.int .i64 tk,.int .i64 tn,.string (tx tt),.int .i64 pl] 42)).alloc (.cells #[.int .i64 0,.int .i64 0,.int .i64 0,.int .i64 0,.string ⟨#[]⟩,.string ⟨#[]⟩,.slice none 0 0,.int .i64 0,.slice none 0 0,.slice none 0 0,.slice none 0 0,.slice none 0 0,.int .i64 0] 114)) (w.heap.size+1) #[.int .i64 0,.int .i64 0,.int .i64 0,.int .i64 0,.string ⟨#[]⟩,.string ⟨#[]⟩,.slice none 0 0,.int .i64 0,.slice none 0 0,.slice none 0 0,.slice none 0 0,.slice none 0 0,.int .i64 0]):=by
    have q:=Bk.fresh (w.alloc (.cells #[.int .i64 ta,.int .i64 tk,.int .i64 tn,.string (tx tt),.int .i64 pl] 42)) #[.int .i64 0,.int .i64 0,.int .i64 0,.int .i64 0,.string ⟨#[]⟩,.string ⟨#[]⟩,.slice none 0 0,.int .i64 0,.slice none 0 0,.slice none 0 0,.slice none 0 0,.slice none 0 0,.int .i64 0] 114
    rw [World.size_alloc] at q
    exact hid_as q
  have V0:Hid (Bk ((w.alloc (.cells #[.int .i64 ta,.int .i64 tk,.int .i64 tn,.string (tx tt),.int .i64 pl] 42)).alloc (.cells #[.int .i64 0,.int .i64 0,.int .i64 0,.int .i64 0,.string ⟨#[]⟩,.string ⟨#[]⟩,.slice none 0 0,.int .i64 0,.slice none 0 0,.slice none 0 0,.slice none 0 0,.slice none 0 0,.int .i64 0] 114)) w.heap.size #[.int .i64 ta,.int .i64 tk,.int .i64 tn,.string (tx tt),.int .i64 pl]):=hid_as ((Bk.fresh w #[.int .i64 ta,.int .i64 tk,.int .i64 tn,.string (tx tt),.int .i64 pl] 42).alloc _)
  have K0:=hid_as (((Kp.refl rb w).alloc (.cells #[.int .i64 ta,.int .i64 tk,.int .i64 tn,.string (tx tt),.int .i64 pl] 42)).alloc (.cells #[.int .i64 0,.int .i64 0,.int .i64 0,.int .i64 0,.string ⟨#[]⟩,.string ⟨#[]⟩,.slice none 0 0,.int .i64 0,.slice none 0 0,.slice none 0 0,.slice none 0 0,.slice none 0 0,.int .i64 0] 114))
  have H:=hid_as ((h.alloc (.cells #[.int .i64 ta,.int .i64 tk,.int .i64 tn,.string (tx tt),.int .i64 pl] 42)).alloc (.cells #[.int .i64 0,.int .i64 0,.int .i64 0,.int .i64 0,.string ⟨#[]⟩,.string ⟨#[]⟩,.slice none 0 0,.int .i64 0,.slice none 0 0,.slice none 0 0,.slice none 0 0,.slice none 0 0,.int .i64 0] 114))
  have em:sbe T s (⟨ta,tk,tn,tt⟩,pl) i=blkS T (i+1):=by unfold sbe;rw [n0,if_neg Bool.false_ne_true,n1,if_neg Bool.false_ne_true,n2,if_neg Bool.false_ne_true,n3,if_neg Bool.false_ne_true,n4,if_neg Bool.false_ne_true,n5,if_neg Bool.false_ne_true,n6,if_neg Bool.false_ne_true];rw [if_pos h1]
  generalize sbe T s (⟨ta,tk,tn,tt⟩,pl) i=M at *
  have M0:=hid_as em
  have A1:Hid (∀ W,Rd W rb tb cap T (i)→Calls Tryz.prog 85 #[.pointer (some ⟨rb,0,none⟩),.string ⟨#[40]⟩] W fun e w'=>e=.returned (.bool true)∧Kp rb W w'∧Rd w' rb tb cap T (i+1)):=fun W H=>accept_y H ⟨#[40]⟩ h1 (by decide)
  have C:Hid (∀ W,Rd W rb tb cap T (i+1)→Calls Tryz.prog 180 #[.pointer (some ⟨rb,0,none⟩),.agg #[.int .i64 ta,.int .i64 tk,.int .i64 tn,.string (tx tt),.int .i64 pl]] W fun e w'=>Outc rb tb cap T (i+1) W (blkS T (i+1)) (qSt W) e w'):=fun W H=>by
    cases hq:isT T [41] (i+1) with
    | true=>exact p_blockCall_n H ta tk tn tt pl hq
    | false=>exact p_blockCall_y H ta tk tn tt pl hq
  have m0:((tx tt).toList == [73,70])=false:=by rw [tx_toList];exact n0
  have m1:((tx tt).toList == [67,65,83,69])=false:=by rw [tx_toList];exact n1
  have m2:((tx tt).toList == [70,79,82])=false:=by rw [tx_toList];exact n2
  have m3:((tx tt).toList == [87,72,73,76,69])=false:=by rw [tx_toList];exact n3
  have m4:((tx tt).toList == [82,69,80,69,65,84])=false:=by rw [tx_toList];exact n4
  have m5:((tx tt).toList == [69,88,73,84])=false:=by rw [tx_toList];exact n5
  have m6:((tx tt).toList == [82,69,84,85,82,78])=false:=by rw [tx_toList];exact n6
  clear h em h1 n0 n1 n2 n3 n4 n5 n6
  go_enter Tryz.func158,Tryz.ntmps158
  go_wp2_with (first
    | (go_at_call 85;(with_reducible refine (A1.out _ H.out).mono ?_);rintro e w1 ⟨rfl,k1,r1⟩;have R1:=hid_as r1;have K1:=hid_as ((K0.out).trans k1);have B1:=hid_as (B0.out.kp k1 (by omega));have V1:=hid_as (V0.out.kp k1 (by omega));have z1:=K1.out.size;have q1:=k1.size;(try rw [World.size_alloc] at q1);have J1:=hid_as k1;clear k1 r1;obtain ⟨u0,u1,u2,u3,u4⟩:=bk5 V1.out;have uf:=V1.out.fr;have y1:=B1.out.lt)
    | (go_at_call 180;(with_reducible refine (C.out _ R1.out).mono ?_);rintro e w2 ⟨k2,⟨x2_0,i2,_,m2,rfl,⟨x2_1,x2_2,x2_3,x2_4,x2_5,a2_6,b2_6,c2_6,x2_7,a2_8,b2_8,c2_8,a2_9,b2_9,c2_9,a2_10,b2_10,c2_10,a2_11,b2_11,c2_11,x2_12,rfl⟩,r2,l2⟩ | ⟨n2,i2,m2,rfl⟩⟩;rotate_left;exact And.intro rfl (Outc.stop0 M0.out m2 ((K1.out).trans k2));have R2:=hid_as r2;have K2:=hid_as ((K1.out).trans k2);have M2:=hid_as (M0.out.trans m2);have B2:=hid_as (B1.out.kp k2 (by omega));have z2:=K2.out.size;have q2:=k2.size;(try rw [World.size_alloc] at q2);have J2:=hid_as k2;clear k2 r2 m2;obtain ⟨s0,s1,s2,s3,s4,s5,s6,s7,s8,s9,s10,s11,s12⟩:=bk13 B2.out;have sf:=B2.out.fr))
  exact bodyPost_ret (v:=.agg #[.int .i64 (x2_0:Nat),.int .i64 x2_1,.int .i64 x2_2,.int .i64 x2_3,.string x2_4,.string x2_5,.slice a2_6 b2_6 c2_6,.int .i64 x2_7,.slice a2_8 b2_8 c2_8,.slice a2_9 b2_9 c2_9,.slice a2_10 b2_10 c2_10,.slice a2_11 b2_11 c2_11,.int .i64 x2_12]) (by simp [results,Tryz.results158,go_sem,s0,s1,s2,s3,s4,s5,s6,s7,s8,s9,s10,s11,s12]) rfl ⟨K2.out.put13 (by omega) _ _ _ _ _ _ _ _ _ _ _ _ _,Or.inl ⟨x2_0,_,_,M2.out,rfl,⟨_,_,_,_,_,_,_,_,_,_,_,_,_,_,_,_,_,_,_,_,_,_,rfl⟩,R2.out.put13 (by omega) (by omega) _ _ _ _ _ _ _ _ _ _ _ _ _,(by omega)⟩⟩
set_option maxHeartbeats 4000000 in
set_option maxRecDepth 100000 in
theorem p_behind_a {w:World} {rb tb cap:Nat} {T:TL} {i:Nat} (h:Rd w rb tb cap T i) (ta tk:Nat) (tn:Int) (tt:List UInt8) (pl:Nat) (inn:Int) (s:Nat→Re (List Nat)) (n0:(tt == [73,70])=false) (n1:(tt == [67,65,83,69])=false) (n2:(tt == [70,79,82])=false) (n3:(tt == [87,72,73,76,69])=false) (n4:(tt == [82,69,80,69,65,84])=false) (n5:(tt == [69,88,73,84])=false) (n6:(tt == [82,69,84,85,82,78])=false) (h1:isT T [40] i=false):Calls Tryz.prog 158 #[.pointer (some ⟨rb,0,none⟩),.agg #[.int .i64 ta,.int .i64 tk,.int .i64 tn,.string (tx tt),.int .i64 pl],.int .i64 inn] w fun e w'=>Outc rb tb cap T i w (sbe T s (⟨ta,tk,tn,tt⟩,pl) i) (qSt w) e w':=by
  have hrl:=h.rlt
  have htl:=h.lt
  have B0:Hid (Bk ((w.alloc (.cells #[.int .i64 ta,.int .i64 tk,.int .i64 tn,.string (tx tt),.int .i64 pl] 42)).alloc (.cells #[.int .i64 0,.int .i64 0,.int .i64 0,.int .i64 0,.string ⟨#[]⟩,.string ⟨#[]⟩,.slice none 0 0,.int .i64 0,.slice none 0 0,.slice none 0 0,.slice none 0 0,.slice none 0 0,.int .i64 0] 114)) (w.heap.size+1) #[.int .i64 0,.int .i64 0,.int .i64 0,.int .i64 0,.string ⟨#[]⟩,.string ⟨#[]⟩,.slice none 0 0,.int .i64 0,.slice none 0 0,.slice none 0 0,.slice none 0 0,.slice none 0 0,.int .i64 0]):=by
    have q:=Bk.fresh (w.alloc (.cells #[.int .i64 ta,.int .i64 tk,.int .i64 tn,.string (tx tt),.int .i64 pl] 42)) #[.int .i64 0,.int .i64 0,.int .i64 0,.int .i64 0,.string ⟨#[]⟩,.string ⟨#[]⟩,.slice none 0 0,.int .i64 0,.slice none 0 0,.slice none 0 0,.slice none 0 0,.slice none 0 0,.int .i64 0] 114
    rw [World.size_alloc] at q
    exact hid_as q
  have V0:Hid (Bk ((w.alloc (.cells #[.int .i64 ta,.int .i64 tk,.int .i64 tn,.string (tx tt),.int .i64 pl] 42)).alloc (.cells #[.int .i64 0,.int .i64 0,.int .i64 0,.int .i64 0,.string ⟨#[]⟩,.string ⟨#[]⟩,.slice none 0 0,.int .i64 0,.slice none 0 0,.slice none 0 0,.slice none 0 0,.slice none 0 0,.int .i64 0] 114)) w.heap.size #[.int .i64 ta,.int .i64 tk,.int .i64 tn,.string (tx tt),.int .i64 pl]):=hid_as ((Bk.fresh w #[.int .i64 ta,.int .i64 tk,.int .i64 tn,.string (tx tt),.int .i64 pl] 42).alloc _)
  have K0:=hid_as (((Kp.refl rb w).alloc (.cells #[.int .i64 ta,.int .i64 tk,.int .i64 tn,.string (tx tt),.int .i64 pl] 42)).alloc (.cells #[.int .i64 0,.int .i64 0,.int .i64 0,.int .i64 0,.string ⟨#[]⟩,.string ⟨#[]⟩,.slice none 0 0,.int .i64 0,.slice none 0 0,.slice none 0 0,.slice none 0 0,.slice none 0 0,.int .i64 0] 114))
  have H:=hid_as ((h.alloc (.cells #[.int .i64 ta,.int .i64 tk,.int .i64 tn,.string (tx tt),.int .i64 pl] 42)).alloc (.cells #[.int .i64 0,.int .i64 0,.int .i64 0,.int .i64 0,.string ⟨#[]⟩,.string ⟨#[]⟩,.slice none 0 0,.int .i64 0,.slice none 0 0,.slice none 0 0,.slice none 0 0,.slice none 0 0,.int .i64 0] 114))
  have em:sbe T s (⟨ta,tk,tn,tt⟩,pl) i=asgS T (⟨ta,tk,tn,tt⟩,pl) i:=by unfold sbe;rw [n0,if_neg Bool.false_ne_true,n1,if_neg Bool.false_ne_true,n2,if_neg Bool.false_ne_true,n3,if_neg Bool.false_ne_true,n4,if_neg Bool.false_ne_true,n5,if_neg Bool.false_ne_true,n6,if_neg Bool.false_ne_true];rw [h1,if_neg Bool.false_ne_true]
  generalize sbe T s (⟨ta,tk,tn,tt⟩,pl) i=M at *
  have M0:=hid_as em
  have A1:Hid (∀ W,Rd W rb tb cap T (i)→Calls Tryz.prog 85 #[.pointer (some ⟨rb,0,none⟩),.string ⟨#[40]⟩] W fun e w'=>e=.returned (.bool false)∧Below W.heap.size W w'):=fun W H=>accept_n H ⟨#[40]⟩ h1
  have C:Hid (∀ W,Rd W rb tb cap T (i)→Calls Tryz.prog 181 #[.pointer (some ⟨rb,0,none⟩),.agg #[.int .i64 ta,.int .i64 tk,.int .i64 tn,.string (tx tt),.int .i64 pl]] W fun e w'=>Outc rb tb cap T (i) W (asgS T (⟨ta,tk,tn,tt⟩,pl) i) (qSt W) e w'):=fun W H=>p_assignment H ta tk tn tt pl
  have m0:((tx tt).toList == [73,70])=false:=by rw [tx_toList];exact n0
  have m1:((tx tt).toList == [67,65,83,69])=false:=by rw [tx_toList];exact n1
  have m2:((tx tt).toList == [70,79,82])=false:=by rw [tx_toList];exact n2
  have m3:((tx tt).toList == [87,72,73,76,69])=false:=by rw [tx_toList];exact n3
  have m4:((tx tt).toList == [82,69,80,69,65,84])=false:=by rw [tx_toList];exact n4
  have m5:((tx tt).toList == [69,88,73,84])=false:=by rw [tx_toList];exact n5
  have m6:((tx tt).toList == [82,69,84,85,82,78])=false:=by rw [tx_toList];exact n6
  clear h em h1 n0 n1 n2 n3 n4 n5 n6
  go_enter Tryz.func158,Tryz.ntmps158
  go_wp2_with (first
    | (go_at_call 85;(with_reducible refine (A1.out _ H.out).mono ?_);rintro e w1 ⟨rfl,b1⟩;have R1:=hid_as ((H.out).below b1);have K1:=hid_as ((K0.out).below b1);have B1:=hid_as (B0.out.below b1);have V1:=hid_as (V0.out.below b1);have z1:=K1.out.size;have q1:=b1.size;(try rw [World.size_alloc] at q1);have J1:=hid_as (kp_of_below (rb:=rb) b1);clear b1;obtain ⟨u0,u1,u2,u3,u4⟩:=bk5 V1.out;have uf:=V1.out.fr;have y1:=B1.out.lt)
    | (go_at_call 181;(with_reducible refine (C.out _ R1.out).mono ?_);rintro e w2 ⟨k2,⟨x2_0,i2,_,m2,rfl,⟨x2_1,x2_2,x2_3,x2_4,x2_5,a2_6,b2_6,c2_6,x2_7,a2_8,b2_8,c2_8,a2_9,b2_9,c2_9,a2_10,b2_10,c2_10,a2_11,b2_11,c2_11,x2_12,rfl⟩,r2,l2⟩ | ⟨n2,i2,m2,rfl⟩⟩;rotate_left;exact And.intro rfl (Outc.stop0 M0.out m2 ((K1.out).trans k2));have R2:=hid_as r2;have K2:=hid_as ((K1.out).trans k2);have M2:=hid_as (M0.out.trans m2);have B2:=hid_as (B1.out.kp k2 (by omega));have z2:=K2.out.size;have q2:=k2.size;(try rw [World.size_alloc] at q2);have J2:=hid_as k2;clear k2 r2 m2;obtain ⟨s0,s1,s2,s3,s4,s5,s6,s7,s8,s9,s10,s11,s12⟩:=bk13 B2.out;have sf:=B2.out.fr))
  exact bodyPost_ret (v:=.agg #[.int .i64 (x2_0:Nat),.int .i64 x2_1,.int .i64 x2_2,.int .i64 x2_3,.string x2_4,.string x2_5,.slice a2_6 b2_6 c2_6,.int .i64 x2_7,.slice a2_8 b2_8 c2_8,.slice a2_9 b2_9 c2_9,.slice a2_10 b2_10 c2_10,.slice a2_11 b2_11 c2_11,.int .i64 x2_12]) (by simp [results,Tryz.results158,go_sem,s0,s1,s2,s3,s4,s5,s6,s7,s8,s9,s10,s11,s12]) rfl ⟨K2.out.put13 (by omega) _ _ _ _ _ _ _ _ _ _ _ _ _,Or.inl ⟨x2_0,_,_,M2.out,rfl,⟨_,_,_,_,_,_,_,_,_,_,_,_,_,_,_,_,_,_,_,_,_,_,rfl⟩,R2.out.put13 (by omega) (by omega) _ _ _ _ _ _ _ _ _ _ _ _ _,(by omega)⟩⟩
end Go.Proofs.YtapcpjidgemggaaGreatDoor
