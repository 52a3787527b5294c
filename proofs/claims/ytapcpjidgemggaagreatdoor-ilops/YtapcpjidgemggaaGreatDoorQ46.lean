/- Statements, however deep (stage 13). -/
import Derived.Test.YtapcpjidgemggaaGreatDoorQ45
namespace Go.Proofs.YtapcpjidgemggaaGreatDoor
open Go.RowKit
open Adr Lx Sx
theorem p_behind {w:World} {rb tb cap:Nat} {T:TL} {i:Nat} (h:Rd w rb tb cap T i) (ta tk:Nat) (tn:Int) (tt:List UInt8) (pl:Nat) (inn:Int) (s:Nat→Re (List Nat)) (S:Hid (∀ W i,Rd W rb tb cap T i→Calls Tryz.prog 90 #[.pointer (some ⟨rb,0,none⟩),.int .i64 inn] W fun e w'=>Outc rb tb cap T i W (s i) (qSs W) e w')):Calls Tryz.prog 158 #[.pointer (some ⟨rb,0,none⟩),.agg #[.int .i64 ta,.int .i64 tk,.int .i64 tn,.string (tx tt),.int .i64 pl],.int .i64 inn] w fun e w'=>Outc rb tb cap T i w (sbe T s (⟨ta,tk,tn,tt⟩,pl) i) (qSt w) e w':=by
  cases c0:(tt == [73,70]) with
  | true=>exact p_behind_0 h ta tk tn tt pl inn s S c0
  | false =>
    cases c1:(tt == [67,65,83,69]) with
    | true=>exact p_behind_1 h ta tk tn tt pl inn s S c0 c1
    | false =>
      cases c2:(tt == [70,79,82]) with
      | true=>exact p_behind_2 h ta tk tn tt pl inn s S c0 c1 c2
      | false =>
        cases c3:(tt == [87,72,73,76,69]) with
        | true=>exact p_behind_3 h ta tk tn tt pl inn s S c0 c1 c2 c3
        | false =>
          cases c4:(tt == [82,69,80,69,65,84]) with
          | true=>exact p_behind_4 h ta tk tn tt pl inn s S c0 c1 c2 c3 c4
          | false =>
            cases c5:(tt == [69,88,73,84]) with
            | true=>exact p_behind_5 h ta tk tn tt pl inn s c0 c1 c2 c3 c4 c5
            | false =>
              cases c6:(tt == [82,69,84,85,82,78]) with
              | true=>exact p_behind_6 h ta tk tn tt pl inn s c0 c1 c2 c3 c4 c5 c6
              | false =>
                cases h1:isT T [40] i with
                | true=>exact p_behind_b h ta tk tn tt pl inn s c0 c1 c2 c3 c4 c5 c6 h1
                | false=>exact p_behind_a h ta tk tn tt pl inn s c0 c1 c2 c3 c4 c5 c6 h1
set_option maxHeartbeats 4000000 in
set_option maxRecDepth 100000 in
theorem p_stmt {w:World} {rb tb cap:Nat} {T:TL} {i:Nat} (h:Rd w rb tb cap T i) (dp:Nat) (hd:dp≤40) (s:Nat→Re (List Nat)) (S:Hid (∀ W i,Rd W rb tb cap T i→Calls Tryz.prog 90 #[.pointer (some ⟨rb,0,none⟩),.int .i64 ((dp:Int)+1)] W fun e w'=>Outc rb tb cap T i W (s i) (qSs W) e w')) (hn:¬ (cu T i).1=nul):Calls Tryz.prog 135 #[.pointer (some ⟨rb,0,none⟩),.int .i64 dp] w fun e w'=>Outc rb tb cap T (i+1) w (sm1 T s i) (qSt w) e w':=by
  have hrl:=h.rlt
  have htl:=h.lt
  have B0:=hid_as (Bk.fresh w #[.int .i64 0,.int .i64 0,.int .i64 0,.int .i64 0,.string ⟨#[]⟩,.string ⟨#[]⟩,.slice none 0 0,.int .i64 0,.slice none 0 0,.slice none 0 0,.slice none 0 0,.slice none 0 0,.int .i64 0] 114)
  have K0:=hid_as ((Kp.refl rb w).alloc (.cells #[.int .i64 0,.int .i64 0,.int .i64 0,.int .i64 0,.string ⟨#[]⟩,.string ⟨#[]⟩,.slice none 0 0,.int .i64 0,.slice none 0 0,.slice none 0 0,.slice none 0 0,.slice none 0 0,.int .i64 0] 114))
  have H:=hid_as (h.alloc (.cells #[.int .i64 0,.int .i64 0,.int .i64 0,.int .i64 0,.string ⟨#[]⟩,.string ⟨#[]⟩,.slice none 0 0,.int .i64 0,.slice none 0 0,.slice none 0 0,.slice none 0 0,.slice none 0 0,.int .i64 0] 114))
  have em:sm1 T s i=th (sbe T s (cu T i) (i+1)) fun o k=>th (xp T [59] k) fun _ m=>ok o m:=rfl
  generalize sm1 T s i=M at *
  have M0:=hid_as em
  have D:=hid_as (fun W (H:Rd W rb tb cap T i)=>take_c H hn)
  unfold tv at D
  have C1:Hid (∀ W i,Rd W rb tb cap T i→Calls Tryz.prog 87 #[.pointer (some ⟨rb,0,none⟩),.string ⟨#[59]⟩] W fun e w'=>Outc rb tb cap T i W (xp T [59] i) (qU W) e w'):=expect_c ⟨#[59]⟩ (by decide)
  clear h em hn
  generalize cu T i=c at *
  obtain ⟨⟨ta,tk,tn,tt⟩,pl⟩:=c
  simp only at D
  have C:=hid_as (fun W (H:Rd W rb tb cap T (i+1))=>p_behind H ta tk tn tt pl ((dp:Int)+1) s S)
  go_enter Tryz.func135,Tryz.ntmps135
  go_wp2_with (first
    | (go_at_call 128;(with_reducible refine (D.out _ H.out).mono ?_);rintro e w1 ⟨rfl,k1,r1⟩;have R1:=hid_as r1;have K1:=hid_as ((K0.out).trans k1);have B1:=hid_as (B0.out.kp k1 (by omega));have z1:=K1.out.size;have q1:=k1.size;(try rw [World.size_alloc] at q1);have J1:=hid_as k1;clear k1 r1;have y1:=B1.out.lt;have V1:=hid_as (Bk.fresh w1 #[.int .i64 ta,.int .i64 tk,.int .i64 tn,.string (tx tt),.int .i64 pl] 42))
    | (go_at_call 158;(with_reducible refine (C.out _ (R1.out.alloc _)).mono ?_);rintro e w2 ⟨k2,⟨x2_0,i2,_,m2,rfl,⟨x2_1,x2_2,x2_3,x2_4,x2_5,a2_6,b2_6,c2_6,x2_7,a2_8,b2_8,c2_8,a2_9,b2_9,c2_9,a2_10,b2_10,c2_10,a2_11,b2_11,c2_11,x2_12,rfl⟩,r2,l2⟩ | ⟨n2,i2,m2,rfl⟩⟩;rotate_left;exact And.intro rfl (Outc.stop M0.out m2 ((K1.out.alloc _).trans k2));have R2:=hid_as r2;have K2:=hid_as ((K1.out.alloc _).trans k2);have M2:=hid_as (th_go M0.out m2);have B2:=hid_as ((B1.out.alloc (.cells #[.int .i64 ta,.int .i64 tk,.int .i64 tn,.string (tx tt),.int .i64 pl] 42)).kp k2 (by omega));have V2:=hid_as (V1.out.kp k2 (by omega));have z2:=K2.out.size;have q2:=k2.size;(try rw [World.size_alloc] at q2);have J2:=hid_as k2;clear k2 r2 m2;have y2:=V2.out.lt;have g0:=fun o=>(bk5 (V2.out.alloc o)).1;have g1:=fun o=>(bk5 (V2.out.alloc o)).2.1;have g2:=fun o=>(bk5 (V2.out.alloc o)).2.2.1;have g3:=fun o=>(bk5 (V2.out.alloc o)).2.2.2.1;have g4:=fun o=>(bk5 (V2.out.alloc o)).2.2.2.2;have gf:=fun o=>(V2.out.alloc o).fr;have Z2:=hid_as (Bk.fresh w2 #[.int .i64 (x2_0:Nat),.int .i64 x2_1,.int .i64 x2_2,.int .i64 x2_3,.string x2_4,.string x2_5,.slice a2_6 b2_6 c2_6,.int .i64 x2_7,.slice a2_8 b2_8 c2_8,.slice a2_9 b2_9 c2_9,.slice a2_10 b2_10 c2_10,.slice a2_11 b2_11 c2_11,.int .i64 pl] 114))
    | (go_at_call 87;(with_reducible refine (C1.out _ i2 (R2.out.alloc _)).mono ?_);rintro e w3 ⟨k3,⟨_,i3,_,m3,rfl,rfl,r3,l3⟩ | ⟨n3,i3,m3,rfl⟩⟩;rotate_left;exact And.intro rfl (Outc.stop M2.out m3 ((K2.out.alloc _).trans k3));have R3:=hid_as r3;have K3:=hid_as ((K2.out.alloc _).trans k3);have M3:=hid_as (th_go M2.out m3);have B3:=hid_as ((B2.out.alloc (.cells #[.int .i64 (x2_0:Nat),.int .i64 x2_1,.int .i64 x2_2,.int .i64 x2_3,.string x2_4,.string x2_5,.slice a2_6 b2_6 c2_6,.int .i64 x2_7,.slice a2_8 b2_8 c2_8,.slice a2_9 b2_9 c2_9,.slice a2_10 b2_10 c2_10,.slice a2_11 b2_11 c2_11,.int .i64 pl] 114)).kp k3 (by omega));have Z3:=hid_as (Z2.out.kp k3 (by omega));have z3:=K3.out.size;have q3:=k3.size;(try rw [World.size_alloc] at q3);have J3:=hid_as k3;clear k3 r3 m3;obtain ⟨s0,s1,s2,s3,s4,s5,s6,s7,s8,s9,s10,s11,s12⟩:=bk13 B3.out;have sf:=B3.out.fr;obtain ⟨u0,u1,u2,u3,u4,u5,u6,u7,u8,u9,u10,u11,u12⟩:=bk13 Z3.out;have uf:=Z3.out.fr))
  exact bodyPost_ret (v:=.agg #[.int .i64 (x2_0:Nat),.int .i64 x2_1,.int .i64 x2_2,.int .i64 x2_3,.string x2_4,.string x2_5,.slice a2_6 b2_6 c2_6,.int .i64 x2_7,.slice a2_8 b2_8 c2_8,.slice a2_9 b2_9 c2_9,.slice a2_10 b2_10 c2_10,.slice a2_11 b2_11 c2_11,.int .i64 pl]) (by simp [results,Tryz.results135,go_sem,s0,s1,s2,s3,s4,s5,s6,s7,s8,s9,s10,s11,s12]) rfl ⟨K3.out.put13 (by omega) _ _ _ _ _ _ _ _ _ _ _ _ _,Or.inl ⟨x2_0,_,_,M3.out,rfl,⟨_,_,_,_,_,_,_,_,_,_,_,_,_,_,_,_,_,_,_,_,_,_,rfl⟩,R3.out.put13 (by omega) (by omega) _ _ _ _ _ _ _ _ _ _ _ _ _,(by omega)⟩⟩
theorem rp_yes0 {α:Type} {M:Re α} {g:Nat→Bool} {b:α→Nat→Re α} {f:Nat} {a:α} {k:Nat} (hM:M=rp g b (f+1) a k) (hg:g k=true):M=th (b a k) (rp g b f):=by rw [hM,rp,if_pos hg]
theorem rp_not0 {α:Type} {M:Re α} {g:Nat→Bool} {b:α→Nat→Re α} {f:Nat} {a:α} {k:Nat} (hM:M=rp g b (f+1) a k) (hg:g k=false):M=ok a k:=by rw [hM,rp,hg];rfl
theorem bgs_more {T:TL} {i:Nat} (h:bgs T i=true):¬ (cu T i).1=nul:=by
  intro e
  unfold bgs isT ct ck at h
  rw [e] at h
  revert h
  decide
theorem ops_push {l:List Nat} {xs ys:List Value} {o:Nat} (hl:xs.length=l.length * 13) (h:∀ j o,l[j]?=some o→xs[j * 13]?=some (.int .i64 (o:Int))) (hy:ys[0]?=some (.int .i64 (o:Int))):∀ j p,(l ++ [o])[j]?=some p→(xs ++ ys)[j * 13]?=some (.int .i64 (p:Int)):=by
  intro j p hp
  by_cases hj:j < l.length
  · rw [List.getElem?_append_left hj] at hp
    rw [List.getElem?_append_left (by rw [hl];omega)]
    exact h j p hp
  · rw [List.getElem?_append_right (by omega)] at hp
    obtain rfl:j=l.length:=by
      by_cases hz:j - l.length=0
      · omega
      · obtain ⟨q,hq⟩:∃ q,j - l.length=q+1:=⟨j - l.length - 1,by omega⟩
        rw [hq] at hp
        simp at hp
    rw [Nat.sub_self] at hp
    obtain rfl:=Option.some.inj hp
    rw [← hl,List.getElem?_append_right (Nat.le_refl _),Nat.sub_self]
    exact hy
set_option maxHeartbeats 4000000 in
set_option maxRecDepth 100000 in
theorem p_stmts_deep {w:World} {rb tb cap:Nat} {T:TL} {i:Nat} (h:Rd w rb tb cap T i) (dp:Nat) (hd:32 < dp):Calls Tryz.prog 90 #[.pointer (some ⟨rb,0,none⟩),.int .i64 dp] w fun e w'=>Outc rb tb cap T i w (sms T 0 i) (qSs w) e w':=by
  have K0:=hid_as (Kp.refl rb w)
  have H:=hid_as h
  have hd':(32:Int) < dp:=by omega
  have hz:=hid_as (World.ownsRow_nil w w.heap.size 114 13)
  cases hb:bgs T i with
  | true =>
    have em:sms T 0 i=no 131 i:=by unfold sms;rw [if_pos hb]
    rw [em]
    have BG:=hid_as (fun W (H:Rd W rb tb cap T i)=>beginsStmt_c H)
    rw [hb] at BG
    have D:=hid_as (fun W (H:Rd W rb tb cap T i)=>refuse_131 H)
    clear em h hb
    go_enter Tryz.func90,Tryz.ntmps90
    go_wp2
    go_loopw [5] (fun v wr=>v=.slice none 0 0∧wr=w) (fun _ _=>0)
    case atStart=>exact ⟨rfl,rfl⟩
    case round =>
      obtain ⟨rfl,rfl⟩:=hrel
      go_wp2_with (first
        | (go_at_call 134;(with_reducible refine (BG.out _ H.out).mono ?_);rintro e w1 ⟨rfl,b1⟩;have R1:=hid_as ((H.out).below b1);have K1:=hid_as ((K0.out).below b1);have z1:=K1.out.size;have q1:=b1.size;(try rw [World.size_alloc] at q1);have J1:=hid_as (kp_of_below (rb:=rb) b1);clear b1)
        | (go_at_call 130;(with_reducible refine (D.out _ R1.out).mono ?_);rintro e w2 ⟨rfl,b2⟩))
      exact ⟨rfl,K1.out.below b2,Or.inr ⟨131,i,rfl,rfl⟩⟩
  | false =>
    have em:sms T 0 i=ok [] i:=by unfold sms;rw [hb];rfl
    rw [em]
    have BG:=hid_as (fun W (H:Rd W rb tb cap T i)=>beginsStmt_c H)
    rw [hb] at BG
    clear em h hb
    go_enter Tryz.func90,Tryz.ntmps90
    go_wp2
    go_loopw [5] (fun v wr=>v=.slice none 0 0∧wr=w) (fun _ _=>0)
    case atStart=>exact ⟨rfl,rfl⟩
    case round =>
      obtain ⟨rfl,rfl⟩:=hrel
      go_wp2_with (first
        | (go_at_call 134;(with_reducible refine (BG.out _ H.out).mono ?_);rintro e w1 ⟨rfl,b1⟩;have R1:=hid_as ((H.out).below b1);have K1:=hid_as ((K0.out).below b1);have z1:=K1.out.size;have q1:=b1.size;(try rw [World.size_alloc] at q1);have J1:=hid_as (kp_of_below (rb:=rb) b1);clear b1))
      go_ret
      exact ⟨K1.out,Or.inl ⟨[],_,_,rfl,rfl,⟨_,_,_,[],rfl,⟨rfl,Or.inl ⟨rfl,rfl⟩⟩,fun j o hj=>by simp at hj⟩,R1.out,Nat.le_refl _⟩⟩
set_option maxHeartbeats 4000000 in
set_option maxRecDepth 100000 in
theorem p_stmts_s {w:World} {rb tb cap:Nat} {T:TL} {i:Nat} (h:Rd w rb tb cap T i) (dp:Nat) (hd:dp≤32) (s:Nat→Re (List Nat)) (S:Hid (∀ W i,Rd W rb tb cap T i→Calls Tryz.prog 90 #[.pointer (some ⟨rb,0,none⟩),.int .i64 ((dp:Int)+1)] W fun e w'=>Outc rb tb cap T i W (s i) (qSs W) e w')):Calls Tryz.prog 90 #[.pointer (some ⟨rb,0,none⟩),.int .i64 dp] w fun e w'=>Outc rb tb cap T i w (rp (bgs T) (fun l k=>if isT T [59] k then ok l (k+1) else th (sm1 T s k) fun o m=>ok (l ++ [o]) m) (T.length+1) [] i) (qSs w) e w':=by
  have hrl:=h.rlt
  have htl:=h.lt
  have hwf:=h.wf.1
  have hd':¬ (32:Int) < dp:=by omega
  have H:=hid_as h
  generalize hM:rp (bgs T) (fun l k=>if isT T [59] k then ok l (k+1) else th (sm1 T s k) fun o m=>ok (l ++ [o]) m) (T.length+1) [] i=M
  have M0:=hid_as hM.symm
  clear h hM
  go_enter Tryz.func90,Tryz.ntmps90
  go_wp2
  go_loopw [5] (fun v wr=>∃ (k f:Nat) (l:List Nat) (xs:List Value),T.length < k+f∧i≤k∧l.length≤k+1∧Hid (Rd wr rb tb cap T k)∧Hid (Kp rb w wr)∧Hid (wr.ownsRow w.heap.size 114 13 v l.length xs)∧Hid (∀ j o,l[j]?=some o→xs[j * 13]?=some (.int .i64 (o:Int)))∧Hid (M=rp (bgs T) (fun l k=>if isT T [59] k then ok l (k+1) else th (sm1 T s k) fun o m=>ok (l ++ [o]) m) f l k)) (fun _ wr=>T.length - rdn rb wr)
  case atStart=>exact ⟨i,T.length+1,[],[],by omega,Nat.le_refl _,Nat.zero_le _,H,hid_as (Kp.refl rb w),hid_as (World.ownsRow_nil w w.heap.size 114 13),hid_as (fun j o hj=>by simp at hj),M0⟩
  case round =>
    obtain ⟨k,f,l,xs,hf,hik,hnk,hR,hK,hO,hP,hM⟩:=hrel
    have hat:=hid_as hR.out.rdn
    have hkl:=hR.out.ir
    have z0:=hK.out.size
    obtain ⟨f,rfl⟩:∃ f',f=f'+1:=⟨f - 1,by omega⟩
    cases hb:bgs T k with
    | false =>
      have BG:=hid_as (fun W (H:Rd W rb tb cap T k)=>beginsStmt_c H)
      rw [hb] at BG
      have Mr:=hid_as (rp_not0 hM.out hb)
      obtain ⟨a6,b6,c6,rfl⟩:=own_shape hO.out
      clear hM hb
      go_wp2_with (first
        | (go_at_call 134;(with_reducible refine (BG.out _ hR.out).mono ?_);rintro e w2 ⟨rfl,b2⟩;have R2:=hid_as ((hR.out).below b2);have K2:=hid_as ((hK.out).below b2);have z2:=K2.out.size;have q2:=b2.size;(try rw [World.size_alloc] at q2);have J2:=hid_as (kp_of_below (rb:=rb) b2);clear b2))
      go_ret
      exact ⟨K2.out,Or.inl ⟨l,k,_,Mr.out,rfl,⟨a6,b6,c6,xs,rfl,own_kp hO.out J2.out (by omega),hP.out⟩,R2.out,hik⟩⟩
    | true =>
      have BG:=hid_as (fun W (H:Rd W rb tb cap T k)=>beginsStmt_c H)
      rw [hb] at BG
      have Mr:=hid_as (rp_yes0 hM.out hb)
      have hn:=bgs_more hb
      clear hM hb
      cases hs:isT T [59] k with
      | true =>
        have A2:Hid (∀ W,Rd W rb tb cap T (k)→Calls Tryz.prog 85 #[.pointer (some ⟨rb,0,none⟩),.string ⟨#[59]⟩] W fun e w'=>e=.returned (.bool true)∧Kp rb W w'∧Rd w' rb tb cap T (k+1)):=fun W H=>accept_y H ⟨#[59]⟩ hs (by decide)
        have Ms:Hid (M=rp (bgs T) (fun l k=>if isT T [59] k then ok l (k+1) else th (sm1 T s k) fun o m=>ok (l ++ [o]) m) f l (k+1)):=(by have q:=Mr.out;simp only [hs,if_true] at q;exact hid_as q)
        clear Mr hs hn
        go_wp2_with (first
          | (go_at_call 134;(with_reducible refine (BG.out _ hR.out).mono ?_);rintro e w2 ⟨rfl,b2⟩;have R2:=hid_as ((hR.out).below b2);have K2:=hid_as ((hK.out).below b2);have z2:=K2.out.size;have q2:=b2.size;(try rw [World.size_alloc] at q2);have J2:=hid_as (kp_of_below (rb:=rb) b2);clear b2)
          | (go_at_call 85;(with_reducible refine (A2.out _ R2.out).mono ?_);rintro e w3 ⟨rfl,k3,r3⟩;have R3:=hid_as r3;have K3:=hid_as ((K2.out).trans k3);have z3:=K3.out.size;have q3:=k3.size;(try rw [World.size_alloc] at q3);have J3:=hid_as k3;clear k3 r3))
        go_roundw
        case rel=>exact ⟨k+1,f,l,xs,by omega,by omega,by omega,R3,K3,hid_as (own_kp hO.out (J2.out.trans J3.out) (by omega)),hP,Ms⟩
        case measure=>rw [R3.out.rdn,hat.out];omega
      | false =>
        have A2:Hid (∀ W,Rd W rb tb cap T (k)→Calls Tryz.prog 85 #[.pointer (some ⟨rb,0,none⟩),.string ⟨#[59]⟩] W fun e w'=>e=.returned (.bool false)∧Below W.heap.size W w'):=fun W H=>accept_n H ⟨#[59]⟩ hs
        have Ms:Hid (M=th (sm1 T s k) fun o m=>rp (bgs T) (fun l k=>if isT T [59] k then ok l (k+1) else th (sm1 T s k) fun o m=>ok (l ++ [o]) m) f (l ++ [o]) m):=(by have q:=Mr.out;simp only [hs,Bool.false_eq_true,if_false] at q;rw [th_th] at q;exact hid_as q)
        have C:=hid_as (fun W (H:Rd W rb tb cap T k)=>p_stmt H dp (by omega) s S hn)
        clear Mr hs hn
        go_wp2_with (first
          | (go_at_call 134;(with_reducible refine (BG.out _ hR.out).mono ?_);rintro e w2 ⟨rfl,b2⟩;have R2:=hid_as ((hR.out).below b2);have K2:=hid_as ((hK.out).below b2);have z2:=K2.out.size;have q2:=b2.size;(try rw [World.size_alloc] at q2);have J2:=hid_as (kp_of_below (rb:=rb) b2);clear b2)
          | (go_at_call 85;(with_reducible refine (A2.out _ R2.out).mono ?_);rintro e w3 ⟨rfl,b3⟩;have R3:=hid_as ((R2.out).below b3);have K3:=hid_as ((K2.out).below b3);have z3:=K3.out.size;have q3:=b3.size;(try rw [World.size_alloc] at q3);have J3:=hid_as (kp_of_below (rb:=rb) b3);clear b3)
          | (go_at_call 135;(with_reducible refine (C.out _ R3.out).mono ?_);rintro e w4 ⟨k4,⟨x4_0,i4,_,m4,rfl,⟨x4_1,x4_2,x4_3,x4_4,x4_5,a4_6,b4_6,c4_6,x4_7,a4_8,b4_8,c4_8,a4_9,b4_9,c4_9,a4_10,b4_10,c4_10,a4_11,b4_11,c4_11,x4_12,rfl⟩,r4,l4⟩ | ⟨n4,i4,m4,rfl⟩⟩;rotate_left;exact And.intro rfl (Outc.stop Ms.out m4 ((K3.out).trans k4));have R4:=hid_as r4;have K4:=hid_as ((K3.out).trans k4);have M4:=hid_as (th_go Ms.out m4);have z4:=K4.out.size;have q4:=k4.size;(try rw [World.size_alloc] at q4);have J4:=hid_as k4;clear k4 r4 m4;have O4:=hid_as (own_kp hO.out ((J2.out.trans J3.out).trans J4.out) (by omega));obtain ⟨v5,w5,hr5,ho5,hg5,_⟩:=push_at (cs:=#[.int .i64 (x4_0:Nat),.int .i64 x4_1,.int .i64 x4_2,.int .i64 x4_3,.string x4_4,.string x4_5,.slice a4_6 b4_6 c4_6,.int .i64 x4_7,.slice a4_8 b4_8 c4_8,.slice a4_9 b4_9 c4_9,.slice a4_10 b4_10 c4_10,.slice a4_11 b4_11 c4_11,.int .i64 x4_12]) Tryz.underlying30 infoStmt rfl (by decide) (by decide) O4.out (by omega) (by omega) rfl (by intro u hu;simp at hu;rcases hu with rfl | rfl | rfl | rfl | rfl | rfl | rfl | rfl | rfl | rfl | rfl | rfl | rfl <;> rfl);have K5:=hid_as ((K4.out.alloc (.cells #[.int .i64 (x4_0:Nat),.int .i64 x4_1,.int .i64 x4_2,.int .i64 x4_3,.string x4_4,.string x4_5,.slice a4_6 b4_6 c4_6,.int .i64 x4_7,.slice a4_8 b4_8 c4_8,.slice a4_9 b4_9 c4_9,.slice a4_10 b4_10 c4_10,.slice a4_11 b4_11 c4_11,.int .i64 x4_12] 114)).grown hg5 (fun k hk=>Nat.le_trans (by omega) (World.ownsRow.lt O4.out k hk).1));have R5:=hid_as ((R4.out.alloc (.cells #[.int .i64 (x4_0:Nat),.int .i64 x4_1,.int .i64 x4_2,.int .i64 x4_3,.string x4_4,.string x4_5,.slice a4_6 b4_6 c4_6,.int .i64 x4_7,.slice a4_8 b4_8 c4_8,.slice a4_9 b4_9 c4_9,.slice a4_10 b4_10 c4_10,.slice a4_11 b4_11 c4_11,.int .i64 x4_12] 114)).grown hg5 (fun e=>by have:=(World.ownsRow.lt O4.out rb e).1;omega) (fun e=>by have:=(World.ownsRow.lt O4.out tb e).1;omega));have z5:=K5.out.size;replace hr5:=hid_as hr5;replace ho5:=hid_as ho5;clear hg5)
          | (at_builtin;refine Lib.wpList_append_run _ rfl _ _ _ _ rfl _ _ rfl rfl _ _ hr5.out ?_))
        go_roundw
        case rel=>exact ⟨i4,f,l ++ [x4_0],_,by omega,by omega,by simp;omega,R5,K5,hid_as (by rw [List.length_append];exact ho5.out),hid_as (ops_push hO.out.1 hP.out rfl),M4⟩
        case measure=>rw [R5.out.rdn,hat.out];omega
/-- Statements, however deep. -/
theorem p_stmts {rb tb cap:Nat} {T:TL}:∀ (d dp:Nat),dp+d=33→∀ W i,Rd W rb tb cap T i→Calls Tryz.prog 90 #[.pointer (some ⟨rb,0,none⟩),.int .i64 dp] W fun e w'=>Outc rb tb cap T i W (sms T d i) (qSs W) e w'
  | 0,dp,h,_,_,H=>p_stmts_deep H dp (by omega)
  | d+1,dp,h,_,_,H=>by
    have ih:=p_stmts (rb:=rb) (tb:=tb) (cap:=cap) (T:=T) d (dp+1) (by omega)
    rw [show (((dp+1:Nat):Int))=(dp:Int)+1 by omega] at ih
    exact p_stmts_s H dp (by omega) (sms T d) ih
end Go.Proofs.YtapcpjidgemggaaGreatDoor
