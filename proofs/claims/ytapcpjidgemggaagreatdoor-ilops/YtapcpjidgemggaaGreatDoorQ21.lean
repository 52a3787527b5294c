/- Operators of a level (stage 13). -/
import Derived.Test.YtapcpjidgemggaaGreatDoorQ20
namespace Go.Proofs.YtapcpjidgemggaaGreatDoor
open Go.RowKit
open Adr Lx Sx
theorem bi_s (T:TL) (u:Nat→Re Tr) (c i:Nat):bi T u (c+1) i=th (bi T u c i) fun t k=>bl T (5 - c) (bi T u c) (T.length+1) t k:=rfl
theorem opr_nul:opr []=(0,0):=by decide
theorem RowE.of_bk2 {w:World} {g:Nat} {a0 a1 a2:Int} {a3 a4:ByteArray} {a5:Value} {a6:Int} {b0 b1 b2:Int} {b3 b4:ByteArray} {b5:Value} {b6:Int} (h:Bk w g #[.int .i64 a0,.int .i64 a1,.int .i64 a2,.string a3,.string a4,a5,.int .i64 a6,.int .i64 b0,.int .i64 b1,.int .i64 b2,.string b3,.string b4,b5,.int .i64 b6]):RowE w g 0 a0 a1 a2 a3 a4 a5 a6∧RowE w g 1 b0 b1 b2 b3 b4 b5 b6 :=
  ⟨⟨h.cell 0,h.cell 1,h.cell 2,h.cell 3,h.cell 4,h.cell 5,h.cell 6⟩,⟨h.cell 7,h.cell 8,h.cell 9,h.cell 10,h.cell 11,h.cell 12,h.cell 13⟩⟩
set_option maxHeartbeats 4000000 in
set_option maxRecDepth 100000 in
theorem p_binary_u {w:World} {rb tb cap:Nat} {T:TL} {i:Nat} (h:Rd w rb tb cap T i) (dp:Nat) (u:Nat→Re Tr) (U:Hid (∀ W i,Rd W rb tb cap T i→Calls Tryz.prog 193 #[.pointer (some ⟨rb,0,none⟩),.int .i64 dp] W fun e w'=>Outc rb tb cap T i W (u i) (qE W) e w')):Calls Tryz.prog 191 #[.pointer (some ⟨rb,0,none⟩),.int .i64 6,.int .i64 dp] w fun e w'=>Outc rb tb cap T i w (bi T u 0 i) (qE w) e w':=by
  have hrl:=h.rlt
  have htl:=h.lt
  have B0:=hid_as (Bk.fresh w #[.int .i64 0,.int .i64 0,.int .i64 0,.string ⟨#[]⟩,.string ⟨#[]⟩,.slice none 0 0,.int .i64 0] 53)
  have K0:=hid_as ((Kp.refl rb w).alloc (.cells #[.int .i64 0,.int .i64 0,.int .i64 0,.string ⟨#[]⟩,.string ⟨#[]⟩,.slice none 0 0,.int .i64 0] 53))
  have H:=hid_as (h.alloc (.cells #[.int .i64 0,.int .i64 0,.int .i64 0,.string ⟨#[]⟩,.string ⟨#[]⟩,.slice none 0 0,.int .i64 0] 53))
  have em:bi T u 0 i=u i:=rfl
  generalize bi T u 0 i=M at *
  have M0:=hid_as em
  clear h em
  go_enter Tryz.func191,Tryz.ntmps191
  go_wp2_with (first
    | (go_at_call 193;(with_reducible refine (U.out _ i H.out).mono ?_);rintro e w1 ⟨k1,⟨t1,i1,_,m1,rfl,⟨o1,kd1,v1,nm1,fl1,lp1,ln1,lc1,p1,rfl,E1'⟩,r1,l1⟩ | ⟨n1,i1,m1,rfl⟩⟩;rotate_left;exact And.intro rfl (Outc.stop0 M0.out m1 ((K0.out).trans k1));have R1:=hid_as r1;have K1:=hid_as ((K0.out).trans k1);have M1:=hid_as (M0.out.trans m1);have B1:=hid_as (B0.out.kp k1 (by omega));have z1:=K1.out.size;have q1:=k1.size;(try rw [World.size_alloc] at q1);have J1:=hid_as k1;clear k1 r1 m1;have E1:=hid_as E1';clear E1';rw [World.size_alloc] at E1;obtain ⟨s0,s1,s2,s3,s4,s5,s6⟩:=bk7 B1.out;have sf:=B1.out.fr))
  exact bodyPost_ret (v:=.agg #[.int .i64 o1,.int .i64 kd1,.int .i64 v1,.string nm1,.string fl1,.slice lp1 ln1 lc1,.int .i64 p1]) (by simp [results,Tryz.results191,go_sem,s0,s1,s2,s3,s4,s5,s6]) rfl ⟨K1.out.put7 (by omega) _ _ _ _ _ _ _,Or.inl ⟨_,_,_,M1.out,rfl,⟨_,_,_,_,_,_,_,_,_,rfl,((E1.out).set7 (by show ¬ (_≤_);omega) _ _ _ _ _ _ _).into (fun x (hx:w.heap.size+1≤x) _=>(by show w.heap.size≤x;omega))⟩,R1.out.put7 (by omega) (by omega) _ _ _ _ _ _ _,l1⟩⟩
set_option maxHeartbeats 4000000 in
set_option maxRecDepth 100000 in
theorem p_binary_l {w:World} {rb tb cap:Nat} {T:TL} {i:Nat} (h:Rd w rb tb cap T i) (dp lv c:Nat) (hl:lv+c=5) (u:Nat→Re Tr) (U:Hid (∀ W i,Rd W rb tb cap T i→Calls Tryz.prog 191 #[.pointer (some ⟨rb,0,none⟩),.int .i64 ((lv:Int)+1),.int .i64 dp] W fun e w'=>Outc rb tb cap T i W (bi T u c i) (qE W) e w')):Calls Tryz.prog 191 #[.pointer (some ⟨rb,0,none⟩),.int .i64 lv,.int .i64 dp] w fun e w'=>Outc rb tb cap T i w (bi T u (c+1) i) (qE w) e w':=by
  have hrl:=h.rlt
  have htl:=h.lt
  have B0:=hid_as (Bk.fresh w #[.int .i64 0,.int .i64 0,.int .i64 0,.string ⟨#[]⟩,.string ⟨#[]⟩,.slice none 0 0,.int .i64 0] 53)
  have K0:=hid_as ((Kp.refl rb w).alloc (.cells #[.int .i64 0,.int .i64 0,.int .i64 0,.string ⟨#[]⟩,.string ⟨#[]⟩,.slice none 0 0,.int .i64 0] 53))
  have H:=hid_as (h.alloc (.cells #[.int .i64 0,.int .i64 0,.int .i64 0,.string ⟨#[]⟩,.string ⟨#[]⟩,.slice none 0 0,.int .i64 0] 53))
  have em:bi T u (c+1) i=th (bi T u c i) fun t k=>bl T lv (bi T u c) (T.length+1) t k:=by rw [bi_s,show 5 - c=lv by omega]
  generalize bi T u (c+1) i=M at *
  have M0:=hid_as em
  have hl6:¬ (lv:Int)=6:=by omega
  have F3:=fd3
  have OP:=hid_as operator_c
  clear h em
  go_enter Tryz.func191,Tryz.ntmps191
  go_wp2_with (first
    | (go_at_call 191;(with_reducible refine (U.out _ i H.out).mono ?_);rintro e w1 ⟨k1,⟨t1,i1,_,m1,rfl,⟨o1,kd1,v1,nm1,fl1,lp1,ln1,lc1,p1,rfl,E1'⟩,r1,l1⟩ | ⟨n1,i1,m1,rfl⟩⟩;rotate_left;exact And.intro rfl (Outc.stop M0.out m1 ((K0.out).trans k1));have R1:=hid_as r1;have K1:=hid_as ((K0.out).trans k1);have M1:=hid_as (th_go M0.out m1);have B1:=hid_as (B0.out.kp k1 (by omega));have z1:=K1.out.size;have q1:=k1.size;(try rw [World.size_alloc] at q1);have J1:=hid_as k1;clear k1 r1 m1;have E1:=hid_as E1';clear E1';rw [World.size_alloc] at E1;have y1:=B1.out.lt;have V1:=hid_as (Bk.fresh w1 #[.int .i64 o1,.int .i64 kd1,.int .i64 v1,.string nm1,.string fl1,.slice lp1 ln1 lc1,.int .i64 p1] 53)))
  go_loopw [] (fun wr=>∃ (k f:Nat) (t:Tr) (oL kdL vL:Int) (nmL flL:ByteArray) (lpL:Option Addr) (lnL lcL:Nat) (pL:Int),T.length < k+f∧i≤k∧Hid (Rd wr rb tb cap T k)∧Hid (Kp rb w wr)∧Hid (Bk wr w.heap.size #[.int .i64 0,.int .i64 0,.int .i64 0,.string ⟨#[]⟩,.string ⟨#[]⟩,.slice none 0 0,.int .i64 0])∧Hid (Bk wr w1.heap.size #[.int .i64 oL,.int .i64 kdL,.int .i64 vL,.string nmL,.string flL,.slice lpL lnL lcL,.int .i64 pL])∧Hid (Et (fun x=>w.heap.size+1≤x∧x ≠ w1.heap.size) wr (.agg #[.int .i64 oL,.int .i64 kdL,.int .i64 vL,.string nmL,.string flL,.slice lpL lnL lcL,.int .i64 pL]) t)∧Hid (M=bl T lv (bi T u c) f t k)) (fun wr=>T.length - rdn rb wr)
  case atStart =>
    exact ⟨i1,T.length+1,t1,o1,kd1,v1,nm1,fl1,lp1,ln1,lc1,p1,by omega,l1,hid_as (R1.out.alloc _),hid_as (K1.out.alloc _),hid_as (B1.out.alloc _),V1,hid_as ((E1.out.into (S':=fun x=>w.heap.size+1≤x∧x ≠ w1.heap.size) (fun x hx hl=>⟨hx,by omega⟩)).alloc _),M1⟩
  case round =>
    obtain ⟨k,f,t,oL,kdL,vL,nmL,flL,lpL,lnL,lcL,pL,hf,hik,hR,hK,hB,hV,hE,hM⟩:=hrel
    have hat:=hid_as hR.out.rdn
    have hkl:=hR.out.ir
    have z0:=hK.out.size
    have y0:=hV.out.lt
    obtain ⟨f,rfl⟩:∃ f',f=f'+1:=⟨f - 1,by omega⟩
    have N0:=hid_as (fun W (H:Rd W rb tb cap T k)=>now_c H)
    unfold tv at N0
    have OPk:Hid (∀ W,Calls Tryz.prog 194 #[.string (tx (cu T k).1.text)] W fun e w'=>e=.returned (.tuple #[.int .i64 ((opr (ct T k)).1:Int),.int .i64 ((opr (ct T k)).2:Int)])∧w'=W):=fun W=>by
      have q:=OP.out (tx (cu T k).1.text) W
      rw [tx_list] at q
      exact q
    by_cases hc:(decide ((opr (ct T k)).1=0) || !decide ((opr (ct T k)).2=lv))=true
    · have Mr:Hid (M=ok t k):=by
        have q:=hM.out
        unfold bl at q
        rw [if_pos hc] at q
        exact hid_as q
      clear hM
      generalize opr (ct T k)=ab at *
      obtain ⟨a,b⟩:=ab
      have hc':(decide ((a:Int)=0) || !decide ((b:Int)=lv))=true:=by
        rw [show decide ((a:Int)=0)=decide (a=0) from decide_eq_decide.2 (by omega),show decide ((b:Int)=lv)=decide (b=lv) from decide_eq_decide.2 (by omega)]
        exact hc
      clear hc
      generalize cu T k=cc at *
      obtain ⟨⟨ta,tk,tn,tt⟩,pl⟩:=cc
      simp only at N0 OPk
      have hcc:(a:Int)=0 ∨ ¬ (a:Int)=0∧¬ (b:Int)=lv:=by
        rw [Bool.or_eq_true,Bool.not_eq_true',decide_eq_true_eq,decide_eq_false_iff_not] at hc'
        omega
      clear hc'
      rcases hcc with ha | ⟨ha,hb⟩
      · obtain rfl:a=0:=by omega
        clear ha
        go_wp2_with (first
          | (go_at_call 136;(with_reducible refine (N0.out _ hR.out).mono ?_);rintro e w2 ⟨rfl,b2⟩;have R2:=hid_as ((hR.out).below b2);have K2:=hid_as ((hK.out).below b2);have B2:=hid_as (hB.out.below b2);have V2:=hid_as (hV.out.below b2);have z2:=K2.out.size;have q2:=b2.size;(try rw [World.size_alloc] at q2);have J2:=hid_as (kp_of_below (rb:=rb) b2);clear b2;obtain ⟨s0,s1,s2,s3,s4,s5,s6⟩:=bk7 B2.out;have sf:=B2.out.fr;obtain ⟨u0,u1,u2,u3,u4,u5,u6⟩:=bk7 V2.out;have uf:=V2.out.fr)
          | (go_at_call 194;(with_reducible refine (OPk.out _).mono ?_);rintro e w' ⟨rfl,hw⟩;subst w'))
        have E2:=(hE.out.kp J2.out (fun h=>by have:=h.1;omega)).into (S':=fun x=>w.heap.size+1≤x) (fun x hx _=>hx.1)
        exact bodyPost_ret (v:=.agg #[.int .i64 oL,.int .i64 kdL,.int .i64 vL,.string nmL,.string flL,.slice lpL lnL lcL,.int .i64 pL]) (by simp [results,Tryz.results191,go_sem,s0,s1,s2,s3,s4,s5,s6]) rfl ⟨K2.out.put7 (by omega) _ _ _ _ _ _ _,Or.inl ⟨_,_,_,Mr.out,rfl,⟨_,_,_,_,_,_,_,_,_,rfl,((E2).set7 (by show ¬ (_≤_);omega) _ _ _ _ _ _ _).into (fun x (hx:w.heap.size+1≤x) _=>(by show w.heap.size≤x;omega))⟩,R2.out.put7 (by omega) (by omega) _ _ _ _ _ _ _,hik⟩⟩
      · have g1:((a:Int) == 0)=false:=by rw [beq_eq_false_iff_ne];exact ha
        have g2:((b:Int) == lv)=false:=by rw [beq_eq_false_iff_ne];exact hb
        have g3:((b:Int) != lv)=true:=by rw [bne,g2];rfl
        clear ha hb
        go_wp2_with (first
          | (go_at_call 136;(with_reducible refine (N0.out _ hR.out).mono ?_);rintro e w2 ⟨rfl,b2⟩;have R2:=hid_as ((hR.out).below b2);have K2:=hid_as ((hK.out).below b2);have B2:=hid_as (hB.out.below b2);have V2:=hid_as (hV.out.below b2);have z2:=K2.out.size;have q2:=b2.size;(try rw [World.size_alloc] at q2);have J2:=hid_as (kp_of_below (rb:=rb) b2);clear b2;obtain ⟨s0,s1,s2,s3,s4,s5,s6⟩:=bk7 B2.out;have sf:=B2.out.fr;obtain ⟨u0,u1,u2,u3,u4,u5,u6⟩:=bk7 V2.out;have uf:=V2.out.fr)
          | (go_at_call 194;(with_reducible refine (OPk.out _).mono ?_);rintro e w' ⟨rfl,hw⟩;subst w'))
        have E2:=(hE.out.kp J2.out (fun h=>by have:=h.1;omega)).into (S':=fun x=>w.heap.size+1≤x) (fun x hx _=>hx.1)
        exact bodyPost_ret (v:=.agg #[.int .i64 oL,.int .i64 kdL,.int .i64 vL,.string nmL,.string flL,.slice lpL lnL lcL,.int .i64 pL]) (by simp [results,Tryz.results191,go_sem,s0,s1,s2,s3,s4,s5,s6]) rfl ⟨K2.out.put7 (by omega) _ _ _ _ _ _ _,Or.inl ⟨_,_,_,Mr.out,rfl,⟨_,_,_,_,_,_,_,_,_,rfl,((E2).set7 (by show ¬ (_≤_);omega) _ _ _ _ _ _ _).into (fun x (hx:w.heap.size+1≤x) _=>(by show w.heap.size≤x;omega))⟩,R2.out.put7 (by omega) (by omega) _ _ _ _ _ _ _,hik⟩⟩
    · have hcc:¬ (opr (ct T k)).1=0∧(opr (ct T k)).2=lv:=by
        rw [Bool.not_eq_true,Bool.or_eq_false_iff,Bool.not_eq_false',decide_eq_false_iff_not,decide_eq_true_eq] at hc
        exact hc
      have hnul:¬ (cu T k).1=nul:=by
        intro e
        apply hcc.1
        unfold ct
        rw [e]
        exact congrArg Prod.fst opr_nul
      have Mr:Hid (M=th (bi T u c (k+1)) fun r m=>if lv=3 then ok (bin2 (opr (ct T k)).1 (ca T k) t r) m else bl T lv (bi T u c) f (bin2 (opr (ct T k)).1 (ca T k) t r) m):=by
        have q:=hM.out
        unfold bl at q
        rw [if_neg hc] at q
        exact hid_as q
      have D:=hid_as (fun W (H:Rd W rb tb cap T k)=>take_c H hnul)
      unfold tv at D
      unfold ca at Mr
      clear hM hc hnul
      obtain ⟨ha,hb⟩:=hcc
      generalize opr (ct T k)=ab at *
      obtain ⟨a,b⟩:=ab
      simp only at ha hb Mr OPk
      subst hb
      generalize cu T k=cc at *
      obtain ⟨⟨ta,tk,tn,tt⟩,pl⟩:=cc
      simp only at N0 OPk D Mr
      have ha':¬ (a:Int)=0:=by omega
      by_cases h3:b=3
      · subst h3
        have U3:Hid (∀ W i,Rd W rb tb cap T i→Calls Tryz.prog 191 #[.pointer (some ⟨rb,0,none⟩),.int .i64 4,.int .i64 dp] W fun e w'=>Outc rb tb cap T i W (bi T u c i) (qE W) e w'):=U
        go_wp2_with (first
          | (go_at_call 136;(with_reducible refine (N0.out _ hR.out).mono ?_);rintro e w2 ⟨rfl,b2⟩;have R2:=hid_as ((hR.out).below b2);have K2:=hid_as ((hK.out).below b2);have B2:=hid_as (hB.out.below b2);have V2:=hid_as (hV.out.below b2);have z2:=K2.out.size;have q2:=b2.size;(try rw [World.size_alloc] at q2);have J2:=hid_as (kp_of_below (rb:=rb) b2);clear b2)
          | (go_at_call 194;(with_reducible refine (OPk.out _).mono ?_);rintro e w' ⟨rfl,hw⟩;subst w')
          | (go_at_call 128;(with_reducible refine (D.out _ R2.out).mono ?_);rintro e w3 ⟨rfl,k3,r3⟩;have R3:=hid_as r3;have K3:=hid_as ((K2.out).trans k3);have B3:=hid_as (B2.out.kp k3 (by omega));have V3:=hid_as (V2.out.kp k3 (by omega));have z3:=K3.out.size;have q3:=k3.size;(try rw [World.size_alloc] at q3);have J3:=hid_as k3;clear k3 r3;have G3:=hid_as (Bk.fresh w3 #[.int .i64 ta,.int .i64 tk,.int .i64 tn,.string (tx tt),.int .i64 pl] 42);have y3:=V3.out.lt)
          | (go_at_call 191;(with_reducible refine (U3.out _ (k+1) (R3.out.alloc _)).mono ?_);rintro e w4 ⟨k4,⟨t4,i4,_,m4,rfl,⟨o4,kd4,v4,nm4,fl4,lp4,ln4,lc4,p4,rfl,E4'⟩,r4,l4⟩ | ⟨n4,i4,m4,rfl⟩⟩;rotate_left;exact And.intro rfl (Outc.stop Mr.out m4 ((K3.out.alloc _).trans k4));have R4:=hid_as r4;have K4:=hid_as ((K3.out.alloc _).trans k4);have M4:=hid_as (th_go Mr.out m4);have B4:=hid_as ((B3.out.alloc (.cells #[.int .i64 ta,.int .i64 tk,.int .i64 tn,.string (tx tt),.int .i64 pl] 42)).kp k4 (by omega));have V4:=hid_as ((V3.out.alloc (.cells #[.int .i64 ta,.int .i64 tk,.int .i64 tn,.string (tx tt),.int .i64 pl] 42)).kp k4 (by omega));have G4:=hid_as (G3.out.kp k4 (by omega));have z4:=K4.out.size;have q4:=k4.size;(try rw [World.size_alloc] at q4);have J4:=hid_as k4;clear k4 r4 m4;have E4:=hid_as E4';clear E4';have y4:=G4.out.lt;have d00:¬ w.heap.size=w4.heap.size:=(by omega);have d01:¬ w.heap.size=w4.heap.size+1:=(by omega);have d10:¬ w1.heap.size=w4.heap.size:=(by omega);have d11:¬ w1.heap.size=w4.heap.size+1:=(by omega);have d30:¬ w3.heap.size=w4.heap.size:=(by omega);have d31:¬ w3.heap.size=w4.heap.size+1:=(by omega);have e0:=fun o=>(bk7 (V4.out.alloc o)).1;have e1:=fun o=>(bk7 (V4.out.alloc o)).2.1;have e2:=fun o=>(bk7 (V4.out.alloc o)).2.2.1;have e3:=fun o=>(bk7 (V4.out.alloc o)).2.2.2.1;have e4:=fun o=>(bk7 (V4.out.alloc o)).2.2.2.2.1;have e5:=fun o=>(bk7 (V4.out.alloc o)).2.2.2.2.2.1;have e6:=fun o=>(bk7 (V4.out.alloc o)).2.2.2.2.2.2;have ef:=fun o=>(V4.out.alloc o).fr;have u0:=fun o p=>(bk7 ((V4.out.alloc o).alloc p)).1;have u1:=fun o p=>(bk7 ((V4.out.alloc o).alloc p)).2.1;have u2:=fun o p=>(bk7 ((V4.out.alloc o).alloc p)).2.2.1;have u3:=fun o p=>(bk7 ((V4.out.alloc o).alloc p)).2.2.2.1;have u4:=fun o p=>(bk7 ((V4.out.alloc o).alloc p)).2.2.2.2.1;have u5:=fun o p=>(bk7 ((V4.out.alloc o).alloc p)).2.2.2.2.2.1;have u6:=fun o p=>(bk7 ((V4.out.alloc o).alloc p)).2.2.2.2.2.2;have uf:=fun o p=>((V4.out.alloc o).alloc p).fr;have g0:=fun o p=>(bk5 ((G4.out.alloc o).alloc p)).1;have g1:=fun o p=>(bk5 ((G4.out.alloc o).alloc p)).2.1;have g2:=fun o p=>(bk5 ((G4.out.alloc o).alloc p)).2.2.1;have g3:=fun o p=>(bk5 ((G4.out.alloc o).alloc p)).2.2.2.1;have g4:=fun o p=>(bk5 ((G4.out.alloc o).alloc p)).2.2.2.2;have gf:=fun o p=>((G4.out.alloc o).alloc p).fr;have s0:=fun o p=>(bk7 ((B4.out.alloc o).alloc p)).1;have s1:=fun o p=>(bk7 ((B4.out.alloc o).alloc p)).2.1;have s2:=fun o p=>(bk7 ((B4.out.alloc o).alloc p)).2.2.1;have s3:=fun o p=>(bk7 ((B4.out.alloc o).alloc p)).2.2.2.1;have s4:=fun o p=>(bk7 ((B4.out.alloc o).alloc p)).2.2.2.2.1;have s5:=fun o p=>(bk7 ((B4.out.alloc o).alloc p)).2.2.2.2.2.1;have s6:=fun o p=>(bk7 ((B4.out.alloc o).alloc p)).2.2.2.2.2.2;have sf:=fun o p=>((B4.out.alloc o).alloc p).fr))
        have Rm:=((R4.out.alloc (.cells #[.int .i64 o4,.int .i64 kd4,.int .i64 v4,.string nm4,.string fl4,.slice lp4 ln4 lc4,.int .i64 p4] 53)).alloc (.cells #[.int .i64 oL,.int .i64 kdL,.int .i64 vL,.string nmL,.string flL,.slice lpL lnL lcL,.int .i64 pL,.int .i64 o4,.int .i64 kd4,.int .i64 v4,.string nm4,.string fl4,.slice lp4 ln4 lc4,.int .i64 p4] 53)).put7 (g:=w1.heap.size) (by omega) (by omega) (.int .i64 a) (.int .i64 0) (.int .i64 0) (.string ⟨#[]⟩) (.string ⟨#[]⟩) (.slice (some ⟨w4.heap.size+1,0,none⟩) 2 2) (.int .i64 pl)
        have Km:=((K4.out.alloc (.cells #[.int .i64 o4,.int .i64 kd4,.int .i64 v4,.string nm4,.string fl4,.slice lp4 ln4 lc4,.int .i64 p4] 53)).alloc (.cells #[.int .i64 oL,.int .i64 kdL,.int .i64 vL,.string nmL,.string flL,.slice lpL lnL lcL,.int .i64 pL,.int .i64 o4,.int .i64 kd4,.int .i64 v4,.string nm4,.string fl4,.slice lp4 ln4 lc4,.int .i64 p4] 53)).put7 (g:=w1.heap.size) (by omega) (.int .i64 a) (.int .i64 0) (.int .i64 0) (.string ⟨#[]⟩) (.string ⟨#[]⟩) (.slice (some ⟨w4.heap.size+1,0,none⟩) 2 2) (.int .i64 pl)
        have Bm:=((B4.out.alloc (.cells #[.int .i64 o4,.int .i64 kd4,.int .i64 v4,.string nm4,.string fl4,.slice lp4 ln4 lc4,.int .i64 p4] 53)).alloc (.cells #[.int .i64 oL,.int .i64 kdL,.int .i64 vL,.string nmL,.string flL,.slice lpL lnL lcL,.int .i64 pL,.int .i64 o4,.int .i64 kd4,.int .i64 v4,.string nm4,.string fl4,.slice lp4 ln4 lc4,.int .i64 p4] 53)).past7 (g:=w1.heap.size) (by omega) (.int .i64 a) (.int .i64 0) (.int .i64 0) (.string ⟨#[]⟩) (.string ⟨#[]⟩) (.slice (some ⟨w4.heap.size+1,0,none⟩) 2 2) (.int .i64 pl)
        have Vm:=((V4.out.alloc (.cells #[.int .i64 o4,.int .i64 kd4,.int .i64 v4,.string nm4,.string fl4,.slice lp4 ln4 lc4,.int .i64 p4] 53)).alloc (.cells #[.int .i64 oL,.int .i64 kdL,.int .i64 vL,.string nmL,.string flL,.slice lpL lnL lcL,.int .i64 pL,.int .i64 o4,.int .i64 kd4,.int .i64 v4,.string nm4,.string fl4,.slice lp4 ln4 lc4,.int .i64 p4] 53)).put7 (.int .i64 a) (.int .i64 0) (.int .i64 0) (.string ⟨#[]⟩) (.string ⟨#[]⟩) (.slice (some ⟨w4.heap.size+1,0,none⟩) 2 2) (.int .i64 pl)
        have G0:=Bk.fresh (w4.alloc (.cells #[.int .i64 o4,.int .i64 kd4,.int .i64 v4,.string nm4,.string fl4,.slice lp4 ln4 lc4,.int .i64 p4] 53)) #[.int .i64 oL,.int .i64 kdL,.int .i64 vL,.string nmL,.string flL,.slice lpL lnL lcL,.int .i64 pL,.int .i64 o4,.int .i64 kd4,.int .i64 v4,.string nm4,.string fl4,.slice lp4 ln4 lc4,.int .i64 p4] 53
        rw [World.size_alloc] at G0
        have Gm:=G0.past7 (g:=w1.heap.size) (by omega) (.int .i64 a) (.int .i64 0) (.int .i64 0) (.string ⟨#[]⟩) (.string ⟨#[]⟩) (.slice (some ⟨w4.heap.size+1,0,none⟩) 2 2) (.int .i64 pl)
        have EL:=(((hE.out.kp (((J2.out.trans J3.out).alloc _).trans J4.out) (fun h=>by have:=h.1;omega)).alloc (.cells #[.int .i64 o4,.int .i64 kd4,.int .i64 v4,.string nm4,.string fl4,.slice lp4 ln4 lc4,.int .i64 p4] 53)).alloc (.cells #[.int .i64 oL,.int .i64 kdL,.int .i64 vL,.string nmL,.string flL,.slice lpL lnL lcL,.int .i64 pL,.int .i64 o4,.int .i64 kd4,.int .i64 v4,.string nm4,.string fl4,.slice lp4 ln4 lc4,.int .i64 p4] 53)).set7 (g:=w1.heap.size) (fun h=>h.2 rfl) (.int .i64 a) (.int .i64 0) (.int .i64 0) (.string ⟨#[]⟩) (.string ⟨#[]⟩) (.slice (some ⟨w4.heap.size+1,0,none⟩) 2 2) (.int .i64 pl)
        have ER:=(((E4.out.into (S':=fun x=>w.heap.size+1≤x∧x ≠ w1.heap.size) (fun x hx _=>by have hx2:(w3.alloc (.cells #[.int .i64 ta,.int .i64 tk,.int .i64 tn,.string (tx tt),.int .i64 pl] 42)).heap.size≤x:=hx;rw [World.size_alloc] at hx2;exact ⟨by omega,by omega⟩)).alloc (.cells #[.int .i64 o4,.int .i64 kd4,.int .i64 v4,.string nm4,.string fl4,.slice lp4 ln4 lc4,.int .i64 p4] 53)).alloc (.cells #[.int .i64 oL,.int .i64 kdL,.int .i64 vL,.string nmL,.string flL,.slice lpL lnL lcL,.int .i64 pL,.int .i64 o4,.int .i64 kd4,.int .i64 v4,.string nm4,.string fl4,.slice lp4 ln4 lc4,.int .i64 p4] 53)).set7 (g:=w1.heap.size) (fun h=>h.2 rfl) (.int .i64 a) (.int .i64 0) (.int .i64 0) (.string ⟨#[]⟩) (.string ⟨#[]⟩) (.slice (some ⟨w4.heap.size+1,0,none⟩) 2 2) (.int .i64 pl)
        have Em:=Et.node2 (d:=⟨a,0,0,[],[],pl,2⟩) (cap:=2) rfl (Nat.le_refl _) (show w.heap.size+1≤w4.heap.size+1∧w4.heap.size+1 ≠ w1.heap.size by omega) Gm.lt Gm.fr (RowE.of_bk2 Gm).1 EL (RowE.of_bk2 Gm).2 ER
        have FB:=Bm.put7 (.int .i64 a) (.int .i64 0) (.int .i64 0) (.string ⟨#[]⟩) (.string ⟨#[]⟩) (.slice (some ⟨w4.heap.size+1,0,none⟩) 2 2) (.int .i64 pl)
        obtain ⟨c0,c1,c2,c3,c4,c5,c6⟩:=bk7 FB
        have E5:=Em.into (S':=fun x=>w.heap.size+1≤x) (fun x hx _=>hx.1)
        exact bodyPost_ret (v:=.agg #[.int .i64 a,.int .i64 0,.int .i64 0,.string ⟨#[]⟩,.string ⟨#[]⟩,.slice (some ⟨w4.heap.size+1,0,none⟩) 2 2,.int .i64 pl]) (by simp [results,Tryz.results191,go_sem,c0,c1,c2,c3,c4,c5,c6]) rfl ⟨Km.put7 (by omega) _ _ _ _ _ _ _,Or.inl ⟨_,_,_,M4.out,rfl,⟨_,_,_,_,_,_,_,_,_,rfl,((E5).set7 (by show ¬ (_≤_);omega) _ _ _ _ _ _ _).into (fun x (hx:w.heap.size+1≤x) _=>(by show w.heap.size≤x;omega))⟩,Rm.put7 (by omega) (by omega) _ _ _ _ _ _ _,(by omega)⟩⟩
      · have g3:((b:Int) == 3)=false:=by rw [beq_eq_false_iff_ne];omega
        have Mr2:Hid (M=th (bi T u c (k+1)) fun r m=>bl T b (bi T u c) f (bin2 a pl t r) m):=by
          have q:=Mr.out
          rw [show (fun (r:Tr) (m:Nat)=>if b=3 then ok (bin2 a pl t r) m else bl T b (bi T u c) f (bin2 a pl t r) m)=fun r m=>bl T b (bi T u c) f (bin2 a pl t r) m from by funext r m;rw [if_neg h3]] at q
          exact hid_as q
        clear h3 Mr
        go_wp2_with (first
          | (go_at_call 136;(with_reducible refine (N0.out _ hR.out).mono ?_);rintro e w2 ⟨rfl,b2⟩;have R2:=hid_as ((hR.out).below b2);have K2:=hid_as ((hK.out).below b2);have B2:=hid_as (hB.out.below b2);have V2:=hid_as (hV.out.below b2);have z2:=K2.out.size;have q2:=b2.size;(try rw [World.size_alloc] at q2);have J2:=hid_as (kp_of_below (rb:=rb) b2);clear b2)
          | (go_at_call 194;(with_reducible refine (OPk.out _).mono ?_);rintro e w' ⟨rfl,hw⟩;subst w')
          | (go_at_call 128;(with_reducible refine (D.out _ R2.out).mono ?_);rintro e w3 ⟨rfl,k3,r3⟩;have R3:=hid_as r3;have K3:=hid_as ((K2.out).trans k3);have B3:=hid_as (B2.out.kp k3 (by omega));have V3:=hid_as (V2.out.kp k3 (by omega));have z3:=K3.out.size;have q3:=k3.size;(try rw [World.size_alloc] at q3);have J3:=hid_as k3;clear k3 r3;have G3:=hid_as (Bk.fresh w3 #[.int .i64 ta,.int .i64 tk,.int .i64 tn,.string (tx tt),.int .i64 pl] 42);have y3:=V3.out.lt)
          | (go_at_call 191;(with_reducible refine (U.out _ (k+1) (R3.out.alloc _)).mono ?_);rintro e w4 ⟨k4,⟨t4,i4,_,m4,rfl,⟨o4,kd4,v4,nm4,fl4,lp4,ln4,lc4,p4,rfl,E4'⟩,r4,l4⟩ | ⟨n4,i4,m4,rfl⟩⟩;rotate_left;exact And.intro rfl (Outc.stop Mr2.out m4 ((K3.out.alloc _).trans k4));have R4:=hid_as r4;have K4:=hid_as ((K3.out.alloc _).trans k4);have M4:=hid_as (th_go Mr2.out m4);have B4:=hid_as ((B3.out.alloc (.cells #[.int .i64 ta,.int .i64 tk,.int .i64 tn,.string (tx tt),.int .i64 pl] 42)).kp k4 (by omega));have V4:=hid_as ((V3.out.alloc (.cells #[.int .i64 ta,.int .i64 tk,.int .i64 tn,.string (tx tt),.int .i64 pl] 42)).kp k4 (by omega));have G4:=hid_as (G3.out.kp k4 (by omega));have z4:=K4.out.size;have q4:=k4.size;(try rw [World.size_alloc] at q4);have J4:=hid_as k4;clear k4 r4 m4;have E4:=hid_as E4';clear E4';have y4:=G4.out.lt;have d00:¬ w.heap.size=w4.heap.size:=(by omega);have d01:¬ w.heap.size=w4.heap.size+1:=(by omega);have d10:¬ w1.heap.size=w4.heap.size:=(by omega);have d11:¬ w1.heap.size=w4.heap.size+1:=(by omega);have d30:¬ w3.heap.size=w4.heap.size:=(by omega);have d31:¬ w3.heap.size=w4.heap.size+1:=(by omega);have e0:=fun o=>(bk7 (V4.out.alloc o)).1;have e1:=fun o=>(bk7 (V4.out.alloc o)).2.1;have e2:=fun o=>(bk7 (V4.out.alloc o)).2.2.1;have e3:=fun o=>(bk7 (V4.out.alloc o)).2.2.2.1;have e4:=fun o=>(bk7 (V4.out.alloc o)).2.2.2.2.1;have e5:=fun o=>(bk7 (V4.out.alloc o)).2.2.2.2.2.1;have e6:=fun o=>(bk7 (V4.out.alloc o)).2.2.2.2.2.2;have ef:=fun o=>(V4.out.alloc o).fr;have u0:=fun o p=>(bk7 ((V4.out.alloc o).alloc p)).1;have u1:=fun o p=>(bk7 ((V4.out.alloc o).alloc p)).2.1;have u2:=fun o p=>(bk7 ((V4.out.alloc o).alloc p)).2.2.1;have u3:=fun o p=>(bk7 ((V4.out.alloc o).alloc p)).2.2.2.1;have u4:=fun o p=>(bk7 ((V4.out.alloc o).alloc p)).2.2.2.2.1;have u5:=fun o p=>(bk7 ((V4.out.alloc o).alloc p)).2.2.2.2.2.1;have u6:=fun o p=>(bk7 ((V4.out.alloc o).alloc p)).2.2.2.2.2.2;have uf:=fun o p=>((V4.out.alloc o).alloc p).fr;have g0:=fun o p=>(bk5 ((G4.out.alloc o).alloc p)).1;have g1:=fun o p=>(bk5 ((G4.out.alloc o).alloc p)).2.1;have g2:=fun o p=>(bk5 ((G4.out.alloc o).alloc p)).2.2.1;have g3:=fun o p=>(bk5 ((G4.out.alloc o).alloc p)).2.2.2.1;have g4:=fun o p=>(bk5 ((G4.out.alloc o).alloc p)).2.2.2.2;have gf:=fun o p=>((G4.out.alloc o).alloc p).fr;have s0:=fun o p=>(bk7 ((B4.out.alloc o).alloc p)).1;have s1:=fun o p=>(bk7 ((B4.out.alloc o).alloc p)).2.1;have s2:=fun o p=>(bk7 ((B4.out.alloc o).alloc p)).2.2.1;have s3:=fun o p=>(bk7 ((B4.out.alloc o).alloc p)).2.2.2.1;have s4:=fun o p=>(bk7 ((B4.out.alloc o).alloc p)).2.2.2.2.1;have s5:=fun o p=>(bk7 ((B4.out.alloc o).alloc p)).2.2.2.2.2.1;have s6:=fun o p=>(bk7 ((B4.out.alloc o).alloc p)).2.2.2.2.2.2;have sf:=fun o p=>((B4.out.alloc o).alloc p).fr))
        have Rm:=((R4.out.alloc (.cells #[.int .i64 o4,.int .i64 kd4,.int .i64 v4,.string nm4,.string fl4,.slice lp4 ln4 lc4,.int .i64 p4] 53)).alloc (.cells #[.int .i64 oL,.int .i64 kdL,.int .i64 vL,.string nmL,.string flL,.slice lpL lnL lcL,.int .i64 pL,.int .i64 o4,.int .i64 kd4,.int .i64 v4,.string nm4,.string fl4,.slice lp4 ln4 lc4,.int .i64 p4] 53)).put7 (g:=w1.heap.size) (by omega) (by omega) (.int .i64 a) (.int .i64 0) (.int .i64 0) (.string ⟨#[]⟩) (.string ⟨#[]⟩) (.slice (some ⟨w4.heap.size+1,0,none⟩) 2 2) (.int .i64 pl)
        have Km:=((K4.out.alloc (.cells #[.int .i64 o4,.int .i64 kd4,.int .i64 v4,.string nm4,.string fl4,.slice lp4 ln4 lc4,.int .i64 p4] 53)).alloc (.cells #[.int .i64 oL,.int .i64 kdL,.int .i64 vL,.string nmL,.string flL,.slice lpL lnL lcL,.int .i64 pL,.int .i64 o4,.int .i64 kd4,.int .i64 v4,.string nm4,.string fl4,.slice lp4 ln4 lc4,.int .i64 p4] 53)).put7 (g:=w1.heap.size) (by omega) (.int .i64 a) (.int .i64 0) (.int .i64 0) (.string ⟨#[]⟩) (.string ⟨#[]⟩) (.slice (some ⟨w4.heap.size+1,0,none⟩) 2 2) (.int .i64 pl)
        have Bm:=((B4.out.alloc (.cells #[.int .i64 o4,.int .i64 kd4,.int .i64 v4,.string nm4,.string fl4,.slice lp4 ln4 lc4,.int .i64 p4] 53)).alloc (.cells #[.int .i64 oL,.int .i64 kdL,.int .i64 vL,.string nmL,.string flL,.slice lpL lnL lcL,.int .i64 pL,.int .i64 o4,.int .i64 kd4,.int .i64 v4,.string nm4,.string fl4,.slice lp4 ln4 lc4,.int .i64 p4] 53)).past7 (g:=w1.heap.size) (by omega) (.int .i64 a) (.int .i64 0) (.int .i64 0) (.string ⟨#[]⟩) (.string ⟨#[]⟩) (.slice (some ⟨w4.heap.size+1,0,none⟩) 2 2) (.int .i64 pl)
        have Vm:=((V4.out.alloc (.cells #[.int .i64 o4,.int .i64 kd4,.int .i64 v4,.string nm4,.string fl4,.slice lp4 ln4 lc4,.int .i64 p4] 53)).alloc (.cells #[.int .i64 oL,.int .i64 kdL,.int .i64 vL,.string nmL,.string flL,.slice lpL lnL lcL,.int .i64 pL,.int .i64 o4,.int .i64 kd4,.int .i64 v4,.string nm4,.string fl4,.slice lp4 ln4 lc4,.int .i64 p4] 53)).put7 (.int .i64 a) (.int .i64 0) (.int .i64 0) (.string ⟨#[]⟩) (.string ⟨#[]⟩) (.slice (some ⟨w4.heap.size+1,0,none⟩) 2 2) (.int .i64 pl)
        have G0:=Bk.fresh (w4.alloc (.cells #[.int .i64 o4,.int .i64 kd4,.int .i64 v4,.string nm4,.string fl4,.slice lp4 ln4 lc4,.int .i64 p4] 53)) #[.int .i64 oL,.int .i64 kdL,.int .i64 vL,.string nmL,.string flL,.slice lpL lnL lcL,.int .i64 pL,.int .i64 o4,.int .i64 kd4,.int .i64 v4,.string nm4,.string fl4,.slice lp4 ln4 lc4,.int .i64 p4] 53
        rw [World.size_alloc] at G0
        have Gm:=G0.past7 (g:=w1.heap.size) (by omega) (.int .i64 a) (.int .i64 0) (.int .i64 0) (.string ⟨#[]⟩) (.string ⟨#[]⟩) (.slice (some ⟨w4.heap.size+1,0,none⟩) 2 2) (.int .i64 pl)
        have EL:=(((hE.out.kp (((J2.out.trans J3.out).alloc _).trans J4.out) (fun h=>by have:=h.1;omega)).alloc (.cells #[.int .i64 o4,.int .i64 kd4,.int .i64 v4,.string nm4,.string fl4,.slice lp4 ln4 lc4,.int .i64 p4] 53)).alloc (.cells #[.int .i64 oL,.int .i64 kdL,.int .i64 vL,.string nmL,.string flL,.slice lpL lnL lcL,.int .i64 pL,.int .i64 o4,.int .i64 kd4,.int .i64 v4,.string nm4,.string fl4,.slice lp4 ln4 lc4,.int .i64 p4] 53)).set7 (g:=w1.heap.size) (fun h=>h.2 rfl) (.int .i64 a) (.int .i64 0) (.int .i64 0) (.string ⟨#[]⟩) (.string ⟨#[]⟩) (.slice (some ⟨w4.heap.size+1,0,none⟩) 2 2) (.int .i64 pl)
        have ER:=(((E4.out.into (S':=fun x=>w.heap.size+1≤x∧x ≠ w1.heap.size) (fun x hx _=>by have hx2:(w3.alloc (.cells #[.int .i64 ta,.int .i64 tk,.int .i64 tn,.string (tx tt),.int .i64 pl] 42)).heap.size≤x:=hx;rw [World.size_alloc] at hx2;exact ⟨by omega,by omega⟩)).alloc (.cells #[.int .i64 o4,.int .i64 kd4,.int .i64 v4,.string nm4,.string fl4,.slice lp4 ln4 lc4,.int .i64 p4] 53)).alloc (.cells #[.int .i64 oL,.int .i64 kdL,.int .i64 vL,.string nmL,.string flL,.slice lpL lnL lcL,.int .i64 pL,.int .i64 o4,.int .i64 kd4,.int .i64 v4,.string nm4,.string fl4,.slice lp4 ln4 lc4,.int .i64 p4] 53)).set7 (g:=w1.heap.size) (fun h=>h.2 rfl) (.int .i64 a) (.int .i64 0) (.int .i64 0) (.string ⟨#[]⟩) (.string ⟨#[]⟩) (.slice (some ⟨w4.heap.size+1,0,none⟩) 2 2) (.int .i64 pl)
        have Em:=Et.node2 (d:=⟨a,0,0,[],[],pl,2⟩) (cap:=2) rfl (Nat.le_refl _) (show w.heap.size+1≤w4.heap.size+1∧w4.heap.size+1 ≠ w1.heap.size by omega) Gm.lt Gm.fr (RowE.of_bk2 Gm).1 EL (RowE.of_bk2 Gm).2 ER
        go_roundw
        case rel=>exact ⟨i4,f,bin2 a pl t t4,a,0,0,⟨#[]⟩,⟨#[]⟩,some ⟨w4.heap.size+1,0,none⟩,2,2,pl,by omega,by omega,hid_as Rm,hid_as Km,hid_as Bm,hid_as Vm,hid_as Em,M4⟩
        case measure=>rw [Rm.rdn,hat.out];omega
set_option maxHeartbeats 4000000 in
set_option maxRecDepth 100000 in
theorem p_expr {w:World} {rb tb cap:Nat} {T:TL} {i:Nat} (h:Rd w rb tb cap T i) (dp:Nat) (m:Nat→Re Tr) (U:Hid (∀ W i,Rd W rb tb cap T i→Calls Tryz.prog 191 #[.pointer (some ⟨rb,0,none⟩),.int .i64 0,.int .i64 dp] W fun e w'=>Outc rb tb cap T i W (m i) (qE W) e w')):Calls Tryz.prog 186 #[.pointer (some ⟨rb,0,none⟩),.int .i64 dp] w fun e w'=>Outc rb tb cap T i w (m i) (qE w) e w':=by
  have hrl:=h.rlt
  have htl:=h.lt
  have B0:=hid_as (Bk.fresh w #[.int .i64 0,.int .i64 0,.int .i64 0,.string ⟨#[]⟩,.string ⟨#[]⟩,.slice none 0 0,.int .i64 0] 53)
  have K0:=hid_as ((Kp.refl rb w).alloc (.cells #[.int .i64 0,.int .i64 0,.int .i64 0,.string ⟨#[]⟩,.string ⟨#[]⟩,.slice none 0 0,.int .i64 0] 53))
  have H:=hid_as (h.alloc (.cells #[.int .i64 0,.int .i64 0,.int .i64 0,.string ⟨#[]⟩,.string ⟨#[]⟩,.slice none 0 0,.int .i64 0] 53))
  generalize hM:m i=M at *
  have M0:=hid_as hM.symm
  clear h hM
  go_enter Tryz.func186,Tryz.ntmps186
  go_wp2_with (first
    | (go_at_call 191;(with_reducible refine (U.out _ i H.out).mono ?_);rintro e w1 ⟨k1,⟨t1,i1,_,m1,rfl,⟨o1,kd1,v1,nm1,fl1,lp1,ln1,lc1,p1,rfl,E1'⟩,r1,l1⟩ | ⟨n1,i1,m1,rfl⟩⟩;rotate_left;exact And.intro rfl (Outc.stop0 M0.out m1 ((K0.out).trans k1));have R1:=hid_as r1;have K1:=hid_as ((K0.out).trans k1);have M1:=hid_as (M0.out.trans m1);have B1:=hid_as (B0.out.kp k1 (by omega));have z1:=K1.out.size;have q1:=k1.size;(try rw [World.size_alloc] at q1);have J1:=hid_as k1;clear k1 r1 m1;have E1:=hid_as E1';clear E1';rw [World.size_alloc] at E1;obtain ⟨s0,s1,s2,s3,s4,s5,s6⟩:=bk7 B1.out;have sf:=B1.out.fr))
  exact bodyPost_ret (v:=.agg #[.int .i64 o1,.int .i64 kd1,.int .i64 v1,.string nm1,.string fl1,.slice lp1 ln1 lc1,.int .i64 p1]) (by simp [results,Tryz.results186,go_sem,s0,s1,s2,s3,s4,s5,s6]) rfl ⟨K1.out.put7 (by omega) _ _ _ _ _ _ _,Or.inl ⟨_,_,_,M1.out,rfl,⟨_,_,_,_,_,_,_,_,_,rfl,((E1.out).set7 (by show ¬ (_≤_);omega) _ _ _ _ _ _ _).into (fun x (hx:w.heap.size+1≤x) _=>(by show w.heap.size≤x;omega))⟩,R1.out.put7 (by omega) (by omega) _ _ _ _ _ _ _,l1⟩⟩
/-- Levels, out of operands. -/
theorem p_levels {rb tb cap:Nat} {T:TL} (dp:Nat) (u:Nat→Re Tr) (U:∀ W i,Rd W rb tb cap T i→Calls Tryz.prog 193 #[.pointer (some ⟨rb,0,none⟩),.int .i64 dp] W fun e w'=>Outc rb tb cap T i W (u i) (qE W) e w') :
    ∀ (c lv:Nat),lv+c=6→∀ W i,Rd W rb tb cap T i→Calls Tryz.prog 191 #[.pointer (some ⟨rb,0,none⟩),.int .i64 lv,.int .i64 dp] W fun e w'=>Outc rb tb cap T i W (bi T u c i) (qE W) e w'
  | 0,lv,h,W,i,H=>by
    obtain rfl:lv=6:=by omega
    exact p_binary_u H dp u U
  | c+1,lv,h,W,i,H=>by
    refine p_binary_l H dp lv c (by omega) u ?_
    have q:=p_levels dp u U c (lv+1) (by omega)
    rw [show (((lv+1:Nat):Int))=(lv:Int)+1 by omega] at q
    exact q
theorem p_expr_of {rb tb cap:Nat} {T:TL} (dp d:Nat) (U:∀ W i,Rd W rb tb cap T i→Calls Tryz.prog 193 #[.pointer (some ⟨rb,0,none⟩),.int .i64 dp] W fun e w'=>Outc rb tb cap T i W (una T d i) (qE W) e w') :
    ∀ W i,Rd W rb tb cap T i→Calls Tryz.prog 186 #[.pointer (some ⟨rb,0,none⟩),.int .i64 dp] W fun e w'=>Outc rb tb cap T i W (xpr T d i) (qE W) e w' :=
  fun _ _ H=>p_expr H dp (xpr T d) (p_levels dp (una T d) U 6 0 rfl)
/-- Operands, however deep. -/
theorem p_unary {rb tb cap:Nat} {T:TL}:∀ (d dp:Nat),dp+d=33→∀ W i,Rd W rb tb cap T i→Calls Tryz.prog 193 #[.pointer (some ⟨rb,0,none⟩),.int .i64 dp] W fun e w'=>Outc rb tb cap T i W (una T d i) (qE W) e w'
  | 0,dp,h,W,i,H=>by
    cases hb:beg T i with
    | true=>exact p_unary_deep H dp (by omega) hb
    | false=>exact p_unary_no H dp 0 hb
  | d+1,dp,h,W,i,H=>by
    have ih:=p_unary (rb:=rb) (tb:=tb) (cap:=cap) (T:=T) d (dp+1) (by omega)
    have ix:=p_expr_of (dp+1) d ih
    rw [show (((dp+1:Nat):Int))=(dp:Int)+1 by omega] at ih ix
    cases hb:beg T i with
    | false=>exact p_unary_no H dp (d+1) hb
    | true =>
      cases h1:isT T [45] i with
      | true=>exact p_unary_neg H dp (by omega) d ih hb h1
      | false =>
        cases h2:isT T [78,79,84] i with
        | true=>exact p_unary_not H dp (by omega) d ih hb h1 h2
        | false=>exact p_unary_pri H dp (by omega) d ix hb h1 h2
/-- Expressions, however deep. -/
theorem p_xpr {rb tb cap:Nat} {T:TL} (d dp:Nat) (h:dp+d=33):∀ W i,Rd W rb tb cap T i→Calls Tryz.prog 186 #[.pointer (some ⟨rb,0,none⟩),.int .i64 dp] W fun e w'=>Outc rb tb cap T i W (xpr T d i) (qE W) e w':=p_expr_of dp d (p_unary d dp h)
end Go.Proofs.YtapcpjidgemggaaGreatDoor
