/- Literals with signs, first values, bounds, types, fields, declarations (stage 13). -/
import Derived.Test.YtapcpjidgemggaaGreatDoorQ23
namespace Go.Proofs.YtapcpjidgemggaaGreatDoor
open Go.RowKit
open Adr Lx Sx
theorem litT_leaf {T:TL} {i k:Nat} {t:Tr} (h:litT T i=ok t k):∃ y,t=litOf y:=by
  unfold litT tof at h
  split at h
  · exact ⟨_,(ok_in h).1.symm⟩
  · split at h
    · exact ⟨_,(ok_in h).1.symm⟩
    · exact (ok_ne h.symm).elim
theorem Et.flat {S:Nat→Prop} {w:World} {a b c d e f:Value} {lp:Option Addr} {ln lc:Nat} {y:Tk × Nat} (h:Et S w (.agg #[a,b,c,d,e,.slice lp ln lc,f]) (litOf y)):lp=none∧ln=0∧lc=0:=by
  obtain ⟨m,h⟩:=h
  cases m with
  | zero=>exact h.elim
  | succ m =>
    obtain ⟨nd,M,h1,hv,hL⟩:=h
    have h2:nd=⟨1,y.1.kind,y.1.n,[],[],y.2,0⟩:=(Option.some.inj h1).symm
    subst h2
    unfold ev at hv
    simp only [Value.agg.injEq,Array.mk.injEq,List.cons.injEq] at hv
    obtain ⟨_,_,_,_,_,rfl,_⟩:=hv
    rcases hL with ⟨_,h3⟩ | ⟨g,cap,h3,h4,_⟩
    · simp only [Value.slice.injEq] at h3
      exact h3
    · exact absurd h4 (by show ¬ 0 < 0;omega)
/-- A literal that may have a sign: its operand lies in a block of its own. -/
def qL:World→Unit→Value→World→Prop:=fun W _ v w'=>∃ o k n nm fl lp ln lc p,v=.agg #[.int .i64 o,.int .i64 k,.int .i64 n,.string nm,.string fl,.slice lp ln lc,.int .i64 p]∧((lp=none∧ln=0∧lc=0) ∨ ∃ g o' k' n' nm' fl' p',lp=some ⟨g,0,none⟩∧ln=1∧lc=1∧W.heap.size≤g∧Bk w' g #[.int .i64 o',.int .i64 k',.int .i64 n',.string nm',.string fl',.slice none 0 0,.int .i64 p'])
theorem eqn_yes (w:World):(binOp .eql 48 (.slice none 0 0) (.slice none 0 0)).run Tryz.prog w=.ok (.bool true) w:=by kernel_rfl
theorem eqn_not (g n c:Nat) (w:World):(binOp .eql 48 (.slice (some ⟨g,0,none⟩) n c) (.slice none 0 0)).run Tryz.prog w=.ok (.bool false) w:=by kernel_rfl
set_option maxHeartbeats 4000000 in
set_option maxRecDepth 100000 in
theorem clone_nil (w:World):Calls Tryz.prog 195 #[.slice none 0 0] w fun e w'=>e=.returned (.slice none 0 0)∧w'=w:=by
  have EQ:=eqn_yes
  go_enter Tryz.func195,Tryz.ntmps195
  go_wp2
  go_ret
  exact ⟨rfl,rfl⟩
set_option maxHeartbeats 4000000 in
set_option maxRecDepth 100000 in
theorem clone_one {w:World} {g:Nat} {o k n:Int} {nm fl:ByteArray} {p:Int} (h:Bk w g #[.int .i64 o,.int .i64 k,.int .i64 n,.string nm,.string fl,.slice none 0 0,.int .i64 p]):Calls Tryz.prog 195 #[.slice (some ⟨g,0,none⟩) 1 1] w fun e w'=>(∃ a b c,e=.returned (.slice a b c))∧Below w.heap.size w w':=by
  obtain ⟨i0,hi,hz0,hz1,hz2⟩:=info_parts info7
  have own:(w.alloc (.cells #[] 53)).ownsRow w.heap.size 53 7 (.slice (some ⟨w.heap.size,0,none⟩) 0 0) 0 []:=⟨rfl,Or.inr ⟨w.heap.size,0,#[],rfl,Nat.le_refl _,(MapKept.heap_alloc w _).1,Nat.le_refl _,by decide,rfl,rfl⟩⟩
  have hF:=h.alloc (.cells #[] 53)
  obtain ⟨v',w',hr,hown,hg,_,_⟩:=run_append_own_at (P:=Tryz.prog) (w.alloc (.cells #[] 53)) w.heap.size 48 48 53 i0 _ 7 88 Tryz.underlying48 hi hz0 hz1 hz2 rfl (by decide) (.slice (some ⟨w.heap.size,0,none⟩) 0 0) 0 [] own ⟨g,0,none⟩ 1 1 [.int .i64 o,.int .i64 k,.int .i64 n,.string nm,.string fl,.slice none 0 0,.int .i64 p] rfl
    (fun j u hj=>by rw [show (⟨g,0,none⟩:Addr).add j=⟨g,j,none⟩ by (simp [Addr.add];omega),hF.cell j,← Array.getElem?_toList];exact hj) (by intro u hu;simp at hu;rcases hu with rfl | rfl | rfl | rfl | rfl | rfl | rfl <;> rfl) (by decide) (by decide) (by simp)
  obtain ⟨a,b,c,rfl⟩:∃ a b c,v'=.slice a b c:=by
    rcases hown.2 with ⟨rfl,_⟩ | ⟨_,_,_,rfl,_⟩
    · exact ⟨_,_,_,rfl⟩
    · exact ⟨_,_,_,rfl⟩
  have KB:=hid_as ((below_new1 w (.cells #[] 53)).grown hg (by simp) (fun k hk=>by obtain rfl:=Option.some.inj hk;exact Nat.le_refl _))
  replace hr:=hid_as hr
  clear hown hg own hF h hi
  have EQ:=eqn_not
  go_enter Tryz.func195,Tryz.ntmps195
  go_wp2_with (at_builtin;refine Lib.wpList_append_run _ rfl _ _ _ _ rfl _ _ rfl rfl _ _ hr.out ?_)
  go_ret
  exact ⟨⟨a,b,c,rfl⟩,KB.out⟩
set_option maxHeartbeats 4000000 in
set_option maxRecDepth 100000 in
theorem p_lit_n {w:World} {rb tb cap:Nat} {T:TL} {i:Nat} (h:Rd w rb tb cap T i) (h1:isT T [45] i=false):Calls Tryz.prog 157 #[.pointer (some ⟨rb,0,none⟩)] w fun e w'=>Outc rb tb cap T i w (slt T i) (qL w) e w':=by
  have hrl:=h.rlt
  have htl:=h.lt
  have B0:=hid_as (Bk.fresh w #[.int .i64 0,.int .i64 0,.int .i64 0,.string ⟨#[]⟩,.string ⟨#[]⟩,.slice none 0 0,.int .i64 0] 53)
  have K0:=hid_as ((Kp.refl rb w).alloc (.cells #[.int .i64 0,.int .i64 0,.int .i64 0,.string ⟨#[]⟩,.string ⟨#[]⟩,.slice none 0 0,.int .i64 0] 53))
  have H:=hid_as (h.alloc (.cells #[.int .i64 0,.int .i64 0,.int .i64 0,.string ⟨#[]⟩,.string ⟨#[]⟩,.slice none 0 0,.int .i64 0] 53))
  have em:slt T i=th (litT T i) fun _ k=>ok () k:=by unfold slt;rw [h1];rfl
  generalize slt T i=M at *
  have M0:=hid_as em
  have I1:Hid (∀ W,Rd W rb tb cap T i→Calls Tryz.prog 127 #[.pointer (some ⟨rb,0,none⟩),.string ⟨#[45]⟩] W fun e w'=>e=.returned (.bool false)∧Below W.heap.size W w'):=fun W H=>by have q:=is_c H ⟨#[45]⟩;rw [show isT T (⟨#[45]⟩:ByteArray).data.toList i=false from h1] at q;exact q
  have L0:Hid (∀ W i,Rd W rb tb cap T i→Calls Tryz.prog 173 #[.pointer (some ⟨rb,0,none⟩)] W fun e w'=>Outc rb tb cap T i W (litT T i) (qE W) e w'):=p_literal
  clear h h1 em
  go_enter Tryz.func157,Tryz.ntmps157
  go_wp2_with (first
    | (go_at_call 127;(with_reducible refine (I1.out _ H.out).mono ?_);rintro e w1 ⟨rfl,b1⟩;have R1:=hid_as ((H.out).below b1);have K1:=hid_as ((K0.out).below b1);have B1:=hid_as (B0.out.below b1);have z1:=K1.out.size;have q1:=b1.size;(try rw [World.size_alloc] at q1);have J1:=hid_as (kp_of_below (rb:=rb) b1);clear b1)
    | (go_at_call 173;(with_reducible refine (L0.out _ i R1.out).mono ?_);rintro e w2 ⟨k2,⟨t2,i2,_,m2,rfl,⟨o2,kd2,v2,nm2,fl2,lp2,ln2,lc2,p2,rfl,E2'⟩,r2,l2⟩ | ⟨n2,i2,m2,rfl⟩⟩;rotate_left;exact And.intro rfl (Outc.stop M0.out m2 ((K1.out).trans k2));have LF:=hid_as (litT_leaf m2);have R2:=hid_as r2;have K2:=hid_as ((K1.out).trans k2);have M2:=hid_as (th_go M0.out m2);have B2:=hid_as (B1.out.kp k2 (by omega));have z2:=K2.out.size;have q2:=k2.size;(try rw [World.size_alloc] at q2);have J2:=hid_as k2;clear k2 r2 m2;have E2:=hid_as E2';clear E2';obtain ⟨s0,s1,s2,s3,s4,s5,s6⟩:=bk7 B2.out;have sf:=B2.out.fr))
  obtain ⟨y,rfl⟩:=LF.out
  obtain ⟨rfl,rfl,rfl⟩:=E2.out.flat
  exact bodyPost_ret (v:=.agg #[.int .i64 o2,.int .i64 kd2,.int .i64 v2,.string nm2,.string fl2,.slice none 0 0,.int .i64 p2]) (by simp [results,Tryz.results157,go_sem,s0,s1,s2,s3,s4,s5,s6]) rfl ⟨K2.out.put7 (by omega) _ _ _ _ _ _ _,Or.inl ⟨(),_,_,M2.out,rfl,⟨_,_,_,_,_,_,_,_,_,rfl,Or.inl ⟨rfl,rfl,rfl⟩⟩,R2.out.put7 (by omega) (by omega) _ _ _ _ _ _ _,l2⟩⟩
set_option maxHeartbeats 4000000 in
set_option maxRecDepth 100000 in
theorem p_lit_m {w:World} {rb tb cap:Nat} {T:TL} {i:Nat} (h:Rd w rb tb cap T i) (h1:isT T [45] i=true):Calls Tryz.prog 157 #[.pointer (some ⟨rb,0,none⟩)] w fun e w'=>Outc rb tb cap T i w (slt T i) (qL w) e w':=by
  have hrl:=h.rlt
  have htl:=h.lt
  have B0:=hid_as (Bk.fresh w #[.int .i64 0,.int .i64 0,.int .i64 0,.string ⟨#[]⟩,.string ⟨#[]⟩,.slice none 0 0,.int .i64 0] 53)
  have K0:=hid_as ((Kp.refl rb w).alloc (.cells #[.int .i64 0,.int .i64 0,.int .i64 0,.string ⟨#[]⟩,.string ⟨#[]⟩,.slice none 0 0,.int .i64 0] 53))
  have H:=hid_as (h.alloc (.cells #[.int .i64 0,.int .i64 0,.int .i64 0,.string ⟨#[]⟩,.string ⟨#[]⟩,.slice none 0 0,.int .i64 0] 53))
  have em:slt T i=th (tof T 3 (i+1)) fun _ k=>ok () k:=by unfold slt;rw [if_pos h1]
  generalize slt T i=M at *
  have M0:=hid_as em
  have LO:=hid_as literalOf_c
  have D:=hid_as (fun W (H:Rd W rb tb cap T i)=>take_c H (ct_more h1 (by decide)))
  unfold tv at D
  have I1:Hid (∀ W,Rd W rb tb cap T i→Calls Tryz.prog 127 #[.pointer (some ⟨rb,0,none⟩),.string ⟨#[45]⟩] W fun e w'=>e=.returned (.bool true)∧Below W.heap.size W w'):=fun W H=>by have q:=is_c H ⟨#[45]⟩;rw [show isT T (⟨#[45]⟩:ByteArray).data.toList i=true from h1] at q;exact q
  have C:Hid (∀ W i,Rd W rb tb cap T i→Calls Tryz.prog 131 #[.pointer (some ⟨rb,0,none⟩),.int .i64 3] W fun e w'=>Outc rb tb cap T i W (tof T 3 i) (qT W) e w'):=takeOf_c 3 (by decide)
  clear h h1 em
  generalize cu T i=c at *
  obtain ⟨⟨ta,tk,tn,tt⟩,pl⟩:=c
  simp only at D
  go_enter Tryz.func157,Tryz.ntmps157
  go_wp2_with (first
    | (go_at_call 127;(with_reducible refine (I1.out _ H.out).mono ?_);rintro e w1 ⟨rfl,b1⟩;have R1:=hid_as ((H.out).below b1);have K1:=hid_as ((K0.out).below b1);have B1:=hid_as (B0.out.below b1);have z1:=K1.out.size;have q1:=b1.size;(try rw [World.size_alloc] at q1);have J1:=hid_as (kp_of_below (rb:=rb) b1);clear b1)
    | (go_at_call 128;(with_reducible refine (D.out _ R1.out).mono ?_);rintro e w2 ⟨rfl,k2,r2⟩;have R2:=hid_as r2;have K2:=hid_as ((K1.out).trans k2);have B2:=hid_as (B1.out.kp k2 (by omega));have z2:=K2.out.size;have q2:=k2.size;(try rw [World.size_alloc] at q2);have J2:=hid_as k2;clear k2 r2;have G2:=hid_as (Bk.fresh w2 #[.int .i64 ta,.int .i64 tk,.int .i64 tn,.string (tx tt),.int .i64 pl] 42);have y2:=B2.out.lt)
    | (go_at_call 131;(with_reducible refine (C.out _ (i+1) (R2.out.alloc _)).mono ?_);rintro e w3 ⟨k3,⟨⟨⟨ta3,tk3,tn3,tt3⟩,pl3⟩,i3,_,m3,rfl,rfl,r3,l3⟩ | ⟨n3,i3,m3,rfl⟩⟩;rotate_left;exact And.intro rfl (Outc.stop M0.out m3 ((K2.out.alloc _).trans k3));have R3:=hid_as r3;have K3:=hid_as ((K2.out.alloc _).trans k3);have M3:=hid_as (th_go M0.out m3);have B3:=hid_as ((B2.out.alloc (.cells #[.int .i64 ta,.int .i64 tk,.int .i64 tn,.string (tx tt),.int .i64 pl] 42)).kp k3 (by omega));have G3:=hid_as (G2.out.kp k3 (by omega));have z3:=K3.out.size;have q3:=k3.size;(try rw [World.size_alloc] at q3);have J3:=hid_as k3;clear k3 r3 m3;unfold tv;have y3:=G3.out.lt)
    | (go_at_call 174;(with_reducible refine (LO.out _ _ _ _ _ _).mono ?_);rintro e w4 ⟨rfl,b4⟩;have R4:=hid_as ((R3.out).below b4);have K4:=hid_as ((K3.out).below b4);have B4:=hid_as (B3.out.below b4);have G4:=hid_as (G3.out.below b4);have z4:=K4.out.size;have q4:=b4.size;(try rw [World.size_alloc] at q4);have J4:=hid_as (kp_of_below (rb:=rb) b4);clear b4;have y4:=G4.out.lt;have d0:¬ w.heap.size=w4.heap.size:=(by omega);have d1:¬ w2.heap.size=w4.heap.size:=(by omega);have s0:=fun o p=>(bk7 ((B4.out.alloc o).alloc p)).1;have s1:=fun o p=>(bk7 ((B4.out.alloc o).alloc p)).2.1;have s2:=fun o p=>(bk7 ((B4.out.alloc o).alloc p)).2.2.1;have s3:=fun o p=>(bk7 ((B4.out.alloc o).alloc p)).2.2.2.1;have s4:=fun o p=>(bk7 ((B4.out.alloc o).alloc p)).2.2.2.2.1;have s5:=fun o p=>(bk7 ((B4.out.alloc o).alloc p)).2.2.2.2.2.1;have s6:=fun o p=>(bk7 ((B4.out.alloc o).alloc p)).2.2.2.2.2.2;have sf:=fun o p=>((B4.out.alloc o).alloc p).fr;have g0:=fun o p=>(bk5 ((G4.out.alloc o).alloc p)).1;have g1:=fun o p=>(bk5 ((G4.out.alloc o).alloc p)).2.1;have g2:=fun o p=>(bk5 ((G4.out.alloc o).alloc p)).2.2.1;have g3:=fun o p=>(bk5 ((G4.out.alloc o).alloc p)).2.2.2.1;have g4:=fun o p=>(bk5 ((G4.out.alloc o).alloc p)).2.2.2.2;have gf:=fun o p=>((G4.out.alloc o).alloc p).fr))
  have G0:=Bk.fresh (w4.alloc (.cells #[.int .i64 1,.int .i64 tk3,.int .i64 tn3,.string ⟨#[]⟩,.string ⟨#[]⟩,.slice none 0 0,.int .i64 pl3] 53)) #[.int .i64 1,.int .i64 tk3,.int .i64 tn3,.string ⟨#[]⟩,.string ⟨#[]⟩,.slice none 0 0,.int .i64 pl3] 53
  rw [World.size_alloc] at G0
  exact bodyPost_ret (v:=.agg #[.int .i64 3,.int .i64 0,.int .i64 0,.string ⟨#[]⟩,.string ⟨#[]⟩,.slice (some ⟨w4.heap.size+1,0,none⟩) 1 1,.int .i64 pl]) (by simp [results,Tryz.results157,go_sem,s0,s1,s2,s3,s4,s5,s6]) rfl ⟨((K4.out.alloc _).alloc _).put7 (by omega) _ _ _ _ _ _ _,Or.inl ⟨(),_,_,M3.out,rfl,⟨_,_,_,_,_,_,_,_,_,rfl,Or.inr ⟨w4.heap.size+1,_,_,_,_,_,_,rfl,rfl,rfl,by omega,G0.past7 (by omega) _ _ _ _ _ _ _⟩⟩,((R4.out.alloc _).alloc _).put7 (by omega) (by omega) _ _ _ _ _ _ _,(by omega)⟩⟩
theorem p_lit {rb tb cap:Nat} {T:TL}:Cn 157 #[] rb tb cap T (slt T) qL:=fun _ i h=>by
  cases h1:isT T [45] i with
  | true=>exact p_lit_m h h1
  | false=>exact p_lit_n h h1
set_option maxHeartbeats 4000000 in
set_option maxRecDepth 100000 in
theorem p_firstValue {rb tb cap:Nat} {T:TL}:Cn 133 #[] rb tb cap T (fst1 T) qS:=by
  intro w i h
  show Calls Tryz.prog 133 #[.pointer (some ⟨rb,0,none⟩)] w _
  have K0:=hid_as (Kp.refl rb w)
  have H:=hid_as h
  cases h1:isT T [58,61] i with
  | false =>
    have em:fst1 T i=ok () i:=by unfold fst1;rw [h1];rfl
    rw [em]
    have A1:Hid (∀ W,Rd W rb tb cap T (i)→Calls Tryz.prog 85 #[.pointer (some ⟨rb,0,none⟩),.string ⟨#[58,61]⟩] W fun e w'=>e=.returned (.bool false)∧Below W.heap.size W w'):=fun W H=>accept_n H ⟨#[58,61]⟩ h1
    clear h h1 em
    go_enter Tryz.func133,Tryz.ntmps133
    go_wp2_with (first
      | (go_at_call 85;(with_reducible refine (A1.out _ H.out).mono ?_);rintro e w1 ⟨rfl,b1⟩;have R1:=hid_as ((H.out).below b1);have K1:=hid_as ((K0.out).below b1);have z1:=K1.out.size;have q1:=b1.size;(try rw [World.size_alloc] at q1);have J1:=hid_as (kp_of_below (rb:=rb) b1);clear b1))
    go_ret
    exact ⟨K1.out,Or.inl ⟨(),_,_,rfl,rfl,⟨_,_,_,rfl⟩,R1.out,Nat.le_refl _⟩⟩
  | true =>
    have em:fst1 T i=slt T (i+1):=by unfold fst1;rw [if_pos h1]
    generalize fst1 T i=M at *
    have M0:=hid_as em
    have A1:Hid (∀ W,Rd W rb tb cap T (i)→Calls Tryz.prog 85 #[.pointer (some ⟨rb,0,none⟩),.string ⟨#[58,61]⟩] W fun e w'=>e=.returned (.bool true)∧Kp rb W w'∧Rd w' rb tb cap T (i+1)):=fun W H=>accept_y H ⟨#[58,61]⟩ h1 (by decide)
    have L0:Hid (∀ W i,Rd W rb tb cap T i→Calls Tryz.prog 157 #[.pointer (some ⟨rb,0,none⟩)] W fun e w'=>Outc rb tb cap T i W (slt T i) (qL W) e w'):=p_lit
    clear h h1 em
    go_enter Tryz.func133,Tryz.ntmps133
    go_wp2_with (first
      | (go_at_call 85;(with_reducible refine (A1.out _ H.out).mono ?_);rintro e w1 ⟨rfl,k1,r1⟩;have R1:=hid_as r1;have K1:=hid_as ((K0.out).trans k1);have z1:=K1.out.size;have q1:=k1.size;(try rw [World.size_alloc] at q1);have J1:=hid_as k1;clear k1 r1)
      | (go_at_call 157;(with_reducible refine (L0.out _ (i+1) R1.out).mono ?_);rintro e w2 ⟨k2,⟨_,i2,_,m2,rfl,⟨o2,kd2,v2,nm2,fl2,lp2,ln2,lc2,p2,rfl,_⟩,r2,l2⟩ | ⟨n2,i2,m2,rfl⟩⟩;rotate_left;exact And.intro rfl (Outc.stop0 M0.out m2 ((K1.out).trans k2));have R2:=hid_as r2;have K2:=hid_as ((K1.out).trans k2);have M2:=hid_as (M0.out.trans m2);have z2:=K2.out.size;have q2:=k2.size;(try rw [World.size_alloc] at q2);have J2:=hid_as k2;clear k2 r2 m2))
    go_ret
    exact ⟨K2.out.alloc _,Or.inl ⟨(),_,_,M2.out,rfl,⟨_,_,_,rfl⟩,R2.out.alloc _,by omega⟩⟩
end Go.Proofs.YtapcpjidgemggaaGreatDoor
