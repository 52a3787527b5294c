/- Structures (stage 13). -/
import Derived.Deep.RegionLaw
import Derived.Test.YtapcpjidgemggaaGreatDoorQ46
namespace Go.Proofs.YtapcpjidgemggaaGreatDoor
open Go.RowKit
open Adr Lx Sx
theorem step_append_run {P:Program} {ops:Array Oper} {o:Oper} {a:Act} {w:World} {K:Act→World→Prop} {Q:Exit→Act→World→Prop} {E:Prop}
    (hg:o.guard=none) (s x:Operand) (t tn:TypeId) (ho:o.op=.call { callee:=.builtin .append,args:=#[s,x],argTypes:=#[t,tn] }) (vs vx:Value) (hs:a.eval s=vs) (hx:a.eval x=vx)
    (v':Value) (w':World) (hr:(Builtin.append_ #[t,tn] o.type #[vs,vx]).run P w=.ok v' w') (h:K (a.put o.dst v') w') :
    if Region.wanted o (yielded ops a.tmps)=true then Oper.wp P o a w K Q else E:=by
  rw [if_pos (by simp [Region.wanted,hg])]
  exact Lib.wp_append_run w s x t tn ho vs vx hs hx v' w' hr h
theorem own_set {base e n g j:Nat} {W:World} {v x:Value} {m:Nat} {xs:List Value} (o:W.ownsRow base e n v m xs) (hg:g < base):(W.setCell ⟨g,j,none⟩ x).ownsRow base e n v m xs:=by
  refine ⟨o.1,?_⟩
  rcases o.2 with h' | ⟨b,cap,cur,rfl,hb',hh,r⟩
  · exact Or.inl h'
  · exact Or.inr ⟨b,cap,cur,rfl,hb',(Below.heap_setCell W ⟨g,j,none⟩ x b (by show b ≠ g;omega)).trans hh,r⟩
/-- No reading goes back. -/
def Fw {α:Type} (p:Re α) (i:Nat):Prop:=∀ a,p.v=some a→i≤p.k
theorem Fw.th {α β:Type} {p:Re α} {f:α→Nat→Re β} {i:Nat} (hp:Fw p i) (hf:∀ a k,i≤k→Fw (f a k) k):Fw (th p f) i:=by
  intro b hb
  obtain ⟨a,h1,h2,h3⟩:=th_v hb
  have q1:=hp a h1
  have q2:=hf a p.k q1 b h2
  omega
theorem Fw.le {α:Type} {p:Re α} {i j:Nat} (h:Fw p i) (hj:j≤i):Fw p j:=fun a ha=>Nat.le_trans hj (h a ha)
theorem fw_ok {α:Type} (a:α) (k:Nat):Fw (ok a k) k:=fun _ _=>Nat.le_refl _
theorem fw_ok1 {α:Type} (a:α) (k:Nat):Fw (ok a (k+1)) k:=fun _ _=>Nat.le_succ _
theorem fw_no {α:Type} (n k i:Nat):Fw (no n k:Re α) i:=fun _ h=>by cases h
theorem fw_xp (T:TL) (s:List UInt8) (i:Nat):Fw (xp T s i) i:=by
  unfold xp;split
  · exact fw_ok1 _ _
  · exact fw_no _ _ _
theorem fw_tof (T:TL) (t i:Nat):Fw (tof T t i) (i+1):=fun a h=>by rw [tof_lt h];exact Nat.le_refl _
theorem fw_knd (T:TL) (i:Nat):Fw (knd T i) i:=by
  unfold knd;split
  · exact fw_no _ _ _
  · exact fw_ok1 _ _
theorem fw_slt (T:TL) (i:Nat):Fw (slt T i) i:=fun _ h=>Nat.le_of_lt (slt_lt h)
theorem fw_fst1 (T:TL) (i:Nat):Fw (fst1 T i) i:=by
  unfold fst1;split
  · exact (fw_slt T (i+1)).le (Nat.le_succ _)
  · exact fw_ok _ _
theorem fw_bnd (T:TL) (i:Nat):Fw (bnd T i) i:=by
  unfold bnd
  refine Fw.th (by split;exact fw_ok1 _ _;exact fw_ok _ _) fun _ k _=>?_
  split
  · exact Fw.th ((fw_tof T 3 k).le (Nat.le_succ _)) fun _ m _=>fw_ok _ _
  · exact fw_no _ _ _
theorem fw_arr (T:TL) (i:Nat):Fw (arr T i) i:=by
  unfold arr
  exact Fw.th (fw_xp _ _ _) fun _ _ _=>Fw.th (fw_bnd _ _) fun _ _ _=>Fw.th (fw_xp _ _ _) fun _ _ _=>Fw.th (fw_bnd _ _) fun _ _ _=>Fw.th (fw_xp _ _ _) fun _ _ _=>Fw.th (fw_xp _ _ _) fun _ _ _=>fw_knd _ _
theorem fw_vty (T:TL) (i:Nat):Fw (vty T i) i:=by
  unfold vty;split
  · exact (fw_arr T (i+1)).le (Nat.le_succ _)
  · split
    · exact fw_ok1 _ _
    · exact fw_knd _ _
theorem fw_fld (T:TL) (i:Nat):Fw (fld T i) (i+1):=by
  unfold fld
  exact Fw.th (fw_tof _ _ _) fun _ _ _=>Fw.th (fw_xp _ _ _) fun _ _ _=>Fw.th (fw_knd _ _) fun _ _ _=>Fw.th (fw_fst1 _ _) fun _ _ _=>fw_xp _ _ _
theorem fw_dcl (T:TL) (i:Nat):Fw (dcl T i) (i+1):=by
  unfold dcl
  refine Fw.th (fw_tof _ _ _) fun _ a _=>Fw.th (?_:Fw _ a) fun _ _ _=>Fw.th (fw_xp _ _ _) fun _ _ _=>Fw.th (fw_vty _ _) fun _ _ _=>Fw.th (fw_fst1 _ _) fun _ _ _=>fw_xp _ _ _
  split
  · exact Fw.th ((fw_tof T 5 (a+1)).le (by omega)) fun _ _ _=>fw_ok _ _
  · exact fw_ok _ _
theorem fw_rp {α:Type} {g:Nat→Bool} {b:α→Nat→Re α} (hb:∀ a k,Fw (b a k) k):∀ (f:Nat) (a:α) (k:Nat),Fw (rp g b f a k) k
  | 0,_,k=>fw_no _ _ _
  | f+1,a,k=>by
    unfold rp;split
    · exact Fw.th (hb a k) fun a m _=>fw_rp hb f a m
    · exact fw_ok _ _
theorem fw_upT {α:Type} {T:TL} {s:List UInt8} {b:α→Nat→Re α} (hb:∀ a k,Fw (b a k) k) (a:α) (k:Nat):Fw (upT T s b a k) k:=Fw.th (fw_rp hb _ _ _) fun _ _ _=>fw_ok1 _ _
theorem fw_stru (T:TL) (i:Nat):Fw (stru T i) (i+1):=by
  unfold stru
  exact Fw.th (fw_tof _ _ _) fun _ _ _=>Fw.th (fw_xp _ _ _) fun _ _ _=>Fw.th (fw_xp _ _ _) fun _ _ _=>Fw.th (fw_upT (fun _ k=>(fw_fld T k).le (Nat.le_succ _)) _ _) fun _ _ _=>fw_xp _ _ _
theorem Fw.of {α:Type} {p:Re α} {i k:Nat} {a:α} (h:Fw p i) (e:p=ok a k):i≤k:=by
  have q:=h a (congrArg Re.v e)
  rw [show p.k=k from congrArg Re.k e] at q
  exact q
set_option maxHeartbeats 4000000 in
set_option maxRecDepth 100000 in
theorem p_structType {w:World} {rb tb cap:Nat} {T:TL} {i:Nat} (h:Rd w rb tb cap T i):Calls Tryz.prog 86 #[.pointer (some ⟨rb,0,none⟩)] w fun e w'=>Outc rb tb cap T i w (stru T i) (qStruct w) e w':=by
  have hrl:=h.rlt
  have htl:=h.lt
  have B0:=hid_as (Bk.fresh w #[.string ⟨#[]⟩,.slice none 0 0,.int .i64 0] 72)
  have K0:=hid_as ((Kp.refl rb w).alloc (.cells #[.string ⟨#[]⟩,.slice none 0 0,.int .i64 0] 72))
  have H:=hid_as (h.alloc (.cells #[.string ⟨#[]⟩,.slice none 0 0,.int .i64 0] 72))
  have hwf:=h.wf.1
  have em:stru T i=th (tof T 2 i) fun _ a=>th (xp T [58] a) fun _ b=>th (xp T [83,84,82,85,67,84] b) fun _ c=>th (rp (fun k=>!isT T [69,78,68,95,83,84,82,85,67,84] k) (fun _ k=>fld T k) (T.length+1) () c) (fun _ k=>xp T [59] (k+1)):=by unfold stru upT;simp only [th_th];rfl
  generalize stru T i=M at *
  have M0:=hid_as em
  have NC:Hid (∀ W i,Rd W rb tb cap T i→Calls Tryz.prog 88 #[.pointer (some ⟨rb,0,none⟩)] W fun e w'=>Outc rb tb cap T i W (tof T 2 i) (qT W) e w'):=name_c
  have FC:Hid (∀ W i,Rd W rb tb cap T i→Calls Tryz.prog 129 #[.pointer (some ⟨rb,0,none⟩)] W fun e w'=>Outc rb tb cap T i W (fld T i) (qVar W) e w'):=fun _ _ H=>p_field H
  have C0:Hid (∀ W i,Rd W rb tb cap T i→Calls Tryz.prog 87 #[.pointer (some ⟨rb,0,none⟩),.string ⟨#[58]⟩] W fun e w'=>Outc rb tb cap T i W (xp T [58] i) (qU W) e w'):=expect_c ⟨#[58]⟩ (by decide)
  have C1:Hid (∀ W i,Rd W rb tb cap T i→Calls Tryz.prog 87 #[.pointer (some ⟨rb,0,none⟩),.string ⟨#[83,84,82,85,67,84]⟩] W fun e w'=>Outc rb tb cap T i W (xp T [83,84,82,85,67,84] i) (qU W) e w'):=expect_c ⟨#[83,84,82,85,67,84]⟩ (by decide)
  have C2:Hid (∀ W i,Rd W rb tb cap T i→Calls Tryz.prog 87 #[.pointer (some ⟨rb,0,none⟩),.string ⟨#[59]⟩] W fun e w'=>Outc rb tb cap T i W (xp T [59] i) (qU W) e w'):=expect_c ⟨#[59]⟩ (by decide)
  clear h em
  go_enter Tryz.func86,Tryz.ntmps86
  go_wp2_with (first
    | (go_at_call 88;(with_reducible refine (NC.out _ i H.out).mono ?_);rintro e w1 ⟨k1,⟨⟨⟨ta1,tk1,tn1,tt1⟩,pl1⟩,i1,_,m1,rfl,rfl,r1,l1⟩ | ⟨n1,i1,m1,rfl⟩⟩;rotate_left;exact And.intro rfl (Outc.stop M0.out m1 ((K0.out).trans k1));have R1:=hid_as r1;have K1:=hid_as ((K0.out).trans k1);have M1:=hid_as (th_go M0.out m1);have B1:=hid_as (B0.out.kp k1 (by omega));have z1:=K1.out.size;have q1:=k1.size;(try rw [World.size_alloc] at q1);have J1:=hid_as k1;clear k1 r1 m1;unfold tv;have y1:=B1.out.lt;have V1:Hid (Bk ((w1.alloc (.cells #[.int .i64 ta1,.int .i64 tk1,.int .i64 tn1,.string (tx tt1),.int .i64 pl1] 42)).alloc (.cells #[.string (tx tt1),.slice none 0 0,.int .i64 pl1] 72)) (w1.heap.size+1) #[.string (tx tt1),.slice none 0 0,.int .i64 pl1]):=(by have q:=Bk.fresh (w1.alloc (.cells #[.int .i64 ta1,.int .i64 tk1,.int .i64 tn1,.string (tx tt1),.int .i64 pl1] 42)) #[.string (tx tt1),.slice none 0 0,.int .i64 pl1] 72;rw [World.size_alloc] at q;exact hid_as q))
    | (go_at_call 87;(with_reducible refine (C0.out _ i1 ((R1.out.alloc (.cells #[.int .i64 ta1,.int .i64 tk1,.int .i64 tn1,.string (tx tt1),.int .i64 pl1] 42)).alloc (.cells #[.string (tx tt1),.slice none 0 0,.int .i64 pl1] 72))).mono ?_);rintro e w2 ⟨k2,⟨_,i2,_,m2,rfl,rfl,r2,l2⟩ | ⟨n2,i2,m2,rfl⟩⟩;rotate_left;exact And.intro rfl (Outc.stop M1.out m2 (((K1.out.alloc (.cells #[.int .i64 ta1,.int .i64 tk1,.int .i64 tn1,.string (tx tt1),.int .i64 pl1] 42)).alloc (.cells #[.string (tx tt1),.slice none 0 0,.int .i64 pl1] 72)).trans k2));have R2:=hid_as r2;have K2:=hid_as (((K1.out.alloc (.cells #[.int .i64 ta1,.int .i64 tk1,.int .i64 tn1,.string (tx tt1),.int .i64 pl1] 42)).alloc (.cells #[.string (tx tt1),.slice none 0 0,.int .i64 pl1] 72)).trans k2);have M2:=hid_as (th_go M1.out m2);have B2:=hid_as (((B1.out.alloc (.cells #[.int .i64 ta1,.int .i64 tk1,.int .i64 tn1,.string (tx tt1),.int .i64 pl1] 42)).alloc (.cells #[.string (tx tt1),.slice none 0 0,.int .i64 pl1] 72)).kp k2 (by omega));have V2:=hid_as (V1.out.kp k2 (by omega));have z2:=K2.out.size;have q2:=k2.size;(try rw [World.size_alloc] at q2);have J2:=hid_as k2;clear k2 r2 m2;have y2:=V2.out.lt)
    | (go_at_call 87;(with_reducible refine (C1.out _ i2 R2.out).mono ?_);rintro e w3 ⟨k3,⟨_,i3,_,m3,rfl,rfl,r3,l3⟩ | ⟨n3,i3,m3,rfl⟩⟩;rotate_left;exact And.intro rfl (Outc.stop M2.out m3 ((K2.out).trans k3));have R3:=hid_as r3;have K3:=hid_as ((K2.out).trans k3);have M3:=hid_as (th_go M2.out m3);have B3:=hid_as (B2.out.kp k3 (by omega));have V3:=hid_as (V2.out.kp k3 (by omega));have z3:=K3.out.size;have q3:=k3.size;(try rw [World.size_alloc] at q3);have J3:=hid_as k3;clear k3 r3 m3;have y3:=V3.out.lt))
  go_loopw [] (fun wr=>∃ (k f n:Nat) (xs:List Value) (a:Option Addr) (b c:Nat),T.length < k+f∧i≤k∧n≤k+1∧Hid (Rd wr rb tb cap T k)∧Hid (Kp rb w wr)∧Hid (Bk wr w.heap.size #[.string ⟨#[]⟩,.slice none 0 0,.int .i64 0])∧Hid (Bk wr (w1.heap.size+1) #[.string (tx tt1),.slice a b c,.int .i64 pl1])∧Hid (wr.ownsRow (w1.heap.size+2) 111 10 (.slice a b c) n xs)∧Hid (M=th (rp (fun k=>!isT T [69,78,68,95,83,84,82,85,67,84] k) (fun _ k=>fld T k) f () k) (fun _ k=>xp T [59] (k+1)))) (fun wr=>T.length - rdn rb wr)
  case atStart=>exact ⟨i3,T.length+1,0,[],none,0,0,by omega,by omega,by omega,R3,K3,B3,V3,hid_as (World.ownsRow_nil _ _ _ _),M3⟩
  case round =>
    clear V1 V2 V3 B0 B1 B2 B3 R1 R2 R3 K0 K1 K2 K3 M0 M1 M2 M3 J1 J2 J3 z1 z2 z3 q1 q2 q3 H
    obtain ⟨k,f,n,xs,a,b,c,hf,hik,hnk,hR,hK,hB,hV,hO,hM⟩:=hrel
    have hat:=hid_as hR.out.rdn
    have hkl:=hR.out.ir
    have z0:=hK.out.size
    have y0:=hV.out.lt
    obtain ⟨f,rfl⟩:∃ f',f=f'+1:=⟨f - 1,by omega⟩
    cases hc:isT T [69,78,68,95,83,84,82,85,67,84] k with
    | true =>
      have A2:Hid (∀ W,Rd W rb tb cap T (k)→Calls Tryz.prog 85 #[.pointer (some ⟨rb,0,none⟩),.string ⟨#[69,78,68,95,83,84,82,85,67,84]⟩] W fun e w'=>e=.returned (.bool true)∧Kp rb W w'∧Rd w' rb tb cap T (k+1)):=fun W H=>accept_y H ⟨#[69,78,68,95,83,84,82,85,67,84]⟩ hc (by decide)
      have Mr:=hid_as (rp_not hM.out (show (fun k=>!isT T [69,78,68,95,83,84,82,85,67,84] k) k=false by show (!isT T [69,78,68,95,83,84,82,85,67,84] k)=false;rw [hc];rfl))
      clear hM hc
      go_wp2_with (first
        | (go_at_call 85;(with_reducible refine (A2.out _ hR.out).mono ?_);rintro e w4 ⟨rfl,k4,r4⟩;have R4:=hid_as r4;have K4:=hid_as ((hK.out).trans k4);have B4:=hid_as (hB.out.kp k4 (by omega));have V4:=hid_as (hV.out.kp k4 (by omega));have z4:=K4.out.size;have q4:=k4.size;(try rw [World.size_alloc] at q4);have J4:=hid_as k4;clear k4 r4)
        | (go_at_call 87;(with_reducible refine (C2.out _ (k+1) R4.out).mono ?_);rintro e w5 ⟨k5,⟨_,i5,_,m5,rfl,rfl,r5,l5⟩ | ⟨n5,i5,m5,rfl⟩⟩;rotate_left;exact And.intro rfl (Outc.stop0 Mr.out m5 ((K4.out).trans k5));have R5:=hid_as r5;have K5:=hid_as ((K4.out).trans k5);have M5:=hid_as (Mr.out.trans m5);have B5:=hid_as (B4.out.kp k5 (by omega));have V5:=hid_as (V4.out.kp k5 (by omega));have z5:=K5.out.size;have q5:=k5.size;(try rw [World.size_alloc] at q5);have J5:=hid_as k5;clear k5 r5 m5;obtain ⟨s0,s1,s2⟩:=bk3 B5.out;have sf:=B5.out.fr;obtain ⟨u0,u1,u2⟩:=bk3 V5.out;have uf:=V5.out.fr))
      exact bodyPost_ret (v:=.agg #[.string (tx tt1),.slice a b c,.int .i64 pl1]) (by simp [results,Tryz.results86,go_sem,s0,s1,s2]) rfl ⟨K5.out.put3 (by omega) _ _ _,Or.inl ⟨(),_,_,M5.out,rfl,⟨_,_,_,_,_,rfl⟩,R5.out.put3 (by omega) (by omega) _ _ _,(by omega)⟩⟩
    | false =>
      have A2:Hid (∀ W,Rd W rb tb cap T (k)→Calls Tryz.prog 85 #[.pointer (some ⟨rb,0,none⟩),.string ⟨#[69,78,68,95,83,84,82,85,67,84]⟩] W fun e w'=>e=.returned (.bool false)∧Below W.heap.size W w'):=fun W H=>accept_n H ⟨#[69,78,68,95,83,84,82,85,67,84]⟩ hc
      have Mr:=hid_as (rp_yes hM.out (show (fun k=>!isT T [69,78,68,95,83,84,82,85,67,84] k) k=true by show (!isT T [69,78,68,95,83,84,82,85,67,84] k)=true;rw [hc];rfl))
      clear hM hc
      go_wp2_with (first
        | (go_at_call 85;(with_reducible refine (A2.out _ hR.out).mono ?_);rintro e w4 ⟨rfl,b4⟩;have R4:=hid_as ((hR.out).below b4);have K4:=hid_as ((hK.out).below b4);have B4:=hid_as (hB.out.below b4);have V4:=hid_as (hV.out.below b4);have z4:=K4.out.size;have q4:=b4.size;(try rw [World.size_alloc] at q4);have J4:=hid_as (kp_of_below (rb:=rb) b4);clear b4;have y4:=V4.out.lt;have V4d:=hid_as V4.out.drew;obtain ⟨g0,g1,g2⟩:=bk3 V4d.out;have gf:=V4d.out.fr))
      go_region_law (first
        | refine step_append_run rfl (.tmp 20) (.tmp 23) 29 29 rfl (.slice a b c) (.slice (some ⟨w5.heap.size,0,none⟩) 1 1) (by first | (simp [Act.eval];done) | (simp [Act.eval,Act.put];done)) (by first | (simp [Act.eval];done) | (simp [Act.eval,Act.put];done)) _ _ hr6.out ?_
        | (go_simp;go_wp2_with (go_at_call 129;(with_reducible refine (FC.out _ k R4.out.drew).mono ?_);rintro e w5 ⟨k5,⟨_,i5,_,m5,rfl,⟨x5_0,x5_1,x5_2,x5_3,x5_4,x5_5,x5_6,x5_7,a5_8,b5_8,c5_8,x5_9,rfl⟩,r5,l5⟩ | ⟨n5,i5,m5,rfl⟩⟩;rotate_left;exact And.intro rfl (Outc.stop Mr.out m5 ((K4.out.drew).trans k5));have hlt:=(fw_fld T k).of m5;have R5:=hid_as r5;have K5:=hid_as ((K4.out.drew).trans k5);have M5:=hid_as (th_go Mr.out m5);have B5:=hid_as ((B4.out.drew).kp k5 (by omega));have V5:=hid_as ((V4.out.drew).kp k5 (by omega));have z5:=K5.out.size;have q5:=k5.size;(try rw [World.size_alloc] at q5);have J5:=hid_as k5;clear k5 r5 m5;clear g0 g1 g2 gf;have y5:=V5.out.lt;have O5:=hid_as (own_kp hO.out (J4.out.drew.trans J5.out) (by omega));obtain ⟨v6,w6,hr6,ho6,hg6,_⟩:=push_at (cs:=#[.string x5_0,.int .i64 x5_1,.int .i64 x5_2,.int .i64 x5_3,.int .i64 x5_4,.string x5_5,.bool x5_6,.string x5_7,.slice a5_8 b5_8 c5_8,.int .i64 x5_9]) Tryz.underlying29 infoVar rfl (by decide) (by decide) O5.out (by omega) (by omega) rfl (by intro u hu;simp at hu;rcases hu with rfl | rfl | rfl | rfl | rfl | rfl | rfl | rfl | rfl | rfl <;> rfl);have K6:=hid_as ((K5.out.alloc (.cells #[.string x5_0,.int .i64 x5_1,.int .i64 x5_2,.int .i64 x5_3,.int .i64 x5_4,.string x5_5,.bool x5_6,.string x5_7,.slice a5_8 b5_8 c5_8,.int .i64 x5_9] 111)).grown hg6 (fun k hk=>Nat.le_trans (by omega) (World.ownsRow.lt O5.out k hk).1));have R6:=hid_as ((R5.out.alloc (.cells #[.string x5_0,.int .i64 x5_1,.int .i64 x5_2,.int .i64 x5_3,.int .i64 x5_4,.string x5_5,.bool x5_6,.string x5_7,.slice a5_8 b5_8 c5_8,.int .i64 x5_9] 111)).grown hg6 (fun e=>by have:=(World.ownsRow.lt O5.out rb e).1;omega) (fun e=>by have:=(World.ownsRow.lt O5.out tb e).1;omega));have B6:=hid_as ((B5.out.alloc (.cells #[.string x5_0,.int .i64 x5_1,.int .i64 x5_2,.int .i64 x5_3,.int .i64 x5_4,.string x5_5,.bool x5_6,.string x5_7,.slice a5_8 b5_8 c5_8,.int .i64 x5_9] 111)).grown hg6 (fun e=>by have:=(World.ownsRow.lt O5.out _ e).1;omega));have V6:=hid_as ((V5.out.alloc (.cells #[.string x5_0,.int .i64 x5_1,.int .i64 x5_2,.int .i64 x5_3,.int .i64 x5_4,.string x5_5,.bool x5_6,.string x5_7,.slice a5_8 b5_8 c5_8,.int .i64 x5_9] 111)).grown hg6 (fun e=>by have:=(World.ownsRow.lt O5.out _ e).1;omega));have z6:=K6.out.size;replace hr6:=hid_as hr6;replace ho6:=hid_as ho6;clear hg6;obtain ⟨a6,b6,c6,rfl⟩:=own_shape ho6.out;obtain ⟨g0,g1,g2⟩:=bk3 V5.out;have gf:=V5.out.fr;have gg0:=fun o=>(bk3 (V5.out.alloc o)).1;have gg1:=fun o=>(bk3 (V5.out.alloc o)).2.1;have gg2:=fun o=>(bk3 (V5.out.alloc o)).2.2;have ggf:=fun o=>(V5.out.alloc o).fr;obtain ⟨v0,v1,v2⟩:=bk3 V6.out;have vf:=V6.out.fr)))
      all_goals
        have Rm:=R6.out.other (b:=w1.heap.size+1) (by omega) (by omega) 1 (.slice a6 b6 c6)
        have Km:=K6.out.set (g:=w1.heap.size+1) (by omega) 1 (.slice a6 b6 c6)
        have Bm:=B6.out.other (b:=w1.heap.size+1) 1 (.slice a6 b6 c6) (by omega)
        have Vm:=V6.out.set 1 (.slice a6 b6 c6)
        simp only [List.setIfInBounds_toArray,List.set_cons_zero,List.set_cons_succ] at Vm
        have Om:=own_set (g:=w1.heap.size+1) (j:=1) (x:=.slice a6 b6 c6) ho6.out (by omega)
        go_wp2
        go_roundw
        case rel=>exact ⟨i5,f,n+1,_,a6,b6,c6,by omega,by omega,by omega,hid_as Rm,hid_as Km,hid_as Bm,hid_as Vm,hid_as Om,M5⟩
        case measure=>rw [Rm.rdn,hat.out];omega
end Go.Proofs.YtapcpjidgemggaaGreatDoor
