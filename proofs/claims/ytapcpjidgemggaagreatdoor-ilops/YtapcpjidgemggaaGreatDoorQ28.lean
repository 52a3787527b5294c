/- The reader of Instruction List with all that a walk carries along; a value, a name, an argument (stage 14). -/
import Derived.Test.YtapcpjidgemggaaGreatDoorQ27
namespace Go.Proofs.YtapcpjidgemggaaGreatDoor
open Go.RowKit
open Adr Lx Sx
open Ilx (Ps Wl)
/-- The reader in a world behind v: nothing but its block has turned, errors may be laid into what is new. -/
structure Jr (v:World) (rb tb cap:Nat) (X:ByteArray) (T:TL) (A:Nat→Prop) (s:Ps) (w:World):Prop where
  k:Kp rb v w
  r:Ir w rb tb cap X T A s
  t:Tabs w
  a:∀ x,w.heap.size≤x→A x
  hr:5 < rb
  sz:X.size≤900000
  tk:toks X.data.toList true=(T,none)
theorem Jr.nx {v w:World} {rb tb cap:Nat} {X:ByteArray} {T:TL} {A:Nat→Prop} {s:Ps} {w':World} {s':Ps} (J:Jr v rb tb cap X T A s w) (k:Kp rb w w') (r:Ir w' rb tb cap X T A s'):Jr v rb tb cap X T A s' w':=⟨J.k.trans k,r,J.t.kp k J.hr,fun x hx=>J.a x (by have:=k.size;omega),J.hr,J.sz,J.tk⟩
theorem Jr.bl {v w:World} {rb tb cap:Nat} {X:ByteArray} {T:TL} {A:Nat→Prop} {s:Ps} {w':World} (J:Jr v rb tb cap X T A s w) (b:Below w.heap.size w w'):Jr v rb tb cap X T A s w':=J.nx (Kp.of b) (J.r.below b)
theorem Jr.alloc {v w:World} {rb tb cap:Nat} {X:ByteArray} {T:TL} {A:Nat→Prop} {s:Ps} (J:Jr v rb tb cap X T A s w) (o:Obj):Jr v rb tb cap X T A s (w.alloc o):=J.bl (below_new1 w o)
theorem Jr.here {v w:World} {rb tb cap:Nat} {X:ByteArray} {T:TL} {A:Nat→Prop} {s:Ps} (J:Jr v rb tb cap X T A s w):Jr w rb tb cap X T A s w:=⟨Kp.refl rb w,J.r,J.t,J.a,J.hr,J.sz,J.tk⟩
theorem Jr.box {v w:World} {rb tb cap:Nat} {X:ByteArray} {T:TL} {A:Nat→Prop} {s:Ps} (J:Jr v rb tb cap X T A s w) (o:Obj):Jr v rb tb cap X T (fun x=>A x∧x ≠ w.heap.size) s (w.alloc o):=⟨J.k.alloc o,J.r.box o,J.t.below (below_new1 w o),fun x hx=>⟨J.a x (by rw [World.size_alloc] at hx;omega),by rw [World.size_alloc] at hx;omega⟩,J.hr,J.sz,J.tk⟩
theorem Jr.rlt {v w:World} {rb tb cap:Nat} {X:ByteArray} {T:TL} {A:Nat→Prop} {s:Ps} (J:Jr v rb tb cap X T A s w):rb < w.heap.size:=J.r.rlt
theorem j_now {v w:World} {rb tb cap:Nat} {X:ByteArray} {T:TL} {A:Nat→Prop} {s:Ps} (J:Jr v rb tb cap X T A s w):Calls Tryz.prog 34 #[.pointer (some ⟨rb,0,none⟩)] w fun e w'=>∃ u,e=.returned u∧Tn (Ilx.hd s.L) u∧Kp rb w w'∧Jr v rb tb cap X T A s w' :=
  (now_t J.r).mono fun _ _ ⟨u,a,b,c⟩=>⟨u,a,b,Kp.of c,J.bl c⟩
theorem j_take {v w:World} {rb tb cap:Nat} {X:ByteArray} {T:TL} {A:Nat→Prop} {s:Ps} (J:Jr v rb tb cap X T A s w):Calls Tryz.prog 78 #[.pointer (some ⟨rb,0,none⟩)] w fun e w'=>∃ u,e=.returned u∧Tn (Ilx.hd s.L) u∧Kp rb w w'∧Jr v rb tb cap X T A (Ilx.tk s) w' :=
  (take_t J.r).mono fun _ _ ⟨u,a,b,c,d⟩=>⟨u,a,b,c,J.nx c d⟩
theorem j_is {v w:World} {rb tb cap:Nat} {X:ByteArray} {T:TL} {A:Nat→Prop} {s:Ps} (J:Jr v rb tb cap X T A s w) (x:ByteArray) (b:Bool) (hb:Ilx.iz s x.data.toList=b):Calls Tryz.prog 76 #[.pointer (some ⟨rb,0,none⟩),.slice (some ⟨w.heap.size,0,none⟩) 1 1] (w.alloc (.cells #[.string x] 9)) fun e w'=>e=.returned (.bool b)∧Kp rb w w'∧Jr v rb tb cap X T A s w' :=
  (is1 J.r x).mono fun _ _ ⟨a,c⟩=>⟨by rw [a,hb],Kp.of c,J.bl c⟩
theorem j_accept_y {v w:World} {rb tb cap:Nat} {X:ByteArray} {T:TL} {A:Nat→Prop} {s:Ps} (J:Jr v rb tb cap X T A s w) (x:ByteArray) (h:Ilx.iz s x.data.toList=true):Calls Tryz.prog 37 #[.pointer (some ⟨rb,0,none⟩),.string x] w fun e w'=>e=.returned (.bool true)∧Kp rb w w'∧Jr v rb tb cap X T A (Ilx.tk s) w' :=
  (iaccept_y J.r x h).mono fun _ _ ⟨a,c,d⟩=>⟨a,c,J.nx c d⟩
theorem j_accept_n {v w:World} {rb tb cap:Nat} {X:ByteArray} {T:TL} {A:Nat→Prop} {s:Ps} (J:Jr v rb tb cap X T A s w) (x:ByteArray) (h:Ilx.iz s x.data.toList=false):Calls Tryz.prog 37 #[.pointer (some ⟨rb,0,none⟩),.string x] w fun e w'=>e=.returned (.bool false)∧Kp rb w w'∧Jr v rb tb cap X T A s w' :=
  (iaccept_n J.r x h).mono fun _ _ ⟨a,c⟩=>⟨a,Kp.of c,J.bl c⟩
theorem j_expect {v w:World} {rb tb cap:Nat} {X:ByteArray} {T:TL} {A:Nat→Prop} {s:Ps} (J:Jr v rb tb cap X T A s w) (x:ByteArray):Calls Tryz.prog 36 #[.pointer (some ⟨rb,0,none⟩),.string x] w fun e w'=>e=.returned (.tuple #[])∧Kp rb w w'∧Jr v rb tb cap X T A (Ilx.xq s x.data.toList) w' :=
  (iexpect_c J.r J.a x).mono fun _ _ ⟨a,c,d⟩=>⟨a,c,J.nx c d⟩
theorem j_takeOf_2 {v w:World} {rb tb cap:Nat} {X:ByteArray} {T:TL} {A:Nat→Prop} {s:Ps} (J:Jr v rb tb cap X T A s w):Calls Tryz.prog 40 #[.pointer (some ⟨rb,0,none⟩),.slice (some ⟨w.heap.size,0,none⟩) 1 1] (w.alloc (.cells #[.int .i64 2] 3)) fun e w'=>∃ u,e=.returned u∧Tn (Ilx.hd (Ilx.tq s [2]).L) u∧Kp rb w w'∧Jr v rb tb cap X T A (Ilx.tk (Ilx.tq s [2])) w' :=
  (takeOf_2 J.r J.a).mono fun _ _ ⟨u,a,b,c,d⟩=>⟨u,a,b,c,J.nx c d⟩
theorem j_takeOf_3 {v w:World} {rb tb cap:Nat} {X:ByteArray} {T:TL} {A:Nat→Prop} {s:Ps} (J:Jr v rb tb cap X T A s w):Calls Tryz.prog 40 #[.pointer (some ⟨rb,0,none⟩),.slice (some ⟨w.heap.size,0,none⟩) 1 1] (w.alloc (.cells #[.int .i64 3] 3)) fun e w'=>∃ u,e=.returned u∧Tn (Ilx.hd (Ilx.tq s [3]).L) u∧Kp rb w w'∧Jr v rb tb cap X T A (Ilx.tk (Ilx.tq s [3])) w' :=
  (takeOf_3 J.r J.a).mono fun _ _ ⟨u,a,b,c,d⟩=>⟨u,a,b,c,J.nx c d⟩
theorem j_takeOf_0 {v w:World} {rb tb cap:Nat} {X:ByteArray} {T:TL} {A:Nat→Prop} {s:Ps} (J:Jr v rb tb cap X T A s w):Calls Tryz.prog 40 #[.pointer (some ⟨rb,0,none⟩),.slice (some ⟨w.heap.size,0,none⟩) 1 1] (w.alloc (.cells #[.int .i64 0] 3)) fun e w'=>∃ u,e=.returned u∧Tn (Ilx.hd (Ilx.tq s [0]).L) u∧Kp rb w w'∧Jr v rb tb cap X T A (Ilx.tk (Ilx.tq s [0])) w' :=
  (takeOf_0 J.r J.a).mono fun _ _ ⟨u,a,b,c,d⟩=>⟨u,a,b,c,J.nx c d⟩
theorem j_takeOf_34 {v w:World} {rb tb cap:Nat} {X:ByteArray} {T:TL} {A:Nat→Prop} {s:Ps} (J:Jr v rb tb cap X T A s w):Calls Tryz.prog 40 #[.pointer (some ⟨rb,0,none⟩),.slice (some ⟨w.heap.size,0,none⟩) 2 2] (w.alloc (.cells #[.int .i64 3,.int .i64 4] 3)) fun e w'=>∃ u,e=.returned u∧Tn (Ilx.hd (Ilx.tq s [3,4]).L) u∧Kp rb w w'∧Jr v rb tb cap X T A (Ilx.tk (Ilx.tq s [3,4])) w' :=
  (takeOf_34 J.r J.a).mono fun _ _ ⟨u,a,b,c,d⟩=>⟨u,a,b,c,J.nx c d⟩
theorem j_passVar {v w:World} {rb tb cap:Nat} {X:ByteArray} {T:TL} {A:Nat→Prop} {s:Ps} (J:Jr v rb tb cap X T A s w):Calls Tryz.prog 153 #[.pointer (some ⟨rb,0,none⟩)] w fun e w'=>e=.returned (.tuple #[])∧Kp rb w w'∧Jr v rb tb cap X T A (Ilx.pv s) w' :=
  (ipassVar_c J.r J.a).mono fun _ _ ⟨a,c,d⟩=>⟨a,c,J.nx c d⟩
theorem j_exprFrom {v w:World} {rb tb cap:Nat} {X:ByteArray} {T:TL} {A:Nat→Prop} {s:Ps} (J:Jr v rb tb cap X T A s w) (L:TL) (h1:L <:+ T) (h2:s.L <:+ L):Calls Tryz.prog 154 #[.pointer (some ⟨rb,0,none⟩),.int .i64 (Ilx.hd L).2] w fun e w'=>∃ (o k n:Int) (nm fl:ByteArray) (lp:Option Addr) (ln lc:Nat) (p:Int),e=.returned (.agg #[.int .i64 o,.int .i64 k,.int .i64 n,.string nm,.string fl,.slice lp ln lc,.int .i64 p])∧Ew (fun x=>w.heap.size≤x) w' (.agg #[.int .i64 o,.int .i64 k,.int .i64 n,.string nm,.string fl,.slice lp ln lc,.int .i64 p]) (Ilx.xfT L s)∧Kp rb w w'∧Jr v rb tb cap X T A (Ilx.xfS L s) w' :=
  (iexprFrom_c J.r J.a J.t J.sz J.tk L h1 h2).mono fun _ _ ⟨o,k,n,nm,fl,lp,ln,lc,p,a,b,c,d⟩=>⟨o,k,n,nm,fl,lp,ln,lc,p,a,b,c,J.nx c d⟩
theorem Jr.unbox {v w:World} {rb tb cap:Nat} {X:ByteArray} {T:TL} {A:Nat→Prop} {s:Ps} {g:Nat} (J:Jr v rb tb cap X T (fun x=>A x∧x ≠ g) s w) (hn:¬ A rb):Ir w rb tb cap X T A s:=J.r.unbox hn
set_option maxHeartbeats 4000000 in
set_option maxRecDepth 100000 in
theorem ivalue_1 {v w:World} {rb tb cap:Nat} {X:ByteArray} {T:TL} {A:Nat→Prop} {s:Ps} (J:Jr v rb tb cap X T A s w) (q:Ilx.iz s [45]=true):Calls Tryz.prog 125 #[.pointer (some ⟨rb,0,none⟩)] w fun e w'=>∃ (o k n:Int) (nm fl:ByteArray) (lp:Option Addr) (ln lc:Nat) (p:Int),e=.returned (.agg #[.int .i64 o,.int .i64 k,.int .i64 n,.string nm,.string fl,.slice lp ln lc,.int .i64 p])∧Ew (fun x=>w.heap.size≤x) w' (.agg #[.int .i64 o,.int .i64 k,.int .i64 n,.string nm,.string fl,.slice lp ln lc,.int .i64 p]) (Ilx.vlT s)∧Kp rb w w'∧Jr v rb tb cap X T A (Ilx.vlS s) w':=by
  have J0:=hid_as (J.here.box (.cells #[.int .i64 0,.int .i64 0,.int .i64 0,.string ⟨#[]⟩,.string ⟨#[]⟩,.slice none 0 0,.int .i64 0] 53))
  have B0:=hid_as (Bk.fresh w #[.int .i64 0,.int .i64 0,.int .i64 0,.string ⟨#[]⟩,.string ⟨#[]⟩,.slice none 0 0,.int .i64 0] 53)
  have JJ:=hid_as J
  have hrl:=J.rlt
  have htl:=J.r.lt
  have hna:=hid_as J.r.na
  have V:Hid (Ilx.vs s=Ilx.tk (Ilx.tq (Ilx.tk s) [3])):=hid_as (by unfold Ilx.vs;rw [if_pos q])
  have N:=hid_as (fun W (J:Jr w rb tb cap X T (fun x=>A x∧x ≠ w.heap.size) (s) W)=>j_now J)
  have EX:=hid_as (fun W (J:Jr w rb tb cap X T (fun x=>A x∧x ≠ w.heap.size) (Ilx.tk (Ilx.tq (Ilx.tk s) [3])) W)=>j_exprFrom J s.L JJ.out.r.sfx (by rw [← V.out];exact (Ilx.sf_vs JJ.out.r.wls).1))
  have AY:=hid_as (fun W (J:Jr w rb tb cap X T (fun x=>A x∧x ≠ w.heap.size) (s) W)=>j_accept_y J ⟨#[45]⟩ q)
  have TO:=hid_as (fun W (J:Jr w rb tb cap X T (fun x=>A x∧x ≠ w.heap.size) (Ilx.tk s) W)=>j_takeOf_3 J)
  have F0:=fd0
  have F4:=fd4
  have XT:Hid (Ilx.vlT s=Ilx.xfT s.L (Ilx.tk (Ilx.tq (Ilx.tk s) [3]))):=hid_as (by unfold Ilx.vlT;rw [V.out])
  have XS:Hid (Ilx.vlS s=Ilx.xfS s.L (Ilx.tk (Ilx.tq (Ilx.tk s) [3]))):=hid_as (by unfold Ilx.vlS;rw [V.out])
  clear J
  generalize Ilx.hd s.L=t0 at *
  obtain ⟨⟨ta,tk,tn,tt⟩,pl⟩:=t0
  simp only at EX
  clear q
  go_enter Tryz.func125,Tryz.ntmps125
  go_wp2_with (first
    | (go_at_call 34;(with_reducible refine (N.out _ J0.out).mono ?_);rintro e w1 ⟨_,rfl,⟨_,_,_,_,_,t1,rfl⟩,k1,j1⟩;cases t1;have J1:=hid_as j1;have B1:=hid_as (B0.out.kp k1 (by omega));have z1:=k1.size;(try rw [World.size_alloc] at z1);clear k1 j1)
    | (go_at_call 37;(with_reducible refine (AY.out _ J1.out).mono ?_);rintro e w2 ⟨rfl,k2,j2⟩;have J2:=hid_as j2;have B2:=hid_as (B1.out.kp k2 (by omega));have z2:=k2.size;(try rw [World.size_alloc] at z2);have K2:=hid_as k2;clear k2 j2)
    | (go_at_call 40;(with_reducible refine (TO.out _ J2.out).mono ?_);rintro e w3 ⟨_,rfl,⟨ta3,tk3,tn3,tt3,pl3,t3,rfl⟩,k3,j3⟩;have J3:=hid_as j3;have B3:=hid_as (B2.out.kp k3 (by omega));have z3:=k3.size;(try rw [World.size_alloc] at z3);have K3:=hid_as k3;clear k3 j3;replace t3:=hid_as t3)
    | (go_at_call 154;(with_reducible refine (EX.out _ J3.out).mono ?_);rintro e w5 ⟨o5,kd5,n5,nm5,fl5,lp5,ln5,lc5,p5,rfl,e5,k5,j5⟩;have J5:=hid_as j5;have B5:=hid_as (B3.out.kp k5 (by omega));have z5:=k5.size;(try rw [World.size_alloc] at z5);have K5:=hid_as k5;clear k5 j5;have E5:=hid_as e5;clear e5;obtain ⟨s0,s1,s2,s3,s4,s5,s6⟩:=bk7 B5.out;have sf:=B5.out.fr))
  obtain ⟨x0,x1,x2,x3,x4,x5,x6⟩:=bk7 (B5.out.put7 (.int .i64 o5) (.int .i64 kd5) (.int .i64 n5) (.string nm5) (.string fl5) (.slice lp5 ln5 lc5) (.int .i64 p5))
  refine bodyPost_ret (v:=.agg #[.int .i64 o5,.int .i64 kd5,.int .i64 n5,.string nm5,.string fl5,.slice lp5 ln5 lc5,.int .i64 p5]) (by simp [results,Tryz.results125,go_sem,x0,x1,x2,x3,x4,x5,x6]) rfl ⟨_,_,_,_,_,_,_,_,_,rfl,?_,?_,?_⟩
  · rw [XT.out]
    exact (E5.out.set7 (by show ¬ (_≤_);omega) _ _ _ _ _ _ _).into (fun x (hx:w3.heap.size≤x) _=>by show w.heap.size≤x;omega)
  · exact J5.out.k.put7 (Nat.le_refl _) _ _ _ _ _ _ _
  · rw [XS.out]
    exact JJ.out.nx (J5.out.k.put7 (Nat.le_refl _) _ _ _ _ _ _ _) ((J5.out.r.put7 (by omega) (by omega) (fun q=>q.2 rfl) _ _ _ _ _ _ _).unbox hna.out)
set_option maxHeartbeats 4000000 in
set_option maxRecDepth 100000 in
theorem ivalue_2 {v w:World} {rb tb cap:Nat} {X:ByteArray} {T:TL} {A:Nat→Prop} {s:Ps} (J:Jr v rb tb cap X T A s w) (q:Ilx.iz s [45]=false) (q2:(Ilx.hd s.L).1.tok=2):Calls Tryz.prog 125 #[.pointer (some ⟨rb,0,none⟩)] w fun e w'=>∃ (o k n:Int) (nm fl:ByteArray) (lp:Option Addr) (ln lc:Nat) (p:Int),e=.returned (.agg #[.int .i64 o,.int .i64 k,.int .i64 n,.string nm,.string fl,.slice lp ln lc,.int .i64 p])∧Ew (fun x=>w.heap.size≤x) w' (.agg #[.int .i64 o,.int .i64 k,.int .i64 n,.string nm,.string fl,.slice lp ln lc,.int .i64 p]) (Ilx.vlT s)∧Kp rb w w'∧Jr v rb tb cap X T A (Ilx.vlS s) w':=by
  have J0:=hid_as (J.here.box (.cells #[.int .i64 0,.int .i64 0,.int .i64 0,.string ⟨#[]⟩,.string ⟨#[]⟩,.slice none 0 0,.int .i64 0] 53))
  have B0:=hid_as (Bk.fresh w #[.int .i64 0,.int .i64 0,.int .i64 0,.string ⟨#[]⟩,.string ⟨#[]⟩,.slice none 0 0,.int .i64 0] 53)
  have JJ:=hid_as J
  have hrl:=J.rlt
  have htl:=J.r.lt
  have hna:=hid_as J.r.na
  have V:Hid (Ilx.vs s=Ilx.pv s):=hid_as (by unfold Ilx.vs;rw [q,if_neg Bool.false_ne_true,if_pos q2])
  have N:=hid_as (fun W (J:Jr w rb tb cap X T (fun x=>A x∧x ≠ w.heap.size) (s) W)=>j_now J)
  have EX:=hid_as (fun W (J:Jr w rb tb cap X T (fun x=>A x∧x ≠ w.heap.size) (Ilx.pv s) W)=>j_exprFrom J s.L JJ.out.r.sfx (by rw [← V.out];exact (Ilx.sf_vs JJ.out.r.wls).1))
  have AN:=hid_as (fun W (J:Jr w rb tb cap X T (fun x=>A x∧x ≠ w.heap.size) (s) W)=>j_accept_n J ⟨#[45]⟩ q)
  have PV:=hid_as (fun W (J:Jr w rb tb cap X T (fun x=>A x∧x ≠ w.heap.size) (s) W)=>j_passVar J)
  have F0:=fd0
  have F4:=fd4
  have XT:Hid (Ilx.vlT s=Ilx.xfT s.L (Ilx.pv s)):=hid_as (by unfold Ilx.vlT;rw [V.out])
  have XS:Hid (Ilx.vlS s=Ilx.xfS s.L (Ilx.pv s)):=hid_as (by unfold Ilx.vlS;rw [V.out])
  clear J
  generalize Ilx.hd s.L=t0 at *
  obtain ⟨⟨ta,tk,tn,tt⟩,pl⟩:=t0
  simp only at EX q2
  subst q2
  clear q
  go_enter Tryz.func125,Tryz.ntmps125
  go_wp2_with (first
    | (go_at_call 34;(with_reducible refine (N.out _ J0.out).mono ?_);rintro e w1 ⟨_,rfl,⟨_,_,_,_,_,t1,rfl⟩,k1,j1⟩;cases t1;have J1:=hid_as j1;have B1:=hid_as (B0.out.kp k1 (by omega));have z1:=k1.size;(try rw [World.size_alloc] at z1);clear k1 j1)
    | (go_at_call 37;(with_reducible refine (AN.out _ J1.out).mono ?_);rintro e w2 ⟨rfl,k2,j2⟩;have J2:=hid_as j2;have B2:=hid_as (B1.out.kp k2 (by omega));have z2:=k2.size;(try rw [World.size_alloc] at z2);have K2:=hid_as k2;clear k2 j2)
    | (go_at_call 34;(with_reducible refine (N.out _ J2.out).mono ?_);rintro e w4 ⟨_,rfl,⟨_,_,_,_,_,t1,rfl⟩,k4,j4⟩;cases t1;have J4:=hid_as j4;have B4:=hid_as (B2.out.kp k4 (by omega));have z4:=k4.size;(try rw [World.size_alloc] at z4);clear k4 j4)
    | (go_at_call 153;(with_reducible refine (PV.out _ J4.out).mono ?_);rintro e w3 ⟨rfl,k3,j3⟩;have J3:=hid_as j3;have B3:=hid_as (B4.out.kp k3 (by omega));have z3:=k3.size;(try rw [World.size_alloc] at z3);have K3:=hid_as k3;clear k3 j3)
    | (go_at_call 154;(with_reducible refine (EX.out _ J3.out).mono ?_);rintro e w5 ⟨o5,kd5,n5,nm5,fl5,lp5,ln5,lc5,p5,rfl,e5,k5,j5⟩;have J5:=hid_as j5;have B5:=hid_as (B3.out.kp k5 (by omega));have z5:=k5.size;(try rw [World.size_alloc] at z5);have K5:=hid_as k5;clear k5 j5;have E5:=hid_as e5;clear e5;obtain ⟨s0,s1,s2,s3,s4,s5,s6⟩:=bk7 B5.out;have sf:=B5.out.fr))
  obtain ⟨x0,x1,x2,x3,x4,x5,x6⟩:=bk7 (B5.out.put7 (.int .i64 o5) (.int .i64 kd5) (.int .i64 n5) (.string nm5) (.string fl5) (.slice lp5 ln5 lc5) (.int .i64 p5))
  refine bodyPost_ret (v:=.agg #[.int .i64 o5,.int .i64 kd5,.int .i64 n5,.string nm5,.string fl5,.slice lp5 ln5 lc5,.int .i64 p5]) (by simp [results,Tryz.results125,go_sem,x0,x1,x2,x3,x4,x5,x6]) rfl ⟨_,_,_,_,_,_,_,_,_,rfl,?_,?_,?_⟩
  · rw [XT.out]
    exact (E5.out.set7 (by show ¬ (_≤_);omega) _ _ _ _ _ _ _).into (fun x (hx:w3.heap.size≤x) _=>by show w.heap.size≤x;omega)
  · exact J5.out.k.put7 (Nat.le_refl _) _ _ _ _ _ _ _
  · rw [XS.out]
    exact JJ.out.nx (J5.out.k.put7 (Nat.le_refl _) _ _ _ _ _ _ _) ((J5.out.r.put7 (by omega) (by omega) (fun q=>q.2 rfl) _ _ _ _ _ _ _).unbox hna.out)
set_option maxHeartbeats 4000000 in
set_option maxRecDepth 100000 in
theorem ivalue_3 {v w:World} {rb tb cap:Nat} {X:ByteArray} {T:TL} {A:Nat→Prop} {s:Ps} (J:Jr v rb tb cap X T A s w) (q:Ilx.iz s [45]=false) (q2:¬ (Ilx.hd s.L).1.tok=2):Calls Tryz.prog 125 #[.pointer (some ⟨rb,0,none⟩)] w fun e w'=>∃ (o k n:Int) (nm fl:ByteArray) (lp:Option Addr) (ln lc:Nat) (p:Int),e=.returned (.agg #[.int .i64 o,.int .i64 k,.int .i64 n,.string nm,.string fl,.slice lp ln lc,.int .i64 p])∧Ew (fun x=>w.heap.size≤x) w' (.agg #[.int .i64 o,.int .i64 k,.int .i64 n,.string nm,.string fl,.slice lp ln lc,.int .i64 p]) (Ilx.vlT s)∧Kp rb w w'∧Jr v rb tb cap X T A (Ilx.vlS s) w':=by
  have J0:=hid_as (J.here.box (.cells #[.int .i64 0,.int .i64 0,.int .i64 0,.string ⟨#[]⟩,.string ⟨#[]⟩,.slice none 0 0,.int .i64 0] 53))
  have B0:=hid_as (Bk.fresh w #[.int .i64 0,.int .i64 0,.int .i64 0,.string ⟨#[]⟩,.string ⟨#[]⟩,.slice none 0 0,.int .i64 0] 53)
  have JJ:=hid_as J
  have hrl:=J.rlt
  have htl:=J.r.lt
  have hna:=hid_as J.r.na
  have V:Hid (Ilx.vs s=Ilx.tk (Ilx.tq s [3,4])):=hid_as (by unfold Ilx.vs;rw [q,if_neg Bool.false_ne_true,if_neg q2])
  have N:=hid_as (fun W (J:Jr w rb tb cap X T (fun x=>A x∧x ≠ w.heap.size) (s) W)=>j_now J)
  have EX:=hid_as (fun W (J:Jr w rb tb cap X T (fun x=>A x∧x ≠ w.heap.size) (Ilx.tk (Ilx.tq s [3,4])) W)=>j_exprFrom J s.L JJ.out.r.sfx (by rw [← V.out];exact (Ilx.sf_vs JJ.out.r.wls).1))
  have AN:=hid_as (fun W (J:Jr w rb tb cap X T (fun x=>A x∧x ≠ w.heap.size) (s) W)=>j_accept_n J ⟨#[45]⟩ q)
  have TO:=hid_as (fun W (J:Jr w rb tb cap X T (fun x=>A x∧x ≠ w.heap.size) (s) W)=>j_takeOf_34 J)
  have F0:=fd0
  have F4:=fd4
  have XT:Hid (Ilx.vlT s=Ilx.xfT s.L (Ilx.tk (Ilx.tq s [3,4]))):=hid_as (by unfold Ilx.vlT;rw [V.out])
  have XS:Hid (Ilx.vlS s=Ilx.xfS s.L (Ilx.tk (Ilx.tq s [3,4]))):=hid_as (by unfold Ilx.vlS;rw [V.out])
  clear J
  generalize Ilx.hd s.L=t0 at *
  obtain ⟨⟨ta,tk,tn,tt⟩,pl⟩:=t0
  simp only at EX q2
  have g2:((ta:Int) == 2)=false:=by simp only [beq_eq_false_iff_ne,ne_eq];omega
  clear q
  go_enter Tryz.func125,Tryz.ntmps125
  go_wp2_with (first
    | (go_at_call 34;(with_reducible refine (N.out _ J0.out).mono ?_);rintro e w1 ⟨_,rfl,⟨_,_,_,_,_,t1,rfl⟩,k1,j1⟩;cases t1;have J1:=hid_as j1;have B1:=hid_as (B0.out.kp k1 (by omega));have z1:=k1.size;(try rw [World.size_alloc] at z1);clear k1 j1)
    | (go_at_call 37;(with_reducible refine (AN.out _ J1.out).mono ?_);rintro e w2 ⟨rfl,k2,j2⟩;have J2:=hid_as j2;have B2:=hid_as (B1.out.kp k2 (by omega));have z2:=k2.size;(try rw [World.size_alloc] at z2);have K2:=hid_as k2;clear k2 j2)
    | (go_at_call 34;(with_reducible refine (N.out _ J2.out).mono ?_);rintro e w4 ⟨_,rfl,⟨_,_,_,_,_,t1,rfl⟩,k4,j4⟩;cases t1;have J4:=hid_as j4;have B4:=hid_as (B2.out.kp k4 (by omega));have z4:=k4.size;(try rw [World.size_alloc] at z4);clear k4 j4)
    | (go_at_call 40;(with_reducible refine (TO.out _ J4.out).mono ?_);rintro e w3 ⟨_,rfl,⟨ta3,tk3,tn3,tt3,pl3,t3,rfl⟩,k3,j3⟩;have J3:=hid_as j3;have B3:=hid_as (B4.out.kp k3 (by omega));have z3:=k3.size;(try rw [World.size_alloc] at z3);have K3:=hid_as k3;clear k3 j3;replace t3:=hid_as t3)
    | (go_at_call 154;(with_reducible refine (EX.out _ J3.out).mono ?_);rintro e w5 ⟨o5,kd5,n5,nm5,fl5,lp5,ln5,lc5,p5,rfl,e5,k5,j5⟩;have J5:=hid_as j5;have B5:=hid_as (B3.out.kp k5 (by omega));have z5:=k5.size;(try rw [World.size_alloc] at z5);have K5:=hid_as k5;clear k5 j5;have E5:=hid_as e5;clear e5;obtain ⟨s0,s1,s2,s3,s4,s5,s6⟩:=bk7 B5.out;have sf:=B5.out.fr))
  obtain ⟨x0,x1,x2,x3,x4,x5,x6⟩:=bk7 (B5.out.put7 (.int .i64 o5) (.int .i64 kd5) (.int .i64 n5) (.string nm5) (.string fl5) (.slice lp5 ln5 lc5) (.int .i64 p5))
  refine bodyPost_ret (v:=.agg #[.int .i64 o5,.int .i64 kd5,.int .i64 n5,.string nm5,.string fl5,.slice lp5 ln5 lc5,.int .i64 p5]) (by simp [results,Tryz.results125,go_sem,x0,x1,x2,x3,x4,x5,x6]) rfl ⟨_,_,_,_,_,_,_,_,_,rfl,?_,?_,?_⟩
  · rw [XT.out]
    exact (E5.out.set7 (by show ¬ (_≤_);omega) _ _ _ _ _ _ _).into (fun x (hx:w3.heap.size≤x) _=>by show w.heap.size≤x;omega)
  · exact J5.out.k.put7 (Nat.le_refl _) _ _ _ _ _ _ _
  · rw [XS.out]
    exact JJ.out.nx (J5.out.k.put7 (Nat.le_refl _) _ _ _ _ _ _ _) ((J5.out.r.put7 (by omega) (by omega) (fun q=>q.2 rfl) _ _ _ _ _ _ _).unbox hna.out)
theorem j_value {v w:World} {rb tb cap:Nat} {X:ByteArray} {T:TL} {A:Nat→Prop} {s:Ps} (J:Jr v rb tb cap X T A s w):Calls Tryz.prog 125 #[.pointer (some ⟨rb,0,none⟩)] w fun e w'=>∃ (o k n:Int) (nm fl:ByteArray) (lp:Option Addr) (ln lc:Nat) (p:Int),e=.returned (.agg #[.int .i64 o,.int .i64 k,.int .i64 n,.string nm,.string fl,.slice lp ln lc,.int .i64 p])∧Ew (fun x=>w.heap.size≤x) w' (.agg #[.int .i64 o,.int .i64 k,.int .i64 n,.string nm,.string fl,.slice lp ln lc,.int .i64 p]) (Ilx.vlT s)∧Kp rb w w'∧Jr v rb tb cap X T A (Ilx.vlS s) w':=by
  cases q:Ilx.iz s [45] with
  | true=>exact ivalue_1 J q
  | false =>
    by_cases q2:(Ilx.hd s.L).1.tok=2
    · exact ivalue_2 J q q2
    · exact ivalue_3 J q q2
end Go.Proofs.YtapcpjidgemggaaGreatDoor
