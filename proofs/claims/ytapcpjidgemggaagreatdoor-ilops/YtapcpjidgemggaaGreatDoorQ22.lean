/- A text read: the panic that ends a reading, and what becomes of it (stage 13). -/
import Derived.Defers
import Derived.Recover
import Derived.Stop.Asserts
import Derived.Test.YtapcpjidgemggaaGreatDoorQ21
namespace Go.Proofs.YtapcpjidgemggaaGreatDoor
open Go.RowKit
open Adr Lx Sx
set_option maxHeartbeats 2000000 in
set_option maxRecDepth 100000 in
theorem catch_idle (p:Addr) (w:World) :
    CallsD Tryz.prog 84 #[.pointer (some p)] .returning w fun e u' w'=>e=.returned (.tuple #[])∧u'=.returning∧w'=w:=by
  refine callsD_of_wpS Tryz.func84 rfl fun c₀ cs hu=>?_
  apply wpS_seq
  apply wpS_region
  simp [wpOpsS,go_sem,recoverD,hu,Tryz.ntmps84,Exit.thenS,Array.replicate,List.replicate]
  refine wpS_of_wp ?_
  go_wp2
  cases c₀
  simp_all [bodyPostS,results,Tryz.results84]
theorem assert_is (x:Value) (w:World):(Instr.typeAssert (.iface 151 x) 20 151 true).run Tryz.prog w=.ok (.tuple #[x,.bool true]) w:=by kernel_rfl
set_option maxHeartbeats 2000000 in
set_option maxRecDepth 100000 in
theorem catch_pan (g:Nat) (a n:Int) (w:World) (hB:Bk w g #[.nilIface]) :
    CallsD Tryz.prog 84 #[.pointer (some ⟨g,0,none⟩)] (.panicking [{ v:=.iface 151 (.agg #[.int .i64 a,.int .i64 n]),recovered:=false }]) w fun e u' w'=>e=.returned (.tuple #[])∧u'=.panicking [{ v:=.iface 151 (.agg #[.int .i64 a,.int .i64 n]),recovered:=true }] ∧
      w'=((w.alloc (.cells #[.int .i64 a,.int .i64 n] 151)).alloc (.cells #[.int .i64 a,.int .i64 n] 83)).setCell ⟨g,0,none⟩ (.iface 78 (.pointer (some ⟨w.heap.size+1,0,none⟩))):=by
  have c0:∀ o p,((w.alloc o).alloc p).cell? ⟨g,0,none⟩=some .nilIface:=fun o p=>((hB.alloc o).alloc p).cell 0
  have f0:∀ o p,((w.alloc o).alloc p).frozen? ⟨g,0,none⟩=false:=fun o p=>((hB.alloc o).alloc p).fr 0
  clear hB
  refine callsD_of_wpS Tryz.func84 rfl fun c₀ cs hu=>?_
  have TA:=assert_is
  apply wpS_seq
  apply wpS_region
  simp [wpOpsS,go_sem,recoverD,hu,Tryz.ntmps84,Exit.thenS,Array.replicate,List.replicate]
  refine wpS_of_wp ?_
  go_wp2
  exact ⟨rfl,_,rfl,_,by simp [results,Tryz.results84],rfl,rfl,rfl⟩
/-- Nothing that was there has turned, but blocks a and b. -/
structure K2 (a b:Nat) (w w':World):Prop where
  os:w'.os=w.os
  tape:w'.tape=w.tape
  output:w'.output=w.output
  size:w.heap.size≤w'.heap.size
  block:∀ j,j < w.heap.size→j ≠ a→j ≠ b→w'.heap[j]?=w.heap[j]?
theorem K2.of {a b:Nat} {w w':World} (h:Kp a w w'):K2 a b w w':=⟨h.os,h.tape,h.output,h.size,fun j h1 h2 _=>h.block j h1 h2⟩
theorem K2.set {a b:Nat} {w w':World} (h:K2 a b w w') (j:Nat) (x:Value):K2 a b w (w'.setCell ⟨b,j,none⟩ x) :=
  ⟨h.os,h.tape,h.output,by simp [World.setCell];exact h.size,fun k h1 h2 h3=>(Below.heap_setCell _ _ _ _ h3).trans (h.block k h1 h2 h3)⟩
theorem K2.setN {a b g:Nat} {w w':World} (h:K2 a b w w') (hg:w.heap.size≤g) (j:Nat) (x:Value):K2 a b w (w'.setCell ⟨g,j,none⟩ x) :=
  ⟨h.os,h.tape,h.output,by simp [World.setCell];exact h.size,fun k h1 h2 h3=>(Below.heap_setCell _ _ _ _ (by show k ≠ g;omega)).trans (h.block k h1 h2 h3)⟩
theorem K2.alloc {a b:Nat} {w w':World} (h:K2 a b w w') (o:Obj):K2 a b w (w'.alloc o) :=
  ⟨h.os,h.tape,h.output,by rw [World.size_alloc];have:=h.size;omega,fun k h1 h2 h3=>((below_new1 w' o).block k (Nat.lt_of_lt_of_le h1 h.size)).trans (h.block k h1 h2 h3)⟩
theorem K2.pre {a b:Nat} {v w w':World} (k:Below v.heap.size v w) (h:K2 a b w w'):K2 a b v w' :=
  ⟨h.os.trans k.os,h.tape.trans k.tape,h.output.trans k.output,Nat.le_trans k.size h.size,fun j h1 h2 h3=>(h.block j (Nat.lt_of_lt_of_le h1 k.size) h2 h3).trans (k.block j h1)⟩
/-- What the reading of a text comes to, of its own memory eb. -/
def Read {α:Type} (T:TL) (rb eb:Nat) (W:World) (M:Re α) (Q:α→World→Prop) (e:Ending) (w':World):Prop :=
  K2 rb eb W w'∧((∃ a k,M=ok a k∧e=.returned (.tuple #[])∧Q a w') ∨ (∃ n k,M=no n k∧e=.panicked (pan T n k)∧Kp rb W w'))
set_option maxHeartbeats 4000000 in
set_option maxRecDepth 100000 in
theorem p_onlyExpr {w:World} {rb tb cap:Nat} {T:TL} (h:Rd w rb tb cap T 0):Calls Tryz.prog 184 #[.pointer (some ⟨rb,0,none⟩)] w fun e w'=>Outc rb tb cap T 0 w (onl T) (qE w) e w':=by
  have hrl:=h.rlt
  have htl:=h.lt
  have B0:=hid_as (Bk.fresh w #[.int .i64 0,.int .i64 0,.int .i64 0,.string ⟨#[]⟩,.string ⟨#[]⟩,.slice none 0 0,.int .i64 0] 53)
  have K0:=hid_as ((Kp.refl rb w).alloc (.cells #[.int .i64 0,.int .i64 0,.int .i64 0,.string ⟨#[]⟩,.string ⟨#[]⟩,.slice none 0 0,.int .i64 0] 53))
  have H:=hid_as (h.alloc (.cells #[.int .i64 0,.int .i64 0,.int .i64 0,.string ⟨#[]⟩,.string ⟨#[]⟩,.slice none 0 0,.int .i64 0] 53))
  have em:onl T=th (xpr T 32 0) fun a k=>th (endT T k) fun _ m=>ok a m:=rfl
  generalize onl T=M at *
  have M0:=hid_as em
  have X:Hid (∀ W i,Rd W rb tb cap T i→Calls Tryz.prog 186 #[.pointer (some ⟨rb,0,none⟩),.int .i64 1] W fun e w'=>Outc rb tb cap T i W (xpr T 32 i) (qE W) e w'):=p_xpr 32 1 rfl
  have C:Hid (∀ W i,Rd W rb tb cap T i→Calls Tryz.prog 91 #[.pointer (some ⟨rb,0,none⟩)] W fun e w'=>Outc rb tb cap T i W (endT T i) (qU W) e w'):=end_c
  clear h em
  go_enter Tryz.func184,Tryz.ntmps184
  go_wp2_with (first
    | (go_at_call 186;(with_reducible refine (X.out _ 0 H.out).mono ?_);rintro e w1 ⟨k1,⟨t1,i1,_,m1,rfl,⟨o1,kd1,v1,nm1,fl1,lp1,ln1,lc1,p1,rfl,E1'⟩,r1,l1⟩ | ⟨n1,i1,m1,rfl⟩⟩;rotate_left;exact And.intro rfl (Outc.stop M0.out m1 ((K0.out).trans k1));have R1:=hid_as r1;have K1:=hid_as ((K0.out).trans k1);have M1:=hid_as (th_go M0.out m1);have B1:=hid_as (B0.out.kp k1 (by omega));have z1:=K1.out.size;have q1:=k1.size;(try rw [World.size_alloc] at q1);have J1:=hid_as k1;clear k1 r1 m1;have E1:=hid_as E1';clear E1';rw [World.size_alloc] at E1;have y1:=B1.out.lt;have V1:=hid_as (Bk.fresh w1 #[.int .i64 o1,.int .i64 kd1,.int .i64 v1,.string nm1,.string fl1,.slice lp1 ln1 lc1,.int .i64 p1] 53))
    | (go_at_call 91;(with_reducible refine (C.out _ i1 (R1.out.alloc _)).mono ?_);rintro e w2 ⟨k2,⟨_,i2,_,m2,rfl,rfl,r2,l2⟩ | ⟨n2,i2,m2,rfl⟩⟩;rotate_left;exact And.intro rfl (Outc.stop M1.out m2 ((K1.out.alloc _).trans k2));have R2:=hid_as r2;have K2:=hid_as ((K1.out.alloc _).trans k2);have M2:=hid_as (th_go M1.out m2);have B2:=hid_as ((B1.out.alloc (.cells #[.int .i64 o1,.int .i64 kd1,.int .i64 v1,.string nm1,.string fl1,.slice lp1 ln1 lc1,.int .i64 p1] 53)).kp k2 (by omega));have V2:=hid_as (V1.out.kp k2 (by omega));have z2:=K2.out.size;have q2:=k2.size;(try rw [World.size_alloc] at q2);have J2:=hid_as k2;clear k2 r2 m2;have E2:=hid_as ((E1.out.alloc (.cells #[.int .i64 o1,.int .i64 kd1,.int .i64 v1,.string nm1,.string fl1,.slice lp1 ln1 lc1,.int .i64 p1] 53)).kp J2.out (by show ¬ (_≤_);omega));obtain ⟨s0,s1,s2,s3,s4,s5,s6⟩:=bk7 B2.out;have sf:=B2.out.fr;obtain ⟨u0,u1,u2,u3,u4,u5,u6⟩:=bk7 V2.out;have uf:=V2.out.fr))
  exact bodyPost_ret (v:=.agg #[.int .i64 o1,.int .i64 kd1,.int .i64 v1,.string nm1,.string fl1,.slice lp1 ln1 lc1,.int .i64 p1]) (by simp [results,Tryz.results184,go_sem,s0,s1,s2,s3,s4,s5,s6]) rfl ⟨K2.out.put7 (by omega) _ _ _ _ _ _ _,Or.inl ⟨_,_,_,M2.out,rfl,⟨_,_,_,_,_,_,_,_,_,rfl,((E2.out).set7 (by show ¬ (_≤_);omega) _ _ _ _ _ _ _).into (fun x (hx:w.heap.size+1≤x) _=>(by show w.heap.size≤x;omega))⟩,R2.out.put7 (by omega) (by omega) _ _ _ _ _ _ _,(by omega)⟩⟩
theorem ok_ne {α:Type} {a:α} {k n m:Nat} (h:(ok a k:Re α)=no n m):False:=by cases congrArg Re.v h
theorem ok_in {α:Type} {a b:α} {k m:Nat} (h:(ok a k:Re α)=ok b m):a=b∧k=m:=⟨Option.some.inj (congrArg Re.v h),congrArg Re.k h⟩
theorem no_in {α:Type} {k m n l:Nat} (h:(no n k:Re α)=no l m):n=l∧k=m:=⟨congrArg Re.e h,congrArg Re.k h⟩
theorem Read.yes {α:Type} {T:TL} {rb eb:Nat} {W:World} {M:Re α} {Q:α→World→Prop} {e:Ending} {w':World} (h:Read T rb eb W M Q e w') {a:α} {k:Nat} (hM:M=ok a k):e=.returned (.tuple #[])∧Q a w'∧K2 rb eb W w':=by
  obtain ⟨k2,⟨b,m,h1,h2,h3⟩ | ⟨n,m,h1,_⟩⟩:=h
  · obtain ⟨rfl,rfl⟩:=ok_in (hM.symm.trans h1)
    exact ⟨h2,h3,k2⟩
  · exact (ok_ne (hM.symm.trans h1)).elim
theorem Read.nay {α:Type} {T:TL} {rb eb:Nat} {W:World} {M:Re α} {Q:α→World→Prop} {e:Ending} {w':World} (h:Read T rb eb W M Q e w') {n k:Nat} (hM:M=no n k):e=.panicked (pan T n k)∧Kp rb W w':=by
  obtain ⟨k2,⟨b,m,h1,h2,h3⟩ | ⟨n,m,h1,h2,h3⟩⟩:=h
  · exact (ok_ne (h1.symm.trans hM)).elim
  · obtain ⟨rfl,rfl⟩:=no_in (hM.symm.trans h1)
    exact ⟨h2,h3⟩
theorem K2.put7 {a b:Nat} {w w':World} (h:K2 a b w w') (x0 x1 x2 x3 x4 x5 x6:Value):K2 a b w (((((((w'.setCell ⟨b,0,none⟩ x0).setCell ⟨b,1,none⟩ x1).setCell ⟨b,2,none⟩ x2).setCell ⟨b,3,none⟩ x3).setCell ⟨b,4,none⟩ x4).setCell ⟨b,5,none⟩ x5).setCell ⟨b,6,none⟩ x6) :=
  ((((((h.set 0 x0).set 1 x1).set 2 x2).set 3 x3).set 4 x4).set 5 x5).set 6 x6
/-- What the function that an expression's text is handed to leaves. -/
def qX (eb:Nat) (W:World):Tr→World→Prop:=fun t w'=>∃ o k n nm fl lp ln lc p,Bk w' eb #[.int .i64 o,.int .i64 k,.int .i64 n,.string nm,.string fl,.slice lp ln lc,.int .i64 p]∧Et (fun x=>W.heap.size≤x) w' (.agg #[.int .i64 o,.int .i64 k,.int .i64 n,.string nm,.string fl,.slice lp ln lc,.int .i64 p]) t
set_option maxHeartbeats 4000000 in
set_option maxRecDepth 100000 in
theorem p_exprFn {w:World} {rb tb cap:Nat} {T:TL} {eb:Nat} (h:Rd w rb tb cap T 0) (hE:Bk w eb #[.int .i64 0,.int .i64 0,.int .i64 0,.string ⟨#[]⟩,.string ⟨#[]⟩,.slice none 0 0,.int .i64 0]) (h1:eb ≠ rb):Calls Tryz.prog 183 #[.pointer (some ⟨rb,0,none⟩),.pointer (some ⟨eb,0,none⟩)] w fun e w'=>Read T rb eb w (onl T) (qX eb w) e w':=by
  have C:=hid_as (fun W (H:Rd W rb tb cap T 0)=>p_onlyExpr H)
  have H:=hid_as h
  have B0:=hid_as hE
  have hel:=hE.lt
  generalize onl T=M at *
  clear h hE
  go_enter Tryz.func183,Tryz.ntmps183
  go_wp2_with (go_at_call 184;(with_reducible refine (C.out _ H.out).mono ?_);rintro e w1 ⟨k1,⟨t1,i1,_,m1,rfl,⟨o1,kd1,v1,nm1,fl1,lp1,ln1,lc1,p1,rfl,E1'⟩,r1,l1⟩ | ⟨n1,i1,m1,rfl⟩⟩;rotate_left;exact And.intro rfl ⟨K2.of k1,Or.inr ⟨n1,i1,m1,rfl,k1⟩⟩;have B1:=hid_as (B0.out.kp k1 h1);obtain ⟨s0,s1,s2,s3,s4,s5,s6⟩:=bk7 B1.out;have sf:=B1.out.fr;have E1:=hid_as E1';clear E1')
  go_end0
  exact ⟨(K2.of k1).put7 _ _ _ _ _ _ _,Or.inl ⟨t1,i1,m1,rfl,_,_,_,_,_,_,_,_,_,B1.out.put7 _ _ _ _ _ _ _,E1.out.set7 (by show ¬ (_≤_);omega) _ _ _ _ _ _ _⟩⟩
theorem kp_new {rb B:Nat} {W w':World} (h:Kp rb W w') (hb:B≤rb∧B≤W.heap.size):Below B W w':=⟨h.os,h.tape,h.output,h.size,fun j hj=>h.block j (by omega) (by omega)⟩
theorem K2.drop {a b:Nat} {w w':World} (h:K2 a b w w') (ha:w.heap.size≤a):K2 b b w w':=⟨h.os,h.tape,h.output,h.size,fun j h1 h2 _=>h.block j h1 (by omega) h2⟩
theorem qX_set {eb:Nat} {W:World} {t:Tr} {w':World} {g:Nat} {x:Value} (h:qX eb W t w') (hg:g < W.heap.size) (he:eb ≠ g):qX eb W t (w'.setCell ⟨g,0,none⟩ x):=by
  obtain ⟨o,k,n,nm,fl,lp,ln,lc,p,a,b⟩:=h
  exact ⟨o,k,n,nm,fl,lp,ln,lc,p,a.other 0 x he,b.set (by show ¬ (_≤_);omega) 0 x⟩
set_option maxHeartbeats 4000000 in
set_option maxRecDepth 100000 in
theorem read_expr (s:ByteArray) (w:World) (hT:Tabs w) (hs:s.size≤1000000) {T:TL} (ht:toks s.data.toList false=(T,none)) (hw:Wf T) {eb:Nat} (hE:Bk w eb #[.int .i64 0,.int .i64 0,.int .i64 0,.string ⟨#[]⟩,.string ⟨#[]⟩,.slice none 0 0,.int .i64 0]) {a:_} {k:Nat} (hM:onl T=ok a k):Calls Tryz.prog 41 #[.string s,.func (.func 183) #[] #[.pointer (some ⟨eb,0,none⟩)]] w fun e w'=>e=.returned .nilIface∧(∃ W,w.heap.size < W.heap.size∧qX eb W a w')∧K2 eb eb w w':=by
  have hmf:∀ (fn:Fn) (first cap:Array Value) (w:World),(Instr.makeFunc fn first cap).run Tryz.prog w=.ok (.func fn first cap) w:=fun _ _ _ _=>rfl
  have C:=hid_as (fun W hW=>tokens_yes ht hs W hW)
  have B0:=hid_as (Bk.fresh w #[.nilIface] 35)
  have T0:=hid_as (hT.below (below_new1 w (.cells #[.nilIface] 35)))
  have K0:=hid_as (below_new1 w (.cells #[.nilIface] 35))
  have E0:=hid_as (hE.alloc (.cells #[.nilIface] 35))
  have hel:=hE.lt
  have htp:=toks_pos ht
  have GX:=hid_as (fun W rb tb cp (H:Rd W rb tb cp T 0) (hE:Bk W eb #[.int .i64 0,.int .i64 0,.int .i64 0,.string ⟨#[]⟩,.string ⟨#[]⟩,.slice none 0 0,.int .i64 0]) (h1:eb ≠ rb)=>p_exprFn H hE h1)
  clear ht hT hE
  go_enter_defers Tryz.func41,Tryz.ntmps41
  go_wp2_with (first
    | (go_at_call 15;(with_reducible refine (C.out _ T0.out).mono ?_);rintro e w1 ⟨g,cp,rfl,hg1,hg2,ld,b1⟩;have K1:=hid_as (below_and K0.out b1);have B1:=hid_as (B0.out.below b1);have E1:=hid_as (E0.out.below b1);have s0:=B1.out.cell 0;simp only [List.getElem?_toArray,List.getElem?_cons_zero] at s0;have sf:=B1.out.fr 0;rw [World.size_alloc] at hg1;have y1:=B1.out.lt;have RW:Hid (Rd ((w1.setCell ⟨w.heap.size,0,none⟩ .nilIface).alloc (.cells #[.slice (some ⟨g,0,none⟩) T.length cp,.int .i64 0] 153)) w1.heap.size g cp T 0):=hid_as ⟨Bk.freshS _ _ _ _ _,fun j u hj=>by rw [World.cell?_alloc_lt _ _ ⟨g,j,none⟩ (by simp [World.setCell];exact hg2),World.cell?_of_block (w:=w1) (a:=⟨g,j,none⟩) (Below.heap_setCell _ ⟨w.heap.size,0,none⟩ _ g (by show g ≠ w.heap.size;omega))];exact ld j u hj,by rw [World.size_alloc];simp [World.setCell];omega,by omega,hw,htp⟩;have EW:Hid (Bk ((w1.setCell ⟨w.heap.size,0,none⟩ .nilIface).alloc (.cells #[.slice (some ⟨g,0,none⟩) T.length cp,.int .i64 0] 153)) eb #[.int .i64 0,.int .i64 0,.int .i64 0,.string ⟨#[]⟩,.string ⟨#[]⟩,.slice none 0 0,.int .i64 0]):=hid_as ((E1.out.other 0 .nilIface (by omega)).alloc _);have BW:Hid (Bk ((w1.setCell ⟨w.heap.size,0,none⟩ .nilIface).alloc (.cells #[.slice (some ⟨g,0,none⟩) T.length cp,.int .i64 0] 153)) w.heap.size #[.nilIface]):=(by have q:=B1.out.set 0 .nilIface;simp only [List.setIfInBounds_toArray,List.set_cons_zero] at q;exact hid_as (q.alloc _));have KW:Hid (Below w.heap.size w ((w1.setCell ⟨w.heap.size,0,none⟩ .nilIface).alloc (.cells #[.slice (some ⟨g,0,none⟩) T.length cp,.int .i64 0] 153))):=hid_as ((K1.out.setCell (p:=⟨w.heap.size,0,none⟩) (Nat.le_refl _) _).alloc (by simp [World.setCell];omega) _))
    | (go_at_call 183;(with_reducible refine (GX.out _ _ _ _ RW.out EW.out (by omega)).mono ?_);intro e w3 hr;obtain ⟨he,hq,k3⟩:=hr.yes hM;clear hr;subst he;have B3:=hid_as (show Bk w3 w.heap.size #[.nilIface] from (by obtain ⟨t,q⟩:=BW.out;exact ⟨t,(k3.block w.heap.size BW.out.lt (by omega) (by omega)).trans q⟩));have r0:=B3.out.cell 0;simp only [List.getElem?_toArray,List.getElem?_cons_zero] at r0;have rf:=B3.out.fr 0))
  refine leaves_cons (f:=84) (args:=#[.pointer (some ⟨w.heap.size,0,none⟩)]) (by simp) (by simp [go_sem]) ?_
  refine (catch_idle ⟨w.heap.size,0,none⟩ _).mono ?_
  rintro e u' w'' ⟨rfl,rfl,rfl⟩
  have hz:w.heap.size < ((w1.setCell ⟨w.heap.size,0,none⟩ .nilIface).alloc (.cells #[.slice (some ⟨g,0,none⟩) T.length cp,.int .i64 0] 153)).heap.size:=by rw [World.size_alloc];simp [World.setCell];omega
  show Leaves Tryz.prog Tryz.f41 _ _ [] .returning _
  exact ⟨.nilIface,by simp [results,Tryz.results41,go_sem,r0],rfl,⟨_,hz,qX_set hq hz (by omega)⟩,(K2.drop (K2.pre KW.out k3) (by omega)).setN (Nat.le_refl _) _ _⟩
set_option maxHeartbeats 4000000 in
set_option maxRecDepth 100000 in
theorem read_expr_no (s:ByteArray) (w:World) (hT:Tabs w) (hs:s.size≤1000000) {T:TL} (ht:toks s.data.toList false=(T,none)) (hw:Wf T) {eb:Nat} (hE:Bk w eb #[.int .i64 0,.int .i64 0,.int .i64 0,.string ⟨#[]⟩,.string ⟨#[]⟩,.slice none 0 0,.int .i64 0]) {n k:Nat} (hM:onl T=no n k):Calls Tryz.prog 41 #[.string s,.func (.func 183) #[] #[.pointer (some ⟨eb,0,none⟩)]] w fun e w'=>(∃ g,e=.returned (.iface 78 (.pointer (some ⟨g,0,none⟩)))∧w.heap.size≤g∧g < w'.heap.size∧w'.cell? ⟨g,0,none⟩=some (.int .i64 (ca T k))∧w'.cell? ⟨g,1,none⟩=some (.int .i64 n))∧Below w.heap.size w w':=by
  have hmf:∀ (fn:Fn) (first cap:Array Value) (w:World),(Instr.makeFunc fn first cap).run Tryz.prog w=.ok (.func fn first cap) w:=fun _ _ _ _=>rfl
  have C:=hid_as (fun W hW=>tokens_yes ht hs W hW)
  have B0:=hid_as (Bk.fresh w #[.nilIface] 35)
  have T0:=hid_as (hT.below (below_new1 w (.cells #[.nilIface] 35)))
  have K0:=hid_as (below_new1 w (.cells #[.nilIface] 35))
  have E0:=hid_as (hE.alloc (.cells #[.nilIface] 35))
  have hel:=hE.lt
  have htp:=toks_pos ht
  have GX:=hid_as (fun W rb tb cp (H:Rd W rb tb cp T 0) (hE:Bk W eb #[.int .i64 0,.int .i64 0,.int .i64 0,.string ⟨#[]⟩,.string ⟨#[]⟩,.slice none 0 0,.int .i64 0]) (h1:eb ≠ rb)=>p_exprFn H hE h1)
  clear ht hT hE
  go_enter_defers Tryz.func41,Tryz.ntmps41
  go_wp2_with (first
    | (go_at_call 15;(with_reducible refine (C.out _ T0.out).mono ?_);rintro e w1 ⟨g,cp,rfl,hg1,hg2,ld,b1⟩;have K1:=hid_as (below_and K0.out b1);have B1:=hid_as (B0.out.below b1);have E1:=hid_as (E0.out.below b1);have s0:=B1.out.cell 0;simp only [List.getElem?_toArray,List.getElem?_cons_zero] at s0;have sf:=B1.out.fr 0;rw [World.size_alloc] at hg1;have y1:=B1.out.lt;have RW:Hid (Rd ((w1.setCell ⟨w.heap.size,0,none⟩ .nilIface).alloc (.cells #[.slice (some ⟨g,0,none⟩) T.length cp,.int .i64 0] 153)) w1.heap.size g cp T 0):=hid_as ⟨Bk.freshS _ _ _ _ _,fun j u hj=>by rw [World.cell?_alloc_lt _ _ ⟨g,j,none⟩ (by simp [World.setCell];exact hg2),World.cell?_of_block (w:=w1) (a:=⟨g,j,none⟩) (Below.heap_setCell _ ⟨w.heap.size,0,none⟩ _ g (by show g ≠ w.heap.size;omega))];exact ld j u hj,by rw [World.size_alloc];simp [World.setCell];omega,by omega,hw,htp⟩;have EW:Hid (Bk ((w1.setCell ⟨w.heap.size,0,none⟩ .nilIface).alloc (.cells #[.slice (some ⟨g,0,none⟩) T.length cp,.int .i64 0] 153)) eb #[.int .i64 0,.int .i64 0,.int .i64 0,.string ⟨#[]⟩,.string ⟨#[]⟩,.slice none 0 0,.int .i64 0]):=hid_as ((E1.out.other 0 .nilIface (by omega)).alloc _);have BW:Hid (Bk ((w1.setCell ⟨w.heap.size,0,none⟩ .nilIface).alloc (.cells #[.slice (some ⟨g,0,none⟩) T.length cp,.int .i64 0] 153)) w.heap.size #[.nilIface]):=(by have q:=B1.out.set 0 .nilIface;simp only [List.setIfInBounds_toArray,List.set_cons_zero] at q;exact hid_as (q.alloc _));have KW:Hid (Below w.heap.size w ((w1.setCell ⟨w.heap.size,0,none⟩ .nilIface).alloc (.cells #[.slice (some ⟨g,0,none⟩) T.length cp,.int .i64 0] 153))):=hid_as ((K1.out.setCell (p:=⟨w.heap.size,0,none⟩) (Nat.le_refl _) _).alloc (by simp [World.setCell];omega) _))
    | (go_at_call 183;(with_reducible refine (GX.out _ _ _ _ RW.out EW.out (by omega)).mono ?_);intro e w3 hr;obtain ⟨he,k3⟩:=hr.nay hM;clear hr;subst he;have B3:=hid_as (show Bk w3 w.heap.size #[.nilIface] from (by obtain ⟨t,q⟩:=BW.out;exact ⟨t,(k3.block w.heap.size BW.out.lt (by omega)).trans q⟩));have r0:=B3.out.cell 0;simp only [List.getElem?_toArray,List.getElem?_cons_zero] at r0;have rf:=B3.out.fr 0))
  refine leaves_cons (f:=84) (args:=#[.pointer (some ⟨w.heap.size,0,none⟩)]) (by simp) (by simp [go_sem]) ?_
  refine (catch_pan w.heap.size (ca T k) n w3 B3.out).mono ?_
  rintro e u' w'' ⟨rfl,rfl,rfl⟩
  have y3:=B3.out.lt
  have G3:Bk ((w3.alloc (.cells #[.int .i64 (ca T k),.int .i64 n] 151)).alloc (.cells #[.int .i64 (ca T k),.int .i64 n] 83)) (w3.heap.size+1) #[.int .i64 (ca T k),.int .i64 n]:=by
    have q:=Bk.fresh (w3.alloc (.cells #[.int .i64 (ca T k),.int .i64 n] 151)) #[.int .i64 (ca T k),.int .i64 n] 83
    rw [World.size_alloc] at q
    exact q
  have G4:=G3.other (b:=w.heap.size) 0 (.iface 78 (.pointer (some ⟨w3.heap.size+1,0,none⟩))) (by omega)
  have B4:=((B3.out.alloc (.cells #[.int .i64 (ca T k),.int .i64 n] 151)).alloc (.cells #[.int .i64 (ca T k),.int .i64 n] 83)).set 0 (.iface 78 (.pointer (some ⟨w3.heap.size+1,0,none⟩)))
  have c0:=B4.cell 0
  simp only [List.setIfInBounds_toArray,List.set_cons_zero,List.getElem?_toArray,List.getElem?_cons_zero] at c0
  show Leaves Tryz.prog Tryz.f41 _ _ [] .returning _
  exact ⟨.iface 78 (.pointer (some ⟨w3.heap.size+1,0,none⟩)),by simp [results,Tryz.results41,go_sem,c0],⟨w3.heap.size+1,rfl,by omega,G4.lt,G4.cell 0,G4.cell 1⟩,(((Below.trans KW.out (kp_new k3 ⟨by omega,by rw [World.size_alloc];simp [World.setCell];omega⟩)).alloc (by omega) _).alloc (by simp;omega) _).setCell (p:=⟨w.heap.size,0,none⟩) (Nat.le_refl _) _⟩
end Go.Proofs.YtapcpjidgemggaaGreatDoor
