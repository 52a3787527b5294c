/- Parse (stage 13). -/
import Derived.Test.YtapcpjidgemggaaGreatDoorQ48
namespace Go.Proofs.YtapcpjidgemggaaGreatDoor
open Go.RowKit
open Adr Lx Sx
theorem K2.put6 {a b:Nat} {w w':World} (h:K2 a b w w') (x0 x1 x2 x3 x4 x5:Value):K2 a b w ((((((w'.setCell ⟨b,0,none⟩ x0).setCell ⟨b,1,none⟩ x1).setCell ⟨b,2,none⟩ x2).setCell ⟨b,3,none⟩ x3).setCell ⟨b,4,none⟩ x4).setCell ⟨b,5,none⟩ x5) :=
  (((((h.set 0 x0).set 1 x1).set 2 x2).set 3 x3).set 4 x4).set 5 x5
/-- What the function that a program's text is handed to leaves. -/
def qY (eb:Nat) (W:World):List UInt8 × Nat × List Nat→World→Prop:=fun r w'=>∃ (sa:Option Addr) (sb sc:Nat) (va:Option Addr) (vc:Nat) (ba:Option Addr) (bc:Nat) (xs:List Value),Bk w' eb #[.string (tx r.1),.slice sa sb sc,.slice va r.2.1 vc,.bool false,.slice ba r.2.2.length bc,.slice none 0 0]∧w'.ownsRow W.heap.size 114 13 (.slice ba r.2.2.length bc) r.2.2.length xs∧∀ j o,r.2.2[j]?=some o→xs[j * 13]?=some (.int .i64 (o:Int))
theorem qY_set {eb:Nat} {W:World} {t:List UInt8 × Nat × List Nat} {w':World} {g:Nat} {x:Value} (h:qY eb W t w') (hg:g < W.heap.size) (he:eb ≠ g):qY eb W t (w'.setCell ⟨g,0,none⟩ x):=by
  obtain ⟨sa,sb,sc,va,vc,ba,bc,xs,a,b,c⟩:=h
  exact ⟨sa,sb,sc,va,vc,ba,bc,xs,a.other 0 x he,own_set b hg,c⟩
theorem below_six {B g:Nat} {w W:World} (h:Below B w W) (hg:B≤g) (x0 x1 x2 x3 x4 x5:Value):Below B w ((((((W.setCell ⟨g,0,none⟩ x0).setCell ⟨g,1,none⟩ x1).setCell ⟨g,2,none⟩ x2).setCell ⟨g,3,none⟩ x3).setCell ⟨g,4,none⟩ x4).setCell ⟨g,5,none⟩ x5) :=
  (((((h.setCell (p:=⟨g,0,none⟩) hg _).setCell (p:=⟨g,1,none⟩) hg _).setCell (p:=⟨g,2,none⟩) hg _).setCell (p:=⟨g,3,none⟩) hg _).setCell (p:=⟨g,4,none⟩) hg _).setCell (p:=⟨g,5,none⟩) hg _
theorem K6 (w:World) (b g j:Nat) (x0 x1 x2 x3 x4 x5:Value) (h:g ≠ b):((((((w.setCell ⟨b,0,none⟩ x0).setCell ⟨b,1,none⟩ x1).setCell ⟨b,2,none⟩ x2).setCell ⟨b,3,none⟩ x3).setCell ⟨b,4,none⟩ x4).setCell ⟨b,5,none⟩ x5).cell? ⟨g,j,none⟩=w.cell? ⟨g,j,none⟩:=by
  have q:∀ (w:World) (i:Nat) (x:Value),(w.setCell ⟨b,i,none⟩ x).cell? ⟨g,j,none⟩=w.cell? ⟨g,j,none⟩:=fun w i x=>World.cell?_of_block (w:=w) (a:=⟨g,j,none⟩) (Below.heap_setCell w ⟨b,i,none⟩ x g h)
  rw [q,q,q,q,q,q]
set_option maxHeartbeats 4000000 in
set_option maxRecDepth 100000 in
theorem p_progFn {w:World} {rb tb cap:Nat} {T:TL} {eb:Nat} (h:Rd w rb tb cap T 0) (hE:Bk w eb #[.string ⟨#[]⟩,.slice none 0 0,.slice none 0 0,.bool false,.slice none 0 0,.slice none 0 0]) (h1:eb ≠ rb):Calls Tryz.prog 42 #[.pointer (some ⟨rb,0,none⟩),.pointer (some ⟨eb,0,none⟩)] w fun e w'=>Read T rb eb w (prg T) (qY eb w) e w':=by
  have C:=hid_as (fun W (H:Rd W rb tb cap T 0)=>p_program H)
  have H:=hid_as h
  have B0:=hid_as hE
  have hel:=hE.lt
  generalize prg T=M at *
  clear h hE
  go_enter Tryz.func42,Tryz.ntmps42
  go_wp2_with (go_at_call 43;(with_reducible refine (C.out _ H.out).mono ?_);rintro e w1 ⟨k1,⟨⟨t1,n1,l1⟩,i1,_,m1,rfl,⟨sa,sb,sc,va,vc,ba,bc,xs,rfl,o1,p1⟩,r1,le1⟩ | ⟨n1,i1,m1,rfl⟩⟩;rotate_left;exact And.intro rfl ⟨K2.of k1,Or.inr ⟨n1,i1,m1,rfl,k1⟩⟩;have B1:=hid_as (B0.out.kp k1 h1);obtain ⟨s0,s1,s2,s3,s4,s5⟩:=bk6 B1.out;have sf:=B1.out.fr;replace o1:=hid_as o1;replace p1:=hid_as p1;simp only at *)
  go_end0
  exact ⟨(K2.of k1).put6 _ _ _ _ _ _,Or.inl ⟨(t1,n1,l1),i1,m1,rfl,sa,sb,sc,va,vc,ba,bc,xs,B1.out.put6 _ _ _ _ _ _,own_put6 o1.out (by omega) _ _ _ _ _ _,p1.out⟩⟩
set_option maxHeartbeats 4000000 in
set_option maxRecDepth 100000 in
theorem read_prog (s:ByteArray) (w:World) (hT:Tabs w) (hs:s.size≤1000000) {T:TL} (ht:toks s.data.toList false=(T,none)) (hw:Wf T) {eb:Nat} (hE:Bk w eb #[.string ⟨#[]⟩,.slice none 0 0,.slice none 0 0,.bool false,.slice none 0 0,.slice none 0 0]) {a:_} {k:Nat} (hM:prg T=ok a k):Calls Tryz.prog 41 #[.string s,.func (.func 42) #[] #[.pointer (some ⟨eb,0,none⟩)]] w fun e w'=>e=.returned .nilIface∧(∃ W,w.heap.size < W.heap.size∧qY eb W a w')∧K2 eb eb w w':=by
  have hmf:∀ (fn:Fn) (first cap:Array Value) (w:World),(Instr.makeFunc fn first cap).run Tryz.prog w=.ok (.func fn first cap) w:=fun _ _ _ _=>rfl
  have C:=hid_as (fun W hW=>tokens_yes ht hs W hW)
  have B0:=hid_as (Bk.fresh w #[.nilIface] 35)
  have T0:=hid_as (hT.below (below_new1 w (.cells #[.nilIface] 35)))
  have K0:=hid_as (below_new1 w (.cells #[.nilIface] 35))
  have E0:=hid_as (hE.alloc (.cells #[.nilIface] 35))
  have hel:=hE.lt
  have htp:=toks_pos ht
  have GX:=hid_as (fun W rb tb cp (H:Rd W rb tb cp T 0) (hE:Bk W eb #[.string ⟨#[]⟩,.slice none 0 0,.slice none 0 0,.bool false,.slice none 0 0,.slice none 0 0]) (h1:eb ≠ rb)=>p_progFn H hE h1)
  clear ht hT hE
  go_enter_defers Tryz.func41,Tryz.ntmps41
  go_wp2_with (first
    | (go_at_call 15;(with_reducible refine (C.out _ T0.out).mono ?_);rintro e w1 ⟨g,cp,rfl,hg1,hg2,ld,b1⟩;have K1:=hid_as (below_and K0.out b1);have B1:=hid_as (B0.out.below b1);have E1:=hid_as (E0.out.below b1);have s0:=B1.out.cell 0;simp only [List.getElem?_toArray,List.getElem?_cons_zero] at s0;have sf:=B1.out.fr 0;rw [World.size_alloc] at hg1;have y1:=B1.out.lt;have RW:Hid (Rd ((w1.setCell ⟨w.heap.size,0,none⟩ .nilIface).alloc (.cells #[.slice (some ⟨g,0,none⟩) T.length cp,.int .i64 0] 153)) w1.heap.size g cp T 0):=hid_as ⟨Bk.freshS _ _ _ _ _,fun j u hj=>by rw [World.cell?_alloc_lt _ _ ⟨g,j,none⟩ (by simp [World.setCell];exact hg2),World.cell?_of_block (w:=w1) (a:=⟨g,j,none⟩) (Below.heap_setCell _ ⟨w.heap.size,0,none⟩ _ g (by show g ≠ w.heap.size;omega))];exact ld j u hj,by rw [World.size_alloc];simp [World.setCell];omega,by omega,hw,htp⟩;have EW:Hid (Bk ((w1.setCell ⟨w.heap.size,0,none⟩ .nilIface).alloc (.cells #[.slice (some ⟨g,0,none⟩) T.length cp,.int .i64 0] 153)) eb #[.string ⟨#[]⟩,.slice none 0 0,.slice none 0 0,.bool false,.slice none 0 0,.slice none 0 0]):=hid_as ((E1.out.other 0 .nilIface (by omega)).alloc _);have BW:Hid (Bk ((w1.setCell ⟨w.heap.size,0,none⟩ .nilIface).alloc (.cells #[.slice (some ⟨g,0,none⟩) T.length cp,.int .i64 0] 153)) w.heap.size #[.nilIface]):=(by have q:=B1.out.set 0 .nilIface;simp only [List.setIfInBounds_toArray,List.set_cons_zero] at q;exact hid_as (q.alloc _));have KW:Hid (Below w.heap.size w ((w1.setCell ⟨w.heap.size,0,none⟩ .nilIface).alloc (.cells #[.slice (some ⟨g,0,none⟩) T.length cp,.int .i64 0] 153))):=hid_as ((K1.out.setCell (p:=⟨w.heap.size,0,none⟩) (Nat.le_refl _) _).alloc (by simp [World.setCell];omega) _))
    | (go_at_call 42;(with_reducible refine (GX.out _ _ _ _ RW.out EW.out (by omega)).mono ?_);intro e w3 hr;obtain ⟨he,hq,k3⟩:=hr.yes hM;clear hr;subst he;have B3:=hid_as (show Bk w3 w.heap.size #[.nilIface] from (by obtain ⟨t,q⟩:=BW.out;exact ⟨t,(k3.block w.heap.size BW.out.lt (by omega) (by omega)).trans q⟩));have r0:=B3.out.cell 0;simp only [List.getElem?_toArray,List.getElem?_cons_zero] at r0;have rf:=B3.out.fr 0))
  refine leaves_cons (f:=84) (args:=#[.pointer (some ⟨w.heap.size,0,none⟩)]) (by simp) (by simp [go_sem]) ?_
  refine (catch_idle ⟨w.heap.size,0,none⟩ _).mono ?_
  rintro e u' w'' ⟨rfl,rfl,rfl⟩
  have hz:w.heap.size < ((w1.setCell ⟨w.heap.size,0,none⟩ .nilIface).alloc (.cells #[.slice (some ⟨g,0,none⟩) T.length cp,.int .i64 0] 153)).heap.size:=by rw [World.size_alloc];simp [World.setCell];omega
  show Leaves Tryz.prog Tryz.f41 _ _ [] .returning _
  exact ⟨.nilIface,by simp [results,Tryz.results41,go_sem,r0],rfl,⟨_,hz,qY_set hq hz (by omega)⟩,(K2.drop (K2.pre KW.out k3) (by omega)).setN (Nat.le_refl _) _ _⟩
set_option maxHeartbeats 4000000 in
set_option maxRecDepth 100000 in
theorem read_prog_no (s:ByteArray) (w:World) (hT:Tabs w) (hs:s.size≤1000000) {T:TL} (ht:toks s.data.toList false=(T,none)) (hw:Wf T) {eb:Nat} (hE:Bk w eb #[.string ⟨#[]⟩,.slice none 0 0,.slice none 0 0,.bool false,.slice none 0 0,.slice none 0 0]) {n k:Nat} (hM:prg T=no n k):Calls Tryz.prog 41 #[.string s,.func (.func 42) #[] #[.pointer (some ⟨eb,0,none⟩)]] w fun e w'=>(∃ g,e=.returned (.iface 78 (.pointer (some ⟨g,0,none⟩)))∧w.heap.size≤g∧g < w'.heap.size∧w'.cell? ⟨g,0,none⟩=some (.int .i64 (ca T k))∧w'.cell? ⟨g,1,none⟩=some (.int .i64 n))∧Below w.heap.size w w':=by
  have hmf:∀ (fn:Fn) (first cap:Array Value) (w:World),(Instr.makeFunc fn first cap).run Tryz.prog w=.ok (.func fn first cap) w:=fun _ _ _ _=>rfl
  have C:=hid_as (fun W hW=>tokens_yes ht hs W hW)
  have B0:=hid_as (Bk.fresh w #[.nilIface] 35)
  have T0:=hid_as (hT.below (below_new1 w (.cells #[.nilIface] 35)))
  have K0:=hid_as (below_new1 w (.cells #[.nilIface] 35))
  have E0:=hid_as (hE.alloc (.cells #[.nilIface] 35))
  have hel:=hE.lt
  have htp:=toks_pos ht
  have GX:=hid_as (fun W rb tb cp (H:Rd W rb tb cp T 0) (hE:Bk W eb #[.string ⟨#[]⟩,.slice none 0 0,.slice none 0 0,.bool false,.slice none 0 0,.slice none 0 0]) (h1:eb ≠ rb)=>p_progFn H hE h1)
  clear ht hT hE
  go_enter_defers Tryz.func41,Tryz.ntmps41
  go_wp2_with (first
    | (go_at_call 15;(with_reducible refine (C.out _ T0.out).mono ?_);rintro e w1 ⟨g,cp,rfl,hg1,hg2,ld,b1⟩;have K1:=hid_as (below_and K0.out b1);have B1:=hid_as (B0.out.below b1);have E1:=hid_as (E0.out.below b1);have s0:=B1.out.cell 0;simp only [List.getElem?_toArray,List.getElem?_cons_zero] at s0;have sf:=B1.out.fr 0;rw [World.size_alloc] at hg1;have y1:=B1.out.lt;have RW:Hid (Rd ((w1.setCell ⟨w.heap.size,0,none⟩ .nilIface).alloc (.cells #[.slice (some ⟨g,0,none⟩) T.length cp,.int .i64 0] 153)) w1.heap.size g cp T 0):=hid_as ⟨Bk.freshS _ _ _ _ _,fun j u hj=>by rw [World.cell?_alloc_lt _ _ ⟨g,j,none⟩ (by simp [World.setCell];exact hg2),World.cell?_of_block (w:=w1) (a:=⟨g,j,none⟩) (Below.heap_setCell _ ⟨w.heap.size,0,none⟩ _ g (by show g ≠ w.heap.size;omega))];exact ld j u hj,by rw [World.size_alloc];simp [World.setCell];omega,by omega,hw,htp⟩;have EW:Hid (Bk ((w1.setCell ⟨w.heap.size,0,none⟩ .nilIface).alloc (.cells #[.slice (some ⟨g,0,none⟩) T.length cp,.int .i64 0] 153)) eb #[.string ⟨#[]⟩,.slice none 0 0,.slice none 0 0,.bool false,.slice none 0 0,.slice none 0 0]):=hid_as ((E1.out.other 0 .nilIface (by omega)).alloc _);have BW:Hid (Bk ((w1.setCell ⟨w.heap.size,0,none⟩ .nilIface).alloc (.cells #[.slice (some ⟨g,0,none⟩) T.length cp,.int .i64 0] 153)) w.heap.size #[.nilIface]):=(by have q:=B1.out.set 0 .nilIface;simp only [List.setIfInBounds_toArray,List.set_cons_zero] at q;exact hid_as (q.alloc _));have KW:Hid (Below w.heap.size w ((w1.setCell ⟨w.heap.size,0,none⟩ .nilIface).alloc (.cells #[.slice (some ⟨g,0,none⟩) T.length cp,.int .i64 0] 153))):=hid_as ((K1.out.setCell (p:=⟨w.heap.size,0,none⟩) (Nat.le_refl _) _).alloc (by simp [World.setCell];omega) _))
    | (go_at_call 42;(with_reducible refine (GX.out _ _ _ _ RW.out EW.out (by omega)).mono ?_);intro e w3 hr;obtain ⟨he,k3⟩:=hr.nay hM;clear hr;subst he;have B3:=hid_as (show Bk w3 w.heap.size #[.nilIface] from (by obtain ⟨t,q⟩:=BW.out;exact ⟨t,(k3.block w.heap.size BW.out.lt (by omega)).trans q⟩));have r0:=B3.out.cell 0;simp only [List.getElem?_toArray,List.getElem?_cons_zero] at r0;have rf:=B3.out.fr 0))
  refine leaves_cons (f:=84) (args:=#[.pointer (some ⟨w.heap.size,0,none⟩)]) (by simp) (by simp [go_sem]) ?_
  refine (catch_pan w.heap.size (ca T k) n w3 B3.out).mono ?_
  rintro e u' w'' ⟨rfl,rfl,rfl⟩
  have y3:=B3.out.lt
  have G3:Bk ((w3.alloc (.cells #[.int .i64 (ca T k),.int .i64 n] 151)).alloc (.cells #[.int .i64 (ca T k),.int .i64 n] 83)) (w3.heap.size+1) #[.int .i64 (ca T k),.int .i64 n]:=by
    have q:=Bk.fresh (w3.alloc (.cells #[.int .i64 (ca T k),.int .i64 n] 151)) #[.int .i64 (ca T k),.int .i64 n] 83
    rw [World.size_alloc] at q
    exact q
  have G4:=G3.other (b:=w.heap.size) 0 (.iface 78 (.pointer (some ⟨w3.heap.size+1,0,none⟩))) (by omega)
  have B4:=((B3.out.alloc (.cells #[.int .i64 (ca T k),.int .i64 n] 151)).alloc (.cells #[.int .i64 (ca T k),.int .i64 n] 83)).set 0 (.iface 78 (.pointer (some ⟨w3.heap.size+1,0,none⟩)))
  have c0:=B4.cell 0
  simp only [List.setIfInBounds_toArray,List.set_cons_zero,List.getElem?_toArray,List.getElem?_cons_zero] at c0
  show Leaves Tryz.prog Tryz.f41 _ _ [] .returning _
  exact ⟨.iface 78 (.pointer (some ⟨w3.heap.size+1,0,none⟩)),by simp [results,Tryz.results41,go_sem,c0],⟨w3.heap.size+1,rfl,by omega,G4.lt,G4.cell 0,G4.cell 1⟩,(((Below.trans KW.out (kp_new k3 ⟨by omega,by rw [World.size_alloc];simp [World.setCell];omega⟩)).alloc (by omega) _).alloc (by simp;omega) _).setCell (p:=⟨w.heap.size,0,none⟩) (Nat.le_refl _) _⟩
set_option maxHeartbeats 4000000 in
set_option maxRecDepth 100000 in
theorem parse_no (s:ByteArray) (w:World) (hT:Tabs w) (hs:s.size≤900000) {T:TL} (ht:toks s.data.toList false=(T,none)) {n k:Nat} (hM:prg T=no n k):Calls Tryz.prog 18 #[.string s] w fun e w'=>∃ g,e=.returned (.tuple #[.agg #[.string ⟨#[]⟩,.slice none 0 0,.slice none 0 0,.bool false,.slice none 0 0,.slice none 0 0],.iface 78 (.pointer (some ⟨g,0,none⟩))])∧w.heap.size≤g∧g < w'.heap.size∧w'.cell? ⟨g,0,none⟩=some (.int .i64 (ca T k))∧w'.cell? ⟨g,1,none⟩=some (.int .i64 n)∧Below w.heap.size w w':=by
  have hmf:∀ (fn:Fn) (first cap:Array Value) (w:World),(Instr.makeFunc fn first cap).run Tryz.prog w=.ok (.func fn first cap) w:=fun _ _ _ _=>rfl
  have T0:=hid_as ((hT.below (below_new1 w (.cells #[.string ⟨#[]⟩,.slice none 0 0,.slice none 0 0,.bool false,.slice none 0 0,.slice none 0 0] 33))).below (below_new1 (w.alloc (.cells #[.string ⟨#[]⟩,.slice none 0 0,.slice none 0 0,.bool false,.slice none 0 0,.slice none 0 0] 33)) (.cells #[.string ⟨#[]⟩,.slice none 0 0,.slice none 0 0,.bool false,.slice none 0 0,.slice none 0 0] 33)))
  have K0:Hid (Below w.heap.size w ((w.alloc (.cells #[.string ⟨#[]⟩,.slice none 0 0,.slice none 0 0,.bool false,.slice none 0 0,.slice none 0 0] 33)).alloc (.cells #[.string ⟨#[]⟩,.slice none 0 0,.slice none 0 0,.bool false,.slice none 0 0,.slice none 0 0] 33))):=hid_as ((below_new1 w (.cells #[.string ⟨#[]⟩,.slice none 0 0,.slice none 0 0,.bool false,.slice none 0 0,.slice none 0 0] 33)).alloc (by simp) _)
  have B0:Hid (Bk ((w.alloc (.cells #[.string ⟨#[]⟩,.slice none 0 0,.slice none 0 0,.bool false,.slice none 0 0,.slice none 0 0] 33)).alloc (.cells #[.string ⟨#[]⟩,.slice none 0 0,.slice none 0 0,.bool false,.slice none 0 0,.slice none 0 0] 33)) w.heap.size #[.string ⟨#[]⟩,.slice none 0 0,.slice none 0 0,.bool false,.slice none 0 0,.slice none 0 0]):=hid_as ((Bk.fresh w #[.string ⟨#[]⟩,.slice none 0 0,.slice none 0 0,.bool false,.slice none 0 0,.slice none 0 0] 33).alloc _)
  have E0:Hid (Bk ((w.alloc (.cells #[.string ⟨#[]⟩,.slice none 0 0,.slice none 0 0,.bool false,.slice none 0 0,.slice none 0 0] 33)).alloc (.cells #[.string ⟨#[]⟩,.slice none 0 0,.slice none 0 0,.bool false,.slice none 0 0,.slice none 0 0] 33)) (w.heap.size+1) #[.string ⟨#[]⟩,.slice none 0 0,.slice none 0 0,.bool false,.slice none 0 0,.slice none 0 0]):=by
    have q:=Bk.fresh (w.alloc (.cells #[.string ⟨#[]⟩,.slice none 0 0,.slice none 0 0,.bool false,.slice none 0 0,.slice none 0 0] 33)) #[.string ⟨#[]⟩,.slice none 0 0,.slice none 0 0,.bool false,.slice none 0 0,.slice none 0 0] 33
    rw [World.size_alloc] at q
    exact hid_as q
  have C:=hid_as (fun W (hW:Tabs W) (hE:Bk W (w.heap.size+1) #[.string ⟨#[]⟩,.slice none 0 0,.slice none 0 0,.bool false,.slice none 0 0,.slice none 0 0])=>read_prog_no s W hW (by omega) ht (toks_wf ht (by rw [← Lib.size_eq];omega)) hE hM)
  clear hT ht hM
  go_enter Tryz.func18,Tryz.ntmps18
  go_wp2_with (go_at_call 41;(with_reducible refine (C.out _ T0.out E0.out).mono ?_);rintro e w1 ⟨⟨g,rfl,hg1,hg2,c0,c1⟩,b1⟩;have B1:=hid_as (B0.out.below b1);have E1:=hid_as (E0.out.below b1);have K1:=hid_as (K0.out.trans (b1.mono (by rw [World.size_alloc,World.size_alloc];omega)));rw [World.size_alloc,World.size_alloc] at hg1;obtain ⟨s0,s1,s2,s3,s4,s5⟩:=bk6 B1.out;have sf:=B1.out.fr;obtain ⟨u0,u1,u2,u3,u4,u5⟩:=bk6 E1.out;have uf:=E1.out.fr;clear b1)
  refine bodyPost_ret (v:=.tuple #[.agg #[.string ⟨#[]⟩,.slice none 0 0,.slice none 0 0,.bool false,.slice none 0 0,.slice none 0 0],.iface 78 (.pointer (some ⟨g,0,none⟩))]) (by simp [results,Tryz.results18,go_sem,s0,s1,s2,s3,s4,s5]) rfl ⟨g,rfl,by omega,by simp [World.setCell];exact hg2,?_,?_,below_six K1.out (Nat.le_refl _) _ _ _ _ _ _⟩
  · exact (K6 w1 w.heap.size g 0 _ _ _ _ _ _ (by omega)).trans c0
  · exact (K6 w1 w.heap.size g 1 _ _ _ _ _ _ (by omega)).trans c1
set_option maxHeartbeats 4000000 in
set_option maxRecDepth 100000 in
theorem parse_yes (s:ByteArray) (w:World) (hT:Tabs w) (hs:s.size≤900000) {T:TL} (ht:toks s.data.toList false=(T,none)) {nm:List UInt8} {nv:Nat} {l:List Nat} {k:Nat} (hM:prg T=ok (nm,nv,l) k):Calls Tryz.prog 18 #[.string s] w fun e w'=>∃ (sa:Option Addr) (sb sc:Nat) (va:Option Addr) (vc:Nat) (ba:Option Addr) (bc:Nat) (xs:List Value),e=.returned (.tuple #[.agg #[.string (tx nm),.slice sa sb sc,.slice va nv vc,.bool false,.slice ba l.length bc,.slice none 0 0],.nilIface])∧w'.ownsRow w.heap.size 114 13 (.slice ba l.length bc) l.length xs∧(∀ j o,l[j]?=some o→xs[j * 13]?=some (.int .i64 (o:Int)))∧Below w.heap.size w w':=by
  have hmf:∀ (fn:Fn) (first cap:Array Value) (w:World),(Instr.makeFunc fn first cap).run Tryz.prog w=.ok (.func fn first cap) w:=fun _ _ _ _=>rfl
  have T0:=hid_as ((hT.below (below_new1 w (.cells #[.string ⟨#[]⟩,.slice none 0 0,.slice none 0 0,.bool false,.slice none 0 0,.slice none 0 0] 33))).below (below_new1 (w.alloc (.cells #[.string ⟨#[]⟩,.slice none 0 0,.slice none 0 0,.bool false,.slice none 0 0,.slice none 0 0] 33)) (.cells #[.string ⟨#[]⟩,.slice none 0 0,.slice none 0 0,.bool false,.slice none 0 0,.slice none 0 0] 33)))
  have K0:Hid (Below w.heap.size w ((w.alloc (.cells #[.string ⟨#[]⟩,.slice none 0 0,.slice none 0 0,.bool false,.slice none 0 0,.slice none 0 0] 33)).alloc (.cells #[.string ⟨#[]⟩,.slice none 0 0,.slice none 0 0,.bool false,.slice none 0 0,.slice none 0 0] 33))):=hid_as ((below_new1 w (.cells #[.string ⟨#[]⟩,.slice none 0 0,.slice none 0 0,.bool false,.slice none 0 0,.slice none 0 0] 33)).alloc (by simp) _)
  have B0:Hid (Bk ((w.alloc (.cells #[.string ⟨#[]⟩,.slice none 0 0,.slice none 0 0,.bool false,.slice none 0 0,.slice none 0 0] 33)).alloc (.cells #[.string ⟨#[]⟩,.slice none 0 0,.slice none 0 0,.bool false,.slice none 0 0,.slice none 0 0] 33)) w.heap.size #[.string ⟨#[]⟩,.slice none 0 0,.slice none 0 0,.bool false,.slice none 0 0,.slice none 0 0]):=hid_as ((Bk.fresh w #[.string ⟨#[]⟩,.slice none 0 0,.slice none 0 0,.bool false,.slice none 0 0,.slice none 0 0] 33).alloc _)
  have E0:Hid (Bk ((w.alloc (.cells #[.string ⟨#[]⟩,.slice none 0 0,.slice none 0 0,.bool false,.slice none 0 0,.slice none 0 0] 33)).alloc (.cells #[.string ⟨#[]⟩,.slice none 0 0,.slice none 0 0,.bool false,.slice none 0 0,.slice none 0 0] 33)) (w.heap.size+1) #[.string ⟨#[]⟩,.slice none 0 0,.slice none 0 0,.bool false,.slice none 0 0,.slice none 0 0]):=by
    have q:=Bk.fresh (w.alloc (.cells #[.string ⟨#[]⟩,.slice none 0 0,.slice none 0 0,.bool false,.slice none 0 0,.slice none 0 0] 33)) #[.string ⟨#[]⟩,.slice none 0 0,.slice none 0 0,.bool false,.slice none 0 0,.slice none 0 0] 33
    rw [World.size_alloc] at q
    exact hid_as q
  have C:=hid_as (fun W (hW:Tabs W) (hE:Bk W (w.heap.size+1) #[.string ⟨#[]⟩,.slice none 0 0,.slice none 0 0,.bool false,.slice none 0 0,.slice none 0 0])=>read_prog s W hW (by omega) ht (toks_wf ht (by rw [← Lib.size_eq];omega)) hE hM)
  clear hT ht hM
  go_enter Tryz.func18,Tryz.ntmps18
  go_wp2_with (go_at_call 41;(with_reducible refine (C.out _ T0.out E0.out).mono ?_);rintro e w1 ⟨rfl,⟨V,hV,⟨sa,sb,sc,va,vc,ba,bc,xs,e1,t1,p1⟩⟩,k1⟩;simp only at e1 t1 p1;have B1:=hid_as (k1.bk B0.out (by omega) (by omega));have K1:=hid_as (K0.out.trans (k1.new (B:=w.heap.size) (by omega) (by omega) (by rw [World.size_alloc,World.size_alloc];omega)));rw [World.size_alloc,World.size_alloc] at hV;have E1:=hid_as e1;have TT:=hid_as t1;replace p1:=hid_as p1;obtain ⟨s0,s1,s2,s3,s4,s5⟩:=bk6 B1.out;have sf:=B1.out.fr;obtain ⟨u0,u1,u2,u3,u4,u5⟩:=bk6 E1.out;have uf:=E1.out.fr;clear k1 e1 t1)
  exact bodyPost_ret (v:=.tuple #[.agg #[.string (tx nm),.slice sa sb sc,.slice va nv vc,.bool false,.slice ba l.length bc,.slice none 0 0],.nilIface]) (by simp [results,Tryz.results18,go_sem,s0,s1,s2,s3,s4,s5]) rfl ⟨sa,sb,sc,va,vc,ba,bc,xs,rfl,own_low (own_put6 TT.out (by omega) _ _ _ _ _ _) (by omega),p1.out,below_six K1.out (Nat.le_refl _) _ _ _ _ _ _⟩
end Go.Proofs.YtapcpjidgemggaaGreatDoor
