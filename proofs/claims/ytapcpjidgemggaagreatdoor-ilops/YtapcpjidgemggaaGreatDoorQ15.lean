/- The reader of Instruction List in memory; its small methods (stage 14). -/
import Derived.Test.YtapcpjidgemggaaGreatDoorQ11
import Derived.Test.YtapcpjidgemggaaGreatDoorQ13
import Derived.Test.YtapcpjidgemggaaGreatDoorQ14
namespace Go.Proofs.YtapcpjidgemggaaGreatDoor
open Go.RowKit
open Adr Lx Sx
open Ilx (Ps Wl)
/-- The first error in memory, in one of the blocks A. -/
def Ev (w:World) (A:Nat→Prop):Option (Nat × Nat)→Value→Prop
  | none,v=>v=.nilIface
  | some x,v=>∃ g,v=.iface 78 (.pointer (some ⟨g,0,none⟩))∧A g∧g < w.heap.size∧w.cell? ⟨g,0,none⟩=some (.int .i64 x.1)∧w.cell? ⟨g,1,none⟩=some (.int .i64 x.2)
theorem Ev.keep {w w':World} {A:Nat→Prop} {e:Option (Nat × Nat)} {v:Value} (h:Ev w A e v) (hs:w.heap.size≤w'.heap.size) (hb:∀ g,A g→g < w.heap.size→w'.heap[g]?=w.heap[g]?):Ev w' A e v:=by
  cases e with
  | none=>exact h
  | some x =>
    obtain ⟨g,h1,h2,h3,h4,h5⟩:=h
    exact ⟨g,h1,h2,by omega,(World.cell?_of_block (a:=⟨g,0,none⟩) (hb g h2 h3)).trans h4,(World.cell?_of_block (a:=⟨g,1,none⟩) (hb g h2 h3)).trans h5⟩
theorem Ev.into {w:World} {A A':Nat→Prop} {e:Option (Nat × Nat)} {v:Value} (h:Ev w A e v) (hb:∀ g,A g→g < w.heap.size→A' g):Ev w A' e v:=by
  cases e with
  | none=>exact h
  | some x =>
    obtain ⟨g,h1,h2,h3,h4,h5⟩:=h
    exact ⟨g,h1,hb g h2 h3,h3,h4,h5⟩
/-- The reader in block rb, its tokens in tb; errors are laid into blocks A. -/
structure Ir (w:World) (rb tb cap:Nat) (X:ByteArray) (T:TL) (A:Nat→Prop) (s:Ps):Prop where
  own:∃ (i:Nat) (v:Value),s.L=T.drop i∧i < T.length∧Bk w rb #[.string X,.slice (some ⟨tb,i * 5,none⟩) (T.length - i) (cap - i),v]∧Ev w A s.e v
  laid:Laid w tb T
  lt:tb < w.heap.size
  ne:rb ≠ tb
  wl:Wl T
  len:T.length≤1000000
  cp:T.length≤cap
  na:¬ A rb
theorem Ir.rlt {w:World} {rb tb cap:Nat} {X:ByteArray} {T:TL} {A:Nat→Prop} {s:Ps} (h:Ir w rb tb cap X T A s):rb < w.heap.size:=by
  obtain ⟨i,v,_,_,b,_⟩:=h.own
  exact b.lt
theorem Ir.keep {w w':World} {rb tb cap:Nat} {X:ByteArray} {T:TL} {A:Nat→Prop} {s:Ps} (h:Ir w rb tb cap X T A s) (hs:w.heap.size≤w'.heap.size) (hr:w'.heap[rb]?=w.heap[rb]?) (ht:w'.heap[tb]?=w.heap[tb]?) (hb:∀ g,A g→g < w.heap.size→w'.heap[g]?=w.heap[g]?):Ir w' rb tb cap X T A s:=by
  obtain ⟨i,v,h1,h2,⟨t,h3⟩,h4⟩:=h.own
  exact ⟨⟨i,v,h1,h2,⟨t,hr.trans h3⟩,h4.keep hs hb⟩,fun j u hj=>(World.cell?_of_block (a:=⟨tb,j,none⟩) ht).trans (h.laid j u hj),by have:=h.lt;omega,h.ne,h.wl,h.len,h.cp,h.na⟩
theorem Ir.below {w w':World} {rb tb cap:Nat} {X:ByteArray} {T:TL} {A:Nat→Prop} {s:Ps} (h:Ir w rb tb cap X T A s) (k:Below w.heap.size w w'):Ir w' rb tb cap X T A s :=
  h.keep k.size (k.block rb h.rlt) (k.block tb h.lt) (fun g _ hl=>k.block g hl)
theorem Ir.alloc {w:World} {rb tb cap:Nat} {X:ByteArray} {T:TL} {A:Nat→Prop} {s:Ps} (h:Ir w rb tb cap X T A s) (o:Obj):Ir (w.alloc o) rb tb cap X T A s:=h.below (below_new1 w o)
theorem Ir.drew {w:World} {rb tb cap:Nat} {X:ByteArray} {T:TL} {A:Nat→Prop} {s:Ps} (h:Ir w rb tb cap X T A s):Ir w.drew rb tb cap X T A s:=h.keep (Nat.le_refl _) rfl rfl (fun _ _ _=>rfl)
theorem Ir.other {w:World} {rb tb cap:Nat} {X:ByteArray} {T:TL} {A:Nat→Prop} {s:Ps} {b:Nat} (h:Ir w rb tb cap X T A s) (h1:b ≠ rb) (h2:b ≠ tb) (h3:¬ A b) (j:Nat) (x:Value):Ir (w.setCell ⟨b,j,none⟩ x) rb tb cap X T A s :=
  h.keep (by simp [World.setCell]) (Below.heap_setCell w ⟨b,j,none⟩ x rb (fun e=>h1 e.symm)) (Below.heap_setCell w ⟨b,j,none⟩ x tb (fun e=>h2 e.symm)) (fun g hg _=>Below.heap_setCell w ⟨b,j,none⟩ x g (fun e=>h3 (by rw [← show g=b from e];exact hg)))
theorem Ir.into {w:World} {rb tb cap:Nat} {X:ByteArray} {T:TL} {A A':Nat→Prop} {s:Ps} (h:Ir w rb tb cap X T A s) (hb:∀ g,A g→g < w.heap.size→A' g) (hn:¬ A' rb):Ir w rb tb cap X T A' s:=by
  obtain ⟨i,v,h1,h2,h3,h4⟩:=h.own
  exact ⟨⟨i,v,h1,h2,h3,h4.into hb⟩,h.laid,h.lt,h.ne,h.wl,h.len,h.cp,hn⟩
theorem Ir.put5 {w:World} {rb tb cap:Nat} {X:ByteArray} {T:TL} {A:Nat→Prop} {s:Ps} {g:Nat} (r:Ir w rb tb cap X T A s) (hb:g ≠ rb) (hc:g ≠ tb) (ha:¬ A g) (x0 x1 x2 x3 x4:Value):Ir (((((w.setCell ⟨g,0,none⟩ x0).setCell ⟨g,1,none⟩ x1).setCell ⟨g,2,none⟩ x2).setCell ⟨g,3,none⟩ x3).setCell ⟨g,4,none⟩ x4) rb tb cap X T A s:=(((((r.other hb hc ha 0 x0).other hb hc ha 1 x1).other hb hc ha 2 x2).other hb hc ha 3 x3).other hb hc ha 4 x4)
theorem hd_drop {T:TL} {i:Nat}:Ilx.hd (T.drop i)=cu T i:=by
  unfold Ilx.hd cu
  rw [List.headD_eq_head?_getD,List.head?_drop,List.getD_eq_getElem?_getD]
theorem Ir.wls {w:World} {rb tb cap:Nat} {X:ByteArray} {T:TL} {A:Nat→Prop} {s:Ps} (h:Ir w rb tb cap X T A s):Wl s.L:=by
  obtain ⟨i,v,h1,h2,_⟩:=h.own
  refine h.wl.sfx (by rw [h1];exact List.drop_suffix _ _) ?_
  rw [h1]
  intro e
  have:=congrArg List.length e
  rw [List.length_drop,List.length_nil] at this
  omega
theorem Ir.sfx {w:World} {rb tb cap:Nat} {X:ByteArray} {T:TL} {A:Nat→Prop} {s:Ps} (h:Ir w rb tb cap X T A s):s.L <:+ T:=by
  obtain ⟨i,v,h1,h2,_⟩:=h.own
  rw [h1];exact List.drop_suffix _ _
theorem bk3 {w:World} {g:Nat} {a b c:Value} (h:Bk w g #[a,b,c]):w.cell? ⟨g,0,none⟩=some a∧w.cell? ⟨g,1,none⟩=some b∧w.cell? ⟨g,2,none⟩=some c:=⟨h.cell 0,h.cell 1,h.cell 2⟩
set_option maxHeartbeats 2000000 in
theorem inow_c {w:World} {rb tb cap:Nat} {X:ByteArray} {T:TL} {A:Nat→Prop} {s:Ps} (h:Ir w rb tb cap X T A s):Calls Tryz.prog 34 #[.pointer (some ⟨rb,0,none⟩)] w fun e w'=>e=.returned (tv (Ilx.hd s.L).1 (Ilx.hd s.L).2)∧Below w.heap.size w w':=by
  have h1:=hid_as (h.alloc (.cells #[.int .i64 0,.int .i64 0,.int .i64 0,.string ⟨#[]⟩,.int .i64 0] 42))
  obtain ⟨i,v,e1,e2,b1,_⟩:=h1.out.own
  obtain ⟨k0,k1,k2,k3,k4⟩:=cell_tk h1.out.laid e2
  obtain ⟨r0,r1,r2⟩:=bk3 b1
  rw [e1,hd_drop]
  have q1:0 < T.length - i:=by omega
  have q2:(0:Int) < (T.length - i:Nat):=by omega
  generalize T.length - i=n at *
  generalize (cu T i).2=pl at *
  generalize (cu T i).1=tk at *
  obtain ⟨ta,tk,tn,tt⟩:=tk
  simp only at k0 k1 k2 k3 k4
  clear e1 e2 b1 h
  go_enter Tryz.func34,Tryz.ntmps34
  go_wp2
  exact bodyPost_ret (v:=tv ⟨ta,tk,tn,tt⟩ pl) (by simp [results,Tryz.results34,go_sem,tv]) rfl ⟨rfl,below_new1 w _⟩
theorem Ir.step {w:World} {rb tb cap:Nat} {X:ByteArray} {T:TL} {A:Nat→Prop} {s:Ps} {i:Nat} {v:Value} (h:Ir w rb tb cap X T A s) (e1:s.L=T.drop i) (hi:i+1 < T.length) (b:Bk w rb #[.string X,.slice (some ⟨tb,i * 5,none⟩) (T.length - i) (cap - i),v]) (ev:Ev w A s.e v) (j n c:Nat) (hj:j=(i+1) * 5) (hn:n=T.length - (i+1)) (hc:c=cap - (i+1)) :
    Ir (w.setCell ⟨rb,1,none⟩ (.slice (some ⟨tb,j,none⟩) n c)) rb tb cap X T A ⟨s.L.tail,s.e⟩:=by
  subst hj hn hc
  have q:=b.set 1 (.slice (some ⟨tb,(i+1) * 5,none⟩) (T.length - (i+1)) (cap - (i+1)))
  simp only [List.setIfInBounds_toArray,List.set_cons_zero,List.set_cons_succ] at q
  refine ⟨⟨i+1,v,by show s.L.tail=_;rw [e1,List.tail_drop],hi,q,ev.keep (by simp [World.setCell]) (fun g hg _=>Below.heap_setCell w ⟨rb,1,none⟩ _ g (fun e=>h.na (by rw [← show g=rb from e];exact hg)))⟩,?_,by have:=h.lt;simp [World.setCell];exact this,h.ne,h.wl,h.len,h.cp,h.na⟩
  intro k u hk
  exact (World.cell?_of_block (a:=⟨tb,k,none⟩) (Below.heap_setCell w ⟨rb,1,none⟩ _ tb (fun e=>h.ne e.symm))).trans (h.laid k u hk)
theorem Ir.box {w:World} {rb tb cap:Nat} {X:ByteArray} {T:TL} {A:Nat→Prop} {s:Ps} (h:Ir w rb tb cap X T A s) (o:Obj):Ir (w.alloc o) rb tb cap X T (fun x=>A x∧x ≠ w.heap.size) s :=
  (h.into (A':=fun x=>A x∧x ≠ w.heap.size) (fun g ha hl=>⟨ha,by omega⟩) (fun q=>h.na q.1)).alloc o
theorem Ir.unbox {w:World} {rb tb cap:Nat} {X:ByteArray} {T:TL} {A:Nat→Prop} {s:Ps} {P:Nat→Prop} (h:Ir w rb tb cap X T (fun x=>A x∧P x) s) (hn:¬ A rb):Ir w rb tb cap X T A s:=h.into (fun _ q _=>q.1) hn
theorem wl_two {L:TL} (h:Wl L) (hn:¬ (Ilx.hd L).1.tok=0):2≤L.length:=by
  rcases h.hd with ⟨h1,_⟩ | ⟨_,h2,h3⟩
  · exact absurd h1 hn
  · rw [h3,List.length_cons]
    have:=List.length_pos_iff.2 h2.ne
    omega
set_option maxHeartbeats 2000000 in
theorem itake_y {w:World} {rb tb cap:Nat} {X:ByteArray} {T:TL} {A:Nat→Prop} {s:Ps} (h:Ir w rb tb cap X T A s) (hn:¬ (Ilx.hd s.L).1.tok=0):Calls Tryz.prog 78 #[.pointer (some ⟨rb,0,none⟩)] w fun e w'=>e=.returned (tv (Ilx.hd s.L).1 (Ilx.hd s.L).2)∧Kp rb w w'∧Ir w' rb tb cap X T A ⟨s.L.tail,s.e⟩:=by
  have h1:=hid_as (h.box (.cells #[.int .i64 0,.int .i64 0,.int .i64 0,.string ⟨#[]⟩,.int .i64 0] 42))
  have B1:=hid_as (Bk.fresh w #[.int .i64 0,.int .i64 0,.int .i64 0,.string ⟨#[]⟩,.int .i64 0] 42)
  have C:=hid_as (fun W A (H:Ir W rb tb cap X T A s)=>inow_c H)
  have hrl:=h.rlt
  have htl:=h.lt
  have hcp:=h.cp
  have hna:=hid_as h.na
  have h2:=wl_two h.wls hn
  unfold tv at C
  generalize (Ilx.hd s.L).2=pl at *
  generalize (Ilx.hd s.L).1=tk at *
  obtain ⟨ta,tk,tn,tt⟩:=tk
  simp only at C hn
  clear h
  go_enter Tryz.func78,Tryz.ntmps78
  go_wp2_with (go_at_call 34;(with_reducible refine (C.out _ _ h1.out).mono ?_);rintro e w1 ⟨rfl,b1⟩;have R1:=hid_as (h1.out.below b1);have R2:=hid_as (B1.out.below b1);obtain ⟨i,v,e1,e2,bb,ee⟩:=R1.out.own;rw [e1,List.length_drop] at h2;have q1:¬ cap - i=1:=(by omega);replace ee:=hid_as ee;replace e1:=hid_as e1;obtain ⟨r0,r1,r2⟩:=bk3 bb;have f1:=bb.fr 1;obtain ⟨s0,s1,s2,s3,s4⟩:=bk5 R2.out;have sf:=R2.out.fr;have rl:=R1.out.rlt;have gl:=R2.out.lt)
  have z1:=b1.size
  rw [World.size_alloc] at z1
  have FB:=((R2.out.other (b:=rb) 1 (.slice (some ⟨tb,i * 5+1 * 5,none⟩) (T.length - i - 1) (cap - i - 1)) (by omega)).put5 (.int .i64 ta) (.int .i64 tk) (.int .i64 tn) (.string (tx tt)) (.int .i64 pl)).alloc (.cells #[.int .i64 ta,.int .i64 tk,.int .i64 tn,.string (tx tt),.int .i64 pl] 42)
  obtain ⟨c0,c1,c2,c3,c4⟩:=bk5 FB
  refine bodyPost_ret (v:=tv ⟨ta,tk,tn,tt⟩ pl) (by simp [results,Tryz.results78,go_sem,tv,c0,c1,c2,c3,c4]) rfl ⟨rfl,?_,?_⟩
  · exact (((((Kp.refl rb w).alloc _).below b1).put _ _).put5 (Nat.le_refl _) _ _ _ _ _).alloc _
  · exact (((R1.out.step e1.out (by omega) bb ee.out _ _ _ (by omega) (by omega) (by omega)).put5 (by omega) (by omega) (fun q=>q.2 rfl) _ _ _ _ _).alloc _).unbox hna.out
set_option maxHeartbeats 2000000 in
theorem itake_n {w:World} {rb tb cap:Nat} {X:ByteArray} {T:TL} {A:Nat→Prop} {s:Ps} (h:Ir w rb tb cap X T A s) (hn:(Ilx.hd s.L).1.tok=0):Calls Tryz.prog 78 #[.pointer (some ⟨rb,0,none⟩)] w fun e w'=>e=.returned (tv (Ilx.hd s.L).1 (Ilx.hd s.L).2)∧Kp rb w w'∧Ir w' rb tb cap X T A s:=by
  have h1:=hid_as (h.box (.cells #[.int .i64 0,.int .i64 0,.int .i64 0,.string ⟨#[]⟩,.int .i64 0] 42))
  have B1:=hid_as (Bk.fresh w #[.int .i64 0,.int .i64 0,.int .i64 0,.string ⟨#[]⟩,.int .i64 0] 42)
  have C:=hid_as (fun W A (H:Ir W rb tb cap X T A s)=>inow_c H)
  have hrl:=h.rlt
  have htl:=h.lt
  have hna:=hid_as h.na
  unfold tv at C
  generalize (Ilx.hd s.L).2=pl at *
  generalize (Ilx.hd s.L).1=tk at *
  obtain ⟨ta,tk,tn,tt⟩:=tk
  simp only at C hn
  subst hn
  clear h
  go_enter Tryz.func78,Tryz.ntmps78
  go_wp2_with (go_at_call 34;(with_reducible refine (C.out _ _ h1.out).mono ?_);rintro e w1 ⟨rfl,b1⟩;have R1:=hid_as (h1.out.below b1);have R2:=hid_as (B1.out.below b1);obtain ⟨s0,s1,s2,s3,s4⟩:=bk5 R2.out;have sf:=R2.out.fr;have rl:=R1.out.rlt;have gl:=R2.out.lt)
  have z1:=b1.size
  rw [World.size_alloc] at z1
  have FB:=(R2.out.put5 (.int .i64 0) (.int .i64 tk) (.int .i64 tn) (.string (tx tt)) (.int .i64 pl)).alloc (.cells #[.int .i64 0,.int .i64 tk,.int .i64 tn,.string (tx tt),.int .i64 pl] 42)
  obtain ⟨c0,c1,c2,c3,c4⟩:=bk5 FB
  refine bodyPost_ret (v:=tv ⟨0,tk,tn,tt⟩ pl) (by simp [results,Tryz.results78,go_sem,tv,c0,c1,c2,c3,c4]) rfl ⟨rfl,?_,?_⟩
  · exact ((((Kp.refl rb w).alloc _).below b1).put5 (Nat.le_refl _) _ _ _ _ _).alloc _
  · exact ((R1.out.put5 (by omega) (by omega) (fun q=>q.2 rfl) _ _ _ _ _).alloc _).unbox hna.out
theorem itake_c {w:World} {rb tb cap:Nat} {X:ByteArray} {T:TL} {A:Nat→Prop} {s:Ps} (h:Ir w rb tb cap X T A s):Calls Tryz.prog 78 #[.pointer (some ⟨rb,0,none⟩)] w fun e w'=>e=.returned (tv (Ilx.hd s.L).1 (Ilx.hd s.L).2)∧Kp rb w w'∧Ir w' rb tb cap X T A (Ilx.tk s):=by
  unfold Ilx.tk
  by_cases q:(Ilx.hd s.L).1.tok=0
  · rw [if_pos q];exact itake_n h q
  · rw [if_neg q];exact itake_y h q
theorem Ir.fail {w:World} {rb tb cap:Nat} {X:ByteArray} {T:TL} {A:Nat→Prop} {s:Ps} (h:Ir w rb tb cap X T A s) {g a n:Nat} (hg:A g) (gl:g < w.heap.size) (c0:w.cell? ⟨g,0,none⟩=some (.int .i64 a)) (c1:w.cell? ⟨g,1,none⟩=some (.int .i64 n)) :
    Ir (w.setCell ⟨rb,2,none⟩ (.iface 78 (.pointer (some ⟨g,0,none⟩)))) rb tb cap X T A ⟨s.L,some (a,n)⟩:=by
  obtain ⟨i,v,e1,e2,b,_⟩:=h.own
  have q:=b.set 2 (.iface 78 (.pointer (some ⟨g,0,none⟩)))
  simp only [List.setIfInBounds_toArray,List.set_cons_zero,List.set_cons_succ] at q
  have hgr:¬ g=rb:=fun e=>h.na (by rw [← e];exact hg)
  have kc:∀ j x,(w.setCell ⟨rb,2,none⟩ x).cell? ⟨g,j,none⟩=w.cell? ⟨g,j,none⟩:=fun j x=>World.cell?_of_block (a:=⟨g,j,none⟩) (Below.heap_setCell w ⟨rb,2,none⟩ x g hgr)
  refine ⟨⟨i,_,e1,e2,q,g,rfl,hg,by simp [World.setCell];exact gl,(kc 0 _).trans c0,(kc 1 _).trans c1⟩,?_,by have:=h.lt;simp [World.setCell];exact this,h.ne,h.wl,h.len,h.cp,h.na⟩
  intro k u hk
  exact (World.cell?_of_block (a:=⟨tb,k,none⟩) (Below.heap_setCell w ⟨rb,2,none⟩ _ tb (fun e=>h.ne e.symm))).trans (h.laid k u hk)
theorem Ir.toLast {w:World} {rb tb cap:Nat} {X:ByteArray} {T:TL} {A:Nat→Prop} {s:Ps} (h:Ir w rb tb cap X T A s) (j n c:Nat) (hj:j=(T.length - 1) * 5) (hn:n=1) (hc:c=cap - (T.length - 1)) :
    Ir (w.setCell ⟨rb,1,none⟩ (.slice (some ⟨tb,j,none⟩) n c)) rb tb cap X T A ⟨Ilx.lst s.L,s.e⟩:=by
  subst hj hn hc
  obtain ⟨i,v,e1,e2,b,ev⟩:=h.own
  have q:=b.set 1 (.slice (some ⟨tb,(T.length - 1) * 5,none⟩) 1 (cap - (T.length - 1)))
  simp only [List.setIfInBounds_toArray,List.set_cons_zero,List.set_cons_succ] at q
  refine ⟨⟨T.length - 1,v,?_,by omega,by rw [show T.length - (T.length - 1)=1 by omega];exact q,ev.keep (by simp [World.setCell]) (fun g hg _=>Below.heap_setCell w ⟨rb,1,none⟩ _ g (fun e=>h.na (by rw [← show g=rb from e];exact hg)))⟩,?_,by have:=h.lt;simp [World.setCell];exact this,h.ne,h.wl,h.len,h.cp,h.na⟩
  · show Ilx.lst s.L=_
    unfold Ilx.lst
    rw [e1,List.length_drop,List.drop_drop,show i+(T.length - i - 1)=T.length - 1 by omega]
  · intro k u hk
    exact (World.cell?_of_block (a:=⟨tb,k,none⟩) (Below.heap_setCell w ⟨rb,1,none⟩ _ tb (fun e=>h.ne e.symm))).trans (h.laid k u hk)
theorem Ir.fail2 {w:World} {rb tb cap:Nat} {X:ByteArray} {T:TL} {A:Nat→Prop} {s:Ps} (h:Ir w rb tb cap X T A s) (hA:A w.heap.size) (a n:Nat) (t:TypeId) :
    Ir ((w.setCell ⟨rb,2,none⟩ (.iface 78 (.pointer (some ⟨w.heap.size,0,none⟩)))).alloc (.cells #[.int .i64 a,.int .i64 n] t)) rb tb cap X T A ⟨s.L,some (a,n)⟩:=by
  obtain ⟨i,v,e1,e2,b,_⟩:=h.own
  have q:=(b.set 2 (.iface 78 (.pointer (some ⟨w.heap.size,0,none⟩)))).alloc (.cells #[.int .i64 a,.int .i64 n] t)
  simp only [List.setIfInBounds_toArray,List.set_cons_zero,List.set_cons_succ] at q
  have F:=Bk.freshS w ⟨rb,2,none⟩ (.iface 78 (.pointer (some ⟨w.heap.size,0,none⟩))) #[.int .i64 a,.int .i64 n] t
  refine ⟨⟨i,_,e1,e2,q,w.heap.size,rfl,hA,F.lt,F.cell 0,F.cell 1⟩,?_,by have:=h.lt;rw [World.size_alloc];simp [World.setCell];omega,h.ne,h.wl,h.len,h.cp,h.na⟩
  intro k u hk
  rw [World.cell?_alloc_lt _ _ ⟨tb,k,none⟩ (by simp [World.setCell];exact h.lt)]
  exact (World.cell?_of_block (a:=⟨tb,k,none⟩) (Below.heap_setCell w ⟨rb,2,none⟩ _ tb (fun e=>h.ne e.symm))).trans (h.laid k u hk)
set_option maxHeartbeats 2000000 in
theorem irefuse_n {w:World} {rb tb cap:Nat} {X:ByteArray} {T:TL} {A:Nat→Prop} {s:Ps} (h:Ir w rb tb cap X T A s) (hA:∀ x,w.heap.size≤x→A x) (he:s.e=none) (a n:Nat):Calls Tryz.prog 35 #[.pointer (some ⟨rb,0,none⟩),.int .i64 a,.int .i64 n] w fun e w'=>e=.returned (.tuple #[])∧Kp rb w w'∧Ir w' rb tb cap X T A (Ilx.rf s a n):=by
  obtain ⟨i,v,e1,e2,bb,ee⟩:=h.own
  rw [he] at ee
  have ee:v=.nilIface:=ee
  subst ee
  obtain ⟨r0,r1,r2⟩:=bk3 bb
  have rf:=bb.fr
  have R:=hid_as (h.fail2 (hA _ (Nat.le_refl _)) a n 83)
  have K:Hid (Kp rb w ((w.setCell ⟨rb,2,none⟩ (.iface 78 (.pointer (some ⟨w.heap.size,0,none⟩)))).alloc (.cells #[.int .i64 a,.int .i64 n] 83))):=hid_as (((Kp.refl rb w).put 2 _).alloc _)
  have HE:=hid_as he
  have hrl:=h.rlt
  clear h e1 e2 bb he ee
  go_enter Tryz.func35,Tryz.ntmps35
  go_wp2
  clear r0 r1 r2 rf
  generalize (w.setCell ⟨rb,2,none⟩ (.iface 78 (.pointer (some ⟨w.heap.size,0,none⟩)))).alloc (.cells #[.int .i64 a,.int .i64 n] 83)=W at R K ⊢
  obtain ⟨i,v,e1,e2,bb,ee⟩:=R.out.own
  obtain ⟨r0,r1,r2⟩:=bk3 bb
  have rf:=bb.fr
  have hcp:=R.out.cp
  have hln:=R.out.len
  obtain ⟨m,hm⟩:∃ m,T.length - i=m+1:=⟨T.length - i - 1,by omega⟩
  rw [hm] at r1
  have hm2:m≤1000000:=by omega
  have q2:¬ cap - i=m:=by omega
  have q3:m≤cap - i:=by omega
  have q4:IntKind.i64.wrap (((m+1:Nat):Int) - 1)=m:=by rw [IntKind.wrap_i64];omega
  replace e1:=hid_as e1
  replace hm:=hid_as hm
  replace e2:=hid_as e2
  clear bb ee
  go_region
  go_wp2
  go_end0
  refine ⟨rfl,(K.out.put _ _).drew,?_⟩
  have q:=R.out.toLast (i * 5+m * 5) 1 (cap - i - m) (by have:=hm.out;omega) rfl (by have:=hm.out;omega)
  unfold Ilx.rf
  rw [HE.out]
  exact q.drew
set_option maxHeartbeats 2000000 in
theorem irefuse_s {w:World} {rb tb cap:Nat} {X:ByteArray} {T:TL} {A:Nat→Prop} {s:Ps} (h:Ir w rb tb cap X T A s) {x:Nat × Nat} (he:s.e=some x) (a n:Nat):Calls Tryz.prog 35 #[.pointer (some ⟨rb,0,none⟩),.int .i64 a,.int .i64 n] w fun e w'=>e=.returned (.tuple #[])∧Kp rb w w'∧Ir w' rb tb cap X T A (Ilx.rf s a n):=by
  have R:=hid_as h
  obtain ⟨i,v,e1,e2,bb,ee⟩:=h.own
  rw [he] at ee
  obtain ⟨g,rfl,_⟩:=ee
  obtain ⟨r0,r1,r2⟩:=bk3 bb
  have rf:=bb.fr
  have hcp:=R.out.cp
  have hln:=R.out.len
  obtain ⟨m,hm⟩:∃ m,T.length - i=m+1:=⟨T.length - i - 1,by omega⟩
  rw [hm] at r1
  have hm2:m≤1000000:=by omega
  have q2:¬ cap - i=m:=by omega
  have q3:m≤cap - i:=by omega
  have q4:IntKind.i64.wrap (((m+1:Nat):Int) - 1)=m:=by rw [IntKind.wrap_i64];omega
  have HE:=hid_as he
  replace e1:=hid_as e1
  replace hm:=hid_as hm
  replace e2:=hid_as e2
  clear bb he h
  go_enter Tryz.func35,Tryz.ntmps35
  go_wp2
  go_region
  go_wp2
  go_end0
  refine ⟨rfl,((Kp.refl rb w).put _ _).drew,?_⟩
  have q:=R.out.toLast (i * 5+m * 5) 1 (cap - i - m) (by have:=hm.out;omega) rfl (by have:=hm.out;omega)
  unfold Ilx.rf
  rw [HE.out] at q ⊢
  exact q.drew
theorem irefuse_c {w:World} {rb tb cap:Nat} {X:ByteArray} {T:TL} {A:Nat→Prop} {s:Ps} (h:Ir w rb tb cap X T A s) (hA:∀ x,w.heap.size≤x→A x) (a n:Nat):Calls Tryz.prog 35 #[.pointer (some ⟨rb,0,none⟩),.int .i64 a,.int .i64 n] w fun e w'=>e=.returned (.tuple #[])∧Kp rb w w'∧Ir w' rb tb cap X T A (Ilx.rf s a n):=by
  cases he:s.e with
  | none=>exact irefuse_n h hA he a n
  | some x=>exact irefuse_s h he a n
set_option maxRecDepth 100000 in
theorem iis_c {w:World} {rb tb cap:Nat} {X:ByteArray} {T:TL} {A:Nat→Prop} {s:Ps} (h:Ir w rb tb cap X T A s) {b n c:Nat} (zs:List ByteArray) (hb:b < w.heap.size) (hn:n=zs.length) (hbig:zs.length≤100) (hc:∀ j,j < zs.length→w.cell? ⟨b,j,none⟩=some (.string (zs.getD j ByteArray.empty))) (v:Bool) (hv:v=true ↔ tx (Ilx.hd s.L).1.text ∈ zs):Calls Tryz.prog 76 #[.pointer (some ⟨rb,0,none⟩),.slice (some ⟨b,0,none⟩) n c] w fun e w'=>e=.returned (.bool v)∧Below w.heap.size w w':=by
  have C:=hid_as (inow_c h)
  have D:=hid_as (fun (W:World) (k:Below w.heap.size w W)=>hasText b zs n c hn (tx (Ilx.hd s.L).1.text) W (by omega) (fun j hj=>(k.cell (p:=⟨b,j,none⟩) hb).trans (hc j hj)) v hv)
  unfold tv at C
  generalize (Ilx.hd s.L).2=pl at *
  generalize (Ilx.hd s.L).1=tk at *
  obtain ⟨ta,tk,tn,tt⟩:=tk
  simp only at C D
  have F3:=fd3
  clear hc hv hn h
  go_enter Tryz.func76,Tryz.ntmps76
  go_wp2_with (first
    | (go_at_call 34;(with_reducible refine (C.out).mono ?_);rintro e w1 ⟨rfl,b1⟩;replace b1:=hid_as b1)
    | (go_at_call 121;(with_reducible refine (D.out _ b1.out).mono ?_);rintro e w2 ⟨rfl,rfl⟩))
  go_ret
  exact ⟨rfl,b1.out⟩
theorem cells1 (w:World) (x:ByteArray) (t:TypeId):∀ j,j < ([x]:List ByteArray).length→(w.alloc (.cells #[.string x] t)).cell? ⟨w.heap.size,j,none⟩=some (.string (([x]:List ByteArray).getD j ByteArray.empty)):=by
  intro j hj
  obtain rfl:j=0:=by simpa using hj
  exact (Bk.fresh w #[.string x] t).cell 0
theorem txt_mem {l:List UInt8} {x:ByteArray}:((l == x.data.toList)=true) ↔ tx l ∈ [x]:=by
  rw [List.mem_singleton,beq_iff_eq]
  constructor
  · rintro rfl;exact tx_of x
  · rintro rfl;exact (tx_list l).symm
set_option maxHeartbeats 2000000 in
set_option maxRecDepth 100000 in
theorem iaccept_y {w:World} {rb tb cap:Nat} {X:ByteArray} {T:TL} {A:Nat→Prop} {s:Ps} (h:Ir w rb tb cap X T A s) (x:ByteArray) (hz:Ilx.iz s x.data.toList=true):Calls Tryz.prog 37 #[.pointer (some ⟨rb,0,none⟩),.string x] w fun e w'=>e=.returned (.bool true)∧Kp rb w w'∧Ir w' rb tb cap X T A (Ilx.tk s):=by
  have h1:=hid_as (h.alloc (.cells #[.string x] 9))
  have C:=hid_as (iis_c h1.out (n:=1) (c:=1) [x] (by rw [World.size_alloc];omega) rfl (by simp) (cells1 w x 9) true ⟨fun _=>txt_mem.1 hz,fun _=>rfl⟩)
  have D:=hid_as (fun W (H:Ir W rb tb cap X T A s)=>itake_c H)
  unfold tv at D
  generalize (Ilx.hd s.L).2=pl at *
  generalize (Ilx.hd s.L).1=tk at *
  obtain ⟨ta,tk,tn,tt⟩:=tk
  simp only at D
  clear h hz
  go_enter Tryz.func37,Tryz.ntmps37
  go_wp2_with (first
    | (go_at_call 76;(with_reducible refine (C.out).mono ?_);rintro e w1 ⟨rfl,b1⟩;have R1:=hid_as (h1.out.below b1);have K1:=hid_as (((Kp.refl rb w).alloc _).below b1);clear b1)
    | (go_at_call 78;(with_reducible refine (D.out _ R1.out).mono ?_);rintro e w2 ⟨rfl,k2,r2⟩;replace r2:=hid_as r2))
  go_ret
  exact ⟨rfl,K1.out.trans k2,r2.out⟩
set_option maxHeartbeats 2000000 in
set_option maxRecDepth 100000 in
theorem iaccept_n {w:World} {rb tb cap:Nat} {X:ByteArray} {T:TL} {A:Nat→Prop} {s:Ps} (h:Ir w rb tb cap X T A s) (x:ByteArray) (hz:Ilx.iz s x.data.toList=false):Calls Tryz.prog 37 #[.pointer (some ⟨rb,0,none⟩),.string x] w fun e w'=>e=.returned (.bool false)∧Below w.heap.size w w':=by
  have h1:=hid_as (h.alloc (.cells #[.string x] 9))
  have C:=hid_as (iis_c h1.out (n:=1) (c:=1) [x] (by rw [World.size_alloc];omega) rfl (by simp) (cells1 w x 9) false (by rw [← hz];exact txt_mem))
  clear h hz
  go_enter Tryz.func37,Tryz.ntmps37
  go_wp2_with (go_at_call 76;(with_reducible refine (C.out).mono ?_);rintro e w1 ⟨rfl,b1⟩;have R1:=hid_as (h1.out.below b1);have K1:=hid_as (Below.trans (below_new1 w (.cells #[.string x] 9)) (b1.mono (by rw [World.size_alloc];omega)));clear b1)
  go_ret
  exact ⟨rfl,K1.out⟩
theorem irefuse_130 {w:World} {rb tb cap:Nat} {X:ByteArray} {T:TL} {A:Nat→Prop} {s:Ps} (h:Ir w rb tb cap X T A s) (hA:∀ x,w.heap.size≤x→A x) (a:Nat):Calls Tryz.prog 35 #[.pointer (some ⟨rb,0,none⟩),.int .i64 a,.int .i64 130] w fun e w'=>e=.returned (.tuple #[])∧Kp rb w w'∧Ir w' rb tb cap X T A (Ilx.rf s a 130):=irefuse_c h hA a 130
set_option maxHeartbeats 2000000 in
set_option maxRecDepth 100000 in
theorem iexpect_n {w:World} {rb tb cap:Nat} {X:ByteArray} {T:TL} {A:Nat→Prop} {s:Ps} (h:Ir w rb tb cap X T A s) (hA:∀ x,w.heap.size≤x→A x) (x:ByteArray) (hz:Ilx.iz s x.data.toList=false):Calls Tryz.prog 36 #[.pointer (some ⟨rb,0,none⟩),.string x] w fun e w'=>e=.returned (.tuple #[])∧Kp rb w w'∧Ir w' rb tb cap X T A (Ilx.rf s (Ilx.hd s.L).2 130):=by
  have C1:=hid_as (iaccept_n h x hz)
  have H:=hid_as h
  have C2:=hid_as (fun W (H:Ir W rb tb cap X T A s)=>inow_c H)
  have C3:=hid_as (fun W (H:Ir W rb tb cap X T A s) (hs:w.heap.size≤W.heap.size) (a:Nat)=>irefuse_130 H (fun y hy=>hA y (Nat.le_trans hs hy)) a)
  unfold tv at C2
  generalize (Ilx.hd s.L).2=pl at *
  generalize (Ilx.hd s.L).1=tk at *
  obtain ⟨ta,tk,tn,tt⟩:=tk
  simp only at C2
  have F4:=fd4
  clear h hz
  go_enter Tryz.func36,Tryz.ntmps36
  go_wp2_with (first
    | (go_at_call 37;(with_reducible refine (C1.out).mono ?_);rintro e w1 ⟨rfl,b1⟩;have R1:=hid_as (H.out.below b1);replace b1:=hid_as b1)
    | (go_at_call 34;(with_reducible refine (C2.out _ R1.out).mono ?_);rintro e w2 ⟨rfl,b2⟩;have R2:=hid_as (R1.out.below b2);have K2:=hid_as (below_and b1.out b2);clear b2)
    | (go_at_call 35;(with_reducible refine (C3.out _ R2.out K2.out.size _).mono ?_);rintro e w3 ⟨rfl,k3,r3⟩;replace r3:=hid_as r3))
  go_end0
  exact ⟨rfl,(Kp.of K2.out).trans k3,r3.out⟩
set_option maxRecDepth 100000 in
theorem iexpect_y {w:World} {rb tb cap:Nat} {X:ByteArray} {T:TL} {A:Nat→Prop} {s:Ps} (h:Ir w rb tb cap X T A s) (x:ByteArray) (hz:Ilx.iz s x.data.toList=true):Calls Tryz.prog 36 #[.pointer (some ⟨rb,0,none⟩),.string x] w fun e w'=>e=.returned (.tuple #[])∧Kp rb w w'∧Ir w' rb tb cap X T A (Ilx.tk s):=by
  have C1:=hid_as (iaccept_y h x hz)
  clear h hz
  go_enter Tryz.func36,Tryz.ntmps36
  go_wp2_with (go_at_call 37;(with_reducible refine (C1.out).mono ?_);rintro e w1 ⟨rfl,k1,r1⟩;replace r1:=hid_as r1)
  go_end0
  exact ⟨rfl,k1,r1.out⟩
theorem iexpect_c {w:World} {rb tb cap:Nat} {X:ByteArray} {T:TL} {A:Nat→Prop} {s:Ps} (h:Ir w rb tb cap X T A s) (hA:∀ x,w.heap.size≤x→A x) (x:ByteArray):Calls Tryz.prog 36 #[.pointer (some ⟨rb,0,none⟩),.string x] w fun e w'=>e=.returned (.tuple #[])∧Kp rb w w'∧Ir w' rb tb cap X T A (Ilx.xq s x.data.toList):=by
  unfold Ilx.xq
  cases q:Ilx.iz s x.data.toList with
  | true=>rw [if_pos rfl];exact iexpect_y h x q
  | false=>rw [if_neg Bool.false_ne_true];exact iexpect_n h hA x q
theorem ints_has (ks:List Nat) (n:Nat):(ks.map (fun k:Nat=>(k:Int))).contains (n:Int)=ks.contains n:=by
  induction ks with
  | nil=>rfl
  | cons k ks ih =>
    rw [List.map_cons,List.contains_cons,List.contains_cons,ih]
    congr 1
    rw [Bool.eq_iff_iff,beq_iff_eq,beq_iff_eq]
    omega
theorem hasNat (b:Nat) (ks:List Nat) (n c:Nat) (hn:n=ks.length) (x:Nat) (w:World) (hbig:ks.length≤100) (hc:∀ j,j < ks.length→w.cell? ⟨b,j,none⟩=some (.int .i64 ((ks.getD j 0:Nat):Int))) (v:Bool) (hv:ks.contains x=v) :
    Calls Tryz.prog 83 #[.slice (some ⟨b,0,none⟩) n c,.int .i64 x] w fun e w'=>e=.returned (.bool v)∧w'=w:=by
  subst hn
  have h:=hasNum b (ks.map (fun k:Nat=>(k:Int))) c x w (by simp;omega) (fun j hj=>by
    rw [List.length_map] at hj
    rw [hc j hj]
    congr 2
    simp [List.getD_eq_getElem?_getD,List.getElem?_eq_getElem hj])
  rw [ints_has,hv,List.length_map] at h
  exact h
/-- A token as a value, in letters. -/
def Tn (t:Tk × Nat) (v:Value):Prop:=∃ (ta tk:Nat) (tn:Int) (tt:List UInt8) (pl:Nat),t=(⟨ta,tk,tn,tt⟩,pl)∧v=.agg #[.int .i64 ta,.int .i64 tk,.int .i64 tn,.string (tx tt),.int .i64 pl]
theorem tn_tv (t:Tk × Nat):Tn t (tv t.1 t.2):=⟨t.1.tok,t.1.kind,t.1.n,t.1.text,t.2,rfl,rfl⟩
theorem now_t {w:World} {rb tb cap:Nat} {X:ByteArray} {T:TL} {A:Nat→Prop} {s:Ps} (h:Ir w rb tb cap X T A s):Calls Tryz.prog 34 #[.pointer (some ⟨rb,0,none⟩)] w fun e w'=>∃ v,e=.returned v∧Tn (Ilx.hd s.L) v∧Below w.heap.size w w' :=
  (inow_c h).mono fun _ _ q=>⟨_,q.1,tn_tv _,q.2⟩
theorem take_t {w:World} {rb tb cap:Nat} {X:ByteArray} {T:TL} {A:Nat→Prop} {s:Ps} (h:Ir w rb tb cap X T A s):Calls Tryz.prog 78 #[.pointer (some ⟨rb,0,none⟩)] w fun e w'=>∃ v,e=.returned v∧Tn (Ilx.hd s.L) v∧Kp rb w w'∧Ir w' rb tb cap X T A (Ilx.tk s) :=
  (itake_c h).mono fun _ _ q=>⟨_,q.1,tn_tv _,q.2.1,q.2.2⟩
set_option maxHeartbeats 2000000 in
set_option maxRecDepth 100000 in
theorem itakeOf_y {w:World} {rb tb cap:Nat} {X:ByteArray} {T:TL} {A:Nat→Prop} {s:Ps} (h:Ir w rb tb cap X T A s) {b n c:Nat} (ks:List Nat) (hb:b < w.heap.size) (hn:n=ks.length) (hbig:ks.length≤100) (hc:∀ j,j < ks.length→w.cell? ⟨b,j,none⟩=some (.int .i64 ((ks.getD j 0:Nat):Int))) (hz:ks.contains (Ilx.hd s.L).1.tok=true):Calls Tryz.prog 40 #[.pointer (some ⟨rb,0,none⟩),.slice (some ⟨b,0,none⟩) n c] w fun e w'=>∃ v,e=.returned v∧Tn (Ilx.hd s.L) v∧Kp rb w w'∧Ir w' rb tb cap X T A (Ilx.tk s):=by
  have H:=hid_as (h.box (.cells #[.int .i64 0,.int .i64 0,.int .i64 0,.string ⟨#[]⟩,.int .i64 0] 42))
  have K0:=hid_as (below_new1 w (.cells #[.int .i64 0,.int .i64 0,.int .i64 0,.string ⟨#[]⟩,.int .i64 0] 42))
  have B0:=hid_as (Bk.fresh w #[.int .i64 0,.int .i64 0,.int .i64 0,.string ⟨#[]⟩,.int .i64 0] 42)
  have C:=hid_as (fun W A (H:Ir W rb tb cap X T A s)=>now_t H)
  have D:=hid_as (fun (W:World) (k:Below w.heap.size w W)=>hasNat b ks n c hn (Ilx.hd s.L).1.tok W hbig (fun j hj=>(k.cell (p:=⟨b,j,none⟩) hb).trans (hc j hj)) true hz)
  have E:=hid_as (fun W A (H:Ir W rb tb cap X T A s)=>take_t H)
  have hrl:=h.rlt
  have htl:=h.lt
  have hna:=hid_as h.na
  have F0:=fd0
  clear hc hz hn h
  go_enter Tryz.func40,Tryz.ntmps40
  go_wp2_with (first
    | (go_at_call 34;(with_reducible refine (C.out _ _ H.out).mono ?_);rintro e w1 ⟨_,rfl,⟨ta,tk,tn,tt,pl,t1,rfl⟩,b1⟩;rw [t1] at D;replace t1:=hid_as t1;have R1:=hid_as (H.out.below b1);have B1:=hid_as (B0.out.below b1);replace b1:=hid_as (below_and K0.out b1))
    | (go_at_call 83;(with_reducible refine (D.out _ b1.out).mono ?_);rintro e w2 ⟨rfl,rfl⟩)
    | (go_at_call 78;(with_reducible refine (E.out _ _ R1.out).mono ?_);rintro e w3 ⟨_,rfl,⟨ta3,tk3,tn3,tt3,pl3,t3,rfl⟩,k3,r3⟩;replace t3:=hid_as t3;replace r3:=hid_as r3;have B3:=hid_as (B1.out.kp k3 (by omega));obtain ⟨s0,s1,s2,s3,s4⟩:=bk5 B3.out;have sf:=B3.out.fr;have gl:=B3.out.lt))
  obtain ⟨c0,c1,c2,c3,c4⟩:=bk5 (B3.out.put5 (.int .i64 ta3) (.int .i64 tk3) (.int .i64 tn3) (.string (tx tt3)) (.int .i64 pl3))
  exact bodyPost_ret (v:=.agg #[.int .i64 ta3,.int .i64 tk3,.int .i64 tn3,.string (tx tt3),.int .i64 pl3]) (by simp [results,Tryz.results40,go_sem,c0,c1,c2,c3,c4]) rfl ⟨_,rfl,⟨ta3,tk3,tn3,tt3,pl3,t3.out,rfl⟩,((Kp.of b1.out).trans k3).put5 (Nat.le_refl _) _ _ _ _ _,(r3.out.put5 (by omega) (by omega) (fun q=>q.2 rfl) _ _ _ _ _).unbox hna.out⟩
end Go.Proofs.YtapcpjidgemggaaGreatDoor
