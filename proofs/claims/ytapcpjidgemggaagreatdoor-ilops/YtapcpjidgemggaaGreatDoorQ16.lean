/- The reader of Instruction List: lines, words passed by, what begins a line (stage 14). -/
import Derived.Test.YtapcpjidgemggaaGreatDoorQ15
namespace Go.Proofs.YtapcpjidgemggaaGreatDoor
open Go.RowKit
open Adr Lx Sx
open Ilx (Ps Wl)
theorem hA_box {A:Nat→Prop} {w W:World} (hA:∀ x,w.heap.size≤x→A x) (h:w.heap.size < W.heap.size):∀ x,W.heap.size≤x→(A x∧x ≠ w.heap.size):=fun x hx=>⟨hA x (by omega),by omega⟩
theorem hA_le {A:Nat→Prop} {w W:World} (hA:∀ x,w.heap.size≤x→A x) (h:w.heap.size≤W.heap.size):∀ x,W.heap.size≤x→A x:=fun x hx=>hA x (by omega)
set_option maxHeartbeats 2000000 in
set_option maxRecDepth 100000 in
theorem itakeOf_n {w:World} {rb tb cap:Nat} {X:ByteArray} {T:TL} {A:Nat→Prop} {s:Ps} (h:Ir w rb tb cap X T A s) (hA:∀ x,w.heap.size≤x→A x) {b n c:Nat} (ks:List Nat) (hb:b < w.heap.size) (hn:n=ks.length) (hbig:ks.length≤100) (hc:∀ j,j < ks.length→w.cell? ⟨b,j,none⟩=some (.int .i64 ((ks.getD j 0:Nat):Int))) (hz:ks.contains (Ilx.hd s.L).1.tok=false):Calls Tryz.prog 40 #[.pointer (some ⟨rb,0,none⟩),.slice (some ⟨b,0,none⟩) n c] w fun e w'=>∃ v,e=.returned v∧Tn (Ilx.hd (Ilx.rf s (Ilx.hd s.L).2 130).L) v∧Kp rb w w'∧Ir w' rb tb cap X T A (Ilx.tk (Ilx.rf s (Ilx.hd s.L).2 130)):=by
  have H:=hid_as (h.box (.cells #[.int .i64 0,.int .i64 0,.int .i64 0,.string ⟨#[]⟩,.int .i64 0] 42))
  have K0:=hid_as (below_new1 w (.cells #[.int .i64 0,.int .i64 0,.int .i64 0,.string ⟨#[]⟩,.int .i64 0] 42))
  have B0:=hid_as (Bk.fresh w #[.int .i64 0,.int .i64 0,.int .i64 0,.string ⟨#[]⟩,.int .i64 0] 42)
  have C:=hid_as (fun W A (H:Ir W rb tb cap X T A s)=>now_t H)
  have D:=hid_as (fun (W:World) (k:Below w.heap.size w W)=>hasNat b ks n c hn (Ilx.hd s.L).1.tok W hbig (fun j hj=>(k.cell (p:=⟨b,j,none⟩) hb).trans (hc j hj)) false hz)
  have E:=hid_as (fun W A s (H:Ir W rb tb cap X T A s)=>take_t H)
  have G:=hid_as (fun W A (H:Ir W rb tb cap X T A s) (hA:∀ x,W.heap.size≤x→A x) (a:Nat)=>irefuse_130 H hA a)
  have hrl:=h.rlt
  have htl:=h.lt
  have hna:=hid_as h.na
  have hA:=hid_as hA
  have F0:=fd0
  have F4:=fd4
  generalize Ilx.hd s.L=t0 at *
  obtain ⟨⟨ta,tk,tn,tt⟩,pl⟩:=t0
  simp only at D
  clear hc hz hn h
  go_enter Tryz.func40,Tryz.ntmps40
  go_wp2_with (first
    | (go_at_call 34;(with_reducible refine (C.out _ _ H.out).mono ?_);rintro e w1 ⟨_,rfl,⟨_,_,_,_,_,t1,rfl⟩,b1⟩;cases t1;replace H:=hid_as (H.out.below b1);replace B0:=hid_as (B0.out.below b1);replace K0:=hid_as (below_and K0.out b1);have gl:=B0.out.lt;clear b1)
    | (go_at_call 83;(with_reducible refine (D.out _ K0.out).mono ?_);rintro e w2 ⟨rfl,rfl⟩)
    | (go_at_call 35;(with_reducible refine (G.out _ _ H.out (hA_box hA.out gl) _).mono ?_);rintro e w3 ⟨rfl,k3,r3⟩;have R3:=hid_as r3;have B3:=hid_as (B0.out.kp k3 (by omega));have K3:=hid_as ((Kp.of K0.out).trans k3);clear k3 r3)
    | (go_at_call 78;(with_reducible refine (E.out _ _ _ R3.out).mono ?_);rintro e w4 ⟨_,rfl,⟨ta4,tk4,tn4,tt4,pl4,t4,rfl⟩,k4,r4⟩;replace t4:=hid_as t4;replace r4:=hid_as r4;have B4:=hid_as (B3.out.kp k4 (by omega));obtain ⟨s0,s1,s2,s3,s4⟩:=bk5 B4.out;have sf:=B4.out.fr;have gl4:=B4.out.lt))
  obtain ⟨c0,c1,c2,c3,c4⟩:=bk5 (B4.out.put5 (.int .i64 ta4) (.int .i64 tk4) (.int .i64 tn4) (.string (tx tt4)) (.int .i64 pl4))
  exact bodyPost_ret (v:=.agg #[.int .i64 ta4,.int .i64 tk4,.int .i64 tn4,.string (tx tt4),.int .i64 pl4]) (by simp [results,Tryz.results40,go_sem,c0,c1,c2,c3,c4]) rfl ⟨_,rfl,⟨ta4,tk4,tn4,tt4,pl4,t4.out,rfl⟩,(K3.out.trans k4).put5 (Nat.le_refl _) _ _ _ _ _,(r4.out.put5 (by omega) (by omega) (fun q=>q.2 rfl) _ _ _ _ _).unbox hna.out⟩
theorem itakeOf_c {w:World} {rb tb cap:Nat} {X:ByteArray} {T:TL} {A:Nat→Prop} {s:Ps} (h:Ir w rb tb cap X T A s) (hA:∀ x,w.heap.size≤x→A x) {b n c:Nat} (ks:List Nat) (hb:b < w.heap.size) (hn:n=ks.length) (hbig:ks.length≤100) (hc:∀ j,j < ks.length→w.cell? ⟨b,j,none⟩=some (.int .i64 ((ks.getD j 0:Nat):Int))):Calls Tryz.prog 40 #[.pointer (some ⟨rb,0,none⟩),.slice (some ⟨b,0,none⟩) n c] w fun e w'=>∃ v,e=.returned v∧Tn (Ilx.hd (Ilx.tq s ks).L) v∧Kp rb w w'∧Ir w' rb tb cap X T A (Ilx.tk (Ilx.tq s ks)):=by
  unfold Ilx.tq
  cases q:ks.contains (Ilx.hd s.L).1.tok with
  | true=>rw [if_pos rfl];exact itakeOf_y h ks hb hn hbig hc q
  | false=>rw [if_neg Bool.false_ne_true];exact itakeOf_n h hA ks hb hn hbig hc q
theorem ints1 (w:World) (k:Nat) (t:TypeId):∀ j,j < ([k]:List Nat).length→(w.alloc (.cells #[.int .i64 k] t)).cell? ⟨w.heap.size,j,none⟩=some (.int .i64 ((([k]:List Nat).getD j 0:Nat):Int)):=by
  intro j hj
  obtain rfl:j=0:=by simpa using hj
  exact (Bk.fresh w #[.int .i64 k] t).cell 0
theorem ints2 (w:World) (k m:Nat) (t:TypeId):∀ j,j < ([k,m]:List Nat).length→(w.alloc (.cells #[.int .i64 k,.int .i64 m] t)).cell? ⟨w.heap.size,j,none⟩=some (.int .i64 ((([k,m]:List Nat).getD j 0:Nat):Int)):=by
  intro j hj
  have hj:j < 2:=hj
  obtain rfl | rfl:j=0 ∨ j=1:=by omega
  · exact (Bk.fresh w #[.int .i64 k,.int .i64 m] t).cell 0
  · exact (Bk.fresh w #[.int .i64 k,.int .i64 m] t).cell 1
/-- How many tokens are left. -/
def lenOf (rb:Nat) (w:World):Nat:=match w.cell? ⟨rb,1,none⟩ with
  | some (.slice _ n _)=>n
  | _=>0
theorem Ir.lenOf {w:World} {rb tb cap:Nat} {X:ByteArray} {T:TL} {A:Nat→Prop} {s:Ps} (h:Ir w rb tb cap X T A s):lenOf rb w=s.L.length:=by
  obtain ⟨i,v,h1,h2,b,_⟩:=h.own
  have c:w.cell? ⟨rb,1,none⟩=some (.slice (some ⟨tb,i * 5,none⟩) (T.length - i) (cap - i)):=b.cell 1
  unfold Go.Proofs.YtapcpjidgemggaaGreatDoor.lenOf
  rw [c,h1,List.length_drop]
theorem tk_tail {s:Ps} (h:¬ (Ilx.hd s.L).1.tok=0):Ilx.tk s=⟨s.L.tail,s.e⟩:=by unfold Ilx.tk;rw [if_neg h]
theorem iz_tk {s:Ps} {x:List UInt8} (hw:Wl s.L) (h:Ilx.iz s x=true) (h0:x ≠ []):Ilx.tk s=⟨s.L.tail,s.e⟩∧s.L=Ilx.hd s.L :: s.L.tail∧s.L.tail.length < s.L.length:=by
  have q:=(hw.word (x:=x) h h0).1
  refine ⟨tk_tail q,?_,?_⟩
  · rcases hw.hd with ⟨h1,_⟩ | ⟨_,_,h3⟩
    · exact absurd h1 q
    · exact h3
  · have:=List.length_pos_iff.2 hw.ne
    rw [List.length_tail]
    omega
theorem pl_step {s:Ps} (hw:Wl s.L) (h:Ilx.iz s [10]=true):Ilx.pl s.L=Ilx.pl s.L.tail:=by
  obtain ⟨_,h2,_⟩:=iz_tk hw h (by decide)
  have h:((Ilx.hd s.L).1.text == [10])=true:=h
  exact (congrArg Ilx.pl h2).trans (if_pos h)
theorem pl_stop {s:Ps} (h:Ilx.iz s [10]=false):Ilx.pl s.L=s.L:=by
  have h:((Ilx.hd s.L).1.text == [10])=false:=h
  cases hL:s.L with
  | nil=>rfl
  | cons t L =>
    rw [hL] at h
    have h:(t.1.text == [10])=false:=h
    unfold Ilx.pl
    rw [h,if_neg Bool.false_ne_true]
set_option maxHeartbeats 2000000 in
set_option maxRecDepth 100000 in
theorem ipassLines_c {w:World} {rb tb cap:Nat} {X:ByteArray} {T:TL} {A:Nat→Prop} {s:Ps} (h:Ir w rb tb cap X T A s):Calls Tryz.prog 39 #[.pointer (some ⟨rb,0,none⟩)] w fun e w'=>e=.returned (.tuple #[])∧Kp rb w w'∧Ir w' rb tb cap X T A ⟨Ilx.pl s.L,s.e⟩:=by
  have H:=hid_as h
  clear h
  go_enter Tryz.func39,Tryz.ntmps39
  go_wp2
  go_loopw [] (fun wr=>∃ s':Ps,Hid (Ir wr rb tb cap X T A s')∧Hid (Kp rb w wr)∧Hid (Ilx.pl s'.L=Ilx.pl s.L)∧Hid (s'.e=s.e)) (fun wr=>lenOf rb wr)
  case atStart=>exact ⟨s,H,hid_as (Kp.refl rb w),hid_as rfl,hid_as rfl⟩
  case round =>
    obtain ⟨s',R,K,P,E⟩:=hrel
    have L0:=hid_as R.out.lenOf
    cases q:Ilx.iz s' [10] with
    | true =>
      have C:=hid_as (iaccept_y R.out ⟨#[10]⟩ q)
      have Q:=hid_as q
      clear q
      go_wp2_with (go_at_call 37;(with_reducible refine (C.out).mono ?_);rintro e w1 ⟨rfl,k1,r1⟩;replace r1:=hid_as r1;replace k1:=hid_as k1)
      go_roundw
      case rel =>
        have t:=iz_tk R.out.wls Q.out (by decide)
        have r:=r1.out
        rw [t.1] at r
        exact ⟨_,hid_as r,hid_as (K.out.trans k1.out),hid_as ((pl_step R.out.wls Q.out).symm.trans P.out),E⟩
      case measure =>
        have t:=iz_tk R.out.wls Q.out (by decide)
        have r:=r1.out
        rw [t.1] at r
        rw [r.lenOf,L0.out]
        exact t.2.2
    | false =>
      have C:=hid_as (iaccept_n R.out ⟨#[10]⟩ q)
      have Q:=hid_as q
      clear q
      go_wp2_with (go_at_call 37;(with_reducible refine (C.out).mono ?_);rintro e w1 ⟨rfl,b1⟩;replace b1:=hid_as b1)
      go_end0
      have r:=R.out.below b1.out
      have e1:Ilx.pl s.L=s'.L:=P.out.symm.trans (pl_stop Q.out)
      rw [e1,← E.out]
      exact ⟨rfl,K.out.below b1.out,r⟩
theorem pt_end {x:List UInt8} {L:TL} (h:(Ilx.hd L).1.tok=0):Ilx.pt x L=L:=by
  cases L with
  | nil=>rfl
  | cons t L=>exact if_pos h
theorem pt_cons {x:List UInt8} {L:TL} (hw:Wl L) (h:¬ (Ilx.hd L).1.tok=0):Ilx.pt x L=if (Ilx.hd L).1.text == x then L.tail else Ilx.pt x L.tail:=by
  cases L with
  | nil=>exact absurd rfl hw.ne
  | cons t L=>exact if_neg h
set_option maxHeartbeats 2000000 in
set_option maxRecDepth 100000 in
theorem ipassTo_c {w:World} {rb tb cap:Nat} {X:ByteArray} {T:TL} {A:Nat→Prop} {s:Ps} (h:Ir w rb tb cap X T A s) (x:ByteArray) (h0:x.data.toList ≠ []):Calls Tryz.prog 77 #[.pointer (some ⟨rb,0,none⟩),.string x] w fun e w'=>e=.returned (.tuple #[])∧Kp rb w w'∧Ir w' rb tb cap X T A ⟨Ilx.pt x.data.toList s.L,s.e⟩:=by
  have H:=hid_as h
  have X0:=hid_as h0
  have C:=hid_as (fun W s (H:Ir W rb tb cap X T A s)=>now_t H)
  have D:=hid_as (fun W s (H:Ir W rb tb cap X T A s)=>take_t H)
  have CY:=hid_as (fun W s (H:Ir W rb tb cap X T A s) q=>iaccept_y H x q)
  have CN:=hid_as (fun W s (H:Ir W rb tb cap X T A s) q=>iaccept_n H x q)
  have F0:=fd0
  clear h h0
  go_enter Tryz.func77,Tryz.ntmps77
  go_wp2
  go_loopw [] (fun wr=>∃ s':Ps,Hid (Ir wr rb tb cap X T A s')∧Hid (Kp rb w wr)∧Hid (Ilx.pt x.data.toList s'.L=Ilx.pt x.data.toList s.L)∧Hid (s'.e=s.e)) (fun wr=>lenOf rb wr)
  case atStart=>exact ⟨s,H,hid_as (Kp.refl rb w),hid_as rfl,hid_as rfl⟩
  case round =>
    obtain ⟨s',R,K,P,E⟩:=hrel
    have L0:=hid_as R.out.lenOf
    by_cases q0:(Ilx.hd s'.L).1.tok=0
    · have Q0:=hid_as q0
      clear q0
      go_wp2_with (go_at_call 34;(with_reducible refine (C.out _ _ R.out).mono ?_);rintro e w1 ⟨_,rfl,⟨ta,tk,tn,tt,pl,t1,rfl⟩,b1⟩;obtain rfl:0=ta:=(by have q:=Q0.out;rw [t1] at q;exact q.symm);replace t1:=hid_as t1;replace b1:=hid_as b1)
      go_end0
      have r:=R.out.below b1.out
      have e1:Ilx.pt x.data.toList s.L=s'.L:=P.out.symm.trans (pt_end Q0.out)
      rw [e1,← E.out]
      exact ⟨rfl,K.out.below b1.out,r⟩
    · have Q0:=hid_as q0
      clear q0
      cases q:Ilx.iz s' x.data.toList with
      | true =>
        have Q:=hid_as q
        clear q
        go_wp2_with (first
          | (go_at_call 34;(with_reducible refine (C.out _ _ R.out).mono ?_);rintro e w1 ⟨_,rfl,⟨ta,tk,tn,tt,pl,t1,rfl⟩,b1⟩;have g1:((ta:Int) != 0)=true:=(by have q:=Q0.out;rw [t1] at q;have q:¬ ta=0:=q;simp only [bne_iff_ne,ne_eq];omega);replace t1:=hid_as t1;have R1:=hid_as (R.out.below b1);replace b1:=hid_as b1)
          | (go_at_call 37;(with_reducible refine (CY.out _ _ R1.out Q.out).mono ?_);rintro e w2 ⟨rfl,k2,r2⟩;replace r2:=hid_as r2;replace k2:=hid_as k2))
        go_end0
        have e1:Ilx.pt x.data.toList s.L=s'.L.tail:=P.out.symm.trans ((pt_cons R.out.wls Q0.out).trans (if_pos Q.out))
        have r:=r2.out
        rw [tk_tail Q0.out] at r
        rw [e1,← E.out]
        exact ⟨rfl,(K.out.below b1.out).trans k2.out,r⟩
      | false =>
        have Q:=hid_as q
        clear q
        go_wp2_with (first
          | (go_at_call 34;(with_reducible refine (C.out _ _ R.out).mono ?_);rintro e w1 ⟨_,rfl,⟨ta,tk,tn,tt,pl,t1,rfl⟩,b1⟩;have g1:((ta:Int) != 0)=true:=(by have q:=Q0.out;rw [t1] at q;have q:¬ ta=0:=q;simp only [bne_iff_ne,ne_eq];omega);replace t1:=hid_as t1;have R1:=hid_as (R.out.below b1);replace b1:=hid_as b1)
          | (go_at_call 37;(with_reducible refine (CN.out _ _ R1.out Q.out).mono ?_);rintro e w2 ⟨rfl,b2⟩;have R2:=hid_as (R1.out.below b2);replace b2:=hid_as (below_and b1.out b2))
          | (go_at_call 78;(with_reducible refine (D.out _ _ R2.out).mono ?_);rintro e w3 ⟨_,rfl,⟨ta3,tk3,tn3,tt3,pl3,t3,rfl⟩,k3,r3⟩;replace t3:=hid_as t3;replace r3:=hid_as r3;replace k3:=hid_as k3))
        go_roundw
        case rel =>
          have r:=r3.out
          rw [tk_tail Q0.out] at r
          have e1:Ilx.pt x.data.toList s'.L=Ilx.pt x.data.toList s'.L.tail:=(pt_cons R.out.wls Q0.out).trans (if_neg (by have q:=Q.out;unfold Ilx.iz at q;rw [q];exact Bool.false_ne_true))
          exact ⟨_,hid_as r,hid_as ((K.out.below b2.out).trans k3.out),hid_as (e1.symm.trans P.out),E⟩
        case measure =>
          have r:=r3.out
          rw [tk_tail Q0.out] at r
          rw [r.lenOf,L0.out]
          have:=List.length_pos_iff.2 R.out.wls.ne
          show s'.L.tail.length < s'.L.length
          rw [List.length_tail]
          omega
set_option maxRecDepth 100000 in
theorem told_c (o:ByteArray) (b n c:Nat) (zs:List ByteArray) (w:World) (hn:n=zs.length) (hbig:zs.length≤100) (hc:∀ j,j < zs.length→w.cell? ⟨b,j,none⟩=some (.string (zs.getD j ByteArray.empty))) (v:Bool) (hv:v=true ↔ o ∈ zs):Calls Tryz.prog 122 #[.string o,.slice (some ⟨b,0,none⟩) n c] w fun e w'=>e=.returned (.bool v)∧w'=w:=by
  have D:=hid_as (hasText b zs n c hn o w (by omega) hc v hv)
  clear hc hv hn
  go_enter Tryz.func122,Tryz.ntmps122
  go_wp2_with (go_at_call 121;(with_reducible refine (D.out).mono ?_);rintro e w2 ⟨rfl,rfl⟩)
  go_ret
  exact ⟨rfl,rfl⟩
theorem cells3 (w:World) (x y z:ByteArray) (t:TypeId):∀ j,j < ([x,y,z]:List ByteArray).length→(w.alloc (.cells #[.string x,.string y,.string z] t)).cell? ⟨w.heap.size,j,none⟩=some (.string (([x,y,z]:List ByteArray).getD j ByteArray.empty)):=by
  intro j hj
  have hj:j < 3:=hj
  obtain rfl | rfl | rfl:j=0 ∨ j=1 ∨ j=2:=by omega
  · exact (Bk.fresh w #[.string x,.string y,.string z] t).cell 0
  · exact (Bk.fresh w #[.string x,.string y,.string z] t).cell 1
  · exact (Bk.fresh w #[.string x,.string y,.string z] t).cell 2
set_option maxHeartbeats 2000000 in
set_option maxRecDepth 100000 in
theorem ibeginsLabel_c {w:World} {rb tb cap:Nat} {X:ByteArray} {T:TL} {A:Nat→Prop} {s:Ps} (h:Ir w rb tb cap X T A s):Calls Tryz.prog 80 #[.pointer (some ⟨rb,0,none⟩)] w fun e w'=>e=.returned (.bool (Ilx.bLab s))∧Below w.heap.size w w':=by
  have H:=hid_as h
  have C:=hid_as (fun W s (H:Ir W rb tb cap X T A s)=>now_t H)
  have F0:=fd0
  unfold Ilx.bLab
  by_cases q0:(Ilx.hd s.L).1.tok=2
  · rw [decide_eq_true q0]
    have h2:=wl_two h.wls (by rw [q0];decide)
    have Q0:=hid_as q0
    clear q0 h
    go_enter Tryz.func80,Tryz.ntmps80
    go_wp2_with (go_at_call 34;(with_reducible refine (C.out _ _ H.out).mono ?_);rintro e w1 ⟨_,rfl,⟨ta,tk,tn,tt,pl,t1,rfl⟩,b1⟩;obtain rfl:2=ta:=(by have q:=Q0.out;rw [t1] at q;exact q.symm);replace t1:=hid_as t1;have R1:=hid_as (H.out.below b1);replace b1:=hid_as b1;obtain ⟨i,v,e1,e2,bb,ee⟩:=R1.out.own;rw [e1,List.length_drop] at h2;have k3:=(cell_tk R1.out.laid (show i+1 < T.length by omega)).2.2.2.1;rw [Nat.add_mul,Nat.one_mul] at k3;have E3:Hid (Ilx.hd s.L.tail=cu T (i+1)):=(by rw [e1,List.tail_drop,hd_drop];exact hid_as rfl);have q1:1 < T.length - i:=(by omega);have q2:(1:Int) < (T.length - i:Nat):=(by omega);replace ee:=hid_as ee;replace e1:=hid_as e1;obtain ⟨r0,r1,r2⟩:=bk3 bb;have f1:=bb.fr 1)
    go_ret
    rw [E3.out]
    refine ⟨?_,b1.out⟩
    rw [Bool.true_and]
    rw [tx_toList]
    rfl
  · rw [decide_eq_false q0,Bool.false_and]
    have Q0:=hid_as q0
    clear q0 h
    go_enter Tryz.func80,Tryz.ntmps80
    go_wp2_with (go_at_call 34;(with_reducible refine (C.out _ _ H.out).mono ?_);rintro e w1 ⟨_,rfl,⟨ta,tk,tn,tt,pl,t1,rfl⟩,b1⟩;have g1:((ta:Int) == 2)=false:=(by have q:=Q0.out;rw [t1] at q;have q:¬ ta=2:=q;simp only [beq_eq_false_iff_ne,ne_eq];omega);replace t1:=hid_as t1;replace b1:=hid_as b1)
    go_ret
    exact ⟨rfl,b1.out⟩
theorem cells5 (w:World) (a b c d e:ByteArray) (t:TypeId):∀ j,j < ([a,b,c,d,e]:List ByteArray).length→(w.alloc (.cells #[.string a,.string b,.string c,.string d,.string e] t)).cell? ⟨w.heap.size,j,none⟩=some (.string (([a,b,c,d,e]:List ByteArray).getD j ByteArray.empty)):=by
  intro j hj
  have hj:j < 5:=hj
  obtain rfl | rfl | rfl | rfl | rfl:j=0 ∨ j=1 ∨ j=2 ∨ j=3 ∨ j=4:=by omega
  · exact (Bk.fresh w #[.string a,.string b,.string c,.string d,.string e] t).cell 0
  · exact (Bk.fresh w #[.string a,.string b,.string c,.string d,.string e] t).cell 1
  · exact (Bk.fresh w #[.string a,.string b,.string c,.string d,.string e] t).cell 2
  · exact (Bk.fresh w #[.string a,.string b,.string c,.string d,.string e] t).cell 3
  · exact (Bk.fresh w #[.string a,.string b,.string c,.string d,.string e] t).cell 4
theorem txt_eq {l:List UInt8} {x:ByteArray}:tx l=x ↔ (l == x.data.toList)=true:=by
  rw [txt_mem,List.mem_singleton]
theorem iz5 {s:Ps}:(Ilx.iz s [65,78,68] || (Ilx.iz s [79,82] || (Ilx.iz s [88,79,82] || (Ilx.iz s [78,79,84] || Ilx.iz s [77,79,68]))))=true ↔ tx (Ilx.hd s.L).1.text ∈ ([⟨#[65,78,68]⟩,⟨#[79,82]⟩,⟨#[88,79,82]⟩,⟨#[78,79,84]⟩,⟨#[77,79,68]⟩]:List ByteArray):=by
  rw [List.mem_cons,List.mem_cons,List.mem_cons,List.mem_cons,List.mem_singleton,txt_eq,txt_eq,txt_eq,txt_eq,txt_eq,Bool.or_eq_true,Bool.or_eq_true,Bool.or_eq_true,Bool.or_eq_true]
  rfl
set_option maxHeartbeats 2000000 in
set_option maxRecDepth 100000 in
theorem ibeginsOp_c {w:World} {rb tb cap:Nat} {X:ByteArray} {T:TL} {A:Nat→Prop} {s:Ps} (h:Ir w rb tb cap X T A s):Calls Tryz.prog 81 #[.pointer (some ⟨rb,0,none⟩)] w fun e w'=>e=.returned (.bool (Ilx.bOp s))∧Below w.heap.size w w':=by
  have H:=hid_as h
  have C:=hid_as (fun W s (H:Ir W rb tb cap X T A s)=>now_t H)
  have D:=hid_as (fun W s (H:Ir W rb tb cap X T A s)=>iis_c (H.alloc (.cells #[.string ⟨#[65,78,68]⟩,.string ⟨#[79,82]⟩,.string ⟨#[88,79,82]⟩,.string ⟨#[78,79,84]⟩,.string ⟨#[77,79,68]⟩] 9)) (n:=5) (c:=5) [⟨#[65,78,68]⟩,⟨#[79,82]⟩,⟨#[88,79,82]⟩,⟨#[78,79,84]⟩,⟨#[77,79,68]⟩] (by rw [World.size_alloc];omega) rfl (by simp) (cells5 W _ _ _ _ _ 9) _ (iz5 (s:=s)))
  have F0:=fd0
  unfold Ilx.bOp
  by_cases q0:(Ilx.hd s.L).1.tok=2
  · rw [decide_eq_true q0,Bool.true_or]
    have Q0:=hid_as q0
    clear q0 h
    go_enter Tryz.func81,Tryz.ntmps81
    go_wp2_with (go_at_call 34;(with_reducible refine (C.out _ _ H.out).mono ?_);rintro e w1 ⟨_,rfl,⟨ta,tk,tn,tt,pl,t1,rfl⟩,b1⟩;obtain rfl:2=ta:=(by have q:=Q0.out;rw [t1] at q;exact q.symm);replace t1:=hid_as t1;replace b1:=hid_as b1)
    go_ret
    exact ⟨rfl,b1.out⟩
  · rw [decide_eq_false q0,Bool.false_or]
    have Q0:=hid_as q0
    clear q0 h
    go_enter Tryz.func81,Tryz.ntmps81
    go_wp2_with (first
      | (go_at_call 34;(with_reducible refine (C.out _ _ H.out).mono ?_);rintro e w1 ⟨_,rfl,⟨ta,tk,tn,tt,pl,t1,rfl⟩,b1⟩;have g1:((ta:Int) == 2)=false:=(by have q:=Q0.out;rw [t1] at q;have q:¬ ta=2:=q;simp only [beq_eq_false_iff_ne,ne_eq];omega);replace t1:=hid_as t1;have R1:=hid_as (H.out.below b1);replace b1:=hid_as b1)
      | (go_at_call 76;(with_reducible refine (D.out _ _ R1.out).mono ?_);rintro e w2 ⟨rfl,b2⟩;replace b2:=hid_as (below_and (below_and b1.out (below_new1 w1 _)) b2)))
    go_ret
    exact ⟨rfl,b2.out⟩
end Go.Proofs.YtapcpjidgemggaaGreatDoor
