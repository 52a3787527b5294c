/- The reader of Instruction List: an operand (stage 14). -/
import Derived.Test.YtapcpjidgemggaaGreatDoorQ26
namespace Go.Proofs.YtapcpjidgemggaaGreatDoor
open Go.RowKit
open Adr Lx Sx
open Ilx (Ps Wl)
theorem EW.deeper {S:Nat→Prop} {w:World}:∀ {d d':Nat} {v:Value} {t:Tr},EW S d w v t→d≤d'→EW S d' w v t
  | 0,_,_,_,h,_=>h.elim
  | d+1,0,_,_,_,hd=>by omega
  | d+1,d'+1,v,t,⟨nd,lp,ln,lc,p,h1,h2,hl,h3⟩,hd=>by
    refine ⟨nd,lp,ln,lc,p,h1,h2,hl,?_⟩
    rcases h3 with h3 | ⟨g,a,b,b2,c,e,fz,f⟩
    · exact Or.inl h3
    · refine Or.inr ⟨g,a,b,b2,c,e,fz,fun j hj=>?_⟩
      obtain ⟨o,k,n,nm,fl,lp,ln,lc,p,x,y⟩:=f j hj
      exact ⟨o,k,n,nm,fl,lp,ln,lc,p,x,EW.deeper y (by omega)⟩
/-- A tree in memory, its places any, at some depth. -/
def Ew (S:Nat→Prop) (w:World) (v:Value) (t:Tr):Prop:=∃ d,EW S d w v t
theorem Ew.into {S S':Nat→Prop} {w:World} {v:Value} {t:Tr} (h:Ew S w v t) (hb:∀ x,S x→x < w.heap.size→S' x):Ew S' w v t:=by
  obtain ⟨d,h⟩:=h
  exact ⟨d,h.into hb⟩
theorem Ew.keep {S:Nat→Prop} {w w':World} {v:Value} {t:Tr} (h:Ew S w v t) (hs:w.heap.size≤w'.heap.size) (hb:∀ x,S x→x < w.heap.size→w'.heap[x]?=w.heap[x]?):Ew S w' v t:=by
  obtain ⟨d,h⟩:=h
  exact ⟨d,h.keep hs hb⟩
theorem Ew.kp {S:Nat→Prop} {rb:Nat} {w w':World} {v:Value} {t:Tr} (h:Ew S w v t) (k:Kp rb w w') (hr:¬ S rb):Ew S w' v t:=h.keep k.size (fun x hx hl=>k.block x hl (fun e=>hr (e ▸ hx)))
theorem Ew.below {S:Nat→Prop} {w w':World} {v:Value} {t:Tr} (h:Ew S w v t) (k:Below w.heap.size w w'):Ew S w' v t:=h.keep k.size (fun x _ hl=>k.block x hl)
theorem Ew.alloc {S:Nat→Prop} {w:World} {v:Value} {t:Tr} (h:Ew S w v t) (o:Obj):Ew S (w.alloc o) v t:=h.below (below_new1 w o)
theorem Ew.set {S:Nat→Prop} {w:World} {v:Value} {t:Tr} {g:Nat} (h:Ew S w v t) (hg:¬ S g) (j:Nat) (x:Value):Ew S (w.setCell ⟨g,j,none⟩ x) v t :=
  h.keep (by simp [World.setCell]) (fun y hy _=>Below.heap_setCell w ⟨g,j,none⟩ x y (fun (e:y=g)=>hg (e ▸ hy)))
theorem Ew.set7 {S:Nat→Prop} {w:World} {v:Value} {t:Tr} {g:Nat} (h:Ew S w v t) (hg:¬ S g) (a b c d e f x:Value):Ew S (((((((w.setCell ⟨g,0,none⟩ a).setCell ⟨g,1,none⟩ b).setCell ⟨g,2,none⟩ c).setCell ⟨g,3,none⟩ d).setCell ⟨g,4,none⟩ e).setCell ⟨g,5,none⟩ f).setCell ⟨g,6,none⟩ x) v t :=
  ((((((h.set hg 0 a).set hg 1 b).set hg 2 c).set hg 3 d).set hg 4 e).set hg 5 f).set hg 6 x
theorem iexprFrom_c {w:World} {rb tb cap:Nat} {X:ByteArray} {T:TL} {A:Nat→Prop} {s:Ps} (h:Ir w rb tb cap X T A s) (hA:∀ x,w.heap.size≤x→A x) (hT:Tabs w) (hx:X.size≤900000) (hX:toks X.data.toList true=(T,none)) (L:TL) (h1:L <:+ T) (h2:s.L <:+ L) :
    Calls Tryz.prog 154 #[.pointer (some ⟨rb,0,none⟩),.int .i64 (Ilx.hd L).2] w fun e w'=>∃ (o k n:Int) (nm fl:ByteArray) (lp:Option Addr) (ln lc:Nat) (p:Int),e=.returned (.agg #[.int .i64 o,.int .i64 k,.int .i64 n,.string nm,.string fl,.slice lp ln lc,.int .i64 p])∧Ew (fun x=>w.heap.size≤x) w' (.agg #[.int .i64 o,.int .i64 k,.int .i64 n,.string nm,.string fl,.slice lp ln lc,.int .i64 p]) (Ilx.xfT L s)∧Kp rb w w'∧Ir w' rb tb cap X T A (Ilx.xfS L s):=by
  unfold Ilx.xfT Ilx.xfS
  cases ht:(onl (Ilx.pcT L s.L)).v with
  | none =>
    refine (iexprFrom_n h hA hT hx hX L h1 h2 ht).mono ?_
    rintro e w' ⟨p,rfl,k,r⟩
    exact ⟨_,_,_,_,_,_,_,_,p,rfl,⟨1,⟨0,0,0,[],[],0,0⟩,none,0,0,p,rfl,rfl,rfl,Or.inl ⟨rfl,rfl,rfl⟩⟩,k,r⟩
  | some t =>
    refine (iexprFrom_y h hT hx hX L h1 h2 ht).mono ?_
    rintro e w' ⟨o,k,n,nm,fl,lp,ln,lc,p,rfl,⟨d,he⟩,k'⟩
    exact ⟨_,_,_,_,_,_,_,_,p,rfl,⟨d,he.into (fun x (hx:w.heap.size < x) _=>by show w.heap.size≤x;omega)⟩,Kp.of k',h.below k'⟩
theorem is1 {w:World} {rb tb cap:Nat} {X:ByteArray} {T:TL} {A:Nat→Prop} {s:Ps} (h:Ir w rb tb cap X T A s) (x:ByteArray):Calls Tryz.prog 76 #[.pointer (some ⟨rb,0,none⟩),.slice (some ⟨w.heap.size,0,none⟩) 1 1] (w.alloc (.cells #[.string x] 9)) fun e w'=>e=.returned (.bool (Ilx.iz s x.data.toList))∧Below w.heap.size w w' :=
  (iis_c (h.alloc (.cells #[.string x] 9)) (n:=1) (c:=1) [x] (by rw [World.size_alloc];omega) rfl (by simp) (cells1 w x 9) _ txt_mem).mono fun e w' hw=>⟨hw.1,below_and (below_new1 w _) hw.2⟩
theorem takeOf1 {w:World} {rb tb cap:Nat} {X:ByteArray} {T:TL} {A:Nat→Prop} {s:Ps} (h:Ir w rb tb cap X T A s) (hA:∀ x,w.heap.size≤x→A x) (k:Nat):Calls Tryz.prog 40 #[.pointer (some ⟨rb,0,none⟩),.slice (some ⟨w.heap.size,0,none⟩) 1 1] (w.alloc (.cells #[.int .i64 k] 3)) fun e w'=>∃ v,e=.returned v∧Tn (Ilx.hd (Ilx.tq s [k]).L) v∧Kp rb w w'∧Ir w' rb tb cap X T A (Ilx.tk (Ilx.tq s [k])) :=
  (itakeOf_c (h.alloc (.cells #[.int .i64 k] 3)) (hA_le hA (by rw [World.size_alloc];omega)) (n:=1) (c:=1) [k] (by rw [World.size_alloc];omega) rfl (by simp) (ints1 w k 3)).mono fun e w' ⟨v,a,b,c,d⟩=>⟨v,a,b,((Kp.refl rb w).alloc _).trans c,d⟩
theorem takeOf2 {w:World} {rb tb cap:Nat} {X:ByteArray} {T:TL} {A:Nat→Prop} {s:Ps} (h:Ir w rb tb cap X T A s) (hA:∀ x,w.heap.size≤x→A x) (k m:Nat):Calls Tryz.prog 40 #[.pointer (some ⟨rb,0,none⟩),.slice (some ⟨w.heap.size,0,none⟩) 2 2] (w.alloc (.cells #[.int .i64 k,.int .i64 m] 3)) fun e w'=>∃ v,e=.returned v∧Tn (Ilx.hd (Ilx.tq s [k,m]).L) v∧Kp rb w w'∧Ir w' rb tb cap X T A (Ilx.tk (Ilx.tq s [k,m])) :=
  (itakeOf_c (h.alloc (.cells #[.int .i64 k,.int .i64 m] 3)) (hA_le hA (by rw [World.size_alloc];omega)) (n:=2) (c:=2) [k,m] (by rw [World.size_alloc];omega) rfl (by simp) (ints2 w k m 3)).mono fun e w' ⟨v,a,b,c,d⟩=>⟨v,a,b,((Kp.refl rb w).alloc _).trans c,d⟩
theorem takeOf_2 {w:World} {rb tb cap:Nat} {X:ByteArray} {T:TL} {A:Nat→Prop} {s:Ps} (h:Ir w rb tb cap X T A s) (hA:∀ x,w.heap.size≤x→A x):Calls Tryz.prog 40 #[.pointer (some ⟨rb,0,none⟩),.slice (some ⟨w.heap.size,0,none⟩) 1 1] (w.alloc (.cells #[.int .i64 2] 3)) fun e w'=>∃ v,e=.returned v∧Tn (Ilx.hd (Ilx.tq s [2]).L) v∧Kp rb w w'∧Ir w' rb tb cap X T A (Ilx.tk (Ilx.tq s [2])):=takeOf1 h hA 2
theorem takeOf_3 {w:World} {rb tb cap:Nat} {X:ByteArray} {T:TL} {A:Nat→Prop} {s:Ps} (h:Ir w rb tb cap X T A s) (hA:∀ x,w.heap.size≤x→A x):Calls Tryz.prog 40 #[.pointer (some ⟨rb,0,none⟩),.slice (some ⟨w.heap.size,0,none⟩) 1 1] (w.alloc (.cells #[.int .i64 3] 3)) fun e w'=>∃ v,e=.returned v∧Tn (Ilx.hd (Ilx.tq s [3]).L) v∧Kp rb w w'∧Ir w' rb tb cap X T A (Ilx.tk (Ilx.tq s [3])):=takeOf1 h hA 3
theorem takeOf_0 {w:World} {rb tb cap:Nat} {X:ByteArray} {T:TL} {A:Nat→Prop} {s:Ps} (h:Ir w rb tb cap X T A s) (hA:∀ x,w.heap.size≤x→A x):Calls Tryz.prog 40 #[.pointer (some ⟨rb,0,none⟩),.slice (some ⟨w.heap.size,0,none⟩) 1 1] (w.alloc (.cells #[.int .i64 0] 3)) fun e w'=>∃ v,e=.returned v∧Tn (Ilx.hd (Ilx.tq s [0]).L) v∧Kp rb w w'∧Ir w' rb tb cap X T A (Ilx.tk (Ilx.tq s [0])):=takeOf1 h hA 0
theorem takeOf_34 {w:World} {rb tb cap:Nat} {X:ByteArray} {T:TL} {A:Nat→Prop} {s:Ps} (h:Ir w rb tb cap X T A s) (hA:∀ x,w.heap.size≤x→A x):Calls Tryz.prog 40 #[.pointer (some ⟨rb,0,none⟩),.slice (some ⟨w.heap.size,0,none⟩) 2 2] (w.alloc (.cells #[.int .i64 3,.int .i64 4] 3)) fun e w'=>∃ v,e=.returned v∧Tn (Ilx.hd (Ilx.tq s [3,4]).L) v∧Kp rb w w'∧Ir w' rb tb cap X T A (Ilx.tk (Ilx.tq s [3,4])):=takeOf2 h hA 3 4
theorem pix_end {o:Int} {L:TL} (h:(Ilx.hd L).1.tok=0):Ilx.pix o L=L:=by
  cases L with
  | nil=>rfl
  | cons t L=>exact if_pos h
theorem pix_ln {o:Int} {L:TL} (h0:¬ (Ilx.hd L).1.tok=0) (h:((Ilx.hd L).1.text == [10])=true):Ilx.pix o L=L:=by
  cases L with
  | nil=>rfl
  | cons t L =>
    have h0:¬ t.1.tok=0:=h0
    have h:(t.1.text == [10])=true:=h
    unfold Ilx.pix
    rw [if_neg h0,if_pos h]
theorem pix_go {o:Int} {L:TL} (hw:Wl L) (h0:¬ (Ilx.hd L).1.tok=0) (h:((Ilx.hd L).1.text == [10])=false):Ilx.pix o L=if Ilx.op1 (Ilx.hd L).1.text o=0 then L.tail else Ilx.pix (Ilx.op1 (Ilx.hd L).1.text o) L.tail:=by
  cases L with
  | nil=>exact absurd rfl hw.ne
  | cons t L =>
    have h0:¬ t.1.tok=0:=h0
    have h:¬ (t.1.text == [10])=true:=by have h:(t.1.text == [10])=false:=h;rw [h];exact Bool.false_ne_true
    show Ilx.pix o (t :: L)=if Ilx.op1 t.1.text o=0 then L else Ilx.pix (Ilx.op1 t.1.text o) L
    rw [Ilx.pix,if_neg h0,if_neg h]
set_option maxHeartbeats 4000000 in
set_option maxRecDepth 100000 in
theorem ipassIndex_c {w:World} {rb tb cap:Nat} {X:ByteArray} {T:TL} {A:Nat→Prop} {s:Ps} (h:Ir w rb tb cap X T A s):Calls Tryz.prog 168 #[.pointer (some ⟨rb,0,none⟩)] w fun e w'=>e=.returned (.tuple #[])∧Kp rb w w'∧Ir w' rb tb cap X T A ⟨Ilx.pix 0 s.L,s.e⟩:=by
  have H:=hid_as h
  have hlen:s.L.length≤1000000:=Nat.le_trans h.sfx.length_le h.len
  have C:=hid_as (fun W s (H:Ir W rb tb cap X T A s)=>now_t H)
  have D:=hid_as (fun W s (H:Ir W rb tb cap X T A s)=>take_t H)
  have I1:=hid_as (fun W s (H:Ir W rb tb cap X T A s)=>is1 H ⟨#[10]⟩)
  have F0:=fd0
  have F3:=fd3
  clear h
  go_enter Tryz.func168,Tryz.ntmps168
  go_wp2
  go_loopw [2] (fun u wr=>∃ (oi:Int) (s':Ps),u=.int .i64 oi∧-(1000000 - (s'.L.length:Int))≤oi∧oi≤1000000 - (s'.L.length:Int)∧s'.L.length≤1000000∧Hid (Ir wr rb tb cap X T A s')∧Hid (Kp rb w wr)∧Hid (Ilx.pix oi s'.L=Ilx.pix 0 s.L)∧Hid (s'.e=s.e)) (fun _ wr=>lenOf rb wr)
  case atStart=>exact ⟨0,s,rfl,by omega,by omega,hlen,H,hid_as (Kp.refl rb w),hid_as rfl,hid_as rfl⟩
  case round =>
    obtain ⟨oi,s',rfl,hlo,hhi,hle,R,K,P,E⟩:=hrel
    have L0:=hid_as R.out.lenOf
    have hpos:=List.length_pos_iff.2 R.out.wls.ne
    by_cases q0:(Ilx.hd s'.L).1.tok=0
    · have Q0:=hid_as q0
      clear q0
      go_wp2_with (go_at_call 34;(with_reducible refine (C.out _ _ R.out).mono ?_);rintro e w1 ⟨_,rfl,⟨ta,tk,tn,tt,pl,t1,rfl⟩,b1⟩;obtain rfl:0=ta:=(by have q:=Q0.out;rw [t1] at q;exact q.symm);replace t1:=hid_as t1;replace b1:=hid_as b1)
      go_end0
      have r:=R.out.below b1.out
      have e1:Ilx.pix 0 s.L=s'.L:=P.out.symm.trans (pix_end Q0.out)
      rw [e1,← E.out]
      exact ⟨rfl,K.out.below b1.out,r⟩
    · have Q0 := hid_as q0
      clear q0
      cases q:Ilx.iz s' [10] with
      | true =>
        have Q:=hid_as q
        have J1:Hid (∀ W,Ir W rb tb cap X T A s'→Calls Tryz.prog 76 #[.pointer (some ⟨rb,0,none⟩),.slice (some ⟨W.heap.size,0,none⟩) 1 1] (W.alloc (.cells #[.string ⟨#[10]⟩] 9)) fun e w'=>e=.returned (.bool true)∧Below W.heap.size W w'):=hid_as fun W HW=>by
          have z:=I1.out W s' HW
          rw [show Ilx.iz s' (⟨#[10]⟩:ByteArray).data.toList=true from q] at z
          exact z
        clear q
        go_wp2_with (first
          | (go_at_call 34;(with_reducible refine (C.out _ _ R.out).mono ?_);rintro e w1 ⟨_,rfl,⟨ta,tk,tn,tt,pl,t1,rfl⟩,b1⟩;have g1:((ta:Int) != 0)=true:=(by have q:=Q0.out;rw [t1] at q;have q:¬ ta=0:=q;simp only [bne_iff_ne,ne_eq];omega);replace t1:=hid_as t1;have R1:=hid_as (R.out.below b1);replace b1:=hid_as b1)
          | (go_at_call 76;(with_reducible refine (J1.out _ R1.out).mono ?_);rintro e w2 ⟨rfl,b2⟩;replace b2:=hid_as (below_and b1.out b2)))
        go_end0
        have r:=R.out.below b2.out
        have e1:Ilx.pix 0 s.L=s'.L:=P.out.symm.trans (pix_ln Q0.out Q.out)
        rw [e1,← E.out]
        exact ⟨rfl,K.out.below b2.out,r⟩
      | false =>
        have Q:=hid_as q
        have J1:Hid (∀ W,Ir W rb tb cap X T A s'→Calls Tryz.prog 76 #[.pointer (some ⟨rb,0,none⟩),.slice (some ⟨W.heap.size,0,none⟩) 1 1] (W.alloc (.cells #[.string ⟨#[10]⟩] 9)) fun e w'=>e=.returned (.bool false)∧Below W.heap.size W w'):=hid_as fun W HW=>by
          have z:=I1.out W s' HW
          rw [show Ilx.iz s' (⟨#[10]⟩:ByteArray).data.toList=false from q] at z
          exact z
        have PG:=hid_as (pix_go (o:=oi) R.out.wls Q0.out q)
        have TL:=hid_as (tk_tail Q0.out)
        clear q
        have lt:s'.L.tail.length+1=s'.L.length:=by rw [List.length_tail];omega
        cases qo:(Ilx.hd s'.L).1.text == [91] with
        | true =>
          have QO:=hid_as qo
          have OP:Hid (Ilx.op1 (Ilx.hd s'.L).1.text oi=oi+1):=hid_as (by unfold Ilx.op1;rw [qo,if_pos rfl])
          clear qo
          by_cases hz:oi+1=0
          · have gz:(oi+1 == 0)=true:=by rw [beq_iff_eq];exact hz
            have HZ:=hid_as hz
            clear hz
            go_wp2_with (first
              | (go_at_call 34;(with_reducible refine (C.out _ _ R.out).mono ?_);rintro e w1 ⟨_,rfl,⟨ta,tk,tn,tt,pl,t1,rfl⟩,b1⟩;have g1:((ta:Int) != 0)=true:=(by have q:=Q0.out;rw [t1] at q;have q:¬ ta=0:=q;simp only [bne_iff_ne,ne_eq];omega);replace t1:=hid_as t1;have R1:=hid_as (R.out.below b1);replace b1:=hid_as b1)
              | (go_at_call 76;(with_reducible refine (J1.out _ R1.out).mono ?_);rintro e w2 ⟨rfl,b2⟩;have R2:=hid_as (R1.out.below b2);replace b2:=hid_as (below_and b1.out b2))
              | (go_at_call 78;(with_reducible refine (D.out _ _ R2.out).mono ?_);rintro e w3 ⟨_,rfl,⟨ta3,tk3,tn3,tt3,pl3,t3,rfl⟩,k3,r3⟩;have go:((tx tt3).toList == [91])=true:=(by rw [tx_toList];have q:=QO.out;rw [t3] at q;exact q);replace t3:=hid_as t3;replace r3:=hid_as r3;replace k3:=hid_as k3))
            (try simp only [Exit.inBlock,Exit.then]);refine bodyPost_ret (results_none rfl _ _ _) rfl ?_
            have r:=r3.out
            rw [TL.out] at r
            have e1:Ilx.pix 0 s.L=s'.L.tail:=by rw [← P.out,PG.out,OP.out,if_pos HZ.out]
            rw [e1,← E.out]
            exact ⟨rfl,(K.out.below b2.out).trans k3.out,r⟩
          · have gz:(oi+1 == 0)=false:=by rw [beq_eq_false_iff_ne];exact hz
            have HZ:=hid_as hz
            clear hz
            go_wp2_with (first
              | (go_at_call 34;(with_reducible refine (C.out _ _ R.out).mono ?_);rintro e w1 ⟨_,rfl,⟨ta,tk,tn,tt,pl,t1,rfl⟩,b1⟩;have g1:((ta:Int) != 0)=true:=(by have q:=Q0.out;rw [t1] at q;have q:¬ ta=0:=q;simp only [bne_iff_ne,ne_eq];omega);replace t1:=hid_as t1;have R1:=hid_as (R.out.below b1);replace b1:=hid_as b1)
              | (go_at_call 76;(with_reducible refine (J1.out _ R1.out).mono ?_);rintro e w2 ⟨rfl,b2⟩;have R2:=hid_as (R1.out.below b2);replace b2:=hid_as (below_and b1.out b2))
              | (go_at_call 78;(with_reducible refine (D.out _ _ R2.out).mono ?_);rintro e w3 ⟨_,rfl,⟨ta3,tk3,tn3,tt3,pl3,t3,rfl⟩,k3,r3⟩;have go:((tx tt3).toList == [91])=true:=(by rw [tx_toList];have q:=QO.out;rw [t3] at q;exact q);replace t3:=hid_as t3;replace r3:=hid_as r3;replace k3:=hid_as k3))
            go_roundw
            case rel =>
              have r:=r3.out
              rw [TL.out] at r
              exact ⟨oi+1,_,by first | rfl | go_num,by show -(1000000 - (s'.L.tail.length:Int))≤_;omega,by show _≤1000000 - (s'.L.tail.length:Int);omega,by show s'.L.tail.length≤_;omega,hid_as r,hid_as ((K.out.below b2.out).trans k3.out),hid_as (by rw [← P.out,PG.out,OP.out,if_neg HZ.out]),E⟩
            case measure =>
              have r:=r3.out
              rw [TL.out] at r
              rw [r.lenOf,L0.out]
              show s'.L.tail.length < s'.L.length
              omega
        | false =>
          have QO:=hid_as qo
          cases qc:(Ilx.hd s'.L).1.text == [93] with
          | true =>
            have QC:=hid_as qc
            have OP:Hid (Ilx.op1 (Ilx.hd s'.L).1.text oi=oi - 1):=hid_as (by unfold Ilx.op1;rw [qo,if_neg Bool.false_ne_true,qc,if_pos rfl])
            clear qo qc
            by_cases hz:oi - 1=0
            · have gz:(oi - 1 == 0)=true:=by rw [beq_iff_eq];exact hz
              have HZ:=hid_as hz
              clear hz
              go_wp2_with (first
                | (go_at_call 34;(with_reducible refine (C.out _ _ R.out).mono ?_);rintro e w1 ⟨_,rfl,⟨ta,tk,tn,tt,pl,t1,rfl⟩,b1⟩;have g1:((ta:Int) != 0)=true:=(by have q:=Q0.out;rw [t1] at q;have q:¬ ta=0:=q;simp only [bne_iff_ne,ne_eq];omega);replace t1:=hid_as t1;have R1:=hid_as (R.out.below b1);replace b1:=hid_as b1)
                | (go_at_call 76;(with_reducible refine (J1.out _ R1.out).mono ?_);rintro e w2 ⟨rfl,b2⟩;have R2:=hid_as (R1.out.below b2);replace b2:=hid_as (below_and b1.out b2))
                | (go_at_call 78;(with_reducible refine (D.out _ _ R2.out).mono ?_);rintro e w3 ⟨_,rfl,⟨ta3,tk3,tn3,tt3,pl3,t3,rfl⟩,k3,r3⟩;have go:((tx tt3).toList == [91])=false:=(by rw [tx_toList];have q:=QO.out;rw [t3] at q;exact q);have gc:((tx tt3).toList == [93])=true:=(by rw [tx_toList];have q:=QC.out;rw [t3] at q;exact q);replace t3:=hid_as t3;replace r3:=hid_as r3;replace k3:=hid_as k3))
              (try simp only [Exit.inBlock,Exit.then]);refine bodyPost_ret (results_none rfl _ _ _) rfl ?_
              have r:=r3.out
              rw [TL.out] at r
              have e1:Ilx.pix 0 s.L=s'.L.tail:=by rw [← P.out,PG.out,OP.out,if_pos HZ.out]
              rw [e1,← E.out]
              exact ⟨rfl,(K.out.below b2.out).trans k3.out,r⟩
            · have gz:(oi - 1 == 0)=false:=by rw [beq_eq_false_iff_ne];exact hz
              have HZ:=hid_as hz
              clear hz
              go_wp2_with (first
                | (go_at_call 34;(with_reducible refine (C.out _ _ R.out).mono ?_);rintro e w1 ⟨_,rfl,⟨ta,tk,tn,tt,pl,t1,rfl⟩,b1⟩;have g1:((ta:Int) != 0)=true:=(by have q:=Q0.out;rw [t1] at q;have q:¬ ta=0:=q;simp only [bne_iff_ne,ne_eq];omega);replace t1:=hid_as t1;have R1:=hid_as (R.out.below b1);replace b1:=hid_as b1)
                | (go_at_call 76;(with_reducible refine (J1.out _ R1.out).mono ?_);rintro e w2 ⟨rfl,b2⟩;have R2:=hid_as (R1.out.below b2);replace b2:=hid_as (below_and b1.out b2))
                | (go_at_call 78;(with_reducible refine (D.out _ _ R2.out).mono ?_);rintro e w3 ⟨_,rfl,⟨ta3,tk3,tn3,tt3,pl3,t3,rfl⟩,k3,r3⟩;have go:((tx tt3).toList == [91])=false:=(by rw [tx_toList];have q:=QO.out;rw [t3] at q;exact q);have gc:((tx tt3).toList == [93])=true:=(by rw [tx_toList];have q:=QC.out;rw [t3] at q;exact q);replace t3:=hid_as t3;replace r3:=hid_as r3;replace k3:=hid_as k3))
              go_roundw
              case rel =>
                have r:=r3.out
                rw [TL.out] at r
                exact ⟨oi - 1,_,by first | rfl | go_num,by show -(1000000 - (s'.L.tail.length:Int))≤_;omega,by show _≤1000000 - (s'.L.tail.length:Int);omega,by show s'.L.tail.length≤_;omega,hid_as r,hid_as ((K.out.below b2.out).trans k3.out),hid_as (by rw [← P.out,PG.out,OP.out,if_neg HZ.out]),E⟩
              case measure =>
                have r:=r3.out
                rw [TL.out] at r
                rw [r.lenOf,L0.out]
                show s'.L.tail.length < s'.L.length
                omega
          | false =>
            have QC:=hid_as qc
            have OP:Hid (Ilx.op1 (Ilx.hd s'.L).1.text oi=oi):=hid_as (by unfold Ilx.op1;rw [qo,if_neg Bool.false_ne_true,qc,if_neg Bool.false_ne_true])
            clear qo qc
            by_cases hz:oi=0
            · have gz:(oi == 0)=true:=by rw [beq_iff_eq];exact hz
              have HZ:=hid_as hz
              clear hz
              go_wp2_with (first
                | (go_at_call 34;(with_reducible refine (C.out _ _ R.out).mono ?_);rintro e w1 ⟨_,rfl,⟨ta,tk,tn,tt,pl,t1,rfl⟩,b1⟩;have g1:((ta:Int) != 0)=true:=(by have q:=Q0.out;rw [t1] at q;have q:¬ ta=0:=q;simp only [bne_iff_ne,ne_eq];omega);replace t1:=hid_as t1;have R1:=hid_as (R.out.below b1);replace b1:=hid_as b1)
                | (go_at_call 76;(with_reducible refine (J1.out _ R1.out).mono ?_);rintro e w2 ⟨rfl,b2⟩;have R2:=hid_as (R1.out.below b2);replace b2:=hid_as (below_and b1.out b2))
                | (go_at_call 78;(with_reducible refine (D.out _ _ R2.out).mono ?_);rintro e w3 ⟨_,rfl,⟨ta3,tk3,tn3,tt3,pl3,t3,rfl⟩,k3,r3⟩;have go:((tx tt3).toList == [91])=false:=(by rw [tx_toList];have q:=QO.out;rw [t3] at q;exact q);have gc:((tx tt3).toList == [93])=false:=(by rw [tx_toList];have q:=QC.out;rw [t3] at q;exact q);replace t3:=hid_as t3;replace r3:=hid_as r3;replace k3:=hid_as k3))
              (try simp only [Exit.inBlock,Exit.then]);refine bodyPost_ret (results_none rfl _ _ _) rfl ?_
              have r:=r3.out
              rw [TL.out] at r
              have e1:Ilx.pix 0 s.L=s'.L.tail:=by rw [← P.out,PG.out,OP.out,if_pos HZ.out]
              rw [e1,← E.out]
              exact ⟨rfl,(K.out.below b2.out).trans k3.out,r⟩
            · have gz:(oi == 0)=false:=by rw [beq_eq_false_iff_ne];exact hz
              have HZ:=hid_as hz
              clear hz
              go_wp2_with (first
                | (go_at_call 34;(with_reducible refine (C.out _ _ R.out).mono ?_);rintro e w1 ⟨_,rfl,⟨ta,tk,tn,tt,pl,t1,rfl⟩,b1⟩;have g1:((ta:Int) != 0)=true:=(by have q:=Q0.out;rw [t1] at q;have q:¬ ta=0:=q;simp only [bne_iff_ne,ne_eq];omega);replace t1:=hid_as t1;have R1:=hid_as (R.out.below b1);replace b1:=hid_as b1)
                | (go_at_call 76;(with_reducible refine (J1.out _ R1.out).mono ?_);rintro e w2 ⟨rfl,b2⟩;have R2:=hid_as (R1.out.below b2);replace b2:=hid_as (below_and b1.out b2))
                | (go_at_call 78;(with_reducible refine (D.out _ _ R2.out).mono ?_);rintro e w3 ⟨_,rfl,⟨ta3,tk3,tn3,tt3,pl3,t3,rfl⟩,k3,r3⟩;have go:((tx tt3).toList == [91])=false:=(by rw [tx_toList];have q:=QO.out;rw [t3] at q;exact q);have gc:((tx tt3).toList == [93])=false:=(by rw [tx_toList];have q:=QC.out;rw [t3] at q;exact q);replace t3:=hid_as t3;replace r3:=hid_as r3;replace k3:=hid_as k3))
              go_roundw
              case rel =>
                have r:=r3.out
                rw [TL.out] at r
                exact ⟨oi,_,by first | rfl | go_num,by show -(1000000 - (s'.L.tail.length:Int))≤_;omega,by show _≤1000000 - (s'.L.tail.length:Int);omega,by show s'.L.tail.length≤_;omega,hid_as r,hid_as ((K.out.below b2.out).trans k3.out),hid_as (by rw [← P.out,PG.out,OP.out,if_neg HZ.out]),E⟩
              case measure =>
                have r:=r3.out
                rw [TL.out] at r
                rw [r.lenOf,L0.out]
                show s'.L.tail.length < s'.L.length
                omega
theorem EWplain (S:Nat→Prop) (w:World) (t:Tk × Nat) (p:Int):Ew S w (.agg #[.int .i64 2,.int .i64 0,.int .i64 0,.string (tx t.1.text),.string ⟨#[]⟩,.slice none 0 0,.int .i64 p]) (plainV t):=⟨1,⟨2,0,0,t.1.text,[],t.2,0⟩,none,0,0,p,rfl,rfl,rfl,Or.inl ⟨rfl,rfl,rfl⟩⟩
set_option maxHeartbeats 4000000 in
set_option maxRecDepth 100000 in
theorem ipassVar_c {w:World} {rb tb cap:Nat} {X:ByteArray} {T:TL} {A:Nat→Prop} {s:Ps} (h:Ir w rb tb cap X T A s) (hA:∀ x,w.heap.size≤x→A x):Calls Tryz.prog 153 #[.pointer (some ⟨rb,0,none⟩)] w fun e w'=>e=.returned (.tuple #[])∧Kp rb w w'∧Ir w' rb tb cap X T A (Ilx.pv s):=by
  have H:=hid_as h
  have HA:=hid_as hA
  have C:=hid_as (take_t h)
  have D:=hid_as (fun W s (H:Ir W rb tb cap X T A s) (hA:∀ x,W.heap.size≤x→A x)=>takeOf_2 H hA)
  have AY:=hid_as (fun W s (H:Ir W rb tb cap X T A s) q=>iaccept_y H ⟨#[46]⟩ q)
  have AN:=hid_as (fun W s (H:Ir W rb tb cap X T A s) q=>iaccept_n H ⟨#[46]⟩ q)
  have I1:=hid_as (fun W s (H:Ir W rb tb cap X T A s)=>is1 H ⟨#[91]⟩)
  have PX:=hid_as (fun W s (H:Ir W rb tb cap X T A s)=>ipassIndex_c H)
  unfold Ilx.pv
  clear h hA
  cases q:Ilx.iz (Ilx.tk s) [46] with
  | true =>
    rw [if_pos rfl]
    have Q:=hid_as q
    clear q
    go_enter Tryz.func153,Tryz.ntmps153
    go_wp2_with (first
      | (go_at_call 78;(with_reducible refine C.out.mono ?_);rintro e w1 ⟨_,rfl,⟨ta,tk,tn,tt,pl,t1,rfl⟩,k1,r1⟩;replace t1:=hid_as t1;have R1:=hid_as r1;have K1:=hid_as k1;clear r1 k1)
      | (go_at_call 37;(with_reducible refine (AY.out _ _ R1.out Q.out).mono ?_);rintro e w2 ⟨rfl,k2,r2⟩;have R2:=hid_as r2;have K2:=hid_as (K1.out.trans k2);clear r2 k2)
      | (go_at_call 40;(with_reducible refine (D.out _ _ R2.out (hA_le HA.out K2.out.size)).mono ?_);rintro e w3 ⟨_,rfl,⟨ta3,tk3,tn3,tt3,pl3,t3,rfl⟩,k3,r3⟩;replace t3:=hid_as t3;have R3:=hid_as r3;have K3:=hid_as (K2.out.trans k3);clear r3 k3))
    go_end0
    exact ⟨rfl,K3.out,R3.out⟩
  | false =>
    rw [if_neg Bool.false_ne_true]
    have Q:=hid_as q
    clear q
    cases q2:Ilx.iz (Ilx.tk s) [91] with
    | true =>
      rw [if_pos rfl]
      have J1:Hid (∀ W,Ir W rb tb cap X T A (Ilx.tk s)→Calls Tryz.prog 76 #[.pointer (some ⟨rb,0,none⟩),.slice (some ⟨W.heap.size,0,none⟩) 1 1] (W.alloc (.cells #[.string ⟨#[91]⟩] 9)) fun e w'=>e=.returned (.bool true)∧Below W.heap.size W w'):=hid_as fun W HW=>by
        have z:=I1.out W _ HW
        rw [show Ilx.iz (Ilx.tk s) (⟨#[91]⟩:ByteArray).data.toList=true from q2] at z
        exact z
      clear q2
      go_enter Tryz.func153,Tryz.ntmps153
      go_wp2_with (first
        | (go_at_call 78;(with_reducible refine C.out.mono ?_);rintro e w1 ⟨_,rfl,⟨ta,tk,tn,tt,pl,t1,rfl⟩,k1,r1⟩;replace t1:=hid_as t1;have R1:=hid_as r1;have K1:=hid_as k1;clear r1 k1)
        | (go_at_call 37;(with_reducible refine (AN.out _ _ R1.out Q.out).mono ?_);rintro e w2 ⟨rfl,b2⟩;have R2:=hid_as (R1.out.below b2);have K2:=hid_as (K1.out.below b2);clear b2)
        | (go_at_call 76;(with_reducible refine (J1.out _ R2.out).mono ?_);rintro e w3 ⟨rfl,b3⟩;have R3:=hid_as (R2.out.below b3);have K3:=hid_as (K2.out.below b3);clear b3)
        | (go_at_call 168;(with_reducible refine (PX.out _ _ R3.out).mono ?_);rintro e w4 ⟨rfl,k4,r4⟩;have R4:=hid_as r4;have K4:=hid_as (K3.out.trans k4);clear r4 k4))
      go_end0
      exact ⟨rfl,K4.out,R4.out⟩
    | false =>
      rw [if_neg Bool.false_ne_true]
      have J1:Hid (∀ W,Ir W rb tb cap X T A (Ilx.tk s)→Calls Tryz.prog 76 #[.pointer (some ⟨rb,0,none⟩),.slice (some ⟨W.heap.size,0,none⟩) 1 1] (W.alloc (.cells #[.string ⟨#[91]⟩] 9)) fun e w'=>e=.returned (.bool false)∧Below W.heap.size W w'):=hid_as fun W HW=>by
        have z:=I1.out W _ HW
        rw [show Ilx.iz (Ilx.tk s) (⟨#[91]⟩:ByteArray).data.toList=false from q2] at z
        exact z
      clear q2
      go_enter Tryz.func153,Tryz.ntmps153
      go_wp2_with (first
        | (go_at_call 78;(with_reducible refine C.out.mono ?_);rintro e w1 ⟨_,rfl,⟨ta,tk,tn,tt,pl,t1,rfl⟩,k1,r1⟩;replace t1:=hid_as t1;have R1:=hid_as r1;have K1:=hid_as k1;clear r1 k1)
        | (go_at_call 37;(with_reducible refine (AN.out _ _ R1.out Q.out).mono ?_);rintro e w2 ⟨rfl,b2⟩;have R2:=hid_as (R1.out.below b2);have K2:=hid_as (K1.out.below b2);clear b2)
        | (go_at_call 76;(with_reducible refine (J1.out _ R2.out).mono ?_);rintro e w3 ⟨rfl,b3⟩;have R3:=hid_as (R2.out.below b3);have K3:=hid_as (K2.out.below b3);clear b3))
      go_end0
      exact ⟨rfl,K3.out,R3.out⟩
end Go.Proofs.YtapcpjidgemggaaGreatDoor
