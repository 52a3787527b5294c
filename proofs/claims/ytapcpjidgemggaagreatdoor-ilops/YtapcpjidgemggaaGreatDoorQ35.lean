/- The reader of Instruction List: arguments (stage 14). -/
import Derived.Test.YtapcpjidgemggaaGreatDoorQ33
import Derived.Test.YtapcpjidgemggaaGreatDoorQ34
namespace Go.Proofs.YtapcpjidgemggaaGreatDoor
open Go.RowKit
open Adr Lx Sx
open Ilx (Ps Wl)
/-- A row of one's own has grown. -/
theorem Jr.push {v w w5:World} {rb tb cap:Nat} {X:ByteArray} {T:TL} {A:Nat→Prop} {s:Ps} {u u5:Value} {ob:Obj} (J:Jr v rb tb cap X T (fun x=>A x∧u.ownBlock ≠ some x) s w) (hv:rb < v.heap.size) (ht:tb < v.heap.size) (hg:(w.alloc ob).grownBy w5 u.ownBlock) (hu:∀ k,u.ownBlock=some k→v.heap.size≤k) (hw:u5.ownBlock=u.ownBlock ∨ u5.ownBlock=some (w.heap.size+1)) (hl:∀ k,u5.ownBlock=some k→k < w5.heap.size) (hn:¬ A rb):Jr v rb tb cap X T (fun x=>A x∧u5.ownBlock ≠ some x) s w5:=by
  have hs:=hg.size
  rw [World.size_alloc] at hs
  have k5:Kp rb v w5:=(J.k.alloc ob).grown hg hu
  have bl:∀ x,x < w.heap.size→u.ownBlock ≠ some x→w5.heap[x]?=w.heap[x]?:=fun x h1 h2=>(hg.block x (by rw [World.size_alloc];omega) (fun e=>h2 e.symm)).trans ((below_new1 w ob).block x h1)
  have r1:Ir w rb tb cap X T (fun x=>A x∧u.ownBlock ≠ some x∧u5.ownBlock ≠ some x) s:=J.r.into (fun g hg2 hl2=>⟨hg2.1,hg2.2,by
    rcases hw with e | e
    · rw [e];exact hg2.2
    · rw [e];intro e2;have:=Option.some.inj e2;omega⟩) (fun q=>hn q.1)
  have r2:Ir w5 rb tb cap X T (fun x=>A x∧u.ownBlock ≠ some x∧u5.ownBlock ≠ some x) s:=r1.keep (by omega) (bl rb r1.rlt (fun e=>by have:=hu rb e;omega)) (bl tb r1.lt (fun e=>by have:=hu tb e;omega)) (fun g hg2 hl2=>bl g hl2 hg2.2.1)
  refine ⟨k5,r2.into (fun g hg2 _=>⟨hg2.1,hg2.2.2⟩) (fun q=>hn q.1),J.t.keep (fun g hg2=>bl g (by have:=J.hr;have:=J.r.rlt;omega) (fun e=>by have:=hu g e;have:=J.hr;omega)),fun x hx=>⟨(J.a x (by omega)).1,fun e=>by have:=hl x e;omega⟩,J.hr,J.sz,J.tk⟩
/-- The first thing of a row. -/
theorem Jr.first {v w:World} {rb tb cap:Nat} {X:ByteArray} {T:TL} {A:Nat→Prop} {s:Ps} (J:Jr v rb tb cap X T A s w) (o:Obj):Jr v rb tb cap X T (fun x=>A x∧Value.ownBlock (.slice (some ⟨w.heap.size,0,none⟩) 1 1) ≠ some x) s (w.alloc o):=by
  have q:=J.box o
  refine ⟨q.k,q.r.into (fun g hg _=>⟨hg.1,fun e=>hg.2 (Option.some.inj e).symm⟩) (fun p=>J.r.na p.1),q.t,fun x hx=>⟨(q.a x hx).1,fun e=>(q.a x hx).2 (Option.some.inj e).symm⟩,q.hr,q.sz,q.tk⟩
theorem agr_yes {f:Nat} {s:Ps} {l:List Ilx.Ag} (h:Ilx.iz s [44]=true):Ilx.agr (f+1) s l=Ilx.agr f (Ilx.agS (Ilx.tk s)) (l ++ [Ilx.agV (Ilx.tk s)]):=by rw [Ilx.agr,if_pos h]
theorem agr_not {f:Nat} {s:Ps} {l:List Ilx.Ag} (h:Ilx.iz s [44]=false):Ilx.agr (f+1) s l=(s,l):=by rw [Ilx.agr,h,if_neg Bool.false_ne_true]
set_option maxHeartbeats 4000000 in
set_option maxRecDepth 100000 in
theorem j_args_1 {v w:World} {rb tb cap:Nat} {X:ByteArray} {T:TL} {A:Nat→Prop} {s:Ps} (J:Jr v rb tb cap X T A s w) (q:Ilx.iz (Ilx.xq s [40]) [41]=true):Calls Tryz.prog 124 #[.pointer (some ⟨rb,0,none⟩)] w fun e w'=>e=.returned (.slice none 0 0)∧Kp rb w w'∧Jr v rb tb cap X T A (Ilx.tk (Ilx.xq s [40])) w':=by
  have JJ:=hid_as J
  have XP:Hid (∀ W,Jr v rb tb cap X T A (s) W→Calls Tryz.prog 36 #[.pointer (some ⟨rb,0,none⟩),.string ⟨#[40]⟩] W fun e w'=>e=.returned (.tuple #[])∧Kp rb W w'∧Jr v rb tb cap X T A (Ilx.xq (s) [40]) w'):=hid_as fun W J=>j_expect J ⟨#[40]⟩
  have AC:Hid (∀ W,Jr v rb tb cap X T A (Ilx.xq s [40]) W→Calls Tryz.prog 37 #[.pointer (some ⟨rb,0,none⟩),.string ⟨#[41]⟩] W fun e w'=>e=.returned (.bool true)∧Kp rb W w'∧Jr v rb tb cap X T A (Ilx.tk (Ilx.xq s [40])) w'):=hid_as fun W J=>j_accept_y J ⟨#[41]⟩ q
  clear J q
  go_enter Tryz.func124,Tryz.ntmps124
  go_wp2_with (first
    | (go_at_call 36;(with_reducible refine (XP.out _ JJ.out).mono ?_);rintro e w1 ⟨rfl,k1,j1⟩;have J1:=hid_as j1;have z1:=k1.size;(try rw [World.size_alloc] at z1);have K1:=hid_as k1;clear k1 j1)
    | (go_at_call 37;(with_reducible refine (AC.out _ J1.out).mono ?_);rintro e w2 ⟨rfl,k2,j2⟩;have J2:=hid_as j2;have z2:=k2.size;(try rw [World.size_alloc] at z2);have K2:=hid_as k2;clear k2 j2))
  go_ret
  exact ⟨rfl,K1.out.trans K2.out,J2.out⟩
set_option maxHeartbeats 4000000 in
set_option maxRecDepth 100000 in
theorem j_args_2 {v w:World} {rb tb cap:Nat} {X:ByteArray} {T:TL} {A:Nat→Prop} {s:Ps} (J:Jr v rb tb cap X T A s w) (q:Ilx.iz (Ilx.xq s [40]) [41]=false):Calls Tryz.prog 124 #[.pointer (some ⟨rb,0,none⟩)] w fun e w'=>∃ (lp:Option Addr) (ln lc:Nat),e=.returned (.slice lp ln lc)∧Sl 9 Pa (fun x=>w.heap.size≤x) w' lp ln lc (Ilx.ars s).2∧Kp rb w w'∧Jr v rb tb cap X T A (Ilx.ars s).1 w':=by
  have JJ:=hid_as J
  have J0:=hid_as J.here
  have hrl:=J.rlt
  have htl:=J.r.lt
  have hna:=hid_as J.r.na
  have hlen:s.L.length≤1000000:=Nat.le_trans J.r.sfx.length_le J.r.len
  have wl1:=hid_as (Ilx.sf_xq J.r.wls [40])
  have l1:=wl1.out.1.length_le
  have wl2:=hid_as (Ilx.sf_ag wl1.out.2)
  have l2:=wl2.out.1.length_le
  have XP:Hid (∀ W,Jr w rb tb cap X T A (s) W→Calls Tryz.prog 36 #[.pointer (some ⟨rb,0,none⟩),.string ⟨#[40]⟩] W fun e w'=>e=.returned (.tuple #[])∧Kp rb W w'∧Jr w rb tb cap X T A (Ilx.xq (s) [40]) w'):=hid_as fun W J=>j_expect J ⟨#[40]⟩
  have AC:Hid (∀ W,Jr w rb tb cap X T A (Ilx.xq s [40]) W→Calls Tryz.prog 37 #[.pointer (some ⟨rb,0,none⟩),.string ⟨#[41]⟩] W fun e w'=>e=.returned (.bool false)∧Kp rb W w'∧Jr w rb tb cap X T A (Ilx.xq s [40]) w'):=hid_as fun W J=>j_accept_n J ⟨#[41]⟩ q
  have AG:=hid_as (fun W (J:Jr w rb tb cap X T A (Ilx.xq s [40]) W)=>j_arg J)
  have AGL:=hid_as (fun (u:Value) W s' (J:Jr w rb tb cap X T (fun x=>A x∧Value.ownBlock u ≠ some x) s' W)=>j_arg J)
  obtain ⟨M,hM⟩:∃ M,Ilx.agr (s.L.length+1) (Ilx.agS (Ilx.xq s [40])) [Ilx.agV (Ilx.xq s [40])]=M:=⟨_,rfl⟩
  have XM:=hid_as (Ilx.ars_2 (s:=s) (by rw [q];exact Bool.false_ne_true) hM)
  rw [XM.out]
  have HM:=hid_as hM.symm
  have XPL:Hid (∀ (u:Value) W s',Jr w rb tb cap X T (fun x=>A x∧Value.ownBlock u ≠ some x) s' W→Calls Tryz.prog 36 #[.pointer (some ⟨rb,0,none⟩),.string ⟨#[41]⟩] W fun e w'=>e=.returned (.tuple #[])∧Kp rb W w'∧Jr w rb tb cap X T (fun x=>A x∧Value.ownBlock u ≠ some x) (Ilx.xq s' [41]) w'):=hid_as fun u W s' J=>j_expect J ⟨#[41]⟩
  clear J q hM XM
  generalize Ilx.agS (Ilx.xq s [40])=sa at *
  generalize Ilx.agV (Ilx.xq s [40])=va at *
  generalize Ilx.xq s [40]=s1 at *
  go_enter Tryz.func124,Tryz.ntmps124
  go_wp2_with (first
    | (go_at_call 36;(with_reducible refine (XP.out _ J0.out).mono ?_);rintro e w1 ⟨rfl,k1,j1⟩;have J1:=hid_as j1;have z1:=k1.size;(try rw [World.size_alloc] at z1);have K1:=hid_as k1;clear k1 j1)
    | (go_at_call 37;(with_reducible refine (AC.out _ J1.out).mono ?_);rintro e w2 ⟨rfl,k2,j2⟩;have J2:=hid_as j2;have z2:=k2.size;(try rw [World.size_alloc] at z2);have K2:=hid_as k2;clear k2 j2)
    | (go_at_call 152;(with_reducible refine (AG.out _ J2.out).mono ?_);rintro e w3 ⟨nx3,o3,kd3,n3,nm3,fl3,lp3,ln3,lc3,p3,q3,rfl,⟨f3,e3⟩,k3,j3⟩;have J3:=hid_as j3;have z3:=k3.size;(try rw [World.size_alloc] at z3);have K3:=hid_as k3;clear k3 j3;have E3:=hid_as e3;clear e3;replace f3:=hid_as f3))
  go_loopw [3] (fun v wr=>∃ (f:Nat) (s':Ps) (l:List Ilx.Ag) (xs:List Value),s'.L.length < f∧l.length+s'.L.length≤1000001∧Hid (Jr w rb tb cap X T (fun x=>A x∧Value.ownBlock v ≠ some x) s' wr)∧Hid (wr.ownsRow w.heap.size 77 9 v l.length xs)∧Hid (Rw 9 (Pa (fun x=>w.heap.size≤x∧Value.ownBlock v ≠ some x)) wr xs l)∧Hid (M=Ilx.agr f s' l)) (fun _ wr=>lenOf rb wr)
  case atStart =>
    refine ⟨s.L.length+1,sa,[va],_,by omega,by simp;omega,hid_as (J3.out.first _),hid_as (own_one (by omega) rfl),hid_as (Rw.one rfl ⟨o3,kd3,n3,nm3,fl3,lp3,ln3,lc3,p3,q3,by rw [← f3.out],?_⟩),HM⟩
    exact E3.out.ov ((Ov.into (S':=fun x=>w.heap.size≤x∧Value.ownBlock (.slice (some ⟨w3.heap.size,0,none⟩) 1 1) ≠ some x) fun x (hx:w2.heap.size≤x) hl=>⟨by omega,fun e=>by have e:w3.heap.size=x:=Option.some.inj e;omega⟩).trans (Ov.alloc w3 _))
  case round =>
    obtain ⟨f,s',l,xs,hf,hln,hJ,hO,hU,hm⟩:=hrel
    have L0:=hid_as hJ.out.r.lenOf
    have ol:=hid_as (World.ownsRow.lt hO.out)
    have zr:=hJ.out.k.size
    have WL:=hid_as hJ.out.r.wls
    obtain ⟨f,rfl⟩:∃ f',f=f'+1:=⟨f - 1,by omega⟩
    cases hc:Ilx.iz s' [44] with
    | true =>
      have A2:Hid (∀ W,Jr w rb tb cap X T (fun x=>A x∧Value.ownBlock u3 ≠ some x) (s') W→Calls Tryz.prog 37 #[.pointer (some ⟨rb,0,none⟩),.string ⟨#[44]⟩] W fun e w'=>e=.returned (.bool true)∧Kp rb W w'∧Jr w rb tb cap X T (fun x=>A x∧Value.ownBlock u3 ≠ some x) (Ilx.tk (s')) w'):=hid_as fun W J=>j_accept_y J ⟨#[44]⟩ hc
      have Mr:=hid_as (hm.out.trans (agr_yes hc))
      have tl:=Ilx.tk_less WL.out hc (by decide)
      have wl3:=hid_as (Ilx.sf_ag (Ilx.sf_tk WL.out).2)
      have tl2:=wl3.out.1.length_le
      clear hm hc
      go_wp2_with (first
        | (go_at_call 37;(with_reducible refine (A2.out _ hJ.out).mono ?_);rintro e w4 ⟨rfl,k4,j4⟩;have J4:=hid_as j4;have z4:=k4.size;(try rw [World.size_alloc] at z4);have K4:=hid_as k4;clear k4 j4)
        | (go_at_call 152;(with_reducible refine (AGL.out _ _ _ J4.out).mono ?_);rintro e w5 ⟨nx5,o5,kd5,n5,nm5,fl5,lp5,ln5,lc5,p5,q5,rfl,⟨f5,e5⟩,k5,j5⟩;have J5:=hid_as j5;have z5:=k5.size;(try rw [World.size_alloc] at z5);have K5:=hid_as k5;clear k5 j5;have O5:=hid_as (own_kp hO.out (K4.out.trans K5.out) (by omega));obtain ⟨v6,w6,hr6,ho6,hg6,hw6⟩:=push_at (cs:=#[.string nx5,.int .i64 o5,.int .i64 kd5,.int .i64 n5,.string nm5,.string fl5,.slice lp5 ln5 lc5,.int .i64 p5,.int .i64 q5]) Tryz.underlying49 infoArg rfl (by decide) (by decide) O5.out (by omega) (by omega) rfl (by intro u hu;simp at hu;rcases hu with rfl | rfl | rfl | rfl | rfl | rfl | rfl | rfl | rfl <;> rfl);have U6:=hid_as (rw_step (P:=Pa) (fun _ _ _ _ o _ _=>Pa.ov o) hU.out (K4.out.trans K5.out) hrl (show w.heap.size≤w4.heap.size by omega) (fun g hg=>by have:=(ol.out g hg).2;omega) rfl ⟨o5,kd5,n5,nm5,fl5,lp5,ln5,lc5,p5,q5,by rw [← f5],e5⟩ hg6 hw6);have J6:=hid_as (J5.out.push hrl htl hg6 (fun k hk=>(ol.out k hk).1) hw6 (fun k hk=>(World.ownsRow.lt ho6 k hk).2) hna.out);replace hr6:=hid_as hr6;replace ho6:=hid_as ho6;clear e5 f5 hg6 hw6 O5)
        | (at_builtin;refine Lib.wpList_append_run _ rfl _ _ _ _ rfl _ _ rfl rfl _ _ hr6.out ?_))
      go_roundw
      case rel=>exact ⟨f,Ilx.agS (Ilx.tk s'),l ++ [Ilx.agV (Ilx.tk s')],_,by omega,by simp;omega,J6,hid_as (by rw [List.length_append];exact ho6.out),U6,Mr⟩
      case measure =>
        rw [J6.out.r.lenOf,L0.out]
        omega
    | false =>
      have A2:Hid (∀ W,Jr w rb tb cap X T (fun x=>A x∧Value.ownBlock u3 ≠ some x) (s') W→Calls Tryz.prog 37 #[.pointer (some ⟨rb,0,none⟩),.string ⟨#[44]⟩] W fun e w'=>e=.returned (.bool false)∧Kp rb W w'∧Jr w rb tb cap X T (fun x=>A x∧Value.ownBlock u3 ≠ some x) (s') w'):=hid_as fun W J=>j_accept_n J ⟨#[44]⟩ hc
      have Mr:=hid_as (hm.out.trans (agr_not hc))
      clear hm hc
      obtain ⟨lp,lc,hv,_⟩:=own_sl (P:=Pa) (fun _ _ _ _ o _ _=>Pa.ov o) hO.out hU.out
      subst hv
      go_wp2_with (first
        | (go_at_call 37;(with_reducible refine (A2.out _ hJ.out).mono ?_);rintro e w4 ⟨rfl,k4,j4⟩;have J4:=hid_as j4;have z4:=k4.size;(try rw [World.size_alloc] at z4);have K4:=hid_as k4;clear k4 j4)
        | (go_at_call 36;(with_reducible refine (XPL.out _ _ _ J4.out).mono ?_);rintro e w5 ⟨rfl,k5,j5⟩;have J5:=hid_as j5;have z5:=k5.size;(try rw [World.size_alloc] at z5);have K5:=hid_as k5;clear k5 j5))
      go_ret
      obtain ⟨lp',lc',hv',SL⟩:=own_sl (P:=Pa) (fun _ _ _ _ o _ _=>Pa.ov o) (own_kp hO.out (K4.out.trans K5.out) (by omega)) (hU.out.all (fun _ _=>Pa.ov (Ov.kp (K4.out.trans K5.out) (fun h=>by have:w.heap.size≤rb:=h.1;omega))))
      cases hv'
      rw [Mr.out]
      exact ⟨_,_,_,rfl,SL,J5.out.k,JJ.out.nx J5.out.k (J5.out.r.into (fun g hg _=>hg.1) hna.out)⟩
theorem j_args {v w:World} {rb tb cap:Nat} {X:ByteArray} {T:TL} {A:Nat→Prop} {s:Ps} (J:Jr v rb tb cap X T A s w):Calls Tryz.prog 124 #[.pointer (some ⟨rb,0,none⟩)] w fun e w'=>∃ (lp:Option Addr) (ln lc:Nat),e=.returned (.slice lp ln lc)∧Sl 9 Pa (fun x=>w.heap.size≤x) w' lp ln lc (Ilx.ars s).2∧Kp rb w w'∧Jr v rb tb cap X T A (Ilx.ars s).1 w':=by
  cases q:Ilx.iz (Ilx.xq s [40]) [41] with
  | true =>
    rw [Ilx.ars_1 q]
    refine (j_args_1 J q).mono ?_
    rintro e w' ⟨rfl,k,j⟩
    exact ⟨none,0,0,rfl,Sl.nil,k,j⟩
  | false=>exact j_args_2 J q
end Go.Proofs.YtapcpjidgemggaaGreatDoor
