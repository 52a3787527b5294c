/- The reader of Instruction List: what stands ahead of the instructions is passed (stage 14). -/
import Derived.Test.YtapcpjidgemggaaGreatDoorQ40
namespace Go.Proofs.YtapcpjidgemggaaGreatDoor
open Go.RowKit
open Adr Lx Sx
open Ilx (Ps Wl)
set_option maxHeartbeats 4000000 in
set_option maxRecDepth 100000 in
theorem j_behindLines {v w:World} {rb tb cap:Nat} {X:ByteArray} {T:TL} {A:Nat→Prop} {s:Ps} (J:Jr v rb tb cap X T A s w):Calls Tryz.prog 79 #[.pointer (some ⟨rb,0,none⟩)] w fun e w'=>∃ u,e=.returned u∧Tn (Ilx.hd (Ilx.pl s.L)) u∧Kp rb w w'∧Jr v rb tb cap X T A s w':=by
  have JJ:=hid_as J
  have hrl:=J.rlt
  have htl:=J.r.lt
  obtain ⟨i,ev,e1,e2,bk,ee⟩:=J.r.own
  have hev:ev=.nilIface ∨ ∃ g:Nat,ev=.iface 78 (.pointer (some ⟨g,0,none⟩)):=by
    cases he:s.e with
    | none=>rw [he] at ee;exact Or.inl ee
    | some x=>rw [he] at ee;obtain ⟨g,h,_⟩:=ee;exact Or.inr ⟨g,h⟩
  have B0:=hid_as (Bk.fresh w #[.int .i64 0,.int .i64 0,.int .i64 0,.string ⟨#[]⟩,.int .i64 0] 42)
  obtain ⟨r0,r1,r2⟩:=bk3 (bk.alloc (.cells #[.int .i64 0,.int .i64 0,.int .i64 0,.string ⟨#[]⟩,.int .i64 0] 42))
  have IA:Hid (∀ W,Below (w.alloc (.cells #[.int .i64 0,.int .i64 0,.int .i64 0,.string ⟨#[]⟩,.int .i64 0] 42)).heap.size (w.alloc (.cells #[.int .i64 0,.int .i64 0,.int .i64 0,.string ⟨#[]⟩,.int .i64 0] 42)) W→Bk W (w.heap.size+1) #[.string X,.slice (some ⟨tb,i * 5,none⟩) (T.length - i) (cap - i),ev]→Ir W (w.heap.size+1) tb cap X T (fun x=>A x∧x < w.heap.size) s):=hid_as fun W k b=>by
    have r:=(J.r.into (A':=fun x=>A x∧x < w.heap.size) (fun g hg hl=>⟨hg,hl⟩) (fun q=>J.r.na q.1)).alloc (.cells #[.int .i64 0,.int .i64 0,.int .i64 0,.string ⟨#[]⟩,.int .i64 0] 42)
    have r2:=r.below k
    have hs:=k.size
    rw [World.size_alloc] at hs
    refine ⟨⟨i,ev,e1,e2,b,?_⟩,r2.laid,r2.lt,by omega,r2.wl,r2.len,r2.cp,fun q=>by have:=q.2;omega⟩
    exact (ee.into (fun g hg hl=>(show A g∧g < w.heap.size from ⟨hg,hl⟩))).keep (by omega) (fun g hg hl=>((below_and (below_new1 w _) k).block g hl))
  have PL:=hid_as (fun W (H:Ir W (w.heap.size+1) tb cap X T (fun x=>A x∧x < w.heap.size) s)=>ipassLines_c H)
  have NW:=hid_as (fun W (H:Ir W (w.heap.size+1) tb cap X T (fun x=>A x∧x < w.heap.size) ⟨Ilx.pl s.L,s.e⟩)=>now_t H)
  have hsz:(w.alloc (.cells #[.int .i64 0,.int .i64 0,.int .i64 0,.string ⟨#[]⟩,.int .i64 0] 42)).heap.size=w.heap.size+1:=World.size_alloc _ _
  clear J e1 e2 bk ee
  generalize Ilx.hd (Ilx.pl s.L)=t0 at *
  rcases hev with rfl | ⟨ge,rfl⟩
  · have IB:Hid (Ir ((w.alloc (.cells #[.int .i64 0,.int .i64 0,.int .i64 0,.string ⟨#[]⟩,.int .i64 0] 42)).alloc (.cells #[.string X,.slice (some ⟨tb,i * 5,none⟩) (T.length - i) (cap - i),.nilIface] 60)) (w.heap.size+1) tb cap X T (fun x=>A x∧x < w.heap.size) s):=by
      have q:=Bk.fresh (w.alloc (.cells #[.int .i64 0,.int .i64 0,.int .i64 0,.string ⟨#[]⟩,.int .i64 0] 42)) #[.string X,.slice (some ⟨tb,i * 5,none⟩) (T.length - i) (cap - i),.nilIface] 60
      rw [hsz] at q
      exact hid_as (IA.out _ (below_new1 _ _) q)
    have KB:Hid (Below w.heap.size w ((w.alloc (.cells #[.int .i64 0,.int .i64 0,.int .i64 0,.string ⟨#[]⟩,.int .i64 0] 42)).alloc (.cells #[.string X,.slice (some ⟨tb,i * 5,none⟩) (T.length - i) (cap - i),.nilIface] 60))):=hid_as (below_and (below_new1 w _) (below_new1 _ _))
    have BB:=hid_as (B0.out.alloc (.cells #[.string X,.slice (some ⟨tb,i * 5,none⟩) (T.length - i) (cap - i),.nilIface] 60))
    go_enter Tryz.func79,Tryz.ntmps79
    go_wp2_with (first
      | (go_at_call 39;(with_reducible refine (PL.out _ IB.out).mono ?_);rintro e w1 ⟨rfl,k1,r1⟩;have R1:=hid_as r1;have B1:=hid_as (BB.out.kp k1 (by omega));have K1:=hid_as (show Below w.heap.size w w1 from ⟨k1.os.trans KB.out.os,k1.tape.trans KB.out.tape,k1.output.trans KB.out.output,Nat.le_trans KB.out.size k1.size,fun j hj=>(k1.block j (Nat.lt_of_lt_of_le hj KB.out.size) (by omega)).trans (KB.out.block j hj)⟩);clear k1 r1)
      | (go_at_call 34;(with_reducible refine (NW.out _ R1.out).mono ?_);rintro e w2 ⟨_,rfl,⟨ta,tk,tn,tt,pl,t1,rfl⟩,b2⟩;have B2:=hid_as (B1.out.below b2);have K2:=hid_as (below_and K1.out b2);replace t1:=hid_as t1;obtain ⟨s0,s1,s2,s3,s4⟩:=bk5 B2.out;have sf:=B2.out.fr;clear b2))
    obtain ⟨x0,x1,x2,x3,x4⟩:=bk5 (B2.out.put5 (.int .i64 ta) (.int .i64 tk) (.int .i64 tn) (.string (tx tt)) (.int .i64 pl))
    have KK:Below w.heap.size w (((((w2.setCell ⟨w.heap.size,0,none⟩ (.int .i64 ta)).setCell ⟨w.heap.size,1,none⟩ (.int .i64 tk)).setCell ⟨w.heap.size,2,none⟩ (.int .i64 tn)).setCell ⟨w.heap.size,3,none⟩ (.string (tx tt))).setCell ⟨w.heap.size,4,none⟩ (.int .i64 pl)):=((((K2.out.setCell (p:=⟨w.heap.size,0,none⟩) (Nat.le_refl _) _).setCell (p:=⟨w.heap.size,1,none⟩) (Nat.le_refl _) _).setCell (p:=⟨w.heap.size,2,none⟩) (Nat.le_refl _) _).setCell (p:=⟨w.heap.size,3,none⟩) (Nat.le_refl _) _).setCell (p:=⟨w.heap.size,4,none⟩) (Nat.le_refl _) _
    exact bodyPost_ret (v:=.agg #[.int .i64 ta,.int .i64 tk,.int .i64 tn,.string (tx tt),.int .i64 pl]) (by simp [results,Tryz.results79,go_sem,x0,x1,x2,x3,x4]) rfl ⟨_,rfl,⟨ta,tk,tn,tt,pl,t1.out,rfl⟩,Kp.of KK,JJ.out.bl KK⟩
  · have IB:Hid (Ir ((w.alloc (.cells #[.int .i64 0,.int .i64 0,.int .i64 0,.string ⟨#[]⟩,.int .i64 0] 42)).alloc (.cells #[.string X,.slice (some ⟨tb,i * 5,none⟩) (T.length - i) (cap - i),.iface 78 (.pointer (some ⟨ge,0,none⟩))] 60)) (w.heap.size+1) tb cap X T (fun x=>A x∧x < w.heap.size) s):=by
      have q:=Bk.fresh (w.alloc (.cells #[.int .i64 0,.int .i64 0,.int .i64 0,.string ⟨#[]⟩,.int .i64 0] 42)) #[.string X,.slice (some ⟨tb,i * 5,none⟩) (T.length - i) (cap - i),.iface 78 (.pointer (some ⟨ge,0,none⟩))] 60
      rw [hsz] at q
      exact hid_as (IA.out _ (below_new1 _ _) q)
    have KB:Hid (Below w.heap.size w ((w.alloc (.cells #[.int .i64 0,.int .i64 0,.int .i64 0,.string ⟨#[]⟩,.int .i64 0] 42)).alloc (.cells #[.string X,.slice (some ⟨tb,i * 5,none⟩) (T.length - i) (cap - i),.iface 78 (.pointer (some ⟨ge,0,none⟩))] 60))):=hid_as (below_and (below_new1 w _) (below_new1 _ _))
    have BB:=hid_as (B0.out.alloc (.cells #[.string X,.slice (some ⟨tb,i * 5,none⟩) (T.length - i) (cap - i),.iface 78 (.pointer (some ⟨ge,0,none⟩))] 60))
    go_enter Tryz.func79,Tryz.ntmps79
    go_wp2_with (first
      | (go_at_call 39;(with_reducible refine (PL.out _ IB.out).mono ?_);rintro e w1 ⟨rfl,k1,r1⟩;have R1:=hid_as r1;have B1:=hid_as (BB.out.kp k1 (by omega));have K1:=hid_as (show Below w.heap.size w w1 from ⟨k1.os.trans KB.out.os,k1.tape.trans KB.out.tape,k1.output.trans KB.out.output,Nat.le_trans KB.out.size k1.size,fun j hj=>(k1.block j (Nat.lt_of_lt_of_le hj KB.out.size) (by omega)).trans (KB.out.block j hj)⟩);clear k1 r1)
      | (go_at_call 34;(with_reducible refine (NW.out _ R1.out).mono ?_);rintro e w2 ⟨_,rfl,⟨ta,tk,tn,tt,pl,t1,rfl⟩,b2⟩;have B2:=hid_as (B1.out.below b2);have K2:=hid_as (below_and K1.out b2);replace t1:=hid_as t1;obtain ⟨s0,s1,s2,s3,s4⟩:=bk5 B2.out;have sf:=B2.out.fr;clear b2))
    obtain ⟨x0,x1,x2,x3,x4⟩:=bk5 (B2.out.put5 (.int .i64 ta) (.int .i64 tk) (.int .i64 tn) (.string (tx tt)) (.int .i64 pl))
    have KK:Below w.heap.size w (((((w2.setCell ⟨w.heap.size,0,none⟩ (.int .i64 ta)).setCell ⟨w.heap.size,1,none⟩ (.int .i64 tk)).setCell ⟨w.heap.size,2,none⟩ (.int .i64 tn)).setCell ⟨w.heap.size,3,none⟩ (.string (tx tt))).setCell ⟨w.heap.size,4,none⟩ (.int .i64 pl)):=((((K2.out.setCell (p:=⟨w.heap.size,0,none⟩) (Nat.le_refl _) _).setCell (p:=⟨w.heap.size,1,none⟩) (Nat.le_refl _) _).setCell (p:=⟨w.heap.size,2,none⟩) (Nat.le_refl _) _).setCell (p:=⟨w.heap.size,3,none⟩) (Nat.le_refl _) _).setCell (p:=⟨w.heap.size,4,none⟩) (Nat.le_refl _) _
    exact bodyPost_ret (v:=.agg #[.int .i64 ta,.int .i64 tk,.int .i64 tn,.string (tx tt),.int .i64 pl]) (by simp [results,Tryz.results79,go_sem,x0,x1,x2,x3,x4]) rfl ⟨_,rfl,⟨ta,tk,tn,tt,pl,t1.out,rfl⟩,Kp.of KK,JJ.out.bl KK⟩
theorem tys_yes {f:Nat} {L:TL} (h:((Ilx.hd L).1.text == [84,89,80,69])=true):Ilx.tys (f+1) L=Ilx.tys f (Ilx.pl (Ilx.pt [69,78,68,95,84,89,80,69] L)):=by rw [Ilx.tys,if_pos h]
theorem tys_not {f:Nat} {L:TL} (h:((Ilx.hd L).1.text == [84,89,80,69])=false):Ilx.tys (f+1) L=L:=by rw [Ilx.tys,h,if_neg Bool.false_ne_true]
theorem vrs_yes {f:Nat} {L:TL} (h:((Ilx.hd (Ilx.pl L)).1.text == [86,65,82])=true):Ilx.vrs (f+1) L=Ilx.vrs f (Ilx.pt [69,78,68,95,86,65,82] (Ilx.pl L)):=by rw [Ilx.vrs,if_pos h]
theorem vrs_not {f:Nat} {L:TL} (h:((Ilx.hd (Ilx.pl L)).1.text == [86,65,82])=false):Ilx.vrs (f+1) L=L:=by rw [Ilx.vrs,h,if_neg Bool.false_ne_true]
set_option maxHeartbeats 4000000 in
set_option maxRecDepth 100000 in
theorem j_passHead {v w:World} {rb tb cap:Nat} {X:ByteArray} {T:TL} {A:Nat→Prop} {s:Ps} (J:Jr v rb tb cap X T A s w):Calls Tryz.prog 33 #[.pointer (some ⟨rb,0,none⟩)] w fun e w'=>e=.returned (.bool (Ilx.phd s.L).1)∧Kp rb w w'∧Jr v rb tb cap X T A ⟨(Ilx.phd s.L).2,s.e⟩ w':=by
  have JJ:=hid_as J
  have J0:=hid_as J.here
  have hrl:=J.rlt
  have htl:=J.r.lt
  have wls:=hid_as J.r.wls
  have wl0:=hid_as (Ilx.wl_pl J.r.wls)
  have l0:=wl0.out.1.length_le
  have PL:=hid_as (fun W s' (J:Jr w rb tb cap X T A s' W)=>j_passLines J)
  have PT:Hid (∀ W s',Jr w rb tb cap X T A s' W→Calls Tryz.prog 77 #[.pointer (some ⟨rb,0,none⟩),.string ⟨#[69,78,68,95,84,89,80,69]⟩] W fun e w'=>e=.returned (.tuple #[])∧Kp rb W w'∧Jr w rb tb cap X T A ⟨Ilx.pt [69,78,68,95,84,89,80,69] s'.L,s'.e⟩ w'):=hid_as fun W s' J=>j_passTo J ⟨#[69,78,68,95,84,89,80,69]⟩ (by decide)
  have PV:Hid (∀ W s',Jr w rb tb cap X T A s' W→Calls Tryz.prog 77 #[.pointer (some ⟨rb,0,none⟩),.string ⟨#[69,78,68,95,86,65,82]⟩] W fun e w'=>e=.returned (.tuple #[])∧Kp rb W w'∧Jr w rb tb cap X T A ⟨Ilx.pt [69,78,68,95,86,65,82] s'.L,s'.e⟩ w'):=hid_as fun W s' J=>j_passTo J ⟨#[69,78,68,95,86,65,82]⟩ (by decide)
  have BL:=hid_as (fun W s' (J:Jr w rb tb cap X T A s' W)=>j_behindLines J)
  have NW:=hid_as (fun W s' (J:Jr w rb tb cap X T A s' W)=>j_now J)
  have TK:=hid_as (fun W s' (J:Jr w rb tb cap X T A s' W)=>j_take J)
  have F0:=fd0
  have F3:=fd3
  clear J
  go_enter Tryz.func33,Tryz.ntmps33
  go_wp2_with (first
    | (go_at_call 39;(with_reducible refine (PL.out _ _ J0.out).mono ?_);rintro e w1 ⟨rfl,k1,j1⟩;have J1:=hid_as j1;have z1:=k1.size;(try rw [World.size_alloc] at z1);have K1:=hid_as k1;clear k1 j1))
  go_loopw [] (fun wr=>∃ (f:Nat) (s':Ps),s'.L.length < f∧Hid (Jr w rb tb cap X T A s' wr)∧Hid (Ilx.phT s.L=Ilx.tys f s'.L)∧Hid (s'.e=s.e)) (fun wr=>lenOf rb wr)
  case atStart=>exact ⟨s.L.length+1,_,by show (Ilx.pl s.L).length < _;omega,J1,hid_as (by unfold Ilx.phT;exact rfl),hid_as rfl⟩
  case round =>
    obtain ⟨f,s',hf,hJ,hP,hE⟩:=hrel
    have L0:=hid_as hJ.out.r.lenOf
    have WL:=hid_as hJ.out.r.wls
    obtain ⟨f,rfl⟩:∃ f',f=f'+1:=⟨f - 1,by omega⟩
    cases hc:Ilx.iz s' [84,89,80,69] with
    | true =>
      have IS:Hid (∀ W,Jr w rb tb cap X T A (s') W→Calls Tryz.prog 76 #[.pointer (some ⟨rb,0,none⟩),.slice (some ⟨W.heap.size,0,none⟩) 1 1] (W.alloc (.cells #[.string ⟨#[84,89,80,69]⟩] 9)) fun e w'=>e=.returned (.bool true)∧Kp rb W w'∧Jr w rb tb cap X T A (s') w'):=hid_as fun W J=>j_is J ⟨#[84,89,80,69]⟩ true hc
      have P2:=hid_as (hP.out.trans (tys_yes hc))
      have tl:=Ilx.pt_less (x:=[69,78,68,95,84,89,80,69]) WL.out hc (by decide)
      have wl2:=hid_as (Ilx.wl_pl (Ilx.wl_pt [69,78,68,95,84,89,80,69] WL.out).2)
      have tl2:=wl2.out.1.length_le
      clear hP hc
      go_wp2_with (first
        | (go_at_call 76;(with_reducible refine (IS.out _ hJ.out).mono ?_);rintro e w2 ⟨rfl,k2,j2⟩;have J2:=hid_as j2;have z2:=k2.size;(try rw [World.size_alloc] at z2);have K2:=hid_as k2;clear k2 j2)
        | (go_at_call 77;(with_reducible refine (PT.out _ _ J2.out).mono ?_);rintro e w3 ⟨rfl,k3,j3⟩;have J3:=hid_as j3;have z3:=k3.size;(try rw [World.size_alloc] at z3);have K3:=hid_as k3;clear k3 j3)
        | (go_at_call 39;(with_reducible refine (PL.out _ _ J3.out).mono ?_);rintro e w4 ⟨rfl,k4,j4⟩;have J4:=hid_as j4;have z4:=k4.size;(try rw [World.size_alloc] at z4);have K4:=hid_as k4;clear k4 j4))
      go_roundw
      case rel=>exact ⟨f,_,by show (Ilx.pl (Ilx.pt [69,78,68,95,84,89,80,69] s'.L)).length < f;omega,J4,P2,hE⟩
      case measure =>
        rw [J4.out.r.lenOf,L0.out]
        show (Ilx.pl (Ilx.pt [69,78,68,95,84,89,80,69] s'.L)).length < _
        omega
    | false =>
      have IS:Hid (∀ W,Jr w rb tb cap X T A (s') W→Calls Tryz.prog 76 #[.pointer (some ⟨rb,0,none⟩),.slice (some ⟨W.heap.size,0,none⟩) 1 1] (W.alloc (.cells #[.string ⟨#[84,89,80,69]⟩] 9)) fun e w'=>e=.returned (.bool false)∧Kp rb W w'∧Jr w rb tb cap X T A (s') w'):=hid_as fun W J=>j_is J ⟨#[84,89,80,69]⟩ false hc
      have P2:Ilx.phT s.L=s'.L:=hP.out.trans (tys_not hc)
      have ES:s'=(⟨Ilx.phT s.L,s.e⟩:Ps):=by
        have e2:=hE.out
        obtain ⟨a,b⟩:=s'
        simp only at P2 e2
        rw [P2,e2]
      have lph:=(Ilx.wl_phT wls.out).1.length_le
      clear hP hc hE P2 L0
      subst ES
      cases h1:Ilx.iz (⟨Ilx.phT s.L,s.e⟩:Ps) [80,82,79,71,82,65,77] with
      | false =>
        have RS:Ilx.phd s.L=(false,Ilx.phT s.L):=by unfold Ilx.phd;rw [if_pos (by show (!Ilx.iz (⟨Ilx.phT s.L,s.e⟩:Ps) [80,82,79,71,82,65,77])=true;rw [h1];rfl)]
        have AP:Hid (∀ W,Jr w rb tb cap X T A ((⟨Ilx.phT s.L,s.e⟩:Ps)) W→Calls Tryz.prog 37 #[.pointer (some ⟨rb,0,none⟩),.string ⟨#[80,82,79,71,82,65,77]⟩] W fun e w'=>e=.returned (.bool false)∧Kp rb W w'∧Jr w rb tb cap X T A ((⟨Ilx.phT s.L,s.e⟩:Ps)) w'):=hid_as fun W J=>j_accept_n J ⟨#[80,82,79,71,82,65,77]⟩ h1
        replace RS:=hid_as RS
        clear h1
        go_wp2_with (first
          | (go_at_call 76;(with_reducible refine (IS.out _ hJ.out).mono ?_);rintro e w2 ⟨rfl,k2,j2⟩;have J2:=hid_as j2;have z2:=k2.size;(try rw [World.size_alloc] at z2);have K2:=hid_as k2;clear k2 j2)
          | (go_at_call 37;(with_reducible refine (AP.out _ J2.out).mono ?_);rintro e w3 ⟨rfl,k3,j3⟩;have J3:=hid_as j3;have z3:=k3.size;(try rw [World.size_alloc] at z3);have K3:=hid_as k3;clear k3 j3))
        go_ret
        rw [RS.out]
        exact ⟨rfl,J3.out.k,JJ.out.nx J3.out.k J3.out.r⟩
      | true =>
        have w1:=hid_as (WL.out.word (x:=[80,82,79,71,82,65,77]) h1 (by decide))
        have et:=hid_as (tk_tail w1.out.1)
        have AP:Hid (∀ W,Jr w rb tb cap X T A ((⟨Ilx.phT s.L,s.e⟩:Ps)) W→Calls Tryz.prog 37 #[.pointer (some ⟨rb,0,none⟩),.string ⟨#[80,82,79,71,82,65,77]⟩] W fun e w'=>e=.returned (.bool true)∧Kp rb W w'∧Jr w rb tb cap X T A (Ilx.tk ((⟨Ilx.phT s.L,s.e⟩:Ps))) w'):=hid_as fun W J=>j_accept_y J ⟨#[80,82,79,71,82,65,77]⟩ h1
        rw [et.out] at AP
        have R1:Hid (¬ (!((Ilx.hd (Ilx.phT s.L)).1.text == [80,82,79,71,82,65,77]))=true):=hid_as (by show ¬ (!Ilx.iz (⟨Ilx.phT s.L,s.e⟩:Ps) [80,82,79,71,82,65,77])=true;rw [h1];decide)
        clear h1
        by_cases h2:(Ilx.hd (Ilx.phT s.L).tail).1.tok=2
        · have R2:Hid (Ilx.phd s.L=(true,Ilx.vrs (s.L.length+1) (Ilx.phT s.L).tail.tail)):=hid_as (by unfold Ilx.phd;rw [if_neg R1.out,if_neg (by rw [decide_eq_true h2];decide)])
          have w2:=hid_as (w1.out.2.sort (by rw [h2];decide))
          have lt2:(Ilx.phT s.L).tail.tail.length < s.L.length+1:=by rw [List.length_tail,List.length_tail];omega
          have et2:Hid (Ilx.tk (⟨(Ilx.phT s.L).tail,s.e⟩:Ps)=⟨(Ilx.phT s.L).tail.tail,s.e⟩):=hid_as (tk_tail (s:=⟨(Ilx.phT s.L).tail,s.e⟩) (by show ¬ (Ilx.hd (Ilx.phT s.L).tail).1.tok=0;rw [h2];decide))
          have H2:=hid_as h2
          have HF:Hid ((Ilx.phd s.L).1=true):=hid_as (by rw [R2.out])
          have HV:Hid (Ilx.vrs (s.L.length+1) (Ilx.phT s.L).tail.tail=(Ilx.phd s.L).2):=hid_as (by rw [R2.out])
          clear h2
          go_wp2_with (first
            | (go_at_call 76;(with_reducible refine (IS.out _ hJ.out).mono ?_);rintro e w2 ⟨rfl,k2,j2⟩;have J2:=hid_as j2;have z2:=k2.size;(try rw [World.size_alloc] at z2);have K2:=hid_as k2;clear k2 j2)
            | (go_at_call 37;(with_reducible refine (AP.out _ J2.out).mono ?_);rintro e w3 ⟨rfl,k3,j3⟩;have J3:=hid_as j3;have z3:=k3.size;(try rw [World.size_alloc] at z3);have K3:=hid_as k3;clear k3 j3)
            | (go_at_call 34;(with_reducible refine (NW.out _ _ J3.out).mono ?_);rintro e w4 ⟨_,rfl,⟨ta4,tk4,tn4,tt4,pl4,t4,rfl⟩,k4,j4⟩;obtain rfl:2=ta4:=(by have q:=H2.out;have t4:Ilx.hd (Ilx.phT s.L).tail=_:=t4;rw [t4] at q;exact q.symm);replace t4:=hid_as t4;have J4:=hid_as j4;clear k4 j4)
            | (go_at_call 78;(with_reducible refine (TK.out _ _ J4.out).mono ?_);rintro e w5 ⟨_,rfl,⟨ta5,tk5,tn5,tt5,pl5,t5,rfl⟩,k5,j5⟩;replace t5:=hid_as t5;rw [et2.out] at j5;have J5:=hid_as j5;clear k5 j5))
          go_loopw [] (fun wr=>∃ (f:Nat) (s':Ps),s'.L.length < f∧Hid (Jr w rb tb cap X T A s' wr)∧Hid ((Ilx.phd s.L).2=Ilx.vrs f s'.L)∧Hid (s'.e=s.e)) (fun wr=>lenOf rb wr)
          case atStart=>exact ⟨s.L.length+1,_,lt2,J5,hid_as HV.out.symm,hid_as rfl⟩
          case round =>
            obtain ⟨f,s',hf,hJ,hP,hE⟩:=hrel
            have L0:=hid_as hJ.out.r.lenOf
            have WL:=hid_as hJ.out.r.wls
            obtain ⟨f,rfl⟩:∃ f',f=f'+1:=⟨f - 1,by omega⟩
            cases hc:(Ilx.hd (Ilx.pl s'.L)).1.text == [86,65,82] with
            | true =>
              have P2:=hid_as (hP.out.trans (vrs_yes hc))
              have wl1:=hid_as (Ilx.wl_pl WL.out)
              have tl:=Ilx.pt_less (x:=[69,78,68,95,86,65,82]) wl1.out.2 hc (by decide)
              have tl2:=wl1.out.1.length_le
              have HC:=hid_as hc
              clear hP hc
              go_wp2_with (first
                | (go_at_call 79;(with_reducible refine (BL.out _ _ hJ.out).mono ?_);rintro e w6 ⟨_,rfl,⟨ta6,tk6,tn6,tt6,pl6,t6,rfl⟩,k6,j6⟩;have gv:((tx tt6).toList == [86,65,82])=true:=(by rw [tx_toList];have q:=HC.out;rw [t6] at q;exact q);replace t6:=hid_as t6;have J6:=hid_as j6;clear k6 j6)
                | (go_at_call 39;(with_reducible refine (PL.out _ _ J6.out).mono ?_);rintro e w7 ⟨rfl,k7,j7⟩;have J7:=hid_as j7;have z7:=k7.size;(try rw [World.size_alloc] at z7);have K7:=hid_as k7;clear k7 j7)
                | (go_at_call 77;(with_reducible refine (PV.out _ _ J7.out).mono ?_);rintro e w8 ⟨rfl,k8,j8⟩;have J8:=hid_as j8;have z8:=k8.size;(try rw [World.size_alloc] at z8);have K8:=hid_as k8;clear k8 j8))
              go_roundw
              case rel=>exact ⟨f,_,by show (Ilx.pt [69,78,68,95,86,65,82] (Ilx.pl s'.L)).length < f;omega,J8,P2,hE⟩
              case measure =>
                rw [J8.out.r.lenOf,L0.out]
                show (Ilx.pt [69,78,68,95,86,65,82] (Ilx.pl s'.L)).length < _
                omega
            | false =>
              have P2:=hid_as (hP.out.trans (vrs_not hc))
              have HC:=hid_as hc
              clear hP hc
              go_wp2_with (first
                | (go_at_call 79;(with_reducible refine (BL.out _ _ hJ.out).mono ?_);rintro e w6 ⟨_,rfl,⟨ta6,tk6,tn6,tt6,pl6,t6,rfl⟩,k6,j6⟩;have gv:((tx tt6).toList == [86,65,82])=false:=(by rw [tx_toList];have q:=HC.out;rw [t6] at q;exact q);replace t6:=hid_as t6;have J6:=hid_as j6;clear k6 j6))
              go_ret
              have ES:s'=⟨(Ilx.phd s.L).2,s.e⟩:=by
                have e1:=P2.out
                have e2:=hE.out
                obtain ⟨a,b⟩:=s'
                simp only at e1 e2
                rw [e1,e2]
              have j:=J6.out
              rw [ES] at j
              rw [HF.out]
              exact ⟨rfl,j.k,JJ.out.nx j.k j.r⟩
        · have RS:Ilx.phd s.L=(false,(Ilx.phT s.L).tail):=by unfold Ilx.phd;rw [if_neg R1.out,if_pos (by rw [decide_eq_false h2];rfl)]
          have H2:=hid_as h2
          replace RS:=hid_as RS
          clear h2
          go_wp2_with (first
            | (go_at_call 76;(with_reducible refine (IS.out _ hJ.out).mono ?_);rintro e w2 ⟨rfl,k2,j2⟩;have J2:=hid_as j2;have z2:=k2.size;(try rw [World.size_alloc] at z2);have K2:=hid_as k2;clear k2 j2)
            | (go_at_call 37;(with_reducible refine (AP.out _ J2.out).mono ?_);rintro e w3 ⟨rfl,k3,j3⟩;have J3:=hid_as j3;have z3:=k3.size;(try rw [World.size_alloc] at z3);have K3:=hid_as k3;clear k3 j3)
            | (go_at_call 34;(with_reducible refine (NW.out _ _ J3.out).mono ?_);rintro e w4 ⟨_,rfl,⟨ta4,tk4,tn4,tt4,pl4,t4,rfl⟩,k4,j4⟩;have g4:((ta4:Int) != 2)=true:=(by have q:=H2.out;have t4:Ilx.hd (Ilx.phT s.L).tail=_:=t4;rw [t4] at q;have q:¬ ta4=2:=q;simp only [bne_iff_ne,ne_eq];omega);replace t4:=hid_as t4;have J4:=hid_as j4;clear k4 j4))
          go_ret
          rw [RS.out]
          exact ⟨rfl,J4.out.k,JJ.out.nx J4.out.k J4.out.r⟩
end Go.Proofs.YtapcpjidgemggaaGreatDoor
