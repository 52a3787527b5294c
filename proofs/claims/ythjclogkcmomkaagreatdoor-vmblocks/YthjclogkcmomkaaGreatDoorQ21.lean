/- fb.Step of block 2 (stage 21, after stage 17). -/
import Derived.Test.YthjclogkcmomkaaGreatDoorQ16
import Derived.Test.YthjclogkcmomkaaGreatDoorQ20
namespace Go.Proofs.YthjclogkcmomkaaGreatDoor
open Go.RowKit
open Fb
set_option maxRecDepth 100000 in
set_option maxHeartbeats 4000000 in
theorem step_2 {w:World} {ia oa:Option Addr} {n m ic oc:Nat} {l q:List Int} {r:Rs} (p0 p1 p2 t:Int) (hi:Sl w (.slice ia n ic) (i64s l)) (hn:n=l.length) (hn9:n≤9223372036854775807) (ho:Sl w (.slice oa m oc) (i64s q)) (hm:m=q.length) (hm9:m≤9223372036854775807) (hr:r=stp 2 l q p0 p1 p2 t) :
    Calls Tryz.prog 89 #[.string (nm 2),.slice ia n ic,.agg #[.int .i64 p0,.int .i64 p1,.int .i64 p2],.slice oa m oc,.int .i64 t] w (StepEnd w r):=by
  have I:=hid_as hi
  have O:=hid_as ho
  have HR:=hid_as hr
  have HN:=hid_as hn
  have HM:=hid_as hm
  clear hi ho hr hn hm
  obtain ⟨N,hN⟩:∃ N:ByteArray,N=nm 2:=⟨_,rfl⟩
  rw [← hN]
  have HNM:=hid_as hN
  clear hN
  go_enter Tryz.func89,Tryz.ntmps89
  go_upto_region 1 with fail
  have KA:Hid (Below w.heap.size w ((w.alloc (.cells #[.int .i64 p0,.int .i64 p1,.int .i64 p2] 57)).alloc (.cells #[.int .i64 0,.int .i64 0,.int .i64 0] 57))):=below_new (below_new (Below.refl _ _) _) _
  have KH:Hid ((((w.alloc (.cells #[.int .i64 p0,.int .i64 p1,.int .i64 p2] 57)).alloc (.cells #[.int .i64 0,.int .i64 0,.int .i64 0] 57))).heap[w.heap.size]?=some (.cells #[.int .i64 p0,.int .i64 p1,.int .i64 p2] 57 (0,0))∧(((w.alloc (.cells #[.int .i64 p0,.int .i64 p1,.int .i64 p2] 57)).alloc (.cells #[.int .i64 0,.int .i64 0,.int .i64 0] 57))).heap[w.heap.size+1]?=some (.cells #[.int .i64 0,.int .i64 0,.int .i64 0] 57 (0,0))∧(((w.alloc (.cells #[.int .i64 p0,.int .i64 p1,.int .i64 p2] 57)).alloc (.cells #[.int .i64 0,.int .i64 0,.int .i64 0] 57))).heap.size=w.heap.size+2):=two_newK w _ _
  generalize ((w.alloc (.cells #[.int .i64 p0,.int .i64 p1,.int .i64 p2] 57)).alloc (.cells #[.int .i64 0,.int .i64 0,.int .i64 0] 57))=W0 at *
  have MA:=hid_as (mach_2 W0)
  have PI:=hid_as (pins_c 2 (by decide) W0)
  have PN:=hid_as (fun U b c (hL:Lies U b 0 (strs (pI 2))) (hB:Below w.heap.size w U)=>pinNumbers_c 2 (by decide) (pI 2) l ia n ic b (pI 2).length c U rfl (by have:=pI_le 2;omega) hL HN.out hn9 (I.out.below hB))
  have PM:=hid_as (fun U b c (hL:Lies U b 0 (strs (pO 2))) (hB:Below w.heap.size w U)=>pinNumbers_c 2 (by decide) (pO 2) q oa m oc b (pO 2).length c U rfl (by have:=pO_le 2;omega) hL HM.out hm9 (O.out.below hB))
  have li:(pnum 2 (pI 2) l).length=(pI 2).length:=pnum_len ..
  have lo:(pnum 2 (pO 2) q).length=(pO 2).length:=pnum_len ..
  have pi:=pI_pos 2 (by decide)
  have po:=pO_posK 2 (by decide)
  obtain ⟨A,hA⟩:∃ A,A=pnum 2 (pI 2) l:=⟨_,rfl⟩
  obtain ⟨B,hB⟩:∃ B,B=pnum 2 (pO 2) q:=⟨_,rfl⟩
  simp only [← hA] at PN li
  simp only [← hB] at PM lo
  have HA:=hid_as hA
  have HBB:=hid_as hB
  generalize (pI 2).length=ni at *
  generalize (pO 2).length=no at *
  rw [← HNM.out] at MA PI
  simp only [← HNM.out] at PN PM
  have LI:=hid_as li
  have LO:=hid_as lo
  clear hA hB li lo
  go_wp2_with fail
  refine MA.out.mono ?_
  rintro e w' ⟨rfl,hw⟩
  subst w'
  clear MA
  go_wp2_with fail
  refine PI.out.mono ?_
  rintro e w1 ⟨v,u,rfl,ov,ou,b1⟩
  obtain ⟨gv,cv,rfl⟩:=own_at ov pi
  obtain ⟨gu,cu,rfl⟩:=own_at ou po
  have KV:=hid_as (below_and KA.out (b1.mono (Nat.le_refl _)))
  have X:=hid_as (PN.out w1 gv cv (own_liesK ov) KV.out)
  have OU:=hid_as (own_liesK ou)
  have S1:=hid_as (show W0.heap.size≤w1.heap.size from b1.size)
  have KW:=hid_as (show Below W0.heap.size W0 w1 from b1)
  clear ov ou b1 PI PN pi po
  go_wp2_with fail
  refine X.out.mono ?_
  rintro e w2 ⟨rfl,r2,b2⟩
  have Y:=hid_as (PM.out w2 gu cu (OU.out.below b2) (below_and KV.out b2))
  have R2:=hid_as r2
  have B2:=hid_as b2
  have L2:Hid (w1.heap.size < w2.heap.size):=(Array.getElem?_eq_some_iff.1 r2).1
  clear X PM OU r2 b2
  go_wp2_with fail
  refine Y.out.mono ?_
  rintro e w3 ⟨rfl,r3,b3⟩
  have WR:=hid_as (fun U=>wrap_c 4 t U)
  rw [show wkd 4 t=w32 t from rfl] at WR
  obtain ⟨tw,htw⟩:∃ tw,tw=w32 t:=⟨_,rfl⟩
  rw [← htw] at WR
  have HTW:=hid_as htw
  clear htw
  have CL:=hid_as (fun nw=>cl_new (W:=w3) (nw:=nw) (ni:=ni) (no:=no) LI.out.symm LO.out.symm ((b3.block _ L2.out).trans R2.out) r3 (Nat.ne_of_lt L2.out))
  have B3:Hid (Below W0.heap.size W0 w3):=below_and KW.out (below_and B2.out b3)
  have L3:Hid (w2.heap.size < w3.heap.size):=(Array.getElem?_eq_some_iff.1 r3).1
  clear Y r3 b3 R2 B2
  go_upto_region 6 with (go_at_call 108;(refine (WR.out _).mono ?_);rintro e w' ⟨rfl,hw⟩;subst w')
  have CL2:=hid_as (CL.out tw)
  have B4:Hid (Below W0.heap.size W0 (w3.alloc (.cells #[.slice (some ⟨w1.heap.size,0,none⟩) ni ni,.slice (some ⟨w2.heap.size,0,none⟩) no no,.int .i64 0,.int .i64 0,.int .i64 0,.int .i64 tw] 187))):=below_new B3.out _
  clear CL
  generalize (w3.alloc (.cells #[.slice (some ⟨w1.heap.size,0,none⟩) ni ni,.slice (some ⟨w2.heap.size,0,none⟩) no no,.int .i64 0,.int .i64 0,.int .i64 0,.int .i64 tw] 187))=W4 at *
  generalize w3.heap.size=g at *
  generalize w1.heap.size=a at *
  generalize w2.heap.size=b at *
  have kc:Hid (∀ U,Below W0.heap.size W0 U→(U.cell? ⟨w.heap.size,0,none⟩=some (.int .i64 p0)∧U.cell? ⟨w.heap.size,1,none⟩=some (.int .i64 p1)∧U.cell? ⟨w.heap.size,2,none⟩=some (.int .i64 p2))∧U.heap[w.heap.size+1]?=some (.cells #[.int .i64 0,.int .i64 0,.int .i64 0] 57 (0,0))):=fun U k=>by
    have h0:=(k.block w.heap.size (by rw [KH.out.2.2];omega)).trans KH.out.1
    have h1:=(k.block (w.heap.size+1) (by rw [KH.out.2.2];omega)).trans KH.out.2.1
    exact ⟨⟨by simp [World.cell?,h0],by simp [World.cell?,h0],by simp [World.cell?,h0]⟩,h1⟩
  obtain ⟨⟨q0,q1,q2⟩,_⟩:=kc.out W4 B4.out
  have WK:=hid_as (fun n U=>wrap_c 4 n U)
  simp only [show ∀ n,wkd 4 n=w32 n from fun _=>rfl] at WK
  have i0:=idx_0 (.int .i64 p0) (.int .i64 p1) (.int .i64 p2)
  have i1:=idx_1 (.int .i64 p0) (.int .i64 p1) (.int .i64 p2)
  have i2:=idx_2 (.int .i64 p0) (.int .i64 p1) (.int .i64 p2)
  have LS:Hid (Lft W4 g a b (kpj A B p0 p1 p2 tw 0) (.returned (.tuple #[])) W4):=Lft.start CL2.out
  go_wp2
  go_loopw [40] (fun i wr=>∃ j:Nat,j≤3∧i=.int .i64 j∧Lft W4 g a b (kpj A B p0 p1 p2 tw j) (.returned (.tuple #[])) wr) (fun i _=>3 - (intOf i).toNat)
  case atStart=>exact ⟨0,by omega,rfl,LS.out⟩
  case round =>
    obtain ⟨j,hj,rfl,hL⟩:=hrel
    have L:=hid_as hL
    clear hL LS
    by_cases hj3:j < 3
    · have hc:j=0 ∨ j=1 ∨ j=2:=by omega
      rcases hc with rfl | rfl | rfl
      · have c:=L.out.bx.c2
        have f:=L.out.bx.fg 2
        go_wp2_with (go_at_call 108;(refine (WK.out _ _).mono ?_);rintro e w' ⟨rfl,hw⟩;subst w')
        go_roundw
        case rel=>exact ⟨1,by omega,rfl,L.out.put2 (w32 p0)⟩
        case measure=>simp [intOf]
      · have c:=L.out.bx.c3
        have f:=L.out.bx.fg 3
        go_wp2_with (go_at_call 108;(refine (WK.out _ _).mono ?_);rintro e w' ⟨rfl,hw⟩;subst w')
        go_roundw
        case rel=>exact ⟨2,by omega,rfl,L.out.put3 (w32 p1)⟩
        case measure=>simp [intOf]
      · have c:=L.out.bx.c4
        have f:=L.out.bx.fg 4
        go_wp2_with (go_at_call 108;(refine (WK.out _ _).mono ?_);rintro e w' ⟨rfl,hw⟩;subst w')
        go_roundw
        case rel=>exact ⟨3,by omega,rfl,L.out.put4 (w32 p2)⟩
        case measure=>simp [intOf]
    · obtain rfl:j=3:=by omega
      have CM:Cl wr g a b ⟨pnum 2 (pI 2) l,pnum 2 (pO 2) q,w32 p0,w32 p1,w32 p2,w32 t⟩:=by rw [← HA.out,← HBB.out,← HTW.out];exact L.out.bx
      have M:=hid_as (ms_2 CM)
      rw [← HR.out] at M
      clear CM i0 i1 i2 WK
      go_wp2_with fail
      refine M.out.mono ?_
      intro e w5 hM
      have N5:=hid_as (L.out.next hM)
      obtain ⟨rfl,hM⟩:=hM
      have B5:Hid (Below W0.heap.size W0 w5):=B4.out.trans (N5.out.2.2.below (fun j hj=>by
        have:=S1.out;have:=L2.out;have:=L3.out
        simp only [List.mem_cons,List.not_mem_nil,or_false] at hj
        omega) (by have:=B4.out.size;omega))
      clear hM M
      obtain ⟨_,hres⟩:=kc.out w5 B5.out
      have c1:=N5.out.bx.c1
      have c2:=N5.out.bx.c2
      have c3:=N5.out.bx.c3
      have c4:=N5.out.bx.c4
      have d0:w5.cell? ⟨w.heap.size+1,0,none⟩=some (.int .i64 0):=by simp [World.cell?,hres]
      have d1:w5.cell? ⟨w.heap.size+1,1,none⟩=some (.int .i64 0):=by simp [World.cell?,hres]
      have d2:w5.cell? ⟨w.heap.size+1,2,none⟩=some (.int .i64 0):=by simp [World.cell?,hres]
      have fz:∀ j,w5.frozen? ⟨w.heap.size+1,j,none⟩=false:=fun j=>by simp [World.frozen?,hres]
      have hgn:g ≠ w.heap.size+1:=by have:=S1.out;have:=L2.out;have:=L3.out;have:=KH.out.2.2;omega
      have hres:=hid_as hres
      have FIN:Hid (∀ U,Turn (w.heap.size+1) w5 U→w.heap.size≤b∧Row64 U b r.o∧Below w.heap.size w U):=fun U k=>by
        have h1:=S1.out;have h2:=L2.out;have h3:=KH.out.2.2
        have h4:=N5.out.bx.ltb
        refine ⟨by omega,(k.block b h4 (fun e=>by simp at e;omega)).trans N5.out.bx.rb,?_⟩
        exact (KA.out.trans (B5.out.mono (by omega))).trans (k.below (by omega) (by have:=B5.out.size;omega))
      obtain ⟨on,hon⟩:∃ on,on=r.o.length:=⟨_,rfl⟩
      simp only [← hon] at c1
      simp only at c2 c3 c4
      have HON:=hid_as hon
      obtain ⟨x0,h0⟩:∃ x,x=r.k0:=⟨_,rfl⟩
      obtain ⟨x1,h1⟩:∃ x,x=r.k1:=⟨_,rfl⟩
      obtain ⟨x2,h2⟩:∃ x,x=r.k2:=⟨_,rfl⟩
      rw [← h0] at c2
      rw [← h1] at c3
      rw [← h2] at c4
      have H0:=hid_as h0
      have H1:=hid_as h1
      have H2:=hid_as h2
      clear hon h0 h1 h2
      go_wp2
      go_region
      go_wp2
      refine bodyPost_ret (v:=.tuple #[.slice (some ⟨b,0,none⟩) on on,.agg #[.int .i64 x0,.int .i64 x1,.int .i64 x2]]) (by simp [results,Tryz.results89,go_sem,d0,d1,d2]) rfl ⟨b,by rw [HON.out,H0.out,H1.out,H2.out],FIN.out _ (((((Turn.refl _ w5).set 0 _).set 1 _).set 2 _).drew)⟩
end Go.Proofs.YthjclogkcmomkaaGreatDoor
