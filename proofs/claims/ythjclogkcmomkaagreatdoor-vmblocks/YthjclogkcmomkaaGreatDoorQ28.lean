/- What a step's outputs may be; seven more (plain mathematics, stage 17). · Rows of numbers (stage 21, after stage 17). · fb.Step of block 6 (stage 21, after stage 17). · Step of any block; the blocks' names; append of numbers; two arrays of three (stage 21, after stage 17). · The reference's truth, since, pad, Pins (stage 21, after stage 17). · The reference's timer: what all ways share (stage 21, after stage 17). · The reference's Step: what all blocks share (stage 21, after stage 17). -/
import Derived.Laws.CopyOwn
import Derived.Deep.CutRange
import Derived.Deep.CutBlock
import Derived.Test.YthjclogkcmomkaaGreatDoorQ1
import Derived.Test.YthjclogkcmomkaaGreatDoorQ3
import Derived.Test.YthjclogkcmomkaaGreatDoorQ14
import Derived.Test.YthjclogkcmomkaaGreatDoorQ16
import Derived.Test.YthjclogkcmomkaaGreatDoorQ20
import Derived.Test.YthjclogkcmomkaaGreatDoorQ21
import Derived.Test.YthjclogkcmomkaaGreatDoorQ22
import Derived.Test.YthjclogkcmomkaaGreatDoorQ23
import Derived.Test.YthjclogkcmomkaaGreatDoorQ24
import Derived.Test.YthjclogkcmomkaaGreatDoorQ25
import Derived.Test.YthjclogkcmomkaaGreatDoorQ27
namespace Go.Proofs.YthjclogkcmomkaaGreatDoor
open Go.RowKit
open Fb
theorem b01_ok (b:Bool):-2147483648≤b01 b∧b01 b≤2147483647:=by cases b <;> decide
theorem el_ok {pt nw k:Int} (h:0≤pt∧pt≤2147483647):-2147483648≤el pt nw k∧el pt nw k≤2147483647:=by
  unfold el since;omega
theorem two_ok {x y:Int} (hx:-2147483648≤x∧x≤2147483647) (hy:-2147483648≤y∧y≤2147483647):∀ z ∈ [x,y],-2147483648≤z∧z≤2147483647:=by
  intro z hz
  simp only [List.mem_cons,List.not_mem_nil,or_false] at hz
  rcases hz with rfl | rfl
  · exact hx
  · exact hy
theorem pt_ok (x:Int):0≤max (w32 x) 0∧max (w32 x) 0≤2147483647:=by have:=w32_ok x;omega
theorem one_ok {x:Int} (hx:-2147483648≤x∧x≤2147483647):∀ z ∈ [x],-2147483648≤z∧z≤2147483647:=by
  intro z hz
  simp only [List.mem_cons,List.not_mem_nil,or_false] at hz
  rw [hz];exact hx
theorem ton_ok {a:Bool} {pt k0 k1 k2 nw:Int} (h:0≤pt∧pt≤2147483647):∀ z ∈ (ton a pt k0 k1 k2 nw).o,-2147483648≤z∧z≤2147483647:=by
  unfold ton
  dsimp only
  repeat' split
  all_goals (first | exact two_ok (by omega) (by omega) | exact two_ok (b01_ok _) (el_ok h))
theorem tof_ok {a:Bool} {pt et k0 k1 k2 nw:Int} (h:0≤pt∧pt≤2147483647) (he:-2147483648≤et∧et≤2147483647):∀ z ∈ (tof a pt et k0 k1 k2 nw).o,-2147483648≤z∧z≤2147483647:=by
  unfold tof
  dsimp only
  repeat' split
  all_goals (first | exact two_ok (by omega) (by omega) | exact two_ok (by omega) he | exact two_ok (b01_ok _) (el_ok h))
theorem tp_ok {a:Bool} {pt et k0 k1 k2 nw:Int} (h:0≤pt∧pt≤2147483647) (he:-2147483648≤et∧et≤2147483647):∀ z ∈ (tp a pt et k0 k1 k2 nw).o,-2147483648≤z∧z≤2147483647:=by
  unfold tp
  dsimp only
  repeat' split
  all_goals (first | exact two_ok (b01_ok _) (by omega) | exact two_ok (b01_ok _) (el_ok h) | exact two_ok (b01_ok _) he)
theorem ctu_ok {a b:Bool} {pv cv k0 k1 k2:Int} (hc:-32768≤cv∧cv≤32767):∀ z ∈ (ctu a b pv cv k0 k1 k2).o,-2147483648≤z∧z≤2147483647:=by
  unfold ctu
  dsimp only
  refine two_ok (b01_ok _) ?_
  split
  · omega
  · split <;> omega
theorem ctd_ok {a b:Bool} {pv cv k0 k1 k2:Int} (hp:-32768≤pv∧pv≤32767) (hc:-32768≤cv∧cv≤32767):∀ z ∈ (ctd a b pv cv k0 k1 k2).o,-2147483648≤z∧z≤2147483647:=by
  unfold ctd
  dsimp only
  refine two_ok (b01_ok _) ?_
  split
  · omega
  · split <;> omega
theorem ctud_ok {a b r l:Bool} {pv cv k0 k1 k2:Int} (hp:-32768≤pv∧pv≤32767) (hc:-32768≤cv∧cv≤32767):∀ z ∈ (ctud a b r l pv cv k0 k1 k2).o,-2147483648≤z∧z≤2147483647:=by
  unfold ctud
  dsimp only
  intro z hz
  rw [List.mem_cons] at hz
  rcases hz with rfl | hz
  · exact b01_ok _
  · revert z
    refine two_ok (b01_ok _) ?_
    split
    · omega
    · split
      · omega
      · split
        · omega
        · split <;> omega
theorem stp_ok (k:Nat) (l q:List Int) (p0 p1 p2 t:Int):∀ z ∈ (stp k l q p0 p1 p2 t).o,-2147483648≤z∧z≤2147483647:=by
  match k with
  | 0=>exact ton_ok (pt_ok _)
  | 1=>exact tof_ok (pt_ok _) (w32_ok _)
  | 2=>exact tp_ok (pt_ok _) (w32_ok _)
  | 3=>exact ctu_ok (w16_ok _)
  | 4=>exact ctd_ok (w16_ok _) (w16_ok _)
  | 5=>exact ctud_ok (w16_ok _) (w16_ok _)
  | 6=>exact one_ok (b01_ok _)
  | 7=>exact one_ok (b01_ok _)
  | 8=>exact one_ok (b01_ok _)
  | 9=>exact one_ok (b01_ok _)
  | k+10=>intro z hz;cases hz
theorem stp_len (k:Nat) (l q:List Int) (p0 p1 p2 t:Int):(stp k l q p0 p1 p2 t).o.length=(pO k).length:=by
  match k with
  | 0 =>
    simp only [stp,ton]
    repeat' split
    all_goals rfl
  | 1 =>
    simp only [stp,tof]
    repeat' split
    all_goals rfl
  | 2 =>
    simp only [stp,tp]
    repeat' split
    all_goals rfl
  | 3=>rfl
  | 4=>rfl
  | 5=>rfl
  | 6=>rfl
  | 7=>rfl
  | 8=>rfl
  | 9=>rfl
  | k+10=>rfl
end Go.Proofs.YthjclogkcmomkaaGreatDoor
namespace Go.Proofs.YthjclogkcmomkaaGreatDoor
open Go.RowKit
open Fb
theorem row_sl {w:World} {b n:Nat} {l:List Int} (r:Row64 w b l) (hn:n=l.length):Sl w (.slice (some ⟨b,0,none⟩) n n) (i64s l):=by
  subst hn
  refine Or.inr ⟨b,0,l.length,by rw [i64s_len],by rw [i64s_len];exact Nat.le_refl _,fun k u hk=>?_⟩
  rw [Nat.zero_add]
  exact cell_row r hk
theorem row_below {w u:World} {b:Nat} {l:List Int} (r:Row64 w b l) (k:Below w.heap.size w u):Row64 u b l:=(k.block _ (row_lt r)).trans r
theorem row_new (w:World) (l:List Int):Row64 (w.alloc (.cells (i64s l).toArray 2)) w.heap.size l:=heap_alloc_new w _
theorem row_set {w:World} {b j:Nat} {l:List Int} (r:Row64 w b l) (x:Int):Row64 (w.setCell ⟨b,j,none⟩ (.int .i64 x)) b (l.set j x):=by
  show _=_
  rw [set_row r,← i64s_set]
theorem run_copy_turn {P:Program} {w:World} (dT sT ty:TypeId) (elem:TypeId) (hu:P.underlying dT=some (.slice elem)) (hsz:(P.info? elem).map (·.size)=some 1)
    (dp sp:Option Addr) (dLen dCap sLen sCap:Nat)
    (g off:Nat) (cur:List Value) (t:TypeId) (hg:w.heap[g]?=some (.cells cur.toArray t (0,0))) (cs:List Value) (hn:cs.length=Nat.min sLen dLen)
    (hpos:0 < cs.length→dp=some ⟨g,off,none⟩∧∃ ad,sp=some ad∧∀ j v,cs[j]?=some v→w.cell? (ad.add j)=some v)
    (hfit:off+cs.length≤cur.length) (h1:∀ v ∈ cs,v.oneCell'=true) :
    ∃ w',(Builtin.copy_ #[dT,sT] ty #[.slice dp dLen dCap,.slice sp sLen sCap]).run P w=.ok (goInt cs.length) w'∧w'.heap[g]?=some (.cells (splice cur off cs).toArray t (0,0))∧Turn g w w':=by
  by_cases h0:cs.length=0
  · obtain rfl:cs=[]:=List.eq_nil_of_length_eq_zero h0
    exact ⟨w,run_copy_none (P:=P) w dT sT ty elem dp sp dLen dCap sLen sCap hu hsz (by simpa using hn.symm),by simpa [splice] using hg,Turn.refl g w⟩
  · obtain ⟨rfl,ad,rfl,hsrc⟩:=hpos (by omega)
    exact ⟨_,run_copy_row (P:=P) w dT sT ty elem g off dLen dCap ad sLen sCap cur.toArray t cs hu hsz hg hn hsrc (by simpa using hfit) h1,by simpa [splice] using setRow_heap w g _ _ t _ hg,⟨rfl,rfl,rfl,by simp [World.setRow],fun k _ hk=>setRow_other w g k _ (fun e=>hk (by simp [e]))⟩⟩
theorem src_cells {w:World} {ao:Option Addr} {n cap:Nat} {vs:List Value} (h:Sl w (.slice ao n cap) vs) (k:Nat) (hk:0 < (vs.take k).length):∃ ad,ao=some ad∧∀ j v,(vs.take k)[j]?=some v→w.cell? (ad.add j)=some v:=by
  rcases h with ⟨h,_⟩ | ⟨b,off,c,hv,_,hc⟩
  · subst h
    simp at hk
  · simp only [Value.slice.injEq] at hv
    refine ⟨⟨b,off,none⟩,hv.1,fun j v hj=>hc.news j v ?_⟩
    rw [List.getElem?_take] at hj
    split at hj
    · exact hj
    · cases hj
end Go.Proofs.YthjclogkcmomkaaGreatDoor
namespace Go.Proofs.YthjclogkcmomkaaGreatDoor
open Go.RowKit
open Fb
set_option maxRecDepth 100000 in
set_option maxHeartbeats 4000000 in
theorem step_6 {w:World} {ia oa:Option Addr} {n m ic oc:Nat} {l q:List Int} {r:Rs} (p0 p1 p2 t:Int) (hi:Sl w (.slice ia n ic) (i64s l)) (hn:n=l.length) (hn9:n≤9223372036854775807) (ho:Sl w (.slice oa m oc) (i64s q)) (hm:m=q.length) (hm9:m≤9223372036854775807) (hr:r=stp 6 l q p0 p1 p2 t) :
    Calls Tryz.prog 89 #[.string (nm 6),.slice ia n ic,.agg #[.int .i64 p0,.int .i64 p1,.int .i64 p2],.slice oa m oc,.int .i64 t] w (StepEnd w r):=by
  have I:=hid_as hi
  have O:=hid_as ho
  have HR:=hid_as hr
  have HN:=hid_as hn
  have HM:=hid_as hm
  clear hi ho hr hn hm
  obtain ⟨N,hN⟩:∃ N:ByteArray,N=nm 6:=⟨_,rfl⟩
  rw [← hN]
  have HNM:=hid_as hN
  clear hN
  go_enter Tryz.func89,Tryz.ntmps89
  go_upto_region 1 with fail
  have KA:Hid (Below w.heap.size w ((w.alloc (.cells #[.int .i64 p0,.int .i64 p1,.int .i64 p2] 57)).alloc (.cells #[.int .i64 0,.int .i64 0,.int .i64 0] 57))):=below_new (below_new (Below.refl _ _) _) _
  have KH:Hid ((((w.alloc (.cells #[.int .i64 p0,.int .i64 p1,.int .i64 p2] 57)).alloc (.cells #[.int .i64 0,.int .i64 0,.int .i64 0] 57))).heap[w.heap.size]?=some (.cells #[.int .i64 p0,.int .i64 p1,.int .i64 p2] 57 (0,0))∧(((w.alloc (.cells #[.int .i64 p0,.int .i64 p1,.int .i64 p2] 57)).alloc (.cells #[.int .i64 0,.int .i64 0,.int .i64 0] 57))).heap[w.heap.size+1]?=some (.cells #[.int .i64 0,.int .i64 0,.int .i64 0] 57 (0,0))∧(((w.alloc (.cells #[.int .i64 p0,.int .i64 p1,.int .i64 p2] 57)).alloc (.cells #[.int .i64 0,.int .i64 0,.int .i64 0] 57))).heap.size=w.heap.size+2):=two_newK w _ _
  generalize ((w.alloc (.cells #[.int .i64 p0,.int .i64 p1,.int .i64 p2] 57)).alloc (.cells #[.int .i64 0,.int .i64 0,.int .i64 0] 57))=W0 at *
  have MA:=hid_as (mach_6 W0)
  have PI:=hid_as (pins_c 6 (by decide) W0)
  have PN:=hid_as (fun U b c (hL:Lies U b 0 (strs (pI 6))) (hB:Below w.heap.size w U)=>pinNumbers_c 6 (by decide) (pI 6) l ia n ic b (pI 6).length c U rfl (by have:=pI_le 6;omega) hL HN.out hn9 (I.out.below hB))
  have PM:=hid_as (fun U b c (hL:Lies U b 0 (strs (pO 6))) (hB:Below w.heap.size w U)=>pinNumbers_c 6 (by decide) (pO 6) q oa m oc b (pO 6).length c U rfl (by have:=pO_le 6;omega) hL HM.out hm9 (O.out.below hB))
  have li:(pnum 6 (pI 6) l).length=(pI 6).length:=pnum_len ..
  have lo:(pnum 6 (pO 6) q).length=(pO 6).length:=pnum_len ..
  have pi:=pI_pos 6 (by decide)
  have po:=pO_posK 6 (by decide)
  obtain ⟨A,hA⟩:∃ A,A=pnum 6 (pI 6) l:=⟨_,rfl⟩
  obtain ⟨B,hB⟩:∃ B,B=pnum 6 (pO 6) q:=⟨_,rfl⟩
  simp only [← hA] at PN li
  simp only [← hB] at PM lo
  have HA:=hid_as hA
  have HBB:=hid_as hB
  generalize (pI 6).length=ni at *
  generalize (pO 6).length=no at *
  rw [← HNM.out] at MA PI
  simp only [← HNM.out] at PN PM
  have LI:=hid_as li
  have LO:=hid_as lo
  clear hA hB li lo
  go_wp2_with fail
  refine MA.out.mono ?_
  rintro e w' ⟨rfl,hw⟩
  subst w'
  clear MA
  go_wp2_with fail
  refine PI.out.mono ?_
  rintro e w1 ⟨v,u,rfl,ov,ou,b1⟩
  obtain ⟨gv,cv,rfl⟩:=own_at ov pi
  obtain ⟨gu,cu,rfl⟩:=own_at ou po
  have KV:=hid_as (below_and KA.out (b1.mono (Nat.le_refl _)))
  have X:=hid_as (PN.out w1 gv cv (own_liesK ov) KV.out)
  have OU:=hid_as (own_liesK ou)
  have S1:=hid_as (show W0.heap.size≤w1.heap.size from b1.size)
  have KW:=hid_as (show Below W0.heap.size W0 w1 from b1)
  clear ov ou b1 PI PN pi po
  go_wp2_with fail
  refine X.out.mono ?_
  rintro e w2 ⟨rfl,r2,b2⟩
  have Y:=hid_as (PM.out w2 gu cu (OU.out.below b2) (below_and KV.out b2))
  have R2:=hid_as r2
  have B2:=hid_as b2
  have L2:Hid (w1.heap.size < w2.heap.size):=(Array.getElem?_eq_some_iff.1 r2).1
  clear X PM OU r2 b2
  go_wp2_with fail
  refine Y.out.mono ?_
  rintro e w3 ⟨rfl,r3,b3⟩
  have WR:=hid_as (fun U=>wrap_c 4 t U)
  rw [show wkd 4 t=w32 t from rfl] at WR
  obtain ⟨tw,htw⟩:∃ tw,tw=w32 t:=⟨_,rfl⟩
  rw [← htw] at WR
  have HTW:=hid_as htw
  clear htw
  have CL:=hid_as (fun nw=>cl_new (W:=w3) (nw:=nw) (ni:=ni) (no:=no) LI.out.symm LO.out.symm ((b3.block _ L2.out).trans R2.out) r3 (Nat.ne_of_lt L2.out))
  have B3:Hid (Below W0.heap.size W0 w3):=below_and KW.out (below_and B2.out b3)
  have L3:Hid (w2.heap.size < w3.heap.size):=(Array.getElem?_eq_some_iff.1 r3).1
  clear Y r3 b3 R2 B2
  go_upto_region 6 with (go_at_call 108;(refine (WR.out _).mono ?_);rintro e w' ⟨rfl,hw⟩;subst w')
  have CL2:=hid_as (CL.out tw)
  have B4:Hid (Below W0.heap.size W0 (w3.alloc (.cells #[.slice (some ⟨w1.heap.size,0,none⟩) ni ni,.slice (some ⟨w2.heap.size,0,none⟩) no no,.int .i64 0,.int .i64 0,.int .i64 0,.int .i64 tw] 187))):=below_new B3.out _
  clear CL
  generalize (w3.alloc (.cells #[.slice (some ⟨w1.heap.size,0,none⟩) ni ni,.slice (some ⟨w2.heap.size,0,none⟩) no no,.int .i64 0,.int .i64 0,.int .i64 0,.int .i64 tw] 187))=W4 at *
  generalize w3.heap.size=g at *
  generalize w1.heap.size=a at *
  generalize w2.heap.size=b at *
  have kc:Hid (∀ U,Below W0.heap.size W0 U→(U.cell? ⟨w.heap.size,0,none⟩=some (.int .i64 p0)∧U.cell? ⟨w.heap.size,1,none⟩=some (.int .i64 p1)∧U.cell? ⟨w.heap.size,2,none⟩=some (.int .i64 p2))∧U.heap[w.heap.size+1]?=some (.cells #[.int .i64 0,.int .i64 0,.int .i64 0] 57 (0,0))):=fun U k=>by
    have h0:=(k.block w.heap.size (by rw [KH.out.2.2];omega)).trans KH.out.1
    have h1:=(k.block (w.heap.size+1) (by rw [KH.out.2.2];omega)).trans KH.out.2.1
    exact ⟨⟨by simp [World.cell?,h0],by simp [World.cell?,h0],by simp [World.cell?,h0]⟩,h1⟩
  obtain ⟨⟨q0,q1,q2⟩,_⟩:=kc.out W4 B4.out
  have WK:=hid_as (fun n U=>wrap_c 4 n U)
  simp only [show ∀ n,wkd 4 n=w32 n from fun _=>rfl] at WK
  have i0:=idx_0 (.int .i64 p0) (.int .i64 p1) (.int .i64 p2)
  have i1:=idx_1 (.int .i64 p0) (.int .i64 p1) (.int .i64 p2)
  have i2:=idx_2 (.int .i64 p0) (.int .i64 p1) (.int .i64 p2)
  have LS:Hid (Lft W4 g a b (kpj A B p0 p1 p2 tw 0) (.returned (.tuple #[])) W4):=Lft.start CL2.out
  go_wp2
  go_loopw [40] (fun i wr=>∃ j:Nat,j≤3∧i=.int .i64 j∧Lft W4 g a b (kpj A B p0 p1 p2 tw j) (.returned (.tuple #[])) wr) (fun i _=>3 - (intOf i).toNat)
  case atStart=>exact ⟨0,by omega,rfl,LS.out⟩
  case round =>
    obtain ⟨j,hj,rfl,hL⟩:=hrel
    have L:=hid_as hL
    clear hL LS
    by_cases hj3:j < 3
    · have hc:j=0 ∨ j=1 ∨ j=2:=by omega
      rcases hc with rfl | rfl | rfl
      · have c:=L.out.bx.c2
        have f:=L.out.bx.fg 2
        go_wp2_with (go_at_call 108;(refine (WK.out _ _).mono ?_);rintro e w' ⟨rfl,hw⟩;subst w')
        go_roundw
        case rel=>exact ⟨1,by omega,rfl,L.out.put2 (w32 p0)⟩
        case measure=>simp [intOf]
      · have c:=L.out.bx.c3
        have f:=L.out.bx.fg 3
        go_wp2_with (go_at_call 108;(refine (WK.out _ _).mono ?_);rintro e w' ⟨rfl,hw⟩;subst w')
        go_roundw
        case rel=>exact ⟨2,by omega,rfl,L.out.put3 (w32 p1)⟩
        case measure=>simp [intOf]
      · have c:=L.out.bx.c4
        have f:=L.out.bx.fg 4
        go_wp2_with (go_at_call 108;(refine (WK.out _ _).mono ?_);rintro e w' ⟨rfl,hw⟩;subst w')
        go_roundw
        case rel=>exact ⟨3,by omega,rfl,L.out.put4 (w32 p2)⟩
        case measure=>simp [intOf]
    · obtain rfl:j=3:=by omega
      have CM:Cl wr g a b ⟨pnum 6 (pI 6) l,pnum 6 (pO 6) q,w32 p0,w32 p1,w32 p2,w32 t⟩:=by rw [← HA.out,← HBB.out,← HTW.out];exact L.out.bx
      have M:=hid_as (ms_6 CM)
      rw [← HR.out] at M
      clear CM i0 i1 i2 WK
      go_wp2_with fail
      refine M.out.mono ?_
      intro e w5 hM
      have N5:=hid_as (L.out.next hM)
      obtain ⟨rfl,hM⟩:=hM
      have B5:Hid (Below W0.heap.size W0 w5):=B4.out.trans (N5.out.2.2.below (fun j hj=>by
        have:=S1.out;have:=L2.out;have:=L3.out
        simp only [List.mem_cons,List.not_mem_nil,or_false] at hj
        omega) (by have:=B4.out.size;omega))
      clear hM M
      obtain ⟨_,hres⟩:=kc.out w5 B5.out
      have c1:=N5.out.bx.c1
      have c2:=N5.out.bx.c2
      have c3:=N5.out.bx.c3
      have c4:=N5.out.bx.c4
      have d0:w5.cell? ⟨w.heap.size+1,0,none⟩=some (.int .i64 0):=by simp [World.cell?,hres]
      have d1:w5.cell? ⟨w.heap.size+1,1,none⟩=some (.int .i64 0):=by simp [World.cell?,hres]
      have d2:w5.cell? ⟨w.heap.size+1,2,none⟩=some (.int .i64 0):=by simp [World.cell?,hres]
      have fz:∀ j,w5.frozen? ⟨w.heap.size+1,j,none⟩=false:=fun j=>by simp [World.frozen?,hres]
      have hgn:g ≠ w.heap.size+1:=by have:=S1.out;have:=L2.out;have:=L3.out;have:=KH.out.2.2;omega
      have hres:=hid_as hres
      have FIN:Hid (∀ U,Turn (w.heap.size+1) w5 U→w.heap.size≤b∧Row64 U b r.o∧Below w.heap.size w U):=fun U k=>by
        have h1:=S1.out;have h2:=L2.out;have h3:=KH.out.2.2
        have h4:=N5.out.bx.ltb
        refine ⟨by omega,(k.block b h4 (fun e=>by simp at e;omega)).trans N5.out.bx.rb,?_⟩
        exact (KA.out.trans (B5.out.mono (by omega))).trans (k.below (by omega) (by have:=B5.out.size;omega))
      obtain ⟨on,hon⟩:∃ on,on=r.o.length:=⟨_,rfl⟩
      simp only [← hon] at c1
      simp only at c2 c3 c4
      have HON:=hid_as hon
      obtain ⟨x0,h0⟩:∃ x,x=r.k0:=⟨_,rfl⟩
      obtain ⟨x1,h1⟩:∃ x,x=r.k1:=⟨_,rfl⟩
      obtain ⟨x2,h2⟩:∃ x,x=r.k2:=⟨_,rfl⟩
      rw [← h0] at c2
      rw [← h1] at c3
      rw [← h2] at c4
      have H0:=hid_as h0
      have H1:=hid_as h1
      have H2:=hid_as h2
      clear hon h0 h1 h2
      go_wp2
      go_region
      go_wp2
      refine bodyPost_ret (v:=.tuple #[.slice (some ⟨b,0,none⟩) on on,.agg #[.int .i64 x0,.int .i64 x1,.int .i64 x2]]) (by simp [results,Tryz.results89,go_sem,d0,d1,d2]) rfl ⟨b,by rw [HON.out,H0.out,H1.out,H2.out],FIN.out _ (((((Turn.refl _ w5).set 0 _).set 1 _).set 2 _).drew)⟩
end Go.Proofs.YthjclogkcmomkaaGreatDoor
namespace Go.Proofs.YthjclogkcmomkaaGreatDoor
open Go.RowKit
open Fb
theorem step_any {w:World} {ia oa:Option Addr} {n m ic oc:Nat} {l q:List Int} (k:Nat) (hk:k < 10) (p0 p1 p2 t:Int) (hi:Sl w (.slice ia n ic) (i64s l)) (hn:n=l.length) (hn9:n≤9223372036854775807) (ho:Sl w (.slice oa m oc) (i64s q)) (hm:m=q.length) (hm9:m≤9223372036854775807) :
    Calls Tryz.prog 89 #[.string (nm k),.slice ia n ic,.agg #[.int .i64 p0,.int .i64 p1,.int .i64 p2],.slice oa m oc,.int .i64 t] w (StepEnd w (stp k l q p0 p1 p2 t)):=by
  match k,hk with
  | 0,_=>exact step_0 p0 p1 p2 t hi hn hn9 ho hm hm9 rfl
  | 1,_=>exact step_1 p0 p1 p2 t hi hn hn9 ho hm hm9 rfl
  | 2,_=>exact step_2 p0 p1 p2 t hi hn hn9 ho hm hm9 rfl
  | 3,_=>exact step_3 p0 p1 p2 t hi hn hn9 ho hm hm9 rfl
  | 4,_=>exact step_4 p0 p1 p2 t hi hn hn9 ho hm hm9 rfl
  | 5,_=>exact step_5 p0 p1 p2 t hi hn hn9 ho hm hm9 rfl
  | 6,_=>exact step_6 p0 p1 p2 t hi hn hn9 ho hm hm9 rfl
  | 7,_=>exact step_7 p0 p1 p2 t hi hn hn9 ho hm hm9 rfl
  | 8,_=>exact step_8 p0 p1 p2 t hi hn hn9 ho hm hm9 rfl
  | 9,_=>exact step_9 p0 p1 p2 t hi hn hn9 ho hm hm9 rfl
end Go.Proofs.YthjclogkcmomkaaGreatDoor
namespace Go.Proofs.YthjclogkcmomkaaGreatDoor
open Go.RowKit
open Fb
theorem rtruth_c (b:Bool) (w:World):Calls Tryz.prog 43 #[.bool b] w fun e w'=>e=.returned (.int .i64 (b01 b))∧w'=w:=by
  cases b
  · go_enter Tryz.func43,Tryz.ntmps43
    go_wp2
    go_ret
    exact ⟨rfl,rfl⟩
  · go_enter Tryz.func43,Tryz.ntmps43
    go_wp2
    go_ret
    exact ⟨rfl,rfl⟩
set_option maxHeartbeats 400000 in
theorem rsince_c {a b:Int} (ha:-2147483648≤a∧a≤2147483647) (hb:-2147483648≤b∧b≤2147483647) (w:World):Calls Tryz.prog 62 #[.int .i64 a,.int .i64 b] w fun e w'=>e=.returned (.int .i64 (Fb.since a b))∧Below w.heap.size w w':=by
  have WR:=hid_as (rwrap_4 (a - b) w)
  have hs:Fb.since a b=max (w32 (a - b)) 0:=rfl
  have HS:=hid_as hs
  clear hs
  obtain ⟨x,hx⟩:∃ x,x=w32 (a - b):=⟨_,rfl⟩
  rw [← hx] at WR HS
  clear hx
  by_cases h:x < 0
  · go_enter Tryz.func62,Tryz.ntmps62
    go_wp2_with fail
    refine WR.out.mono ?_
    rintro e w1 ⟨rfl,k1⟩
    go_wp2
    go_ret
    exact ⟨ret_int (by rw [HS.out];omega),k1⟩
  · go_enter Tryz.func62,Tryz.ntmps62
    go_wp2_with fail
    refine WR.out.mono ?_
    rintro e w1 ⟨rfl,k1⟩
    go_wp2
    go_ret
    exact ⟨ret_int (by rw [HS.out];omega),k1⟩
/-- So many numbers. -/
def padl (l:List Int) (n:Nat):List Int:=(List.range n).map fun i=>l.getD i 0
theorem padl_get (l:List Int) (n i:Nat) (h:i < n):(padl l n)[i]?=some (l.getD i 0):=by simp [padl,h]
theorem i64s_take (l:List Int) (k:Nat):i64s (l.take k)=(i64s l).take k:=by simp [i64s,List.map_take]
theorem splice_pad (l:List Int) (n:Nat):splice (i64s (List.replicate n 0)) 0 (i64s (l.take n))=i64s (padl l n):=by
  apply List.ext_getElem?
  intro i
  simp only [splice,List.take_zero,List.nil_append,Nat.zero_add,i64s_len,List.length_take]
  by_cases h:i < n
  · have hr:(i64s (padl l n))[i]?=some (.int .i64 (l.getD i 0)):=by simp [i64s,padl_get l n i h]
    rw [hr]
    by_cases hl:i < l.length
    · rw [List.getElem?_append_left (by rw [i64s_len,List.length_take];omega)]
      simp [i64s,h,hl]
    · rw [List.getElem?_append_right (by rw [i64s_len,List.length_take];omega),List.getElem?_drop,i64s_len,List.length_take]
      rw [show min n l.length+(i - min n l.length)=i by omega]
      simp [i64s,h,hl]
  · rw [List.getElem?_eq_none (by simp [i64s];omega),List.getElem?_eq_none (by simp [i64s,padl];omega)]
set_option maxHeartbeats 400000 in
theorem rpad_c {w:World} {ia:Option Addr} {m ic:Nat} {l:List Int} (n:Nat) (hi:Sl w (.slice ia m ic) (i64s l)) (hm:m=l.length) (hn:n≤100) :
    Calls Tryz.prog 42 #[.slice ia m ic,.int .i64 (n:Int)] w fun e w'=>e=.returned (.slice (some ⟨w.heap.size,0,none⟩) n n)∧Row64 w' w.heap.size (padl l n)∧Below w.heap.size w w':=by
  obtain ⟨W1,h1,r1,b1,s1⟩:=mk_run w n (by omega)
  have hs:=hi.below b1
  obtain ⟨W2,h2,r2,t2⟩:=run_copy_turn (P:=Tryz.prog) (w:=W1) 26 26 3 2 Tryz.underlying26 (by kernel_rfl) (some ⟨w.heap.size,0,none⟩) ia n n m ic w.heap.size 0 (i64s (List.replicate n 0)) 2 r1 (i64s (l.take n)) (by rw [i64s_len,List.length_take,hm];exact Nat.min_comm _ _)
    (fun h0=>by
      refine ⟨rfl,?_⟩
      have:=src_cells hs n
      rw [← i64s_take] at this
      exact this h0) (by rw [i64s_len,i64s_len,List.length_take,List.length_replicate];omega) (one_nums _)
  rw [splice_pad] at r2
  have FIN:Hid (Row64 W2 w.heap.size (padl l n)∧Below w.heap.size w W2):=⟨r2,b1.trans (t2.below (Nat.le_refl _) (by omega))⟩
  generalize (i64s (l.take n)).length=cn at h2
  clear hs r1 b1 s1 r2 t2 hi hm
  go_enter Tryz.func42,Tryz.ntmps42
  go_wp2
  go_ret
  exact ⟨rfl,FIN.out.1,FIN.out.2⟩
/-- What the reference's Pins tell: so many. -/
def PinsEnd (w:World) (ni no:Nat) (e:Ending) (w':World):Prop:=∃ a b c d,e=.returned (.tuple #[.slice a ni c,.slice b no d])∧Below w.heap.size w w'
set_option maxHeartbeats 400000 in
theorem rpins_0 (w:World):Calls Tryz.prog 41 #[.string (nm 0)] w (PinsEnd w (pI 0).length (pO 0).length):=by
  unfold nm nml tx
  go_enter Tryz.func41,Tryz.ntmps41
  go_wp2
  go_ret2
  exact ⟨_,_,_,_,rfl,below_new (below_new (Below.refl _ _) _) _⟩
set_option maxHeartbeats 400000 in
theorem rpins_1 (w:World):Calls Tryz.prog 41 #[.string (nm 1)] w (PinsEnd w (pI 1).length (pO 1).length):=by
  unfold nm nml tx
  go_enter Tryz.func41,Tryz.ntmps41
  go_wp2
  go_ret2
  exact ⟨_,_,_,_,rfl,below_new (below_new (Below.refl _ _) _) _⟩
set_option maxHeartbeats 400000 in
theorem rpins_2 (w:World):Calls Tryz.prog 41 #[.string (nm 2)] w (PinsEnd w (pI 2).length (pO 2).length):=by
  unfold nm nml tx
  go_enter Tryz.func41,Tryz.ntmps41
  go_wp2
  go_ret2
  exact ⟨_,_,_,_,rfl,below_new (below_new (Below.refl _ _) _) _⟩
set_option maxHeartbeats 400000 in
theorem rpins_3 (w:World):Calls Tryz.prog 41 #[.string (nm 3)] w (PinsEnd w (pI 3).length (pO 3).length):=by
  unfold nm nml tx
  go_enter Tryz.func41,Tryz.ntmps41
  go_wp2
  go_ret2
  exact ⟨_,_,_,_,rfl,below_new (below_new (Below.refl _ _) _) _⟩
set_option maxHeartbeats 400000 in
theorem rpins_4 (w:World):Calls Tryz.prog 41 #[.string (nm 4)] w (PinsEnd w (pI 4).length (pO 4).length):=by
  unfold nm nml tx
  go_enter Tryz.func41,Tryz.ntmps41
  go_wp2
  go_ret2
  exact ⟨_,_,_,_,rfl,below_new (below_new (Below.refl _ _) _) _⟩
set_option maxHeartbeats 400000 in
theorem rpins_5 (w:World):Calls Tryz.prog 41 #[.string (nm 5)] w (PinsEnd w (pI 5).length (pO 5).length):=by
  unfold nm nml tx
  go_enter Tryz.func41,Tryz.ntmps41
  go_wp2
  go_ret2
  exact ⟨_,_,_,_,rfl,below_new (below_new (Below.refl _ _) _) _⟩
set_option maxHeartbeats 400000 in
theorem rpins_6 (w:World):Calls Tryz.prog 41 #[.string (nm 6)] w (PinsEnd w (pI 6).length (pO 6).length):=by
  unfold nm nml tx
  go_enter Tryz.func41,Tryz.ntmps41
  go_wp2
  go_ret2
  exact ⟨_,_,_,_,rfl,below_new (below_new (Below.refl _ _) _) _⟩
set_option maxHeartbeats 400000 in
theorem rpins_7 (w:World):Calls Tryz.prog 41 #[.string (nm 7)] w (PinsEnd w (pI 7).length (pO 7).length):=by
  unfold nm nml tx
  go_enter Tryz.func41,Tryz.ntmps41
  go_wp2
  go_ret2
  exact ⟨_,_,_,_,rfl,below_new (below_new (Below.refl _ _) _) _⟩
set_option maxHeartbeats 400000 in
theorem rpins_8 (w:World):Calls Tryz.prog 41 #[.string (nm 8)] w (PinsEnd w (pI 8).length (pO 8).length):=by
  unfold nm nml tx
  go_enter Tryz.func41,Tryz.ntmps41
  go_wp2
  go_ret2
  exact ⟨_,_,_,_,rfl,below_new (below_new (Below.refl _ _) _) _⟩
set_option maxHeartbeats 400000 in
theorem rpins_9 (w:World):Calls Tryz.prog 41 #[.string (nm 9)] w (PinsEnd w (pI 9).length (pO 9).length):=by
  unfold nm nml tx
  go_enter Tryz.func41,Tryz.ntmps41
  go_wp2
  go_ret2
  exact ⟨_,_,_,_,rfl,below_new (below_new (Below.refl _ _) _) _⟩
end Go.Proofs.YthjclogkcmomkaaGreatDoor
namespace Go.Proofs.YthjclogkcmomkaaGreatDoor
open Go.RowKit
open Fb
/-- The world behind a keep's store. -/
def st3 (W:World) (g:Nat) (a b c:Int):World:=((W.setCell ⟨g,0,none⟩ (.int .i64 a)).setCell ⟨g,1,none⟩ (.int .i64 b)).setCell ⟨g,2,none⟩ (.int .i64 c)
theorem st3_turn (W:World) (g:Nat) (a b c:Int):Turn g W (st3 W g a b c):=(((Turn.refl g W).set 0 _).set 1 _).set 2 _
/-- What is kept lies in block g. -/
abbrev Kr (w:World) (g:Nat) (a b c:Int):Prop:=w.heap[g]?=some (.cells #[.int .i64 a,.int .i64 b,.int .i64 c] 57 (0,0))
theorem Kr.cells {w:World} {g:Nat} {a b c:Int} (h:Kr w g a b c):w.cell? ⟨g,0,none⟩=some (.int .i64 a)∧w.cell? ⟨g,1,none⟩=some (.int .i64 b)∧w.cell? ⟨g,2,none⟩=some (.int .i64 c)∧∀ j,w.frozen? ⟨g,j,none⟩=false :=
  ⟨cell_row (l:=[.int .i64 a,.int .i64 b,.int .i64 c]) h rfl,cell_row (l:=[.int .i64 a,.int .i64 b,.int .i64 c]) h rfl,cell_row (l:=[.int .i64 a,.int .i64 b,.int .i64 c]) h rfl,fun _=>frozen_row (l:=[.int .i64 a,.int .i64 b,.int .i64 c]) h⟩
theorem Kr.lt {w:World} {g:Nat} {a b c:Int} (h:Kr w g a b c):g < w.heap.size:=(Array.getElem?_eq_some_iff.1 h).1
theorem Kr.below {w u:World} {g:Nat} {a b c:Int} (h:Kr w g a b c) (k:Below w.heap.size w u):Kr u g a b c:=(k.block g h.lt).trans h
theorem Kr.set0 {w:World} {g:Nat} {a b c:Int} (h:Kr w g a b c) (x:Int):Kr (w.setCell ⟨g,0,none⟩ (.int .i64 x)) g x b c:=by
  show _=_
  rw [set_row (l:=[.int .i64 a,.int .i64 b,.int .i64 c]) h]
  rfl
theorem Kr.set1 {w:World} {g:Nat} {a b c:Int} (h:Kr w g a b c) (x:Int):Kr (w.setCell ⟨g,1,none⟩ (.int .i64 x)) g a x c:=by
  show _=_
  rw [set_row (l:=[.int .i64 a,.int .i64 b,.int .i64 c]) h]
  rfl
theorem Kr.set2 {w:World} {g:Nat} {a b c:Int} (h:Kr w g a b c) (x:Int):Kr (w.setCell ⟨g,2,none⟩ (.int .i64 x)) g a b x:=by
  show _=_
  rw [set_row (l:=[.int .i64 a,.int .i64 b,.int .i64 c]) h]
  rfl
/-- A call's two boxes: what is kept, the result's. -/
structure Tb (w wr:World) (k0 k1 k2:Int):Prop where
  kp:Kr wr w.heap.size k0 k1 k2
  rs:Kr wr (w.heap.size+1) 0 0 0
  bl:Below w.heap.size w wr
theorem Tb.below {w wr u:World} {k0 k1 k2:Int} (h:Tb w wr k0 k1 k2) (k:Below wr.heap.size wr u):Tb w u k0 k1 k2:=⟨h.kp.below k,h.rs.below k,below_and h.bl k⟩
theorem Tb.far {w wr:World} {k0 k1 k2:Int} (h:Tb w wr k0 k1 k2) (j:Nat) (v:Value):Kr (wr.setCell ⟨w.heap.size,j,none⟩ v) (w.heap.size+1) 0 0 0:=(((Turn.refl w.heap.size wr).set j v).block _ h.rs.lt (fun e=>by simp at e)).trans h.rs
theorem Tb.bel {w wr:World} {k0 k1 k2:Int} (h:Tb w wr k0 k1 k2) (j:Nat) (v:Value):Below w.heap.size w (wr.setCell ⟨w.heap.size,j,none⟩ v):=h.bl.trans (((Turn.refl w.heap.size wr).set j v).below (Nat.le_refl _) h.bl.size)
theorem Tb.set0 {w wr:World} {k0 k1 k2:Int} (h:Tb w wr k0 k1 k2) (x:Int):Tb w (wr.setCell ⟨w.heap.size,0,none⟩ (.int .i64 x)) x k1 k2:=⟨h.kp.set0 x,h.far 0 _,h.bel 0 _⟩
theorem Tb.set1 {w wr:World} {k0 k1 k2:Int} (h:Tb w wr k0 k1 k2) (x:Int):Tb w (wr.setCell ⟨w.heap.size,1,none⟩ (.int .i64 x)) k0 x k2:=⟨h.kp.set1 x,h.far 1 _,h.bel 1 _⟩
theorem Tb.set2 {w wr:World} {k0 k1 k2:Int} (h:Tb w wr k0 k1 k2) (x:Int):Tb w (wr.setCell ⟨w.heap.size,2,none⟩ (.int .i64 x)) k0 k1 x:=⟨h.kp.set2 x,h.far 2 _,h.bel 2 _⟩
/-- The end: the outputs' row is new, what is kept is copied. -/
theorem Tb.fin {w wr:World} {k0 k1 k2:Int} (h:Tb w wr k0 k1 k2) (l:List Int):w.heap.size≤wr.heap.size∧Row64 (st3 (wr.alloc (.cells (i64s l).toArray 2)) (w.heap.size+1) k0 k1 k2).drew wr.heap.size l∧Below w.heap.size w (st3 (wr.alloc (.cells (i64s l).toArray 2)) (w.heap.size+1) k0 k1 k2).drew:=by
  have lt:=h.rs.lt
  refine ⟨h.bl.size,?_,below_drew ((below_new h.bl _).trans ((st3_turn _ (w.heap.size+1) k0 k1 k2).below (by omega) (by have:=h.bl.size;simp;omega)))⟩
  exact ((st3_turn _ (w.heap.size+1) k0 k1 k2).block wr.heap.size (by simp) (fun e=>by simp at e;omega)).trans (row_new wr l)
/-- In any world behind a new block the boxes are as they were. -/
theorem Tb.news {w wr:World} {k0 k1 k2:Int} (h:Tb w wr k0 k1 k2) (o:Obj):Tb w (wr.alloc o) k0 k1 k2:=h.below (below_new (Below.refl _ wr) o)
theorem el_gt {pt nw k:Int} (h:pt < since nw k):el pt nw k=pt:=by unfold el;omega
theorem el_le {pt nw k:Int} (h:¬ pt < since nw k):el pt nw k=since nw k:=by unfold el;omega
theorem ne_bK {x y:Int} (h:x ≠ y):(x == y)=false∧(x != y)=true:=⟨by rw [beq_eq_false_iff_ne];exact h,by rw [bne_iff_ne];exact h⟩
end Go.Proofs.YthjclogkcmomkaaGreatDoor
namespace Go.Proofs.YthjclogkcmomkaaGreatDoor
open Go.RowKit
open Fb
/-- The boxes and the rows of inputs and outputs. -/
structure Sb (w wr:World) (k0 k1 k2:Int) (ab bb:Nat) (A B:List Int):Prop where
  tb:Tb w wr k0 k1 k2
  ra:Row64 wr ab A
  rb:Row64 wr bb B
  ga:w.heap.size+1 < ab
  gb:w.heap.size+1 < bb
  ne:ab ≠ bb
theorem Sb.below {w wr u:World} {k0 k1 k2:Int} {ab bb:Nat} {A B:List Int} (h:Sb w wr k0 k1 k2 ab bb A B) (k:Below wr.heap.size wr u):Sb w u k0 k1 k2 ab bb A B:=⟨h.tb.below k,row_below h.ra k,row_below h.rb k,h.ga,h.gb,h.ne⟩
theorem Sb.far {w wr:World} {k0 k1 k2:Int} {ab bb:Nat} {A B:List Int} (h:Sb w wr k0 k1 k2 ab bb A B) (j:Nat) (v:Value):Row64 (wr.setCell ⟨w.heap.size,j,none⟩ v) ab A∧Row64 (wr.setCell ⟨w.heap.size,j,none⟩ v) bb B :=
  ⟨(((Turn.refl w.heap.size wr).set j v).block _ (row_lt h.ra) (fun e=>by have:=h.ga;simp at e;omega)).trans h.ra,(((Turn.refl w.heap.size wr).set j v).block _ (row_lt h.rb) (fun e=>by have:=h.gb;simp at e;omega)).trans h.rb⟩
theorem Sb.set0 {w wr:World} {k0 k1 k2:Int} {ab bb:Nat} {A B:List Int} (h:Sb w wr k0 k1 k2 ab bb A B) (x:Int):Sb w (wr.setCell ⟨w.heap.size,0,none⟩ (.int .i64 x)) x k1 k2 ab bb A B:=⟨h.tb.set0 x,(h.far 0 _).1,(h.far 0 _).2,h.ga,h.gb,h.ne⟩
theorem Sb.set1 {w wr:World} {k0 k1 k2:Int} {ab bb:Nat} {A B:List Int} (h:Sb w wr k0 k1 k2 ab bb A B) (x:Int):Sb w (wr.setCell ⟨w.heap.size,1,none⟩ (.int .i64 x)) k0 x k2 ab bb A B:=⟨h.tb.set1 x,(h.far 1 _).1,(h.far 1 _).2,h.ga,h.gb,h.ne⟩
theorem Sb.set2 {w wr:World} {k0 k1 k2:Int} {ab bb:Nat} {A B:List Int} (h:Sb w wr k0 k1 k2 ab bb A B) (x:Int):Sb w (wr.setCell ⟨w.heap.size,2,none⟩ (.int .i64 x)) k0 k1 x ab bb A B:=⟨h.tb.set2 x,(h.far 2 _).1,(h.far 2 _).2,h.ga,h.gb,h.ne⟩
theorem Tb.turn {w wr u:World} {k0 k1 k2:Int} {g:Nat} (h:Tb w wr k0 k1 k2) (k:Turn g wr u) (hg:w.heap.size+1 < g):Tb w u k0 k1 k2 :=
  ⟨(k.block _ h.kp.lt (fun e=>by simp at e;omega)).trans h.kp,(k.block _ h.rs.lt (fun e=>by simp at e;omega)).trans h.rs,h.bl.trans (k.below (by omega) h.bl.size)⟩
theorem Sb.out {w wr:World} {k0 k1 k2:Int} {ab bb:Nat} {A B:List Int} (h:Sb w wr k0 k1 k2 ab bb A B) (j:Nat) (x:Int):Sb w (wr.setCell ⟨bb,j,none⟩ (.int .i64 x)) k0 k1 k2 ab bb A (B.set j x) :=
  ⟨h.tb.turn ((Turn.refl bb wr).set j _) h.gb,(((Turn.refl bb wr).set j _).block _ (row_lt h.ra) (fun e=>h.ne (by simpa using e))).trans h.ra,row_set h.rb x,h.ga,h.gb,h.ne⟩
theorem row_set3 {U:World} {g b:Nat} {l:List Int} {x y z:Int} (r:Row64 U b l) (h:g < b):Row64 (st3 U g x y z) b l:=((st3_turn U g x y z).block b (row_lt r) (fun e=>by simp at e;omega)).trans r
/-- A row that lies behind the boxes: the end of Step. -/
theorem Tb.end {w wr:World} {k0 k1 k2:Int} {b:Nat} {l:List Int} (h:Tb w wr k0 k1 k2) (r:Row64 wr b l) (hb:w.heap.size+1 < b):w.heap.size≤b∧Row64 (st3 wr (w.heap.size+1) k0 k1 k2).drew b l∧Below w.heap.size w (st3 wr (w.heap.size+1) k0 k1 k2).drew :=
  ⟨by omega,((st3_turn wr (w.heap.size+1) k0 k1 k2).block b (row_lt r) (fun e=>by simp at e;omega)).trans r,below_drew (h.bl.trans ((st3_turn wr (w.heap.size+1) k0 k1 k2).below (by omega) h.bl.size))⟩
end Go.Proofs.YthjclogkcmomkaaGreatDoor
