/- VmEnds (stage 21). -/
import Derived.Maps.AppendAt
import Derived.Test.YthjclogkcmomkaaGreatDoorQ48
namespace Go.Proofs.YthjclogkcmomkaaGreatDoor
open Go.RowKit
open Fb Cod Nm Vmx
theorem tmod_3000 (k:Int):(k.tmod 3000 < 0∧-3000 < k.tmod 3000∧k.tmod 3000+3000=k % 3000) ∨ (¬ k.tmod 3000 < 0∧k.tmod 3000=k % 3000):=by
  by_cases h:0≤k
  · rw [Int.tmod_eq_emod_of_nonneg h];omega
  · have e:k.tmod 3000=-((-k) % 3000):=by
      have:=Int.neg_tmod (-k) 3000
      rw [Int.neg_neg] at this
      rw [this,Int.tmod_eq_emod_of_nonneg (by omega)]
    rw [e];omega
set_option maxHeartbeats 400000 in
theorem place_3000 (k:Int) (w:World):Calls Tryz.prog 18 #[.int .i64 k,.int .i64 3000] w fun e w'=>∃ q:Nat,q < 3000∧e=.returned (.int .i64 (q:Int))∧w'=w:=by
  obtain ⟨q,hq⟩:∃ q:Nat,(q:Int)=k % 3000:=⟨(k % 3000).toNat,by omega⟩
  have hl:q < 3000:=by omega
  rcases tmod_3000 k with ⟨h,h2,h3⟩ | ⟨h,h3⟩
  · have HQ:=hid_as (h3.trans hq.symm)
    clear hq h3
    go_enter Tryz.func18,Tryz.ntmps18
    go_wp2
    go_ret
    exact ⟨q,hl,ret_int HQ.out,rfl⟩
  · have HQ:=hid_as (h3.trans hq.symm)
    clear hq h3
    go_enter Tryz.func18,Tryz.ntmps18
    go_wp2
    go_ret
    exact ⟨q,hl,ret_int HQ.out,rfl⟩
/-- Literal code in its box. -/
theorem lit_box (w:World) (K:List Int) (L:List Ins) (k9:K.length≤1000000) (n9:L.length≤1000000) (hT:Tabs w) {W:World} (hW:((w.alloc (.cells (i64s K).toArray 3)).alloc (.cells (insv L).toArray 50)).alloc (.cells #[.slice (some ⟨w.heap.size,0,none⟩) K.length K.length,.slice (some ⟨w.heap.size+1,0,none⟩) L.length L.length] 25)=W) :
    Ca2 W (some ⟨w.heap.size,0,none⟩) K.length K.length (some ⟨w.heap.size+1,0,none⟩) L.length L.length K L∧Tabs W∧Below w.heap.size w W∧W.cell? ⟨w.heap.size+2,0,none⟩=some (.slice (some ⟨w.heap.size,0,none⟩) K.length K.length)∧W.cell? ⟨w.heap.size+2,1,none⟩=some (.slice (some ⟨w.heap.size+1,0,none⟩) L.length L.length):=by
  have k2:Below w.heap.size w ((w.alloc (.cells (i64s K).toArray 3)).alloc (.cells (insv L).toArray 50)):=below_and (below_new1 _ _) (below_new1 _ _)
  have k3:=below_new1 ((w.alloc (.cells (i64s K).toArray 3)).alloc (.cells (insv L).toArray 50)) (.cells #[.slice (some ⟨w.heap.size,0,none⟩) K.length K.length,.slice (some ⟨w.heap.size+1,0,none⟩) L.length L.length] 25)
  have r:=heap_alloc_new ((w.alloc (.cells (i64s K).toArray 3)).alloc (.cells (insv L).toArray 50)) (.cells [Value.slice (some ⟨w.heap.size,0,none⟩) K.length K.length,.slice (some ⟨w.heap.size+1,0,none⟩) L.length L.length].toArray 25)
  rw [World.size_alloc,World.size_alloc] at r
  subst hW
  exact ⟨(lit_ca w K L k9 n9).below k3,(hT.below k2).below k3,below_and k2 k3,cell_row (k:=0) r rfl,cell_row (k:=1) r rfl⟩
theorem new_cells (w:World) (vs:List Value) (e:TypeId):∀ j u,vs[j]?=some u→(w.alloc (.cells vs.toArray e)).cell? ((⟨w.heap.size,0,none⟩:Addr).add j)=some u:=fun j u hj=>(lies_new w vs e).news j u hj
theorem own_of_row {w:World} {b base n s:Nat} {e:TypeId} {vs:List Value} (h:w.heap[b]?=some (.cells vs.toArray e (0,0))) (hl:vs.length=n * s) (hm:n≤maxLen) (hb:base≤b):w.ownsRow base e s (.slice (some ⟨b,0,none⟩) n n) n vs :=
  ⟨hl,.inr ⟨b,n,vs.toArray,rfl,hb,h,Nat.le_refl _,hm,by simpa using hl,by simp [← hl]⟩⟩
/-- Behind the append: the code with one more instruction. -/
theorem app_end {w1 W w3:World} {v':Value} {o:Obj} (CA:Ca2 W (some ⟨w1.heap.size,0,none⟩) 1 1 (some ⟨w1.heap.size+1,0,none⟩) 5 5 [7] lB) (TA:Tabs W) (BA:Below w1.heap.size w1 W) (HT2:2≤w1.heap.size)
    (hb:W.heap[w1.heap.size+2]?=some (.cells [Value.slice (some ⟨w1.heap.size,0,none⟩) 1 1,.slice (some ⟨w1.heap.size+1,0,none⟩) 5 5].toArray 25 (0,0)))
    (ho:w3.ownsRow w1.heap.size 50 5 v' (5+1) (insv lB ++ insv [⟨18,0,0,0,nos⟩])) (hg:(W.alloc o).grownBy w3 (some (w1.heap.size+1))) (ha:v'.ownBlock=some (w1.heap.size+1) ∨ v'.ownBlock=some (W.alloc o).heap.size) :
    ((∀ la lc,v'=.slice la 6 lc→Ca2 (w3.setCell ⟨w1.heap.size+2,1,none⟩ v') (some ⟨w1.heap.size,0,none⟩) 1 1 la 6 lc [7] lC)∧Tabs (w3.setCell ⟨w1.heap.size+2,1,none⟩ v')∧Below w1.heap.size w1 (w3.setCell ⟨w1.heap.size+2,1,none⟩ v')∧(w3.setCell ⟨w1.heap.size+2,1,none⟩ v').cell? ⟨w1.heap.size+2,0,none⟩=some (.slice (some ⟨w1.heap.size,0,none⟩) 1 1)∧(w3.setCell ⟨w1.heap.size+2,1,none⟩ v').cell? ⟨w1.heap.size+2,1,none⟩=some v')
      ∧ w3.cell? ⟨w1.heap.size+2,1,none⟩=some (.slice (some ⟨w1.heap.size+1,0,none⟩) 5 5)∧w3.frozen? ⟨w1.heap.size+2,1,none⟩=false:=by
  have k1:=below_new1 W o
  have hlt:=row_lt hb
  have hW2:=BA.size
  have nb:∀ j,j < W.heap.size→j ≠ w1.heap.size+1→w3.heap[j]?=W.heap[j]?:=fun j hj hne=>(hg.block j (by simp;omega) (fun e=>hne (by simpa using e))).trans (k1.block j hj)
  have r3:=(nb _ hlt (by omega)).trans hb
  have k3:Below w1.heap.size w1 w3:=(BA.trans (k1.mono hW2)).grown hg (by simp;omega) (fun g e=>by simp at e;omega)
  have t4:Turn (w1.heap.size+2) w3 (w3.setCell ⟨w1.heap.size+2,1,none⟩ v'):=(Turn.refl _ w3).set 1 _
  have k4:Below w1.heap.size w1 (w3.setCell ⟨w1.heap.size+2,1,none⟩ v'):=k3.trans (t4.below (by omega) k3.size)
  have r4:=set_row (k:=1) r3 v'
  have kk:w1.heap.size < W.heap.size:=by omega
  have hk0:(w3.setCell ⟨w1.heap.size+2,1,none⟩ v').heap[w1.heap.size]?=W.heap[w1.heap.size]?:=(t4.block w1.heap.size (by have:=k3.size;have:=hg.size;simp at this;omega) (fun e=>by simp at e)).trans (nb _ kk (by omega))
  have tb:Tabs (w3.setCell ⟨w1.heap.size+2,1,none⟩ v'):=by
    have h2:=TA.big
    have hgs:=hg.size
    simp at hgs
    have kk4:Below 2 W (w3.setCell ⟨w1.heap.size+2,1,none⟩ v'):=by
      have hB1:2≤w1.heap.size:=HT2
      exact (((k1.mono (by omega)).trans ((Below.refl 2 (W.alloc o)).grown hg (by simp;omega) (fun g e=>by simp at e;omega)))).trans ((t4.below (by omega) (by omega)))
    exact TA.belowB (Nat.le_refl _) kk4
  refine ⟨⟨fun la lc hv=>⟨?_,rfl,by decide,?_,rfl,by decide,fun e=>?_⟩,tb,k4,cell_row (k:=0) r4 rfl,cell_row (k:=1) r4 rfl⟩,cell_row (k:=1) r3 rfl,frozen_row r3⟩
  · rcases CA.ks with ⟨h1,_⟩ | ⟨b,off,cap,h2,h3,h4⟩
    · simp [i64s] at h1
    · refine Or.inr ⟨b,off,cap,h2,h3,h4.kept ?_⟩
      simp only [Value.slice.injEq,Option.some.injEq,Addr.mk.injEq] at h2
      rw [← h2.1.1]
      exact hk0
  · subst hv
    have hi:=own_il (L:=lC) (n:=6) ho rfl
    refine hi.kept (fun p hp=>?_)
    have hne:p.block ≠ w1.heap.size+2:=fun e=>by
      rw [hp] at ha
      simp only [Value.ownBlock,Option.some.injEq,World.size_alloc] at ha
      omega
    rcases hi with h0 | ⟨b,o',e,hc⟩
    · cases h0
    · rw [hp] at e
      obtain rfl:=Option.some.inj e
      exact t4.block b (lt_of_cell (hc 0 _ rfl 0 _ rfl)) (fun e=>hne (by simpa using e))
  · subst hv
    subst e
    rcases ho.2 with ⟨e2,h0⟩ | ⟨g,cap,cur,e2,_⟩
    · simp at h0
    · simp at e2
set_option maxRecDepth 100000 in
set_option maxHeartbeats 3200000 in
theorem ends_f (most:Int) {w:World} (hT:Tabs w):Calls Tryz.prog 5 #[.bool false,.int .i64 most] w fun e w'=>e=.returned (.bool true)∧Below w.heap.size w w':=by
  have KN:=hid_as (known_c w hT)
  have TW:=hid_as hT
  clear hT
  go_enter Tryz.func5,Tryz.ntmps5
  go_wp2_with fail
  refine KN.out.mono ?_
  rintro e w1 ⟨rfl,b1⟩
  have B1:=hid_as b1
  have T1:=hid_as (TW.out.below b1)
  clear b1 KN
  go_wp2_with fail
  refine (place_3000 most _).mono ?_
  rintro e w' ⟨q,hq,rfl,hw⟩
  subst w'
  obtain ⟨W,hW⟩:∃ W,(((w1.alloc (.cells (i64s [7]).toArray 3)).alloc (.cells (insv lA).toArray 50)).alloc (.cells #[.slice (some ⟨w1.heap.size,0,none⟩) 1 1,.slice (some ⟨w1.heap.size+1,0,none⟩) 5 5] 25))=W:=⟨_,rfl⟩
  have LB:=lit_box w1 [7] lA (by decide) (by decide) T1.out hW
  have HW:(((w1.alloc (.cells #[.int .i64 7] 3)).alloc (.cells #[.int .i64 2,.int .i64 0,.int .i64 0,.int .i64 0,.string ⟨#[]⟩,.int .i64 1,.int .i64 7,.int .i64 0,.int .i64 1,.string ⟨#[]⟩,.int .i64 9,.int .i64 7,.int .i64 8,.int .i64 0,.string ⟨#[]⟩,.int .i64 3,.int .i64 0,.int .i64 0,.int .i64 0,.string ⟨#[]⟩,.int .i64 18,.int .i64 0,.int .i64 0,.int .i64 0,.string ⟨#[]⟩] 50)).alloc (.cells #[.slice (some ⟨w1.heap.size,0,none⟩) 1 1,.slice (some ⟨w1.heap.size+1,0,none⟩) 5 5] 25))=W:=hW
  have HWW:=hid_as HW
  obtain ⟨CA,TA,BA,c0,c1⟩:=LB
  have B2:=hid_as (below_and B1.out BA)
  have NW:Hid (Calls Tryz.prog 11 #[.agg #[.slice (some ⟨w1.heap.size,0,none⟩) 1 1,.slice (some ⟨w1.heap.size+1,0,none⟩) 5 5]] W fun e w'=>∃ g,e=.returned (.tuple #[.pointer (some ⟨g,0,none⟩),.nilIface])∧Mh w' g [7] lA 0∧W.heap.size≤g∧Below W.heap.size W w'):=new_m CA TA lA_ver
  clear hW HW CA TA BA
  go_upto_region 8 with fail
  rw [HWW.out]
  have c0':W.cell? ⟨w1.heap.size+2,0,none⟩=some (.slice (some ⟨w1.heap.size,0,none⟩) 1 1):=c0
  have c1':W.cell? ⟨w1.heap.size+2,1,none⟩=some (.slice (some ⟨w1.heap.size+1,0,none⟩) 5 5):=c1
  clear c0 c1 HWW
  go_wp2_with fail
  refine NW.out.mono ?_
  rintro e w2 ⟨g,rfl,m2,hg,b2⟩
  have SC:=hid_as (mh_scan (ca:=none) (cn:=0) (cc:=0) (cs:=[]) 0 (q:Int) m2 (by decide) (Rgt.of lA_ver) (fun u _=>Sl.nil u) rfl (endA (q:Int)))
  have HG:Hid (w.heap.size≤g):=Nat.le_trans B2.out.size hg
  have B3:=hid_as (B2.out.trans (b2.mono B2.out.size))
  clear m2 hg b2 NW c0' c1'
  go_wp2_with fail
  refine SC.out.mono ?_
  rintro e w3 ⟨cb,rfl,hcb,hr,hm,ht⟩
  have c0:w3.cell? ⟨cb,0,none⟩=some (.int .i64 838861):=cell_row (k:=0) hr rfl
  have B4:=hid_as (B3.out.trans (ht.below HG.out B3.out.size))
  clear hcb hr hm ht SC
  go_wp2
  go_ret
  exact ⟨rfl,B4.out⟩
set_option maxRecDepth 100000 in
set_option maxHeartbeats 3200000 in
theorem ends_t (most:Int) {w:World} (hT:Tabs w):Calls Tryz.prog 5 #[.bool true,.int .i64 most] w fun e w'=>e=.returned (.bool true)∧Below w.heap.size w w':=by
  have KN:=hid_as (known_c w hT)
  have TW:=hid_as hT
  clear hT
  go_enter Tryz.func5,Tryz.ntmps5
  go_wp2_with fail
  refine KN.out.mono ?_
  rintro e w1 ⟨rfl,b1⟩
  have B1:=hid_as b1
  have T1:=hid_as (TW.out.below b1)
  clear b1 KN
  go_wp2_with fail
  refine (place_3000 most _).mono ?_
  rintro e w' ⟨q,hq,rfl,hw⟩
  subst w'
  obtain ⟨W,hW⟩:∃ W,(((w1.alloc (.cells (i64s [7]).toArray 3)).alloc (.cells (insv lB).toArray 50)).alloc (.cells #[.slice (some ⟨w1.heap.size,0,none⟩) 1 1,.slice (some ⟨w1.heap.size+1,0,none⟩) 5 5] 25))=W:=⟨_,rfl⟩
  have LB:=lit_box w1 [7] lB (by decide) (by decide) T1.out hW
  have HR:W.heap[w1.heap.size+1]?=some (.cells (insv lB).toArray 50 (0,0)):=by
    have r2:=heap_alloc_new (w1.alloc (.cells (i64s [7]).toArray 3)) (.cells (insv lB).toArray 50)
    rw [World.size_alloc] at r2
    rw [← hW]
    exact ((below_new1 _ _).block _ (row_lt r2)).trans r2
  have HW:(((w1.alloc (.cells #[.int .i64 7] 3)).alloc (.cells #[.int .i64 2,.int .i64 0,.int .i64 0,.int .i64 0,.string ⟨#[]⟩,.int .i64 1,.int .i64 7,.int .i64 0,.int .i64 1,.string ⟨#[]⟩,.int .i64 9,.int .i64 7,.int .i64 8,.int .i64 0,.string ⟨#[]⟩,.int .i64 3,.int .i64 0,.int .i64 0,.int .i64 0,.string ⟨#[]⟩,.int .i64 21,.int .i64 0,.int .i64 0,.int .i64 0,.string ⟨#[]⟩] 50)).alloc (.cells #[.slice (some ⟨w1.heap.size,0,none⟩) 1 1,.slice (some ⟨w1.heap.size+1,0,none⟩) 5 5] 25))=W:=hW
  have HWW:=hid_as HW
  obtain ⟨CA,TA,BA,c0,c1⟩:=LB
  have hb:W.heap[w1.heap.size+2]?=some (.cells [Value.slice (some ⟨w1.heap.size,0,none⟩) 1 1,.slice (some ⟨w1.heap.size+1,0,none⟩) 5 5].toArray 25 (0,0)):=by
    rw [← hW]
    have r:=heap_alloc_new ((w1.alloc (.cells (i64s [7]).toArray 3)).alloc (.cells (insv lB).toArray 50)) (.cells [Value.slice (some ⟨w1.heap.size,0,none⟩) 1 1,.slice (some ⟨w1.heap.size+1,0,none⟩) 5 5].toArray 25)
    rw [World.size_alloc,World.size_alloc] at r
    exact r
  have OW:=hid_as (own_of_row (base:=w1.heap.size) (n:=5) (s:=5) HR (by rw [insv_len];rfl) (by unfold maxLen;omega) (Nat.le_succ _))
  have PK:=hid_as (fun (w3:World) (v':Value) (o:Obj) (ho:w3.ownsRow w1.heap.size 50 5 v' (5+1) (insv lB ++ insv [⟨18,0,0,0,nos⟩])) (hg:(W.alloc o).grownBy w3 (some (w1.heap.size+1))) (ha:v'.ownBlock=some (w1.heap.size+1) ∨ v'.ownBlock=some (W.alloc o).heap.size)=>app_end (w1:=w1) (W:=W) CA TA BA T1.out.big hb ho hg ha)
  have BS:=hid_as BA.size
  have B2:=hid_as B1.out
  obtain ⟨i0,hi0,hz0,hz1,hz2⟩:=info_parts Tryz.infoIns
  clear hW HW CA TA BA HR hb
  go_upto_region 7 with fail
  rw [HWW.out]
  obtain ⟨m,hm⟩:∃ m,m=5:=⟨_,rfl⟩
  have c1':W.cell? ⟨w1.heap.size+2,1,none⟩=some (.slice (some ⟨w1.heap.size+1,0,none⟩) m m):=by rw [hm];exact c1
  have OM:Hid (W.ownsRow w1.heap.size 50 5 (.slice (some ⟨w1.heap.size+1,0,none⟩) m m) m (insv lB)):=by rw [hm];exact OW.out
  have hm9:m≤5:=by omega
  have HM:=hid_as hm
  clear c0 c1 HWW OW hm
  go_upto_region 8 with (at_builtin;go_must (refine wpList_append_own_at _ rfl _ _ 23 rfl w1.heap.size 50 i0 (.agg #[.int .i64 0,.int .i64 0,.int .i64 0,.int .i64 0,.string ⟨#[]⟩]) 5 48 Tryz.underlying23 hi0 hz0 hz1 hz2 rfl (by decide) _ _ _ rfl (OM.out.alloc _) _ 1 1 (insv [⟨18,0,0,0,nos⟩]) rfl rfl (new_cells _ _ _) (one_ins _) (by unfold maxLen;omega) (by omega) (by have:=BS.out;simp;omega) ?_);intro v' w3 hown hgrow _ hat;rw [HM.out] at hown;obtain ⟨la,lc,hv,_⟩:=own_new hown;subst hv;have E:=hid_as (PK.out _ _ _ hown hgrow hat);have g1':=E.out.2.1;have gf':=E.out.2.2;clear hown hgrow hat PK OM)
  obtain ⟨E1,E2,E3,E4,E5⟩:=E.out.1
  have CA:Ca2 (w3.setCell ⟨w1.heap.size+1+1,1,none⟩ (.slice la 6 lc)) (some ⟨w1.heap.size,0,none⟩) 1 1 la 6 lc [7] lC:=E1 la lc rfl
  have TA:Tabs (w3.setCell ⟨w1.heap.size+1+1,1,none⟩ (.slice la 6 lc)):=E2
  have BA:Below w1.heap.size w1 (w3.setCell ⟨w1.heap.size+1+1,1,none⟩ (.slice la 6 lc)):=E3
  have c0:(w3.setCell ⟨w1.heap.size+1+1,1,none⟩ (.slice la 6 lc)).cell? ⟨w1.heap.size+1+1,0,none⟩=some (.slice (some ⟨w1.heap.size,0,none⟩) 1 1):=E4
  have c1:(w3.setCell ⟨w1.heap.size+1+1,1,none⟩ (.slice la 6 lc)).cell? ⟨w1.heap.size+1+1,1,none⟩=some (.slice la 6 lc):=E5
  clear E E1 E2 E3 E4 E5 g1' gf' c1'
  generalize (w3.setCell ⟨w1.heap.size+1+1,1,none⟩ (.slice la 6 lc))=W4 at *
  have B4:=hid_as (below_and B1.out BA)
  have NW:Hid (Calls Tryz.prog 11 #[.agg #[.slice (some ⟨w1.heap.size,0,none⟩) 1 1,.slice la 6 lc]] W4 fun e w'=>∃ g,e=.returned (.tuple #[.pointer (some ⟨g,0,none⟩),.nilIface])∧Mh w' g [7] lC 0∧W4.heap.size≤g∧Below W4.heap.size W4 w'):=new_m CA TA lC_ver
  clear CA TA BA
  go_wp2_with fail
  refine NW.out.mono ?_
  rintro e w5 ⟨g,rfl,m2,hg,b2⟩
  have SC:=hid_as (mh_scan (ca:=none) (cn:=0) (cc:=0) (cs:=[]) 0 (q:Int) m2 (by decide) (Rgt.of lC_ver) (fun u _=>Sl.nil u) rfl (endC q hq))
  have HG:Hid (w.heap.size≤g):=Nat.le_trans B4.out.size hg
  have B5:=hid_as (B4.out.trans (b2.mono B4.out.size))
  clear m2 hg b2 NW c0 c1
  go_wp2_with fail
  refine SC.out.mono ?_
  rintro e w6 ⟨cb,rfl,hcb,hr,hm,ht⟩
  have c0:w6.cell? ⟨cb,0,none⟩=some (.int .i64 ((q:Int)+1)):=cell_row (k:=0) hr rfl
  have B6:=hid_as (B5.out.trans (ht.below HG.out B5.out.size))
  have hq2:(q:Int) < 3000:=by omega
  clear hcb hr hm ht SC
  go_wp2
  go_ret
  exact ⟨rfl,B6.out⟩
theorem ends_w (steps:Bool) (most:Int) {w:World} (hT:Tabs w):Calls Tryz.prog 5 #[.bool steps,.int .i64 most] w fun e w'=>e=.returned (.bool true)∧Below w.heap.size w w':=by
  cases steps
  · exact ends_f most hT
  · exact ends_t most hT
end Go.Proofs.YthjclogkcmomkaaGreatDoor
