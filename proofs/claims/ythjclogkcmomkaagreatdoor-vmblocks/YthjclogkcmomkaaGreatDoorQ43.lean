/- The reference's TON (stage 21, after stage 17). · The reference's timers, whole (stage 21, after stage 17). · The reference's Step of block 2 (stage 21, after stage 17). -/
import Derived.Test.YthjclogkcmomkaaGreatDoorQ1
import Derived.Test.YthjclogkcmomkaaGreatDoorQ28
import Derived.Test.YthjclogkcmomkaaGreatDoorQ41
import Derived.Test.YthjclogkcmomkaaGreatDoorQ42
namespace Go.Proofs.YthjclogkcmomkaaGreatDoor
open Go.RowKit
open Fb
set_option maxRecDepth 100000 in
set_option maxHeartbeats 4000000 in
theorem rton_fz {w:World} {ob:Nat} {q0 q1:Int} {R:Rs} (pt k1 k2 nw:Int) (hr:Row64 w ob [q0,q1]) (hR:R=ton false pt 0 k1 k2 nw) :
    Calls Tryz.prog 44 #[.string (nm 0),.bool false,.int .i64 pt,.agg #[.int .i64 0,.int .i64 k1,.int .i64 k2],.slice (some ⟨ob,0,none⟩) 2 2,.int .i64 nw] w (StepEnd w R):=by
  have HR:=hid_as hR
  have K0:Hid (Tb w ((w.alloc (.cells #[.int .i64 0,.int .i64 k1,.int .i64 k2] 57)).alloc (.cells #[.int .i64 0,.int .i64 0,.int .i64 0] 57)) 0 k1 k2):=⟨(two_newK w _ _).1,(two_newK w _ _).2.1,below_new (below_new (Below.refl _ _) _) _⟩
  have CA:=hid_as (fun U (k:Below w.heap.size w U)=>(⟨cell_row (k:=0) (row_below hr k) rfl,cell_row (k:=1) (row_below hr k) rfl⟩:U.cell? ⟨ob,0,none⟩=some (.int .i64 q0)∧U.cell? ⟨ob,1,none⟩=some (.int .i64 q1)))
  have WR:=hid_as (fun U=>rwrap_11 q1 U)
  have TC:=hid_as (fun b U=>rtruth_c b U)
  clear hr hR
  unfold nm nml tx
  go_enter Tryz.func44,Tryz.ntmps44
  go_upto_region 1 with fail
  generalize ((w.alloc (.cells #[.int .i64 0,.int .i64 k1,.int .i64 k2] 57)).alloc (.cells #[.int .i64 0,.int .i64 0,.int .i64 0] 57))=W0 at *
  obtain ⟨z0,z1⟩:=CA.out W0 K0.out.bl
  have SC:=hid_as (fun U (b:Below W0.heap.size W0 U)=>CA.out U (below_and K0.out.bl b))
  go_cut [14,15] from 18 to 25 (fun a b wx=>a=.bool (q0 != 0)∧b=.int .i64 (w32 q1)∧Below W0.heap.size W0 wx)
  case first =>
    go_region_held3 (fun U=>U.cell? ⟨ob,0,none⟩=some (.int .i64 q0)∧U.cell? ⟨ob,1,none⟩=some (.int .i64 q1)) (first | exact SC.out _ (Same.drew _).below | exact ⟨z0,z1⟩ | exact c3z) ((go_at_call 19;(with_reducible refine (WR.out _).mono ?_);rintro e w3 ⟨rfl,b3⟩;have b4:=(Same.drew W0).below.trans (b3.mono (Nat.le_refl _));have c3z:=SC.out _ b4))
    go_wp2
    go_meet
    exact ⟨rfl,rfl,b4⟩
  case rest =>
  obtain ⟨rfl,rfl,hB⟩:=hcut
  have T:=hid_as (K0.out.below hB)
  clear hB K0 SC CA WR z0 z1
  rename World=>V
  generalize (q0 != 0)=qb at *
  generalize w32 q1=et at *
  obtain ⟨p0,p1,p2,pf⟩:=T.out.kp.cells
  go_upto_block 0 with fail
  go_cut [14,15] from 40 to 123 (fun q e wx=>∃ (qq:Bool) (E x1 x2:Int),q=.bool qq∧e=.int .i64 E∧Tb w wx 0 x1 x2∧R=⟨[b01 qq,E],b01 false,x1,x2⟩)
  case first =>
    go_wp2_with (go_at_call 43;(with_reducible refine (TC.out _ _).mono ?_);rintro e w1 ⟨rfl,hw⟩;subst w1)
    go_meet
    exact ⟨_,_,_,_,rfl,rfl,T.out.set2 _,by rw [HR.out];rfl⟩
  case rest =>
  obtain ⟨qq,E,x1,x2,rfl,rfl,hT,hR⟩:=hcut
  clear p0 p1 p2 pf T HR
  have T1:=hid_as hT
  have HR:=hid_as hR
  obtain ⟨p0,p1,p2,pf⟩:=T1.out.kp.cells
  clear hT hR
  rename World=>V2
  go_upto_region 38 with (go_at_call 43;(with_reducible refine (TC.out _ _).mono ?_);rintro e w1 ⟨rfl,hw⟩;subst w1)
  have T2:=hid_as (T1.out.set0 (b01 false))
  generalize (V2.setCell ⟨w.heap.size,0,none⟩ (.int .i64 (b01 false)))=U at *
  clear p0 p1 p2 pf T1
  obtain ⟨p0,p1,p2,pf⟩:=T2.out.kp.cells
  obtain ⟨s0,s1,s2,sf⟩:=T2.out.rs.cells
  have p0':=fun o=>(T2.out.news o).kp.cells.1
  have p1':=fun o=>(T2.out.news o).kp.cells.2.1
  have p2':=fun o=>(T2.out.news o).kp.cells.2.2.1
  have s0':=fun o=>(T2.out.news o).rs.cells.1
  have s1':=fun o=>(T2.out.news o).rs.cells.2.1
  have s2':=fun o=>(T2.out.news o).rs.cells.2.2.1
  have sf':=fun o=>(T2.out.news o).rs.cells.2.2.2
  have FIN:Hid (w.heap.size≤U.heap.size∧Row64 (st3 (U.alloc (.cells #[.int .i64 (b01 qq),.int .i64 E] 2)) (w.heap.size+1) (b01 false) x1 x2).drew U.heap.size [b01 qq,E]∧Below w.heap.size w (st3 (U.alloc (.cells #[.int .i64 (b01 qq),.int .i64 E] 2)) (w.heap.size+1) (b01 false) x1 x2).drew):=T2.out.fin [b01 qq,E]
  generalize b01 false=y0 at *
  go_region_with (go_at_call 43;(with_reducible refine (TC.out _ _).mono ?_);rintro e w1 ⟨rfl,hw⟩;subst w1)
  all_goals
    go_wp2
    refine bodyPost_ret (v:=.tuple #[.slice (some ⟨U.heap.size,0,none⟩) 2 2,.agg #[.int .i64 y0,.int .i64 x1,.int .i64 x2]]) (by simp [results,Tryz.results44,go_sem,s0',s1',s2']) rfl ?_
    rw [HR.out]
    exact ⟨U.heap.size,rfl,FIN.out⟩
set_option maxRecDepth 100000 in
set_option maxHeartbeats 4000000 in
theorem rton_fn {w:World} {ob:Nat} {q0 q1:Int} {R:Rs} (pt k0 k1 k2 nw:Int) (hr:Row64 w ob [q0,q1]) (h0:k0 ≠ 0) (hR:R=ton false pt k0 k1 k2 nw) :
    Calls Tryz.prog 44 #[.string (nm 0),.bool false,.int .i64 pt,.agg #[.int .i64 k0,.int .i64 k1,.int .i64 k2],.slice (some ⟨ob,0,none⟩) 2 2,.int .i64 nw] w (StepEnd w R):=by
  have HR:=hid_as hR
  have K0:Hid (Tb w ((w.alloc (.cells #[.int .i64 k0,.int .i64 k1,.int .i64 k2] 57)).alloc (.cells #[.int .i64 0,.int .i64 0,.int .i64 0] 57)) k0 k1 k2):=⟨(two_newK w _ _).1,(two_newK w _ _).2.1,below_new (below_new (Below.refl _ _) _) _⟩
  have CA:=hid_as (fun U (k:Below w.heap.size w U)=>(⟨cell_row (k:=0) (row_below hr k) rfl,cell_row (k:=1) (row_below hr k) rfl⟩:U.cell? ⟨ob,0,none⟩=some (.int .i64 q0)∧U.cell? ⟨ob,1,none⟩=some (.int .i64 q1)))
  have WR:=hid_as (fun U=>rwrap_11 q1 U)
  have TC:=hid_as (fun b U=>rtruth_c b U)
  obtain ⟨e0,n0⟩:=ne_bK h0
  clear hr hR
  unfold nm nml tx
  go_enter Tryz.func44,Tryz.ntmps44
  go_upto_region 1 with fail
  generalize ((w.alloc (.cells #[.int .i64 k0,.int .i64 k1,.int .i64 k2] 57)).alloc (.cells #[.int .i64 0,.int .i64 0,.int .i64 0] 57))=W0 at *
  obtain ⟨z0,z1⟩:=CA.out W0 K0.out.bl
  have SC:=hid_as (fun U (b:Below W0.heap.size W0 U)=>CA.out U (below_and K0.out.bl b))
  go_cut [14,15] from 18 to 25 (fun a b wx=>a=.bool (q0 != 0)∧b=.int .i64 (w32 q1)∧Below W0.heap.size W0 wx)
  case first =>
    go_region_held3 (fun U=>U.cell? ⟨ob,0,none⟩=some (.int .i64 q0)∧U.cell? ⟨ob,1,none⟩=some (.int .i64 q1)) (first | exact SC.out _ (Same.drew _).below | exact ⟨z0,z1⟩ | exact c3z) ((go_at_call 19;(with_reducible refine (WR.out _).mono ?_);rintro e w3 ⟨rfl,b3⟩;have b4:=(Same.drew W0).below.trans (b3.mono (Nat.le_refl _));have c3z:=SC.out _ b4))
    go_wp2
    go_meet
    exact ⟨rfl,rfl,b4⟩
  case rest =>
  obtain ⟨rfl,rfl,hB⟩:=hcut
  have T:=hid_as (K0.out.below hB)
  clear hB K0 SC CA WR z0 z1
  rename World=>V
  generalize (q0 != 0)=qb at *
  generalize w32 q1=et at *
  obtain ⟨p0,p1,p2,pf⟩:=T.out.kp.cells
  go_upto_block 0 with fail
  go_cut [14,15] from 40 to 123 (fun q e wx=>∃ (qq:Bool) (E x1 x2:Int),q=.bool qq∧e=.int .i64 E∧Tb w wx k0 x1 x2∧R=⟨[b01 qq,E],b01 false,x1,x2⟩)
  case first =>
    go_wp2_with (go_at_call 43;(with_reducible refine (TC.out _ _).mono ?_);rintro e w1 ⟨rfl,hw⟩;subst w1)
    go_meet
    exact ⟨_,_,_,_,rfl,rfl,T.out.set2 _,by rw [HR.out];rfl⟩
  case rest =>
  obtain ⟨qq,E,x1,x2,rfl,rfl,hT,hR⟩:=hcut
  clear p0 p1 p2 pf T HR
  have T1:=hid_as hT
  have HR:=hid_as hR
  obtain ⟨p0,p1,p2,pf⟩:=T1.out.kp.cells
  clear hT hR
  rename World=>V2
  go_upto_region 38 with (go_at_call 43;(with_reducible refine (TC.out _ _).mono ?_);rintro e w1 ⟨rfl,hw⟩;subst w1)
  have T2:=hid_as (T1.out.set0 (b01 false))
  generalize (V2.setCell ⟨w.heap.size,0,none⟩ (.int .i64 (b01 false)))=U at *
  clear p0 p1 p2 pf T1
  obtain ⟨p0,p1,p2,pf⟩:=T2.out.kp.cells
  obtain ⟨s0,s1,s2,sf⟩:=T2.out.rs.cells
  have p0':=fun o=>(T2.out.news o).kp.cells.1
  have p1':=fun o=>(T2.out.news o).kp.cells.2.1
  have p2':=fun o=>(T2.out.news o).kp.cells.2.2.1
  have s0':=fun o=>(T2.out.news o).rs.cells.1
  have s1':=fun o=>(T2.out.news o).rs.cells.2.1
  have s2':=fun o=>(T2.out.news o).rs.cells.2.2.1
  have sf':=fun o=>(T2.out.news o).rs.cells.2.2.2
  have FIN:Hid (w.heap.size≤U.heap.size∧Row64 (st3 (U.alloc (.cells #[.int .i64 (b01 qq),.int .i64 E] 2)) (w.heap.size+1) (b01 false) x1 x2).drew U.heap.size [b01 qq,E]∧Below w.heap.size w (st3 (U.alloc (.cells #[.int .i64 (b01 qq),.int .i64 E] 2)) (w.heap.size+1) (b01 false) x1 x2).drew):=T2.out.fin [b01 qq,E]
  generalize b01 false=y0 at *
  go_region_with (go_at_call 43;(with_reducible refine (TC.out _ _).mono ?_);rintro e w1 ⟨rfl,hw⟩;subst w1)
  all_goals
    go_wp2
    refine bodyPost_ret (v:=.tuple #[.slice (some ⟨U.heap.size,0,none⟩) 2 2,.agg #[.int .i64 y0,.int .i64 x1,.int .i64 x2]]) (by simp [results,Tryz.results44,go_sem,s0',s1',s2']) rfl ?_
    rw [HR.out]
    exact ⟨U.heap.size,rfl,FIN.out⟩
set_option maxRecDepth 100000 in
set_option maxHeartbeats 4000000 in
theorem rton_tz {w:World} {ob:Nat} {q0 q1:Int} {R:Rs} (pt k1 k2 nw:Int) (hr:Row64 w ob [q0,q1]) (hn:-2147483648≤nw∧nw≤2147483647) (hR:R=ton true pt 0 k1 k2 nw) :
    Calls Tryz.prog 44 #[.string (nm 0),.bool true,.int .i64 pt,.agg #[.int .i64 0,.int .i64 k1,.int .i64 k2],.slice (some ⟨ob,0,none⟩) 2 2,.int .i64 nw] w (StepEnd w R):=by
  have HR:=hid_as hR
  have K0:Hid (Tb w ((w.alloc (.cells #[.int .i64 0,.int .i64 k1,.int .i64 k2] 57)).alloc (.cells #[.int .i64 0,.int .i64 0,.int .i64 0] 57)) 0 k1 k2):=⟨(two_newK w _ _).1,(two_newK w _ _).2.1,below_new (below_new (Below.refl _ _) _) _⟩
  have CA:=hid_as (fun U (k:Below w.heap.size w U)=>(⟨cell_row (k:=0) (row_below hr k) rfl,cell_row (k:=1) (row_below hr k) rfl⟩:U.cell? ⟨ob,0,none⟩=some (.int .i64 q0)∧U.cell? ⟨ob,1,none⟩=some (.int .i64 q1)))
  have WR:=hid_as (fun U=>rwrap_11 q1 U)
  have TC:=hid_as (fun b U=>rtruth_c b U)
  clear hr hR
  unfold nm nml tx
  go_enter Tryz.func44,Tryz.ntmps44
  go_upto_region 1 with fail
  generalize ((w.alloc (.cells #[.int .i64 0,.int .i64 k1,.int .i64 k2] 57)).alloc (.cells #[.int .i64 0,.int .i64 0,.int .i64 0] 57))=W0 at *
  obtain ⟨z0,z1⟩:=CA.out W0 K0.out.bl
  have SC:=hid_as (fun U (b:Below W0.heap.size W0 U)=>CA.out U (below_and K0.out.bl b))
  go_cut [14,15] from 18 to 25 (fun a b wx=>a=.bool (q0 != 0)∧b=.int .i64 (w32 q1)∧Below W0.heap.size W0 wx)
  case first =>
    go_region_held3 (fun U=>U.cell? ⟨ob,0,none⟩=some (.int .i64 q0)∧U.cell? ⟨ob,1,none⟩=some (.int .i64 q1)) (first | exact SC.out _ (Same.drew _).below | exact ⟨z0,z1⟩ | exact c3z) ((go_at_call 19;(with_reducible refine (WR.out _).mono ?_);rintro e w3 ⟨rfl,b3⟩;have b4:=(Same.drew W0).below.trans (b3.mono (Nat.le_refl _));have c3z:=SC.out _ b4))
    go_wp2
    go_meet
    exact ⟨rfl,rfl,b4⟩
  case rest =>
  obtain ⟨rfl,rfl,hB⟩:=hcut
  have T:=hid_as (K0.out.below hB)
  clear hB K0 SC CA WR z0 z1
  rename World=>V
  generalize (q0 != 0)=qb at *
  generalize w32 q1=et at *
  obtain ⟨p0,p1,p2,pf⟩:=T.out.kp.cells
  go_upto_block 0 with fail
  go_cut [14,15] from 40 to 123 (fun q e wx=>∃ (qq:Bool) (E x1 x2:Int),q=.bool qq∧e=.int .i64 E∧Tb w wx 0 x1 x2∧R=⟨[b01 qq,E],b01 true,x1,x2⟩)
  case first =>
    have SX:=hid_as (rsince_c hn hn (((V.setCell ⟨w.heap.size,1,none⟩ (.int .i64 nw)).setCell ⟨w.heap.size,2,none⟩ (.int .i64 0))))
    have TS:=hid_as ((T.out.set1 nw).set2 0)
    go_wp2_with fail
    refine SX.out.mono ?_
    rintro e w5 ⟨rfl,b5⟩
    have T5:=hid_as (TS.out.below b5)
    clear SX TS b5 p0 p1 p2 pf
    obtain ⟨p0,p1,p2,pf⟩:=T5.out.kp.cells
    by_cases hS:pt < since nw nw
    · have HE:=hid_as (el_gt hS)
      generalize since nw nw=S at *
      go_wp2_with (go_at_call 43;(with_reducible refine (TC.out _ _).mono ?_);rintro e w1 ⟨rfl,hw⟩;subst w1)
      go_meet
      exact ⟨_,_,_,_,rfl,rfl,T5.out.set2 _,by rw [HR.out,pton_edge,HE.out];simp;rfl⟩
    · have HE:=hid_as (el_le hS)
      generalize since nw nw=S at *
      go_wp2_with (go_at_call 43;(with_reducible refine (TC.out _ _).mono ?_);rintro e w1 ⟨rfl,hw⟩;subst w1)
      go_meet
      exact ⟨_,_,_,_,rfl,rfl,T5.out.set2 _,by rw [HR.out,pton_edge,HE.out];simp;rfl⟩
  case rest =>
  obtain ⟨qq,E,x1,x2,rfl,rfl,hT,hR⟩:=hcut
  clear p0 p1 p2 pf T HR
  have T1:=hid_as hT
  have HR:=hid_as hR
  obtain ⟨p0,p1,p2,pf⟩:=T1.out.kp.cells
  clear hT hR
  rename World=>V2
  go_upto_region 38 with (go_at_call 43;(with_reducible refine (TC.out _ _).mono ?_);rintro e w1 ⟨rfl,hw⟩;subst w1)
  have T2:=hid_as (T1.out.set0 (b01 true))
  generalize (V2.setCell ⟨w.heap.size,0,none⟩ (.int .i64 (b01 true)))=U at *
  clear p0 p1 p2 pf T1
  obtain ⟨p0,p1,p2,pf⟩:=T2.out.kp.cells
  obtain ⟨s0,s1,s2,sf⟩:=T2.out.rs.cells
  have p0':=fun o=>(T2.out.news o).kp.cells.1
  have p1':=fun o=>(T2.out.news o).kp.cells.2.1
  have p2':=fun o=>(T2.out.news o).kp.cells.2.2.1
  have s0':=fun o=>(T2.out.news o).rs.cells.1
  have s1':=fun o=>(T2.out.news o).rs.cells.2.1
  have s2':=fun o=>(T2.out.news o).rs.cells.2.2.1
  have sf':=fun o=>(T2.out.news o).rs.cells.2.2.2
  have FIN:Hid (w.heap.size≤U.heap.size∧Row64 (st3 (U.alloc (.cells #[.int .i64 (b01 qq),.int .i64 E] 2)) (w.heap.size+1) (b01 true) x1 x2).drew U.heap.size [b01 qq,E]∧Below w.heap.size w (st3 (U.alloc (.cells #[.int .i64 (b01 qq),.int .i64 E] 2)) (w.heap.size+1) (b01 true) x1 x2).drew):=T2.out.fin [b01 qq,E]
  generalize b01 true=y0 at *
  go_region_with (go_at_call 43;(with_reducible refine (TC.out _ _).mono ?_);rintro e w1 ⟨rfl,hw⟩;subst w1)
  all_goals
    go_wp2
    refine bodyPost_ret (v:=.tuple #[.slice (some ⟨U.heap.size,0,none⟩) 2 2,.agg #[.int .i64 y0,.int .i64 x1,.int .i64 x2]]) (by simp [results,Tryz.results44,go_sem,s0',s1',s2']) rfl ?_
    rw [HR.out]
    exact ⟨U.heap.size,rfl,FIN.out⟩
set_option maxRecDepth 100000 in
set_option maxHeartbeats 4000000 in
theorem rton_tn {w:World} {ob:Nat} {q0 q1:Int} {R:Rs} (pt k0 k1 k2 nw:Int) (hr:Row64 w ob [q0,q1]) (hk:-2147483648≤k1∧k1≤2147483647) (hn:-2147483648≤nw∧nw≤2147483647) (h0:k0 ≠ 0) (hR:R=ton true pt k0 k1 k2 nw) :
    Calls Tryz.prog 44 #[.string (nm 0),.bool true,.int .i64 pt,.agg #[.int .i64 k0,.int .i64 k1,.int .i64 k2],.slice (some ⟨ob,0,none⟩) 2 2,.int .i64 nw] w (StepEnd w R):=by
  have HR:=hid_as hR
  have K0:Hid (Tb w ((w.alloc (.cells #[.int .i64 k0,.int .i64 k1,.int .i64 k2] 57)).alloc (.cells #[.int .i64 0,.int .i64 0,.int .i64 0] 57)) k0 k1 k2):=⟨(two_newK w _ _).1,(two_newK w _ _).2.1,below_new (below_new (Below.refl _ _) _) _⟩
  have CA:=hid_as (fun U (k:Below w.heap.size w U)=>(⟨cell_row (k:=0) (row_below hr k) rfl,cell_row (k:=1) (row_below hr k) rfl⟩:U.cell? ⟨ob,0,none⟩=some (.int .i64 q0)∧U.cell? ⟨ob,1,none⟩=some (.int .i64 q1)))
  have WR:=hid_as (fun U=>rwrap_11 q1 U)
  have TC:=hid_as (fun b U=>rtruth_c b U)
  obtain ⟨e0,n0⟩:=ne_bK h0
  clear hr hR
  unfold nm nml tx
  go_enter Tryz.func44,Tryz.ntmps44
  go_upto_region 1 with fail
  generalize ((w.alloc (.cells #[.int .i64 k0,.int .i64 k1,.int .i64 k2] 57)).alloc (.cells #[.int .i64 0,.int .i64 0,.int .i64 0] 57))=W0 at *
  obtain ⟨z0,z1⟩:=CA.out W0 K0.out.bl
  have SC:=hid_as (fun U (b:Below W0.heap.size W0 U)=>CA.out U (below_and K0.out.bl b))
  go_cut [14,15] from 18 to 25 (fun a b wx=>a=.bool (q0 != 0)∧b=.int .i64 (w32 q1)∧Below W0.heap.size W0 wx)
  case first =>
    go_region_held3 (fun U=>U.cell? ⟨ob,0,none⟩=some (.int .i64 q0)∧U.cell? ⟨ob,1,none⟩=some (.int .i64 q1)) (first | exact SC.out _ (Same.drew _).below | exact ⟨z0,z1⟩ | exact c3z) ((go_at_call 19;(with_reducible refine (WR.out _).mono ?_);rintro e w3 ⟨rfl,b3⟩;have b4:=(Same.drew W0).below.trans (b3.mono (Nat.le_refl _));have c3z:=SC.out _ b4))
    go_wp2
    go_meet
    exact ⟨rfl,rfl,b4⟩
  case rest =>
  obtain ⟨rfl,rfl,hB⟩:=hcut
  have T:=hid_as (K0.out.below hB)
  clear hB K0 SC CA WR z0 z1
  rename World=>V
  generalize (q0 != 0)=qb at *
  generalize w32 q1=et at *
  obtain ⟨p0,p1,p2,pf⟩:=T.out.kp.cells
  go_upto_block 0 with fail
  go_cut [14,15] from 40 to 123 (fun q e wx=>∃ (qq:Bool) (E x1 x2:Int),q=.bool qq∧e=.int .i64 E∧Tb w wx k0 x1 x2∧R=⟨[b01 qq,E],b01 true,x1,x2⟩)
  case first =>
    by_cases h2:k2=1
    · subst h2
      go_wp2_with (go_at_call 43;(with_reducible refine (TC.out _ _).mono ?_);rintro e w1 ⟨rfl,hw⟩;subst w1)
      go_meet
      exact ⟨_,_,_,_,rfl,rfl,T.out,by rw [HR.out,pton_done n0];rfl⟩
    · obtain ⟨e2,n2⟩:=ne_bK h2
      have SX:=hid_as (rsince_c hn hk (V))
      have TS:=hid_as (T.out)
      go_wp2_with fail
      refine SX.out.mono ?_
      rintro e w5 ⟨rfl,b5⟩
      have T5:=hid_as (TS.out.below b5)
      clear SX TS b5 p0 p1 p2 pf
      obtain ⟨p0,p1,p2,pf⟩:=T5.out.kp.cells
      by_cases hS:pt < since nw k1
      · have HE:=hid_as (el_gt hS)
        generalize since nw k1=S at *
        go_wp2_with (go_at_call 43;(with_reducible refine (TC.out _ _).mono ?_);rintro e w1 ⟨rfl,hw⟩;subst w1)
        go_meet
        exact ⟨_,_,_,_,rfl,rfl,T5.out.set2 _,by rw [HR.out,pton_wait n0 h2,HE.out];simp;rfl⟩
      · have HE:=hid_as (el_le hS)
        generalize since nw k1=S at *
        go_wp2_with (go_at_call 43;(with_reducible refine (TC.out _ _).mono ?_);rintro e w1 ⟨rfl,hw⟩;subst w1)
        go_meet
        exact ⟨_,_,_,_,rfl,rfl,T5.out.set2 _,by rw [HR.out,pton_wait n0 h2,HE.out];simp;rfl⟩
  case rest =>
  obtain ⟨qq,E,x1,x2,rfl,rfl,hT,hR⟩:=hcut
  clear p0 p1 p2 pf T HR
  have T1:=hid_as hT
  have HR:=hid_as hR
  obtain ⟨p0,p1,p2,pf⟩:=T1.out.kp.cells
  clear hT hR
  rename World=>V2
  go_upto_region 38 with (go_at_call 43;(with_reducible refine (TC.out _ _).mono ?_);rintro e w1 ⟨rfl,hw⟩;subst w1)
  have T2:=hid_as (T1.out.set0 (b01 true))
  generalize (V2.setCell ⟨w.heap.size,0,none⟩ (.int .i64 (b01 true)))=U at *
  clear p0 p1 p2 pf T1
  obtain ⟨p0,p1,p2,pf⟩:=T2.out.kp.cells
  obtain ⟨s0,s1,s2,sf⟩:=T2.out.rs.cells
  have p0':=fun o=>(T2.out.news o).kp.cells.1
  have p1':=fun o=>(T2.out.news o).kp.cells.2.1
  have p2':=fun o=>(T2.out.news o).kp.cells.2.2.1
  have s0':=fun o=>(T2.out.news o).rs.cells.1
  have s1':=fun o=>(T2.out.news o).rs.cells.2.1
  have s2':=fun o=>(T2.out.news o).rs.cells.2.2.1
  have sf':=fun o=>(T2.out.news o).rs.cells.2.2.2
  have FIN:Hid (w.heap.size≤U.heap.size∧Row64 (st3 (U.alloc (.cells #[.int .i64 (b01 qq),.int .i64 E] 2)) (w.heap.size+1) (b01 true) x1 x2).drew U.heap.size [b01 qq,E]∧Below w.heap.size w (st3 (U.alloc (.cells #[.int .i64 (b01 qq),.int .i64 E] 2)) (w.heap.size+1) (b01 true) x1 x2).drew):=T2.out.fin [b01 qq,E]
  generalize b01 true=y0 at *
  go_region_with (go_at_call 43;(with_reducible refine (TC.out _ _).mono ?_);rintro e w1 ⟨rfl,hw⟩;subst w1)
  all_goals
    go_wp2
    refine bodyPost_ret (v:=.tuple #[.slice (some ⟨U.heap.size,0,none⟩) 2 2,.agg #[.int .i64 y0,.int .i64 x1,.int .i64 x2]]) (by simp [results,Tryz.results44,go_sem,s0',s1',s2']) rfl ?_
    rw [HR.out]
    exact ⟨U.heap.size,rfl,FIN.out⟩
end Go.Proofs.YthjclogkcmomkaaGreatDoor
namespace Go.Proofs.YthjclogkcmomkaaGreatDoor
open Go.RowKit
open Fb
theorem rton_c {w:World} {ob:Nat} {q0 q1:Int} (a:Bool) (pt k0 k1 k2 nw:Int) (hr:Row64 w ob [q0,q1]) (hk:-2147483648≤k1∧k1≤2147483647) (hn:-2147483648≤nw∧nw≤2147483647) :
    Calls Tryz.prog 44 #[.string (nm 0),.bool a,.int .i64 pt,.agg #[.int .i64 k0,.int .i64 k1,.int .i64 k2],.slice (some ⟨ob,0,none⟩) 2 2,.int .i64 nw] w (StepEnd w (ton a pt k0 k1 k2 nw)):=by
  by_cases h0:k0=0
  · subst h0
    cases a
    · exact rton_fz pt k1 k2 nw hr  rfl
    · exact rton_tz pt k1 k2 nw hr hn rfl
  · cases a
    · exact rton_fn pt k0 k1 k2 nw hr h0 rfl
    · exact rton_tn pt k0 k1 k2 nw hr hk hn h0 rfl
theorem rtof_c {w:World} {ob:Nat} {q0 q1:Int} (a:Bool) (pt k0 k1 k2 nw:Int) (hr:Row64 w ob [q0,q1]) (hk:-2147483648≤k1∧k1≤2147483647) (hn:-2147483648≤nw∧nw≤2147483647) :
    Calls Tryz.prog 44 #[.string (nm 1),.bool a,.int .i64 pt,.agg #[.int .i64 k0,.int .i64 k1,.int .i64 k2],.slice (some ⟨ob,0,none⟩) 2 2,.int .i64 nw] w (StepEnd w (tof a pt (w32 q1) k0 k1 k2 nw)):=by
  by_cases h0:k0=0
  · subst h0
    cases a
    · exact rtof_fz pt k1 k2 nw hr hk hn rfl
    · exact rtof_tz pt k1 k2 nw hr  rfl
  · cases a
    · exact rtof_fn pt k0 k1 k2 nw hr hn h0 rfl
    · exact rtof_tn pt k0 k1 k2 nw hr h0 rfl
theorem rtp_c {w:World} {ob:Nat} {q0 q1:Int} (a:Bool) (pt k0 k1 k2 nw:Int) (hr:Row64 w ob [q0,q1]) (hk:-2147483648≤k1∧k1≤2147483647) (hn:-2147483648≤nw∧nw≤2147483647) :
    Calls Tryz.prog 44 #[.string (nm 2),.bool a,.int .i64 pt,.agg #[.int .i64 k0,.int .i64 k1,.int .i64 k2],.slice (some ⟨ob,0,none⟩) 2 2,.int .i64 nw] w (StepEnd w (tp a pt (w32 q1) k0 k1 k2 nw)):=by
  by_cases h0:k0=0
  · subst h0
    cases a
    · exact rtp_fz pt k1 k2 nw hr hk hn rfl
    · exact rtp_tz pt k1 k2 nw hr hk hn rfl
  · cases a
    · exact rtp_fn pt k0 k1 k2 nw hr hk hn h0 rfl
    · exact rtp_tn pt k0 k1 k2 nw hr hk hn h0 rfl
end Go.Proofs.YthjclogkcmomkaaGreatDoor
namespace Go.Proofs.YthjclogkcmomkaaGreatDoor
open Go.RowKit
open Fb
set_option maxRecDepth 100000 in
set_option maxHeartbeats 4000000 in
theorem rstep_2 {w:World} {ia oa:Option Addr} {n m ic oc:Nat} {l q:List Int} (p0 p1 p2 t:Int) (hi:Sl w (.slice ia n ic) (i64s l)) (hn:n=l.length) (ho:Sl w (.slice oa m oc) (i64s q)) (hm:m=q.length) :
    Calls Tryz.prog 22 #[.string (nm 2),.slice ia n ic,.agg #[.int .i64 p0,.int .i64 p1,.int .i64 p2],.slice oa m oc,.int .i64 t] w (StepEnd w (stp 2 l q p0 p1 p2 t)):=by
  have K0:Hid (Tb w ((w.alloc (.cells #[.int .i64 p0,.int .i64 p1,.int .i64 p2] 57)).alloc (.cells #[.int .i64 0,.int .i64 0,.int .i64 0] 57)) p0 p1 p2):=⟨(two_newK w _ _).1,(two_newK w _ _).2.1,below_new (below_new (Below.refl _ _) _) _⟩
  have SZ:Hid (((w.alloc (.cells #[.int .i64 p0,.int .i64 p1,.int .i64 p2] 57)).alloc (.cells #[.int .i64 0,.int .i64 0,.int .i64 0] 57)).heap.size=w.heap.size+2):=(two_newK w _ _).2.2
  have PC:=hid_as (fun U=>(show Calls Tryz.prog 41 #[.string (nm 2)] U (PinsEnd U 2 2) from rpins_2 U))
  have PA:=hid_as (fun U (b:Below w.heap.size w U)=>(show Calls Tryz.prog 42 #[.slice ia n ic,.int .i64 2] U (fun e w'=>e=.returned (.slice (some ⟨U.heap.size,0,none⟩) 2 2)∧Row64 w' U.heap.size [l.getD 0 0,l.getD 1 0]∧Below U.heap.size U w') from rpad_c 2 (hi.below b) hn (by decide)))
  have PB:=hid_as (fun U (b:Below w.heap.size w U)=>(show Calls Tryz.prog 42 #[.slice oa m oc,.int .i64 2] U (fun e w'=>e=.returned (.slice (some ⟨U.heap.size,0,none⟩) 2 2)∧Row64 w' U.heap.size [q.getD 0 0,q.getD 1 0]∧Below U.heap.size U w') from rpad_c 2 (ho.below b) hm (by decide)))
  have TC:=hid_as (fun b U=>rtruth_c b U)
  obtain ⟨R,hR⟩:∃ R,R=stp 2 l q p0 p1 p2 t:=⟨_,rfl⟩
  rw [← hR]
  have HR:Hid (R=tp (tr (l.getD 0 0)) (max (w32 (l.getD 1 0)) 0) (w32 (q.getD 1 0)) (w32 p0) (w32 p1) (w32 p2) (w32 t)):=hR
  clear hi hn ho hm hR
  generalize l.getD 0 0=a0 at *
  generalize l.getD 1 0=a1 at *
  generalize q.getD 0 0=c0 at *
  generalize q.getD 1 0=c1 at *
  unfold nm nml tx at PC ⊢
  go_enter Tryz.func22,Tryz.ntmps22
  go_upto_region 1 with fail
  generalize ((w.alloc (.cells #[.int .i64 p0,.int .i64 p1,.int .i64 p2] 57)).alloc (.cells #[.int .i64 0,.int .i64 0,.int .i64 0] 57))=W0 at *
  go_wp2_with fail
  refine (PC.out _).mono ?_
  rintro e w1 ⟨ga,gb,gc,gd,rfl,b1⟩
  have T1:=hid_as (K0.out.below b1)
  have Z1:Hid (w.heap.size+1 < w1.heap.size):=by have:=b1.size;have:=SZ.out;show _ < _;omega
  clear PC b1 K0 SZ
  go_wp2_with fail
  refine (PA.out _ T1.out.bl).mono ?_
  rintro e w2 ⟨rfl,rA,b2⟩
  have T2:=hid_as (T1.out.below b2)
  have RA:=hid_as rA
  have Z2:Hid (w1.heap.size < w2.heap.size):=row_lt rA
  clear PA T1 rA b2
  go_wp2_with fail
  refine (PB.out _ T2.out.bl).mono ?_
  rintro e w3 ⟨rfl,rB,b3⟩
  have S3:Hid (Sb w w3 p0 p1 p2 w1.heap.size w2.heap.size [a0,a1] [c0,c1]):=⟨T2.out.below b3,row_below RA.out b3,rB,Z1.out,by have:=Z1.out;have:=Z2.out;omega,by have:=Z2.out;omega⟩
  clear PB T2 RA rB b3
  generalize w1.heap.size=ab at *
  generalize w2.heap.size=bb at *
  have WR:=hid_as (rwrap_4 t w3)
  go_wp2_with fail
  refine WR.out.mono ?_
  rintro e w4 ⟨rfl,b4⟩
  have S4:=hid_as (S3.out.below b4)
  have hnw:=w32_ok t
  have hk0:=w32_ok p0
  have hk1:=w32_ok p1
  have hk2:=w32_ok p2
  clear WR S3 b4 Z1 Z2
  have W4:=hid_as (fun x U=>rwrap_4 x U)
  go_wp2
  go_loopw [14] (fun i wr=>∃ j:Nat,j≤3∧i=.int .i64 j∧Sb w wr (if 0 < j then w32 p0 else p0) (if 1 < j then w32 p1 else p1) (if 2 < j then w32 p2 else p2) ab bb [a0,a1] [c0,c1]) (fun i _=>3 - (intOf i).toNat)
  case atStart=>exact ⟨0,by omega,rfl,S4.out⟩
  case round =>
  obtain ⟨j,hj,rfl,hS⟩:=hrel
  have S:=hid_as hS
  clear hS S4
  by_cases hj3:j < 3
  · have hc:j=0 ∨ j=1 ∨ j=2:=by omega
    rcases hc with rfl | rfl | rfl
    · have SJ:Hid (Sb w wr p0 p1 p2 ab bb [a0,a1] [c0,c1]):=S.out
      obtain ⟨y0,y1,y2,yf⟩:=SJ.out.tb.kp.cells
      go_wp2_with fail
      refine (W4.out _ _).mono ?_
      rintro e w5 ⟨rfl,b5⟩
      have S5:=hid_as (SJ.out.below b5)
      clear y0 y1 y2 yf b5 S SJ
      obtain ⟨y0,y1,y2,yf⟩:=S5.out.tb.kp.cells
      go_wp2
      go_roundw
      case rel=>exact ⟨1,by omega,rfl,S5.out.set0 _⟩
      case measure=>simp [intOf]
    · have SJ:Hid (Sb w wr (w32 p0) p1 p2 ab bb [a0,a1] [c0,c1]):=S.out
      obtain ⟨y0,y1,y2,yf⟩:=SJ.out.tb.kp.cells
      go_wp2_with fail
      refine (W4.out _ _).mono ?_
      rintro e w5 ⟨rfl,b5⟩
      have S5:=hid_as (SJ.out.below b5)
      clear y0 y1 y2 yf b5 S SJ
      obtain ⟨y0,y1,y2,yf⟩:=S5.out.tb.kp.cells
      go_wp2
      go_roundw
      case rel=>exact ⟨2,by omega,rfl,S5.out.set1 _⟩
      case measure=>simp [intOf]
    · have SJ:Hid (Sb w wr (w32 p0) (w32 p1) p2 ab bb [a0,a1] [c0,c1]):=S.out
      obtain ⟨y0,y1,y2,yf⟩:=SJ.out.tb.kp.cells
      go_wp2_with fail
      refine (W4.out _ _).mono ?_
      rintro e w5 ⟨rfl,b5⟩
      have S5:=hid_as (SJ.out.below b5)
      clear y0 y1 y2 yf b5 S SJ
      obtain ⟨y0,y1,y2,yf⟩:=S5.out.tb.kp.cells
      go_wp2
      go_roundw
      case rel=>exact ⟨3,by omega,rfl,S5.out.set2 _⟩
      case measure=>simp [intOf]
  · obtain rfl:j=3:=by omega
    have S6:Hid (Sb w wr (w32 p0) (w32 p1) (w32 p2) ab bb [a0,a1] [c0,c1]):=S.out
    clear S W4
    generalize w32 p0=k0 at *
    generalize w32 p1=k1 at *
    generalize w32 p2=k2 at *
    generalize w32 t=nw at *
    rename World=>V
    obtain ⟨y0,y1,y2,yf⟩:=S6.out.tb.kp.cells
    have z0:=cell_row (k:=0) S6.out.ra rfl
    have z1:=cell_row (k:=1) S6.out.ra rfl
    have x0:=cell_row (k:=0) S6.out.rb rfl
    have x1:=cell_row (k:=1) S6.out.rb rfl
    have xf:∀ j,V.frozen? ⟨bb,j,none⟩=false:=fun _=>frozen_row S6.out.rb
    have WT:=hid_as (fun U=>rwrap_11 a1 U)
    have CA:=hid_as (fun U (b:Below V.heap.size V U)=>(S6.out.below b).tb.kp.cells)
    have CB:=hid_as (fun U (b:Below V.heap.size V U)=>cell_row (k:=1) (S6.out.below b).ra rfl)
    obtain ⟨pt,hpt⟩:∃ pt,pt=max (w32 a1) 0:=⟨_,rfl⟩
    rw [← hpt] at HR
    have EX:=hid_as (fun U (b:Below V.heap.size V U)=>rtp_c (a0 != 0) pt k0 k1 k2 nw (S6.out.below b).rb hk1 hnw)
    have HR3:Hid (R=tp (a0 != 0) pt (w32 c1) k0 k1 k2 nw):=HR.out
    simp only [← HR3.out] at EX
    unfold nm nml tx at EX
    clear HR HR3
    obtain ⟨ro,r0,r1,r2⟩:=R
    obtain ⟨x,hx⟩:∃ x,x=w32 a1:=⟨_,rfl⟩
    rw [← hx] at hpt WT
    clear hx
    go_upto_block 2 with fail
    go_cut [3] from 66 to 276 (fun v wx=>∃ b,v=.slice (some ⟨b,0,none⟩) ro.length ro.length∧Row64 wx b ro∧Tb w wx r0 r1 r2∧w.heap.size+1 < b)
    case first =>
      have NX:=hid_as (fun U b (k:Below V.heap.size V U) (hb:V.heap.size≤b) (r:Row64 U b ro)=>((⟨row_set3 r (by have:=S6.out.tb.kp.lt;omega),((S6.out.below k).tb.set0 r0).set1 r1 |>.set2 r2,by have:=S6.out.tb.rs.lt;omega⟩):Row64 (st3 U w.heap.size r0 r1 r2) b ro∧Tb w (st3 U w.heap.size r0 r1 r2) r0 r1 r2∧w.heap.size+1 < b))
      go_upto_region 14 with fail
      by_cases hneg:x < 0
      · obtain rfl:pt=0:=by omega
        clear hpt
        go_region_with (first | (go_at_call 19;(with_reducible refine (WT.out V.drew).mono ?_);rintro e w7 ⟨rfl,b7⟩;have b8:=(Same.drew V).below.trans (b7.mono (Nat.le_refl _));obtain ⟨t0,t1,t2,tf⟩:=CA.out _ b8) | (go_at_call 44;(with_reducible refine (EX.out w7 b8).mono ?_);rintro e w8 ⟨nb,rfl,hb8,r8,k8⟩;have b9:=below_and b8 k8;obtain ⟨v0,v1,v2,vf⟩:=CA.out _ b9))
        all_goals
          go_wp2
          go_meet
          exact ⟨nb,rfl,NX.out w8 nb b9 (by have:=b8.size;omega) r8⟩
      · obtain rfl:pt=x:=by omega
        clear hpt
        go_region_with (first | (go_at_call 19;(with_reducible refine (WT.out V.drew).mono ?_);rintro e w7 ⟨rfl,b7⟩;have b8:=(Same.drew V).below.trans (b7.mono (Nat.le_refl _));obtain ⟨t0,t1,t2,tf⟩:=CA.out _ b8) | (go_at_call 44;(with_reducible refine (EX.out w7 b8).mono ?_);rintro e w8 ⟨nb,rfl,hb8,r8,k8⟩;have b9:=below_and b8 k8;obtain ⟨v0,v1,v2,vf⟩:=CA.out _ b9))
        all_goals
          go_wp2
          go_meet
          exact ⟨nb,rfl,NX.out w8 nb b9 (by have:=b8.size;omega) r8⟩
    case rest =>
    obtain ⟨nb,rfl,hr,hT,hg⟩:=hcut
    have TE:=hid_as hT
    clear hT y0 y1 y2 yf xf CA CB EX WT S6 z0 z1 x0 x1
    obtain ⟨s0,s1,s2,sf⟩:=TE.out.rs.cells
    obtain ⟨y0,y1,y2,yf⟩:=TE.out.kp.cells
    have FIN:=hid_as (TE.out.end hr hg)
    obtain ⟨on,hon⟩:∃ on,on=ro.length:=⟨_,rfl⟩
    rw [← hon]
    have HON:=hid_as hon
    clear hon hr hg
    go_wp2
    go_region
    all_goals
      go_wp2
      refine bodyPost_ret (v:=.tuple #[.slice (some ⟨nb,0,none⟩) on on,.agg #[.int .i64 r0,.int .i64 r1,.int .i64 r2]]) (by simp [results,Tryz.results22,go_sem,s0,s1,s2]) rfl ?_
      exact ⟨nb,by rw [HON.out],FIN.out⟩
end Go.Proofs.YthjclogkcmomkaaGreatDoor
