/- The reference's TOF (stage 21, after stage 17). -/
import Derived.Test.YthjclogkcmomkaaGreatDoorQ1
import Derived.Test.YthjclogkcmomkaaGreatDoorQ28
namespace Go.Proofs.YthjclogkcmomkaaGreatDoor
open Go.RowKit
open Fb
set_option maxRecDepth 100000 in
set_option maxHeartbeats 4000000 in
theorem rtof_tz {w:World} {ob:Nat} {q0 q1:Int} {R:Rs} (pt k1 k2 nw:Int) (hr:Row64 w ob [q0,q1]) (hR:R=tof true pt (w32 q1) 0 k1 k2 nw) :
    Calls Tryz.prog 44 #[.string (nm 1),.bool true,.int .i64 pt,.agg #[.int .i64 0,.int .i64 k1,.int .i64 k2],.slice (some ⟨ob,0,none⟩) 2 2,.int .i64 nw] w (StepEnd w R):=by
  have HR:=hid_as hR
  have K0:Hid (Tb w ((w.alloc (.cells #[.int .i64 0,.int .i64 k1,.int .i64 k2] 57)).alloc (.cells #[.int .i64 0,.int .i64 0,.int .i64 0] 57)) 0 k1 k2):=⟨(two_newK w _ _).1,(two_newK w _ _).2.1,below_new (below_new (Below.refl _ _) _) _⟩
  have CA:=hid_as (fun U (k:Below w.heap.size w U)=>(⟨cell_row (k:=0) (row_below hr k) rfl,cell_row (k:=1) (row_below hr k) rfl⟩:U.cell? ⟨ob,0,none⟩=some (.int .i64 q0)∧U.cell? ⟨ob,1,none⟩=some (.int .i64 q1)))
  have WR:=hid_as (fun U=>rwrap_11 q1 U)
  have TC:=hid_as (fun b U=>rtruth_c b U)
  clear hr hR
  unfold nm nml tx
  go_enter Tryz.func44,Tryz.ntmps44
  go_upto_region 1 with fail
  generalize ((w.alloc (.cells #[.int .i64 0,.int .i64 k1,.int .i64 k2] 57)).alloc (.cells #[.int .i64 0,.int .i64 0,.int .i64 0] 57))=W0 at *
  obtain ⟨z0,z1⟩:=CA.out W0 K0.out.bl
  have SC:=hid_as (fun U (b:Below W0.heap.size W0 U)=>CA.out U (below_and K0.out.bl b))
  go_cut [14,15] from 18 to 25 (fun a b wx=>a=.bool (q0 != 0)∧b=.int .i64 (w32 q1)∧Below W0.heap.size W0 wx)
  case first =>
    go_region_held3 (fun U=>U.cell? ⟨ob,0,none⟩=some (.int .i64 q0)∧U.cell? ⟨ob,1,none⟩=some (.int .i64 q1)) (first | exact SC.out _ (Same.drew _).below | exact ⟨z0,z1⟩ | exact c3z) ((go_at_call 19;(with_reducible refine (WR.out _).mono ?_);rintro e w3 ⟨rfl,b3⟩;have b4:=(Same.drew W0).below.trans (b3.mono (Nat.le_refl _));have c3z:=SC.out _ b4))
    go_wp2
    go_meet
    exact ⟨rfl,rfl,b4⟩
  case rest =>
  obtain ⟨rfl,rfl,hB⟩:=hcut
  have T:=hid_as (K0.out.below hB)
  clear hB K0 SC CA WR z0 z1
  rename World=>V
  generalize (q0 != 0)=qb at *
  obtain ⟨et,het⟩:∃ et,et=w32 q1:=⟨_,rfl⟩
  rw [← het] at HR ⊢
  clear het
  obtain ⟨p0,p1,p2,pf⟩:=T.out.kp.cells
  go_upto_block 0 with fail
  go_cut [14,15] from 40 to 123 (fun q e wx=>∃ (qq:Bool) (E x1 x2:Int),q=.bool qq∧e=.int .i64 E∧Tb w wx 0 x1 x2∧R=⟨[b01 qq,E],b01 true,x1,x2⟩)
  case first =>
    go_wp2_with (go_at_call 43;(with_reducible refine (TC.out _ _).mono ?_);rintro e w1 ⟨rfl,hw⟩;subst w1)
    go_meet
    exact ⟨_,_,_,_,rfl,rfl,T.out.set2 _,by rw [HR.out];rfl⟩
  case rest =>
  obtain ⟨qq,E,x1,x2,rfl,rfl,hT,hR⟩:=hcut
  clear p0 p1 p2 pf T HR
  have T1:=hid_as hT
  have HR:=hid_as hR
  obtain ⟨p0,p1,p2,pf⟩:=T1.out.kp.cells
  clear hT hR
  rename World=>V2
  go_upto_region 38 with (go_at_call 43;(with_reducible refine (TC.out _ _).mono ?_);rintro e w1 ⟨rfl,hw⟩;subst w1)
  have T2:=hid_as (T1.out.set0 (b01 true))
  generalize (V2.setCell ⟨w.heap.size,0,none⟩ (.int .i64 (b01 true)))=U at *
  clear p0 p1 p2 pf T1
  obtain ⟨p0,p1,p2,pf⟩:=T2.out.kp.cells
  obtain ⟨s0,s1,s2,sf⟩:=T2.out.rs.cells
  have p0':=fun o=>(T2.out.news o).kp.cells.1
  have p1':=fun o=>(T2.out.news o).kp.cells.2.1
  have p2':=fun o=>(T2.out.news o).kp.cells.2.2.1
  have s0':=fun o=>(T2.out.news o).rs.cells.1
  have s1':=fun o=>(T2.out.news o).rs.cells.2.1
  have s2':=fun o=>(T2.out.news o).rs.cells.2.2.1
  have sf':=fun o=>(T2.out.news o).rs.cells.2.2.2
  have FIN:Hid (w.heap.size≤U.heap.size∧Row64 (st3 (U.alloc (.cells #[.int .i64 (b01 qq),.int .i64 E] 2)) (w.heap.size+1) (b01 true) x1 x2).drew U.heap.size [b01 qq,E]∧Below w.heap.size w (st3 (U.alloc (.cells #[.int .i64 (b01 qq),.int .i64 E] 2)) (w.heap.size+1) (b01 true) x1 x2).drew):=T2.out.fin [b01 qq,E]
  generalize b01 true=y0 at *
  go_region_with (go_at_call 43;(with_reducible refine (TC.out _ _).mono ?_);rintro e w1 ⟨rfl,hw⟩;subst w1)
  all_goals
    go_wp2
    refine bodyPost_ret (v:=.tuple #[.slice (some ⟨U.heap.size,0,none⟩) 2 2,.agg #[.int .i64 y0,.int .i64 x1,.int .i64 x2]]) (by simp [results,Tryz.results44,go_sem,s0',s1',s2']) rfl ?_
    rw [HR.out]
    exact ⟨U.heap.size,rfl,FIN.out⟩
set_option maxRecDepth 100000 in
set_option maxHeartbeats 4000000 in
theorem rtof_tn {w:World} {ob:Nat} {q0 q1:Int} {R:Rs} (pt k0 k1 k2 nw:Int) (hr:Row64 w ob [q0,q1]) (h0:k0 ≠ 0) (hR:R=tof true pt (w32 q1) k0 k1 k2 nw) :
    Calls Tryz.prog 44 #[.string (nm 1),.bool true,.int .i64 pt,.agg #[.int .i64 k0,.int .i64 k1,.int .i64 k2],.slice (some ⟨ob,0,none⟩) 2 2,.int .i64 nw] w (StepEnd w R):=by
  have HR:=hid_as hR
  have K0:Hid (Tb w ((w.alloc (.cells #[.int .i64 k0,.int .i64 k1,.int .i64 k2] 57)).alloc (.cells #[.int .i64 0,.int .i64 0,.int .i64 0] 57)) k0 k1 k2):=⟨(two_newK w _ _).1,(two_newK w _ _).2.1,below_new (below_new (Below.refl _ _) _) _⟩
  have CA:=hid_as (fun U (k:Below w.heap.size w U)=>(⟨cell_row (k:=0) (row_below hr k) rfl,cell_row (k:=1) (row_below hr k) rfl⟩:U.cell? ⟨ob,0,none⟩=some (.int .i64 q0)∧U.cell? ⟨ob,1,none⟩=some (.int .i64 q1)))
  have WR:=hid_as (fun U=>rwrap_11 q1 U)
  have TC:=hid_as (fun b U=>rtruth_c b U)
  obtain ⟨e0,n0⟩:=ne_bK h0
  clear hr hR
  unfold nm nml tx
  go_enter Tryz.func44,Tryz.ntmps44
  go_upto_region 1 with fail
  generalize ((w.alloc (.cells #[.int .i64 k0,.int .i64 k1,.int .i64 k2] 57)).alloc (.cells #[.int .i64 0,.int .i64 0,.int .i64 0] 57))=W0 at *
  obtain ⟨z0,z1⟩:=CA.out W0 K0.out.bl
  have SC:=hid_as (fun U (b:Below W0.heap.size W0 U)=>CA.out U (below_and K0.out.bl b))
  go_cut [14,15] from 18 to 25 (fun a b wx=>a=.bool (q0 != 0)∧b=.int .i64 (w32 q1)∧Below W0.heap.size W0 wx)
  case first =>
    go_region_held3 (fun U=>U.cell? ⟨ob,0,none⟩=some (.int .i64 q0)∧U.cell? ⟨ob,1,none⟩=some (.int .i64 q1)) (first | exact SC.out _ (Same.drew _).below | exact ⟨z0,z1⟩ | exact c3z) ((go_at_call 19;(with_reducible refine (WR.out _).mono ?_);rintro e w3 ⟨rfl,b3⟩;have b4:=(Same.drew W0).below.trans (b3.mono (Nat.le_refl _));have c3z:=SC.out _ b4))
    go_wp2
    go_meet
    exact ⟨rfl,rfl,b4⟩
  case rest =>
  obtain ⟨rfl,rfl,hB⟩:=hcut
  have T:=hid_as (K0.out.below hB)
  clear hB K0 SC CA WR z0 z1
  rename World=>V
  generalize (q0 != 0)=qb at *
  obtain ⟨et,het⟩:∃ et,et=w32 q1:=⟨_,rfl⟩
  rw [← het] at HR ⊢
  clear het
  obtain ⟨p0,p1,p2,pf⟩:=T.out.kp.cells
  go_upto_block 0 with fail
  go_cut [14,15] from 40 to 123 (fun q e wx=>∃ (qq:Bool) (E x1 x2:Int),q=.bool qq∧e=.int .i64 E∧Tb w wx k0 x1 x2∧R=⟨[b01 qq,E],b01 true,x1,x2⟩)
  case first =>
    go_wp2_with (go_at_call 43;(with_reducible refine (TC.out _ _).mono ?_);rintro e w1 ⟨rfl,hw⟩;subst w1)
    go_meet
    exact ⟨_,_,_,_,rfl,rfl,T.out.set2 _,by rw [HR.out];rfl⟩
  case rest =>
  obtain ⟨qq,E,x1,x2,rfl,rfl,hT,hR⟩:=hcut
  clear p0 p1 p2 pf T HR
  have T1:=hid_as hT
  have HR:=hid_as hR
  obtain ⟨p0,p1,p2,pf⟩:=T1.out.kp.cells
  clear hT hR
  rename World=>V2
  go_upto_region 38 with (go_at_call 43;(with_reducible refine (TC.out _ _).mono ?_);rintro e w1 ⟨rfl,hw⟩;subst w1)
  have T2:=hid_as (T1.out.set0 (b01 true))
  generalize (V2.setCell ⟨w.heap.size,0,none⟩ (.int .i64 (b01 true)))=U at *
  clear p0 p1 p2 pf T1
  obtain ⟨p0,p1,p2,pf⟩:=T2.out.kp.cells
  obtain ⟨s0,s1,s2,sf⟩:=T2.out.rs.cells
  have p0':=fun o=>(T2.out.news o).kp.cells.1
  have p1':=fun o=>(T2.out.news o).kp.cells.2.1
  have p2':=fun o=>(T2.out.news o).kp.cells.2.2.1
  have s0':=fun o=>(T2.out.news o).rs.cells.1
  have s1':=fun o=>(T2.out.news o).rs.cells.2.1
  have s2':=fun o=>(T2.out.news o).rs.cells.2.2.1
  have sf':=fun o=>(T2.out.news o).rs.cells.2.2.2
  have FIN:Hid (w.heap.size≤U.heap.size∧Row64 (st3 (U.alloc (.cells #[.int .i64 (b01 qq),.int .i64 E] 2)) (w.heap.size+1) (b01 true) x1 x2).drew U.heap.size [b01 qq,E]∧Below w.heap.size w (st3 (U.alloc (.cells #[.int .i64 (b01 qq),.int .i64 E] 2)) (w.heap.size+1) (b01 true) x1 x2).drew):=T2.out.fin [b01 qq,E]
  generalize b01 true=y0 at *
  go_region_with (go_at_call 43;(with_reducible refine (TC.out _ _).mono ?_);rintro e w1 ⟨rfl,hw⟩;subst w1)
  all_goals
    go_wp2
    refine bodyPost_ret (v:=.tuple #[.slice (some ⟨U.heap.size,0,none⟩) 2 2,.agg #[.int .i64 y0,.int .i64 x1,.int .i64 x2]]) (by simp [results,Tryz.results44,go_sem,s0',s1',s2']) rfl ?_
    rw [HR.out]
    exact ⟨U.heap.size,rfl,FIN.out⟩
set_option maxRecDepth 100000 in
set_option maxHeartbeats 4000000 in
theorem rtof_fn {w:World} {ob:Nat} {q0 q1:Int} {R:Rs} (pt k0 k1 k2 nw:Int) (hr:Row64 w ob [q0,q1]) (hn:-2147483648≤nw∧nw≤2147483647) (h0:k0 ≠ 0) (hR:R=tof false pt (w32 q1) k0 k1 k2 nw) :
    Calls Tryz.prog 44 #[.string (nm 1),.bool false,.int .i64 pt,.agg #[.int .i64 k0,.int .i64 k1,.int .i64 k2],.slice (some ⟨ob,0,none⟩) 2 2,.int .i64 nw] w (StepEnd w R):=by
  have HR:=hid_as hR
  have K0:Hid (Tb w ((w.alloc (.cells #[.int .i64 k0,.int .i64 k1,.int .i64 k2] 57)).alloc (.cells #[.int .i64 0,.int .i64 0,.int .i64 0] 57)) k0 k1 k2):=⟨(two_newK w _ _).1,(two_newK w _ _).2.1,below_new (below_new (Below.refl _ _) _) _⟩
  have CA:=hid_as (fun U (k:Below w.heap.size w U)=>(⟨cell_row (k:=0) (row_below hr k) rfl,cell_row (k:=1) (row_below hr k) rfl⟩:U.cell? ⟨ob,0,none⟩=some (.int .i64 q0)∧U.cell? ⟨ob,1,none⟩=some (.int .i64 q1)))
  have WR:=hid_as (fun U=>rwrap_11 q1 U)
  have TC:=hid_as (fun b U=>rtruth_c b U)
  obtain ⟨e0,n0⟩:=ne_bK h0
  clear hr hR
  unfold nm nml tx
  go_enter Tryz.func44,Tryz.ntmps44
  go_upto_region 1 with fail
  generalize ((w.alloc (.cells #[.int .i64 k0,.int .i64 k1,.int .i64 k2] 57)).alloc (.cells #[.int .i64 0,.int .i64 0,.int .i64 0] 57))=W0 at *
  obtain ⟨z0,z1⟩:=CA.out W0 K0.out.bl
  have SC:=hid_as (fun U (b:Below W0.heap.size W0 U)=>CA.out U (below_and K0.out.bl b))
  go_cut [14,15] from 18 to 25 (fun a b wx=>a=.bool (q0 != 0)∧b=.int .i64 (w32 q1)∧Below W0.heap.size W0 wx)
  case first =>
    go_region_held3 (fun U=>U.cell? ⟨ob,0,none⟩=some (.int .i64 q0)∧U.cell? ⟨ob,1,none⟩=some (.int .i64 q1)) (first | exact SC.out _ (Same.drew _).below | exact ⟨z0,z1⟩ | exact c3z) ((go_at_call 19;(with_reducible refine (WR.out _).mono ?_);rintro e w3 ⟨rfl,b3⟩;have b4:=(Same.drew W0).below.trans (b3.mono (Nat.le_refl _));have c3z:=SC.out _ b4))
    go_wp2
    go_meet
    exact ⟨rfl,rfl,b4⟩
  case rest =>
  obtain ⟨rfl,rfl,hB⟩:=hcut
  have T:=hid_as (K0.out.below hB)
  clear hB K0 SC CA WR z0 z1
  rename World=>V
  generalize (q0 != 0)=qb at *
  obtain ⟨et,het⟩:∃ et,et=w32 q1:=⟨_,rfl⟩
  rw [← het] at HR ⊢
  clear het
  obtain ⟨p0,p1,p2,pf⟩:=T.out.kp.cells
  go_upto_block 0 with fail
  go_cut [14,15] from 40 to 123 (fun q e wx=>∃ (qq:Bool) (E x1 x2:Int),q=.bool qq∧e=.int .i64 E∧Tb w wx k0 x1 x2∧R=⟨[b01 qq,E],b01 false,x1,x2⟩)
  case first =>
    have SX:=hid_as (rsince_c hn hn (((V.setCell ⟨w.heap.size,1,none⟩ (.int .i64 nw)).setCell ⟨w.heap.size,2,none⟩ (.int .i64 1))))
    have TS:=hid_as ((T.out.set1 nw).set2 1)
    go_wp2_with fail
    refine SX.out.mono ?_
    rintro e w5 ⟨rfl,b5⟩
    have T5:=hid_as (TS.out.below b5)
    clear SX TS b5 p0 p1 p2 pf
    obtain ⟨p0,p1,p2,pf⟩:=T5.out.kp.cells
    by_cases hS:pt < since nw nw
    · have HE:=hid_as (el_gt hS)
      generalize since nw nw=S at *
      go_wp2_with (go_at_call 43;(with_reducible refine (TC.out _ _).mono ?_);rintro e w1 ⟨rfl,hw⟩;subst w1)
      go_meet
      exact ⟨_,_,_,_,rfl,rfl,T5.out.set2 _,by rw [HR.out,ptof_fall n0,HE.out];simp [b01]⟩
    · have HE:=hid_as (el_le hS)
      generalize since nw nw=S at *
      by_cases hl:S < pt
      · have hd:=decide_eq_true hl
        have HL:=hid_as hl
        go_wp2_with (go_at_call 43;(with_reducible refine (TC.out _ _).mono ?_);rintro e w1 ⟨rfl,hw⟩;subst w1)
        go_meet
        exact ⟨_,_,_,_,rfl,rfl,T5.out,by rw [HR.out,ptof_fall n0,HE.out];simp [b01,HL.out]⟩
      · have hd:=decide_eq_false hl
        have HL:=hid_as hl
        go_wp2_with (go_at_call 43;(with_reducible refine (TC.out _ _).mono ?_);rintro e w1 ⟨rfl,hw⟩;subst w1)
        go_meet
        exact ⟨_,_,_,_,rfl,rfl,T5.out.set2 _,by rw [HR.out,ptof_fall n0,HE.out];simp [b01,(show ¬ S < pt by have:=HL.out;omega)]⟩
  case rest =>
  obtain ⟨qq,E,x1,x2,rfl,rfl,hT,hR⟩:=hcut
  clear p0 p1 p2 pf T HR
  have T1:=hid_as hT
  have HR:=hid_as hR
  obtain ⟨p0,p1,p2,pf⟩:=T1.out.kp.cells
  clear hT hR
  rename World=>V2
  go_upto_region 38 with (go_at_call 43;(with_reducible refine (TC.out _ _).mono ?_);rintro e w1 ⟨rfl,hw⟩;subst w1)
  have T2:=hid_as (T1.out.set0 (b01 false))
  generalize (V2.setCell ⟨w.heap.size,0,none⟩ (.int .i64 (b01 false)))=U at *
  clear p0 p1 p2 pf T1
  obtain ⟨p0,p1,p2,pf⟩:=T2.out.kp.cells
  obtain ⟨s0,s1,s2,sf⟩:=T2.out.rs.cells
  have p0':=fun o=>(T2.out.news o).kp.cells.1
  have p1':=fun o=>(T2.out.news o).kp.cells.2.1
  have p2':=fun o=>(T2.out.news o).kp.cells.2.2.1
  have s0':=fun o=>(T2.out.news o).rs.cells.1
  have s1':=fun o=>(T2.out.news o).rs.cells.2.1
  have s2':=fun o=>(T2.out.news o).rs.cells.2.2.1
  have sf':=fun o=>(T2.out.news o).rs.cells.2.2.2
  have FIN:Hid (w.heap.size≤U.heap.size∧Row64 (st3 (U.alloc (.cells #[.int .i64 (b01 qq),.int .i64 E] 2)) (w.heap.size+1) (b01 false) x1 x2).drew U.heap.size [b01 qq,E]∧Below w.heap.size w (st3 (U.alloc (.cells #[.int .i64 (b01 qq),.int .i64 E] 2)) (w.heap.size+1) (b01 false) x1 x2).drew):=T2.out.fin [b01 qq,E]
  generalize b01 false=y0 at *
  go_region_with (go_at_call 43;(with_reducible refine (TC.out _ _).mono ?_);rintro e w1 ⟨rfl,hw⟩;subst w1)
  all_goals
    go_wp2
    refine bodyPost_ret (v:=.tuple #[.slice (some ⟨U.heap.size,0,none⟩) 2 2,.agg #[.int .i64 y0,.int .i64 x1,.int .i64 x2]]) (by simp [results,Tryz.results44,go_sem,s0',s1',s2']) rfl ?_
    rw [HR.out]
    exact ⟨U.heap.size,rfl,FIN.out⟩
set_option maxRecDepth 100000 in
set_option maxHeartbeats 4000000 in
theorem rtof_fz {w:World} {ob:Nat} {q0 q1:Int} {R:Rs} (pt k1 k2 nw:Int) (hr:Row64 w ob [q0,q1]) (hk:-2147483648≤k1∧k1≤2147483647) (hn:-2147483648≤nw∧nw≤2147483647) (hR:R=tof false pt (w32 q1) 0 k1 k2 nw) :
    Calls Tryz.prog 44 #[.string (nm 1),.bool false,.int .i64 pt,.agg #[.int .i64 0,.int .i64 k1,.int .i64 k2],.slice (some ⟨ob,0,none⟩) 2 2,.int .i64 nw] w (StepEnd w R):=by
  have HR:=hid_as hR
  have K0:Hid (Tb w ((w.alloc (.cells #[.int .i64 0,.int .i64 k1,.int .i64 k2] 57)).alloc (.cells #[.int .i64 0,.int .i64 0,.int .i64 0] 57)) 0 k1 k2):=⟨(two_newK w _ _).1,(two_newK w _ _).2.1,below_new (below_new (Below.refl _ _) _) _⟩
  have CA:=hid_as (fun U (k:Below w.heap.size w U)=>(⟨cell_row (k:=0) (row_below hr k) rfl,cell_row (k:=1) (row_below hr k) rfl⟩:U.cell? ⟨ob,0,none⟩=some (.int .i64 q0)∧U.cell? ⟨ob,1,none⟩=some (.int .i64 q1)))
  have WR:=hid_as (fun U=>rwrap_11 q1 U)
  have TC:=hid_as (fun b U=>rtruth_c b U)
  clear hr hR
  unfold nm nml tx
  go_enter Tryz.func44,Tryz.ntmps44
  go_upto_region 1 with fail
  generalize ((w.alloc (.cells #[.int .i64 0,.int .i64 k1,.int .i64 k2] 57)).alloc (.cells #[.int .i64 0,.int .i64 0,.int .i64 0] 57))=W0 at *
  obtain ⟨z0,z1⟩:=CA.out W0 K0.out.bl
  have SC:=hid_as (fun U (b:Below W0.heap.size W0 U)=>CA.out U (below_and K0.out.bl b))
  go_cut [14,15] from 18 to 25 (fun a b wx=>a=.bool (q0 != 0)∧b=.int .i64 (w32 q1)∧Below W0.heap.size W0 wx)
  case first =>
    go_region_held3 (fun U=>U.cell? ⟨ob,0,none⟩=some (.int .i64 q0)∧U.cell? ⟨ob,1,none⟩=some (.int .i64 q1)) (first | exact SC.out _ (Same.drew _).below | exact ⟨z0,z1⟩ | exact c3z) ((go_at_call 19;(with_reducible refine (WR.out _).mono ?_);rintro e w3 ⟨rfl,b3⟩;have b4:=(Same.drew W0).below.trans (b3.mono (Nat.le_refl _));have c3z:=SC.out _ b4))
    go_wp2
    go_meet
    exact ⟨rfl,rfl,b4⟩
  case rest =>
  obtain ⟨rfl,rfl,hB⟩:=hcut
  have T:=hid_as (K0.out.below hB)
  clear hB K0 SC CA WR z0 z1
  rename World=>V
  generalize (q0 != 0)=qb at *
  obtain ⟨et,het⟩:∃ et,et=w32 q1:=⟨_,rfl⟩
  rw [← het] at HR ⊢
  clear het
  obtain ⟨p0,p1,p2,pf⟩:=T.out.kp.cells
  go_upto_block 0 with fail
  go_cut [14,15] from 40 to 123 (fun q e wx=>∃ (qq:Bool) (E x1 x2:Int),q=.bool qq∧e=.int .i64 E∧Tb w wx 0 x1 x2∧R=⟨[b01 qq,E],b01 false,x1,x2⟩)
  case first =>
    by_cases h2:k2=0
    · subst h2
      go_wp2_with (go_at_call 43;(with_reducible refine (TC.out _ _).mono ?_);rintro e w1 ⟨rfl,hw⟩;subst w1)
      go_meet
      exact ⟨_,_,_,_,rfl,rfl,T.out,by rw [HR.out,ptof_idle];rfl⟩
    · obtain ⟨e2,n2⟩:=ne_bK h2
      have SX:=hid_as (rsince_c hn hk (V))
      have TS:=hid_as (T.out)
      go_wp2_with fail
      refine SX.out.mono ?_
      rintro e w5 ⟨rfl,b5⟩
      have T5:=hid_as (TS.out.below b5)
      clear SX TS b5 p0 p1 p2 pf
      obtain ⟨p0,p1,p2,pf⟩:=T5.out.kp.cells
      by_cases hS:pt < since nw k1
      · have HE:=hid_as (el_gt hS)
        generalize since nw k1=S at *
        go_wp2_with (go_at_call 43;(with_reducible refine (TC.out _ _).mono ?_);rintro e w1 ⟨rfl,hw⟩;subst w1)
        go_meet
        exact ⟨_,_,_,_,rfl,rfl,T5.out.set2 _,by rw [HR.out,ptof_run h2,HE.out];simp [b01]⟩
      · have HE:=hid_as (el_le hS)
        generalize since nw k1=S at *
        by_cases hl:S < pt
        · have hd:=decide_eq_true hl
          have HL:=hid_as hl
          go_wp2_with (go_at_call 43;(with_reducible refine (TC.out _ _).mono ?_);rintro e w1 ⟨rfl,hw⟩;subst w1)
          go_meet
          exact ⟨_,_,_,_,rfl,rfl,T5.out,by rw [HR.out,ptof_run h2,HE.out];simp [b01,HL.out]⟩
        · have hd:=decide_eq_false hl
          have HL:=hid_as hl
          go_wp2_with (go_at_call 43;(with_reducible refine (TC.out _ _).mono ?_);rintro e w1 ⟨rfl,hw⟩;subst w1)
          go_meet
          exact ⟨_,_,_,_,rfl,rfl,T5.out.set2 _,by rw [HR.out,ptof_run h2,HE.out];simp [b01,(show ¬ S < pt by have:=HL.out;omega)]⟩
  case rest =>
  obtain ⟨qq,E,x1,x2,rfl,rfl,hT,hR⟩:=hcut
  clear p0 p1 p2 pf T HR
  have T1:=hid_as hT
  have HR:=hid_as hR
  obtain ⟨p0,p1,p2,pf⟩:=T1.out.kp.cells
  clear hT hR
  rename World=>V2
  go_upto_region 38 with (go_at_call 43;(with_reducible refine (TC.out _ _).mono ?_);rintro e w1 ⟨rfl,hw⟩;subst w1)
  have T2:=hid_as (T1.out.set0 (b01 false))
  generalize (V2.setCell ⟨w.heap.size,0,none⟩ (.int .i64 (b01 false)))=U at *
  clear p0 p1 p2 pf T1
  obtain ⟨p0,p1,p2,pf⟩:=T2.out.kp.cells
  obtain ⟨s0,s1,s2,sf⟩:=T2.out.rs.cells
  have p0':=fun o=>(T2.out.news o).kp.cells.1
  have p1':=fun o=>(T2.out.news o).kp.cells.2.1
  have p2':=fun o=>(T2.out.news o).kp.cells.2.2.1
  have s0':=fun o=>(T2.out.news o).rs.cells.1
  have s1':=fun o=>(T2.out.news o).rs.cells.2.1
  have s2':=fun o=>(T2.out.news o).rs.cells.2.2.1
  have sf':=fun o=>(T2.out.news o).rs.cells.2.2.2
  have FIN:Hid (w.heap.size≤U.heap.size∧Row64 (st3 (U.alloc (.cells #[.int .i64 (b01 qq),.int .i64 E] 2)) (w.heap.size+1) (b01 false) x1 x2).drew U.heap.size [b01 qq,E]∧Below w.heap.size w (st3 (U.alloc (.cells #[.int .i64 (b01 qq),.int .i64 E] 2)) (w.heap.size+1) (b01 false) x1 x2).drew):=T2.out.fin [b01 qq,E]
  generalize b01 false=y0 at *
  go_region_with (go_at_call 43;(with_reducible refine (TC.out _ _).mono ?_);rintro e w1 ⟨rfl,hw⟩;subst w1)
  all_goals
    go_wp2
    refine bodyPost_ret (v:=.tuple #[.slice (some ⟨U.heap.size,0,none⟩) 2 2,.agg #[.int .i64 y0,.int .i64 x1,.int .i64 x2]]) (by simp [results,Tryz.results44,go_sem,s0',s1',s2']) rfl ?_
    rw [HR.out]
    exact ⟨U.heap.size,rfl,FIN.out⟩
end Go.Proofs.YthjclogkcmomkaaGreatDoor
