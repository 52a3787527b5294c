/- The steps of timers, way by way (stage 21, after stage 17). -/
import Derived.Test.YthjclogkcmomkaaGreatDoorQ16
namespace Go.Proofs.YthjclogkcmomkaaGreatDoor
open Go.RowKit
open Fb
theorem last_yes {w:World} {g a b:Nat} {c:Ca} (h:Cl w g a b c) (nx:Int) (hi:c.i.length=2) (ho:c.o.length=2) (hb:Bd c) (hl:el (max (c.i.getD 1 0) 0) c.nw c.k1 < max (c.i.getD 1 0) 0) :
    Calls Tryz.prog 197 #[.pointer (some ⟨g,0,none⟩),.int .i64 nx] w (Lft w g a b { c with o:=[b01 (decide (el (max (c.i.getD 1 0) 0) c.nw c.k1 < max (c.i.getD 1 0) 0)),el (max (c.i.getD 1 0) 0) c.nw c.k1] }):=by
  have:=last_c h nx hi ho hb
  rwa [if_pos hl] at this
theorem last_no {w:World} {g a b:Nat} {c:Ca} (h:Cl w g a b c) (nx:Int) (hi:c.i.length=2) (ho:c.o.length=2) (hb:Bd c) (hl:max (c.i.getD 1 0) 0≤el (max (c.i.getD 1 0) 0) c.nw c.k1) :
    Calls Tryz.prog 197 #[.pointer (some ⟨g,0,none⟩),.int .i64 nx] w (Lft w g a b { c with o:=[b01 (decide (el (max (c.i.getD 1 0) 0) c.nw c.k1 < max (c.i.getD 1 0) 0)),el (max (c.i.getD 1 0) 0) c.nw c.k1],k2:=nx }):=by
  have:=last_c h nx hi ho hb
  rwa [if_neg (by omega)] at this
theorem Lft.bx {w w':World} {g a b:Nat} {c:Ca} {e:Ending} (h:Lft w g a b c e w'):Cl w' g a b c:=h.2.1
set_option maxHeartbeats 1600000 in
theorem ton_off {w:World} {g a b:Nat} {i o:List Int} {k0 k1 k2 nw x0 x1 p1:Int} {C:Ca} (e0:i.getD 0 0=x0) (e1:i.getD 1 0=x1) (e2:o.getD 1 0=p1) (h:Cl w g a b ⟨i,o,k0,k1,k2,nw⟩) (hi:i.length=2) (ho:o.length=2) (hb:Bd ⟨i,o,k0,k1,k2,nw⟩) (hx:tr (x0)=false) (hC:C=⟨i,[0,0],x0,k1,0,nw⟩) :
    Calls Tryz.prog 191 #[.agg #[],.pointer (some ⟨g,0,none⟩)] w (Lft w g a b C):=by
  have KB:Hid (Below w.heap.size w (w.alloc (.cells #[] 211))):=below_new (Below.refl _ _) _
  have L0:=hid_as (Lft.of (h.below KB.out) (Only.ofBelow KB.out))
  have HB:=hid_as hb
  have E0:=hid_as e0
  have E1:=hid_as e1
  have E2:=hid_as e2
  have HCC:=hid_as hC
  have Hhi:=hid_as hi
  have Hho:=hid_as ho
  have hr:one (x0) k0=false:=by unfold one;rw [hx];rfl
  have Hhx:=hid_as hx
  have Hhr:=hid_as hr
  clear hx hr
  clear h KB hb e0 e1 e2 hC hi ho
  go_enter Tryz.func191,Tryz.ntmps191
  go_upto_region 1 with fail
  generalize w.alloc (.cells #[] 211)=w0 at *
  have X:=hid_as (rises0 L0.out.bx (by have:=Hhi.out;show _ < i.length;omega))
  simp only [E0.out] at X
  simp only [Hhr.out] at X
  go_wp2_with fail
  refine X.out.mono ?_
  rintro e w' ⟨rfl,hw⟩
  subst w'
  clear X
  have X:=hid_as (on0 L0.out.bx (by have:=Hhi.out;show _ < i.length;omega))
  simp only [E0.out] at X
  simp only [Hhx.out] at X
  go_wp2_with fail
  refine X.out.mono ?_
  rintro e w' ⟨rfl,hw⟩
  subst w'
  clear X
  have X:=hid_as (tell_c L0.out.bx false 0 Hho.out)
  try rw [E0.out] at X
  try rw [E1.out] at X
  go_wp2_with fail
  refine X.out.mono ?_
  intro e w1 hL
  have L1:=hid_as (L0.out.next hL)
  obtain ⟨rfl,hL⟩:=hL
  clear X L0 hL
  have c4:=L1.out.bx.c4
  have f4:=L1.out.bx.fg 4
  have L2:=hid_as (L1.out.put4 0)
  go_upto_region 9 with fail
  generalize w1.setCell ⟨g,4,none⟩ (.int .i64 0)=w2 at *
  clear c4 f4 L1
  have X:=hid_as (hold0 L2.out.bx (by have:=Hhi.out;show _ < i.length;omega))
  try rw [E0.out] at X
  try rw [E1.out] at X
  go_wp2_with fail
  refine X.out.mono ?_
  intro e w3 hL
  have L3:=hid_as (L2.out.next hL)
  obtain ⟨rfl,hL⟩:=hL
  clear X L2 hL
  go_wp2
  go_end0
  rw [HCC.out]
  exact L3.out
set_option maxHeartbeats 1600000 in
theorem ton_over {w:World} {g a b:Nat} {i o:List Int} {k0 k1 k2 nw x0 x1 p1:Int} {C:Ca} (e0:i.getD 0 0=x0) (e1:i.getD 1 0=x1) (e2:o.getD 1 0=p1) (h:Cl w g a b ⟨i,o,k0,k1,k2,nw⟩) (hi:i.length=2) (ho:o.length=2) (hb:Bd ⟨i,o,k0,k1,k2,nw⟩) (hx:tr (x0)=true) (hk:tr k0=true) (h2:(k2 == 1)=true) (hC:C=⟨i,[1,(max x1 0)],x0,k1,k2,nw⟩) :
    Calls Tryz.prog 191 #[.agg #[],.pointer (some ⟨g,0,none⟩)] w (Lft w g a b C):=by
  have KB:Hid (Below w.heap.size w (w.alloc (.cells #[] 211))):=below_new (Below.refl _ _) _
  have L0:=hid_as (Lft.of (h.below KB.out) (Only.ofBelow KB.out))
  have HB:=hid_as hb
  have E0:=hid_as e0
  have E1:=hid_as e1
  have E2:=hid_as e2
  have HCC:=hid_as hC
  have Hhi:=hid_as hi
  have Hho:=hid_as ho
  have hr:one (x0) k0=false:=by unfold one;rw [hx,hk];rfl
  have Hhx:=hid_as hx
  have Hhr:=hid_as hr
  have Hhk:=hid_as hk
  clear hx hr hk
  clear h KB hb e0 e1 e2 hC hi ho
  go_enter Tryz.func191,Tryz.ntmps191
  go_upto_region 1 with fail
  generalize w.alloc (.cells #[] 211)=w0 at *
  have X:=hid_as (rises0 L0.out.bx (by have:=Hhi.out;show _ < i.length;omega))
  simp only [E0.out] at X
  simp only [Hhr.out] at X
  go_wp2_with fail
  refine X.out.mono ?_
  rintro e w' ⟨rfl,hw⟩
  subst w'
  clear X
  have X:=hid_as (on0 L0.out.bx (by have:=Hhi.out;show _ < i.length;omega))
  simp only [E0.out] at X
  simp only [Hhx.out] at X
  go_wp2_with fail
  refine X.out.mono ?_
  rintro e w' ⟨rfl,hw⟩
  subst w'
  clear X
  have c4:=L0.out.bx.c4
  have X:=hid_as (preset_c L0.out.bx Hhi.out)
  simp only [E1.out] at X
  go_wp2_with fail
  refine X.out.mono ?_
  rintro e w' ⟨rfl,hw⟩
  subst w'
  clear X
  have X:=hid_as (tell_c L0.out.bx true (max x1 0) Hho.out)
  try rw [E0.out] at X
  try rw [E1.out] at X
  go_wp2_with fail
  refine X.out.mono ?_
  intro e w1 hL
  have L1:=hid_as (L0.out.next hL)
  obtain ⟨rfl,hL⟩:=hL
  clear X L0 hL
  have X:=hid_as (hold0 L1.out.bx (by have:=Hhi.out;show _ < i.length;omega))
  try rw [E0.out] at X
  try rw [E1.out] at X
  go_wp2_with fail
  refine X.out.mono ?_
  intro e w2 hL
  have L2:=hid_as (L1.out.next hL)
  obtain ⟨rfl,hL⟩:=hL
  clear X L1 hL
  go_wp2
  go_end0
  rw [HCC.out]
  exact L2.out
set_option maxHeartbeats 1600000 in
theorem ton_wait {w:World} {g a b:Nat} {i o:List Int} {k0 k1 k2 nw x0 x1 p1:Int} {C:Ca} (e0:i.getD 0 0=x0) (e1:i.getD 1 0=x1) (e2:o.getD 1 0=p1) (h:Cl w g a b ⟨i,o,k0,k1,k2,nw⟩) (hi:i.length=2) (ho:o.length=2) (hb:Bd ⟨i,o,k0,k1,k2,nw⟩) (hx:tr (x0)=true) (hk:tr k0=true) (h2:(k2 == 1)=false) (hC:C=⟨i,[b01 (decide ((max x1 0)≤el (max x1 0) nw k1)),el (max x1 0) nw k1],x0,k1,b01 (decide ((max x1 0)≤el (max x1 0) nw k1)),nw⟩) :
    Calls Tryz.prog 191 #[.agg #[],.pointer (some ⟨g,0,none⟩)] w (Lft w g a b C):=by
  have KB:Hid (Below w.heap.size w (w.alloc (.cells #[] 211))):=below_new (Below.refl _ _) _
  have L0:=hid_as (Lft.of (h.below KB.out) (Only.ofBelow KB.out))
  have HB:=hid_as hb
  have E0:=hid_as e0
  have E1:=hid_as e1
  have E2:=hid_as e2
  have HCC:=hid_as hC
  have Hhi:=hid_as hi
  have Hho:=hid_as ho
  have hr:one (x0) k0=false:=by unfold one;rw [hx,hk];rfl
  have Hhx:=hid_as hx
  have Hhr:=hid_as hr
  have Hhk:=hid_as hk
  clear hx hr hk
  clear h KB hb e0 e1 e2 hC hi ho
  go_enter Tryz.func191,Tryz.ntmps191
  go_upto_region 1 with fail
  generalize w.alloc (.cells #[] 211)=w0 at *
  have X:=hid_as (rises0 L0.out.bx (by have:=Hhi.out;show _ < i.length;omega))
  simp only [E0.out] at X
  simp only [Hhr.out] at X
  go_wp2_with fail
  refine X.out.mono ?_
  rintro e w' ⟨rfl,hw⟩
  subst w'
  clear X
  have X:=hid_as (on0 L0.out.bx (by have:=Hhi.out;show _ < i.length;omega))
  simp only [E0.out] at X
  simp only [Hhx.out] at X
  go_wp2_with fail
  refine X.out.mono ?_
  rintro e w' ⟨rfl,hw⟩
  subst w'
  clear X
  have c4:=L0.out.bx.c4
  have X:=hid_as (wait_c L0.out.bx Hhi.out Hho.out HB.out)
  try rw [E0.out] at X
  try rw [E1.out] at X
  go_wp2_with fail
  refine X.out.mono ?_
  intro e w1 hL
  have L1:=hid_as (L0.out.next hL)
  obtain ⟨rfl,hL⟩:=hL
  clear X L0 hL
  have X:=hid_as (hold0 L1.out.bx (by have:=Hhi.out;show _ < i.length;omega))
  try rw [E0.out] at X
  try rw [E1.out] at X
  go_wp2_with fail
  refine X.out.mono ?_
  intro e w2 hL
  have L2:=hid_as (L1.out.next hL)
  obtain ⟨rfl,hL⟩:=hL
  clear X L1 hL
  go_wp2
  go_end0
  rw [HCC.out]
  exact L2.out
set_option maxHeartbeats 1600000 in
theorem ton_edge {w:World} {g a b:Nat} {i o:List Int} {k0 k1 k2 nw x0 x1 p1:Int} {C:Ca} (e0:i.getD 0 0=x0) (e1:i.getD 1 0=x1) (e2:o.getD 1 0=p1) (h:Cl w g a b ⟨i,o,k0,k1,k2,nw⟩) (hi:i.length=2) (ho:o.length=2) (hb:Bd ⟨i,o,k0,k1,k2,nw⟩) (hx:tr (x0)=true) (hk:tr k0=false) (hC:C=⟨i,[b01 (decide ((max x1 0)≤el (max x1 0) nw nw)),el (max x1 0) nw nw],x0,nw,b01 (decide ((max x1 0)≤el (max x1 0) nw nw)),nw⟩) :
    Calls Tryz.prog 191 #[.agg #[],.pointer (some ⟨g,0,none⟩)] w (Lft w g a b C):=by
  have KB:Hid (Below w.heap.size w (w.alloc (.cells #[] 211))):=below_new (Below.refl _ _) _
  have L0:=hid_as (Lft.of (h.below KB.out) (Only.ofBelow KB.out))
  have HB:=hid_as hb
  have E0:=hid_as e0
  have E1:=hid_as e1
  have E2:=hid_as e2
  have HCC:=hid_as hC
  have Hhi:=hid_as hi
  have Hho:=hid_as ho
  have hr:one (x0) k0=true:=by unfold one;rw [hx,hk];rfl
  have HC:=hid_as (show Bd ⟨i,o,k0,nw,0,nw⟩ from ⟨hb.1,hb.1⟩)
  have Hhx:=hid_as hx
  have Hhr:=hid_as hr
  have Hhk:=hid_as hk
  clear hx hr hk
  clear h KB hb e0 e1 e2 hC hi ho
  go_enter Tryz.func191,Tryz.ntmps191
  go_upto_region 1 with fail
  generalize w.alloc (.cells #[] 211)=w0 at *
  have X:=hid_as (rises0 L0.out.bx (by have:=Hhi.out;show _ < i.length;omega))
  simp only [E0.out] at X
  simp only [Hhr.out] at X
  go_wp2_with fail
  refine X.out.mono ?_
  rintro e w' ⟨rfl,hw⟩
  subst w'
  clear X
  have X:=hid_as (begin_c L0.out.bx 0)
  try rw [E0.out] at X
  try rw [E1.out] at X
  go_wp2_with fail
  refine X.out.mono ?_
  intro e w1 hL
  have L1:=hid_as (L0.out.next hL)
  obtain ⟨rfl,hL⟩:=hL
  clear X L0 hL
  have X:=hid_as (on0 L1.out.bx (by have:=Hhi.out;show _ < i.length;omega))
  simp only [E0.out] at X
  simp only [Hhx.out] at X
  go_wp2_with fail
  refine X.out.mono ?_
  rintro e w' ⟨rfl,hw⟩
  subst w'
  clear X
  have c4:=L1.out.bx.c4
  have X:=hid_as (wait_c L1.out.bx Hhi.out Hho.out HC.out)
  try rw [E0.out] at X
  try rw [E1.out] at X
  go_wp2_with fail
  refine X.out.mono ?_
  intro e w2 hL
  have L2:=hid_as (L1.out.next hL)
  obtain ⟨rfl,hL⟩:=hL
  clear X L1 hL
  have X:=hid_as (hold0 L2.out.bx (by have:=Hhi.out;show _ < i.length;omega))
  try rw [E0.out] at X
  try rw [E1.out] at X
  go_wp2_with fail
  refine X.out.mono ?_
  intro e w3 hL
  have L3:=hid_as (L2.out.next hL)
  obtain ⟨rfl,hL⟩:=hL
  clear X L2 hL
  go_wp2
  go_end0
  rw [HCC.out]
  exact L3.out
set_option maxHeartbeats 1600000 in
theorem tof_on {w:World} {g a b:Nat} {i o:List Int} {k0 k1 k2 nw x0 x1 p1:Int} {C:Ca} (e0:i.getD 0 0=x0) (e1:i.getD 1 0=x1) (e2:o.getD 1 0=p1) (h:Cl w g a b ⟨i,o,k0,k1,k2,nw⟩) (hi:i.length=2) (ho:o.length=2) (hb:Bd ⟨i,o,k0,k1,k2,nw⟩) (hx:tr (x0)=true) (hC:C=⟨i,[1,0],x0,k1,0,nw⟩) :
    Calls Tryz.prog 196 #[.agg #[],.pointer (some ⟨g,0,none⟩)] w (Lft w g a b C):=by
  have KB:Hid (Below w.heap.size w (w.alloc (.cells #[] 212))):=below_new (Below.refl _ _) _
  have L0:=hid_as (Lft.of (h.below KB.out) (Only.ofBelow KB.out))
  have HB:=hid_as hb
  have E0:=hid_as e0
  have E1:=hid_as e1
  have E2:=hid_as e2
  have HCC:=hid_as hC
  have Hhi:=hid_as hi
  have Hho:=hid_as ho
  have hr:one k0 (x0)=false:=by unfold one;rw [hx];simp
  have Hhx:=hid_as hx
  have Hhr:=hid_as hr
  clear hx hr
  clear h KB hb e0 e1 e2 hC hi ho
  go_enter Tryz.func196,Tryz.ntmps196
  go_upto_region 1 with fail
  generalize w.alloc (.cells #[] 212)=w0 at *
  have X:=hid_as (falls0 L0.out.bx (by have:=Hhi.out;show _ < i.length;omega))
  simp only [E0.out] at X
  simp only [Hhr.out] at X
  go_wp2_with fail
  refine X.out.mono ?_
  rintro e w' ⟨rfl,hw⟩
  subst w'
  clear X
  have X:=hid_as (on0 L0.out.bx (by have:=Hhi.out;show _ < i.length;omega))
  simp only [E0.out] at X
  simp only [Hhx.out] at X
  go_wp2_with fail
  refine X.out.mono ?_
  rintro e w' ⟨rfl,hw⟩
  subst w'
  clear X
  have X:=hid_as (tell_c L0.out.bx true 0 Hho.out)
  try rw [E0.out] at X
  try rw [E1.out] at X
  go_wp2_with fail
  refine X.out.mono ?_
  intro e w1 hL
  have L1:=hid_as (L0.out.next hL)
  obtain ⟨rfl,hL⟩:=hL
  clear X L0 hL
  have c4:=L1.out.bx.c4
  have f4:=L1.out.bx.fg 4
  have L2:=hid_as (L1.out.put4 0)
  go_upto_region 9 with fail
  generalize w1.setCell ⟨g,4,none⟩ (.int .i64 0)=w2 at *
  clear c4 f4 L1
  have X:=hid_as (hold0 L2.out.bx (by have:=Hhi.out;show _ < i.length;omega))
  try rw [E0.out] at X
  try rw [E1.out] at X
  go_wp2_with fail
  refine X.out.mono ?_
  intro e w3 hL
  have L3:=hid_as (L2.out.next hL)
  obtain ⟨rfl,hL⟩:=hL
  clear X L2 hL
  go_wp2
  go_end0
  rw [HCC.out]
  exact L3.out
set_option maxHeartbeats 1600000 in
theorem tof_fall {w:World} {g a b:Nat} {i o:List Int} {k0 k1 k2 nw x0 x1 p1:Int} {C:Ca} (e0:i.getD 0 0=x0) (e1:i.getD 1 0=x1) (e2:o.getD 1 0=p1) (h:Cl w g a b ⟨i,o,k0,k1,k2,nw⟩) (hi:i.length=2) (ho:o.length=2) (hb:Bd ⟨i,o,k0,k1,k2,nw⟩) (hx:tr (x0)=false) (hk:tr k0=true) (hC:C=⟨i,[b01 (decide (el (max x1 0) nw nw < (max x1 0))),el (max x1 0) nw nw],x0,nw,if el (max x1 0) nw nw < (max x1 0) then 1 else 0,nw⟩) :
    Calls Tryz.prog 196 #[.agg #[],.pointer (some ⟨g,0,none⟩)] w (Lft w g a b C):=by
  have KB:Hid (Below w.heap.size w (w.alloc (.cells #[] 212))):=below_new (Below.refl _ _) _
  have L0:=hid_as (Lft.of (h.below KB.out) (Only.ofBelow KB.out))
  have HB:=hid_as hb
  have E0:=hid_as e0
  have E1:=hid_as e1
  have E2:=hid_as e2
  have HCC:=hid_as hC
  have Hhi:=hid_as hi
  have Hho:=hid_as ho
  have hr:one k0 (x0)=true:=by unfold one;rw [hx,hk];rfl
  have HC:=hid_as (show Bd ⟨i,o,k0,nw,1,nw⟩ from ⟨hb.1,hb.1⟩)
  have Hhx:=hid_as hx
  have Hhr:=hid_as hr
  have Hhk:=hid_as hk
  clear hx hr hk
  clear h KB hb e0 e1 e2 hC hi ho
  go_enter Tryz.func196,Tryz.ntmps196
  go_upto_region 1 with fail
  generalize w.alloc (.cells #[] 212)=w0 at *
  have X:=hid_as (falls0 L0.out.bx (by have:=Hhi.out;show _ < i.length;omega))
  simp only [E0.out] at X
  simp only [Hhr.out] at X
  go_wp2_with fail
  refine X.out.mono ?_
  rintro e w' ⟨rfl,hw⟩
  subst w'
  clear X
  have X:=hid_as (begin_c L0.out.bx 1)
  try rw [E0.out] at X
  try rw [E1.out] at X
  go_wp2_with fail
  refine X.out.mono ?_
  intro e w1 hL
  have L1:=hid_as (L0.out.next hL)
  obtain ⟨rfl,hL⟩:=hL
  clear X L0 hL
  have X:=hid_as (on0 L1.out.bx (by have:=Hhi.out;show _ < i.length;omega))
  simp only [E0.out] at X
  simp only [Hhx.out] at X
  go_wp2_with fail
  refine X.out.mono ?_
  rintro e w' ⟨rfl,hw⟩
  subst w'
  clear X
  have c4:=L1.out.bx.c4
  have X:=hid_as (last_c L1.out.bx 0 Hhi.out Hho.out HC.out)
  try rw [E0.out] at X
  try rw [E1.out] at X
  go_wp2_with fail
  refine X.out.mono ?_
  intro e w2 hL
  have L2:=hid_as (L1.out.next hL)
  obtain ⟨rfl,hL⟩:=hL
  clear X L1 hL
  have X:=hid_as (hold0 L2.out.bx (by have:=Hhi.out;show _ < i.length;omega))
  try rw [E0.out] at X
  try rw [E1.out] at X
  go_wp2_with fail
  refine X.out.mono ?_
  intro e w3 hL
  have L3:=hid_as (L2.out.next hL)
  obtain ⟨rfl,hL⟩:=hL
  clear X L2 hL
  go_wp2
  go_end0
  rw [HCC.out]
  exact L3.out
set_option maxHeartbeats 1600000 in
theorem tof_run {w:World} {g a b:Nat} {i o:List Int} {k0 k1 k2 nw x0 x1 p1:Int} {C:Ca} (e0:i.getD 0 0=x0) (e1:i.getD 1 0=x1) (e2:o.getD 1 0=p1) (h:Cl w g a b ⟨i,o,k0,k1,k2,nw⟩) (hi:i.length=2) (ho:o.length=2) (hb:Bd ⟨i,o,k0,k1,k2,nw⟩) (hx:tr (x0)=false) (hk:tr k0=false) (h2:(k2 != 0)=true) (hC:C=⟨i,[b01 (decide (el (max x1 0) nw k1 < (max x1 0))),el (max x1 0) nw k1],x0,k1,if el (max x1 0) nw k1 < (max x1 0) then k2 else 0,nw⟩) :
    Calls Tryz.prog 196 #[.agg #[],.pointer (some ⟨g,0,none⟩)] w (Lft w g a b C):=by
  have KB:Hid (Below w.heap.size w (w.alloc (.cells #[] 212))):=below_new (Below.refl _ _) _
  have L0:=hid_as (Lft.of (h.below KB.out) (Only.ofBelow KB.out))
  have HB:=hid_as hb
  have E0:=hid_as e0
  have E1:=hid_as e1
  have E2:=hid_as e2
  have HCC:=hid_as hC
  have Hhi:=hid_as hi
  have Hho:=hid_as ho
  have hr:one k0 (x0)=false:=by unfold one;rw [hk];rfl
  have Hhx:=hid_as hx
  have Hhr:=hid_as hr
  have Hhk:=hid_as hk
  clear hx hr hk
  clear h KB hb e0 e1 e2 hC hi ho
  go_enter Tryz.func196,Tryz.ntmps196
  go_upto_region 1 with fail
  generalize w.alloc (.cells #[] 212)=w0 at *
  have X:=hid_as (falls0 L0.out.bx (by have:=Hhi.out;show _ < i.length;omega))
  simp only [E0.out] at X
  simp only [Hhr.out] at X
  go_wp2_with fail
  refine X.out.mono ?_
  rintro e w' ⟨rfl,hw⟩
  subst w'
  clear X
  have X:=hid_as (on0 L0.out.bx (by have:=Hhi.out;show _ < i.length;omega))
  simp only [E0.out] at X
  simp only [Hhx.out] at X
  go_wp2_with fail
  refine X.out.mono ?_
  rintro e w' ⟨rfl,hw⟩
  subst w'
  clear X
  have c4:=L0.out.bx.c4
  have X:=hid_as (last_c L0.out.bx 0 Hhi.out Hho.out HB.out)
  try rw [E0.out] at X
  try rw [E1.out] at X
  go_wp2_with fail
  refine X.out.mono ?_
  intro e w1 hL
  have L1:=hid_as (L0.out.next hL)
  obtain ⟨rfl,hL⟩:=hL
  clear X L0 hL
  have X:=hid_as (hold0 L1.out.bx (by have:=Hhi.out;show _ < i.length;omega))
  try rw [E0.out] at X
  try rw [E1.out] at X
  go_wp2_with fail
  refine X.out.mono ?_
  intro e w2 hL
  have L2:=hid_as (L1.out.next hL)
  obtain ⟨rfl,hL⟩:=hL
  clear X L1 hL
  go_wp2
  go_end0
  rw [HCC.out]
  exact L2.out
set_option maxHeartbeats 1600000 in
theorem tof_idle {w:World} {g a b:Nat} {i o:List Int} {k0 k1 k2 nw x0 x1 p1:Int} {C:Ca} (e0:i.getD 0 0=x0) (e1:i.getD 1 0=x1) (e2:o.getD 1 0=p1) (h:Cl w g a b ⟨i,o,k0,k1,k2,nw⟩) (hi:i.length=2) (ho:o.length=2) (hb:Bd ⟨i,o,k0,k1,k2,nw⟩) (hx:tr (x0)=false) (hk:tr k0=false) (h2:(k2 != 0)=false) (hC:C=⟨i,[0,p1],x0,k1,k2,nw⟩) :
    Calls Tryz.prog 196 #[.agg #[],.pointer (some ⟨g,0,none⟩)] w (Lft w g a b C):=by
  have KB:Hid (Below w.heap.size w (w.alloc (.cells #[] 212))):=below_new (Below.refl _ _) _
  have L0:=hid_as (Lft.of (h.below KB.out) (Only.ofBelow KB.out))
  have HB:=hid_as hb
  have E0:=hid_as e0
  have E1:=hid_as e1
  have E2:=hid_as e2
  have HCC:=hid_as hC
  have Hhi:=hid_as hi
  have Hho:=hid_as ho
  have hr:one k0 (x0)=false:=by unfold one;rw [hk];rfl
  have Hhx:=hid_as hx
  have Hhr:=hid_as hr
  have Hhk:=hid_as hk
  clear hx hr hk
  clear h KB hb e0 e1 e2 hC hi ho
  go_enter Tryz.func196,Tryz.ntmps196
  go_upto_region 1 with fail
  generalize w.alloc (.cells #[] 212)=w0 at *
  have X:=hid_as (falls0 L0.out.bx (by have:=Hhi.out;show _ < i.length;omega))
  simp only [E0.out] at X
  simp only [Hhr.out] at X
  go_wp2_with fail
  refine X.out.mono ?_
  rintro e w' ⟨rfl,hw⟩
  subst w'
  clear X
  have X:=hid_as (on0 L0.out.bx (by have:=Hhi.out;show _ < i.length;omega))
  simp only [E0.out] at X
  simp only [Hhx.out] at X
  go_wp2_with fail
  refine X.out.mono ?_
  rintro e w' ⟨rfl,hw⟩
  subst w'
  clear X
  have c4:=L0.out.bx.c4
  have c1:=L0.out.bx.c1
  have o1:=L0.out.bx.co 1 (by have:=Hho.out;show _ < o.length;omega)
  simp only [E2.out] at o1
  simp only [Hho.out] at c1
  have X:=hid_as (tell_c L0.out.bx false (p1) Hho.out)
  try rw [E0.out] at X
  try rw [E1.out] at X
  go_wp2_with fail
  refine X.out.mono ?_
  intro e w1 hL
  have L1:=hid_as (L0.out.next hL)
  obtain ⟨rfl,hL⟩:=hL
  clear X L0 hL
  have X:=hid_as (hold0 L1.out.bx (by have:=Hhi.out;show _ < i.length;omega))
  try rw [E0.out] at X
  try rw [E1.out] at X
  go_wp2_with fail
  refine X.out.mono ?_
  intro e w2 hL
  have L2:=hid_as (L1.out.next hL)
  obtain ⟨rfl,hL⟩:=hL
  clear X L1 hL
  go_wp2
  go_end0
  rw [HCC.out]
  exact L2.out
end Go.Proofs.YthjclogkcmomkaaGreatDoor
