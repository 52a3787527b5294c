/- The step of TP, way by way (stage 21, after stage 17). -/
import Derived.Test.YthjclogkcmomkaaGreatDoorQ18
namespace Go.Proofs.YthjclogkcmomkaaGreatDoor
open Go.RowKit
open Fb
set_option maxHeartbeats 1600000 in
theorem tp_start_b {w:World} {g a b:Nat} {i o:List Int} {k0 k1 k2 nw x0 x1 p1:Int} {C:Ca} (e0:i.getD 0 0=x0) (e1:i.getD 1 0=x1) (e2:o.getD 1 0=p1) (h:Cl w g a b ⟨i,o,k0,k1,k2,nw⟩) (hi:i.length=2) (ho:o.length=2) (hb:Bd ⟨i,o,k0,k1,k2,nw⟩) (hx:tr (x0)=true) (hk:tr k0=false) (h2:(k2 != 1)=true) (hl:el (max x1 0) nw nw < (max x1 0)) (hC:C=⟨i,[b01 (decide (el (max x1 0) nw nw < (max x1 0))),el (max x1 0) nw nw],x0,nw,1,nw⟩) :
    Calls Tryz.prog 198 #[.agg #[],.pointer (some ⟨g,0,none⟩)] w (Lft w g a b C):=by
  have KB:Hid (Below w.heap.size w (w.alloc (.cells #[] 213))):=below_new (Below.refl _ _) _
  have L0:=hid_as (Lft.of (h.below KB.out) (Only.ofBelow KB.out))
  have HB:=hid_as hb
  have E0:=hid_as e0
  have E1:=hid_as e1
  have E2:=hid_as e2
  have HCC:=hid_as hC
  have Hhi:=hid_as hi
  have Hho:=hid_as ho
  have hr:one (x0) k0=true:=by unfold one;rw [hx,hk];rfl
  have HC:=hid_as (show Bd ⟨i,o,k0,nw,1,nw⟩ from ⟨hb.1,hb.1⟩)
  have Hhx:=hid_as hx
  have Hhr:=hid_as hr
  have Hhk:=hid_as hk
  have Hhl:=hid_as hl
  clear hx hr hk hl
  clear h KB hb e0 e1 e2 hC hi ho
  go_enter Tryz.func198,Tryz.ntmps198
  go_upto_region 1 with fail
  generalize w.alloc (.cells #[] 213)=w0 at *
  have c4:=L0.out.bx.c4
  have X:=hid_as (rises0 L0.out.bx (by have:=Hhi.out;show _ < i.length;omega))
  simp only [E0.out] at X
  simp only [Hhr.out] at X
  go_wp2_with fail
  refine X.out.mono ?_
  rintro e w' ⟨rfl,hw⟩
  subst w'
  clear X
  have X:=hid_as (begin_c L0.out.bx 1)
  try rw [E0.out] at X
  try rw [E1.out] at X
  go_wp2_with fail
  refine X.out.mono ?_
  intro e w1 hL
  have L1:=hid_as (L0.out.next hL)
  obtain ⟨rfl,hL⟩:=hL
  clear X L0 hL
  have c4:=L1.out.bx.c4
  have X:=hid_as (last_yes L1.out.bx 2 Hhi.out Hho.out HC.out (by dsimp only;rw [E1.out];exact Hhl.out))
  try rw [E0.out] at X
  try rw [E1.out] at X
  go_wp2_with fail
  refine X.out.mono ?_
  intro e w2 hL
  have L2:=hid_as (L1.out.next hL)
  obtain ⟨rfl,hL⟩:=hL
  clear X L1 hL
  have c4:=L2.out.bx.c4
  have X:=hid_as (hold0 L2.out.bx (by have:=Hhi.out;show _ < i.length;omega))
  try rw [E0.out] at X
  try rw [E1.out] at X
  go_wp2_with fail
  refine X.out.mono ?_
  intro e w3 hL
  have L3:=hid_as (L2.out.next hL)
  obtain ⟨rfl,hL⟩:=hL
  clear X L2 hL
  go_wp2
  go_end0
  rw [HCC.out]
  exact L3.out
set_option maxHeartbeats 1600000 in
theorem tp_start_e {w:World} {g a b:Nat} {i o:List Int} {k0 k1 k2 nw x0 x1 p1:Int} {C:Ca} (e0:i.getD 0 0=x0) (e1:i.getD 1 0=x1) (e2:o.getD 1 0=p1) (h:Cl w g a b ⟨i,o,k0,k1,k2,nw⟩) (hi:i.length=2) (ho:o.length=2) (hb:Bd ⟨i,o,k0,k1,k2,nw⟩) (hx:tr (x0)=true) (hk:tr k0=false) (h2:(k2 != 1)=true) (hl:(max x1 0)≤el (max x1 0) nw nw) (hC:C=⟨i,[b01 (decide (el (max x1 0) nw nw < (max x1 0))),el (max x1 0) nw nw],x0,nw,2,nw⟩) :
    Calls Tryz.prog 198 #[.agg #[],.pointer (some ⟨g,0,none⟩)] w (Lft w g a b C):=by
  have KB:Hid (Below w.heap.size w (w.alloc (.cells #[] 213))):=below_new (Below.refl _ _) _
  have L0:=hid_as (Lft.of (h.below KB.out) (Only.ofBelow KB.out))
  have HB:=hid_as hb
  have E0:=hid_as e0
  have E1:=hid_as e1
  have E2:=hid_as e2
  have HCC:=hid_as hC
  have Hhi:=hid_as hi
  have Hho:=hid_as ho
  have hr:one (x0) k0=true:=by unfold one;rw [hx,hk];rfl
  have HC:=hid_as (show Bd ⟨i,o,k0,nw,1,nw⟩ from ⟨hb.1,hb.1⟩)
  have Hhx:=hid_as hx
  have Hhr:=hid_as hr
  have Hhk:=hid_as hk
  have Hhl:=hid_as hl
  clear hx hr hk hl
  clear h KB hb e0 e1 e2 hC hi ho
  go_enter Tryz.func198,Tryz.ntmps198
  go_upto_region 1 with fail
  generalize w.alloc (.cells #[] 213)=w0 at *
  have c4:=L0.out.bx.c4
  have X:=hid_as (rises0 L0.out.bx (by have:=Hhi.out;show _ < i.length;omega))
  simp only [E0.out] at X
  simp only [Hhr.out] at X
  go_wp2_with fail
  refine X.out.mono ?_
  rintro e w' ⟨rfl,hw⟩
  subst w'
  clear X
  have X:=hid_as (begin_c L0.out.bx 1)
  try rw [E0.out] at X
  try rw [E1.out] at X
  go_wp2_with fail
  refine X.out.mono ?_
  intro e w1 hL
  have L1:=hid_as (L0.out.next hL)
  obtain ⟨rfl,hL⟩:=hL
  clear X L0 hL
  have c4:=L1.out.bx.c4
  have X:=hid_as (last_no L1.out.bx 2 Hhi.out Hho.out HC.out (by dsimp only;rw [E1.out];exact Hhl.out))
  try rw [E0.out] at X
  try rw [E1.out] at X
  go_wp2_with fail
  refine X.out.mono ?_
  intro e w2 hL
  have L2:=hid_as (L1.out.next hL)
  obtain ⟨rfl,hL⟩:=hL
  clear X L1 hL
  have c4:=L2.out.bx.c4
  have X:=hid_as (on0 L2.out.bx (by have:=Hhi.out;show _ < i.length;omega))
  simp only [E0.out] at X
  simp only [Hhx.out] at X
  go_wp2_with fail
  refine X.out.mono ?_
  rintro e w' ⟨rfl,hw⟩
  subst w'
  clear X
  have X:=hid_as (hold0 L2.out.bx (by have:=Hhi.out;show _ < i.length;omega))
  try rw [E0.out] at X
  try rw [E1.out] at X
  go_wp2_with fail
  refine X.out.mono ?_
  intro e w3 hL
  have L3:=hid_as (L2.out.next hL)
  obtain ⟨rfl,hL⟩:=hL
  clear X L2 hL
  go_wp2
  go_end0
  rw [HCC.out]
  exact L3.out
set_option maxHeartbeats 1600000 in
theorem tp_run {w:World} {g a b:Nat} {i o:List Int} {k0 k1 k2 nw x0 x1 p1:Int} {C:Ca} (e0:i.getD 0 0=x0) (e1:i.getD 1 0=x1) (e2:o.getD 1 0=p1) (h:Cl w g a b ⟨i,o,k0,k1,k2,nw⟩) (hi:i.length=2) (ho:o.length=2) (hb:Bd ⟨i,o,k0,k1,k2,nw⟩) (h2:(k2 != 1)=false) (h21:(k2 == 1)=true) (hl:el (max x1 0) nw k1 < (max x1 0)) (hC:C=⟨i,[b01 (decide (el (max x1 0) nw k1 < (max x1 0))),el (max x1 0) nw k1],x0,k1,k2,nw⟩) :
    Calls Tryz.prog 198 #[.agg #[],.pointer (some ⟨g,0,none⟩)] w (Lft w g a b C):=by
  have KB:Hid (Below w.heap.size w (w.alloc (.cells #[] 213))):=below_new (Below.refl _ _) _
  have L0:=hid_as (Lft.of (h.below KB.out) (Only.ofBelow KB.out))
  have HB:=hid_as hb
  have E0:=hid_as e0
  have E1:=hid_as e1
  have E2:=hid_as e2
  have HCC:=hid_as hC
  have Hhi:=hid_as hi
  have Hho:=hid_as ho
  have Hhl:=hid_as hl
  clear hl
  clear h KB hb e0 e1 e2 hC hi ho
  go_enter Tryz.func198,Tryz.ntmps198
  go_upto_region 1 with fail
  generalize w.alloc (.cells #[] 213)=w0 at *
  have c4:=L0.out.bx.c4
  have X:=hid_as (last_yes L0.out.bx 2 Hhi.out Hho.out HB.out (by dsimp only;rw [E1.out];exact Hhl.out))
  try rw [E0.out] at X
  try rw [E1.out] at X
  go_wp2_with fail
  refine X.out.mono ?_
  intro e w1 hL
  have L1:=hid_as (L0.out.next hL)
  obtain ⟨rfl,hL⟩:=hL
  clear X L0 hL
  have c4:=L1.out.bx.c4
  have X:=hid_as (hold0 L1.out.bx (by have:=Hhi.out;show _ < i.length;omega))
  try rw [E0.out] at X
  try rw [E1.out] at X
  go_wp2_with fail
  refine X.out.mono ?_
  intro e w2 hL
  have L2:=hid_as (L1.out.next hL)
  obtain ⟨rfl,hL⟩:=hL
  clear X L1 hL
  go_wp2
  go_end0
  rw [HCC.out]
  exact L2.out
set_option maxHeartbeats 1600000 in
theorem tp_end_on {w:World} {g a b:Nat} {i o:List Int} {k0 k1 k2 nw x0 x1 p1:Int} {C:Ca} (e0:i.getD 0 0=x0) (e1:i.getD 1 0=x1) (e2:o.getD 1 0=p1) (h:Cl w g a b ⟨i,o,k0,k1,k2,nw⟩) (hi:i.length=2) (ho:o.length=2) (hb:Bd ⟨i,o,k0,k1,k2,nw⟩) (hx:tr (x0)=true) (h2:(k2 != 1)=false) (h21:(k2 == 1)=true) (hl:(max x1 0)≤el (max x1 0) nw k1) (hC:C=⟨i,[b01 (decide (el (max x1 0) nw k1 < (max x1 0))),el (max x1 0) nw k1],x0,k1,2,nw⟩) :
    Calls Tryz.prog 198 #[.agg #[],.pointer (some ⟨g,0,none⟩)] w (Lft w g a b C):=by
  have KB:Hid (Below w.heap.size w (w.alloc (.cells #[] 213))):=below_new (Below.refl _ _) _
  have L0:=hid_as (Lft.of (h.below KB.out) (Only.ofBelow KB.out))
  have HB:=hid_as hb
  have E0:=hid_as e0
  have E1:=hid_as e1
  have E2:=hid_as e2
  have HCC:=hid_as hC
  have Hhi:=hid_as hi
  have Hho:=hid_as ho
  have Hhl:=hid_as hl
  have Hhx:=hid_as hx
  clear hl hx
  clear h KB hb e0 e1 e2 hC hi ho
  go_enter Tryz.func198,Tryz.ntmps198
  go_upto_region 1 with fail
  generalize w.alloc (.cells #[] 213)=w0 at *
  have c4:=L0.out.bx.c4
  have X:=hid_as (last_no L0.out.bx 2 Hhi.out Hho.out HB.out (by dsimp only;rw [E1.out];exact Hhl.out))
  try rw [E0.out] at X
  try rw [E1.out] at X
  go_wp2_with fail
  refine X.out.mono ?_
  intro e w1 hL
  have L1:=hid_as (L0.out.next hL)
  obtain ⟨rfl,hL⟩:=hL
  clear X L0 hL
  have c4:=L1.out.bx.c4
  have X:=hid_as (on0 L1.out.bx (by have:=Hhi.out;show _ < i.length;omega))
  simp only [E0.out] at X
  simp only [Hhx.out] at X
  go_wp2_with fail
  refine X.out.mono ?_
  rintro e w' ⟨rfl,hw⟩
  subst w'
  clear X
  have X:=hid_as (hold0 L1.out.bx (by have:=Hhi.out;show _ < i.length;omega))
  try rw [E0.out] at X
  try rw [E1.out] at X
  go_wp2_with fail
  refine X.out.mono ?_
  intro e w2 hL
  have L2:=hid_as (L1.out.next hL)
  obtain ⟨rfl,hL⟩:=hL
  clear X L1 hL
  go_wp2
  go_end0
  rw [HCC.out]
  exact L2.out
set_option maxHeartbeats 1600000 in
theorem tp_end_off {w:World} {g a b:Nat} {i o:List Int} {k0 k1 k2 nw x0 x1 p1:Int} {C:Ca} (e0:i.getD 0 0=x0) (e1:i.getD 1 0=x1) (e2:o.getD 1 0=p1) (h:Cl w g a b ⟨i,o,k0,k1,k2,nw⟩) (hi:i.length=2) (ho:o.length=2) (hb:Bd ⟨i,o,k0,k1,k2,nw⟩) (hx:tr (x0)=false) (h2:(k2 != 1)=false) (h21:(k2 == 1)=true) (hl:(max x1 0)≤el (max x1 0) nw k1) (hC:C=⟨i,[0,0],x0,k1,0,nw⟩) :
    Calls Tryz.prog 198 #[.agg #[],.pointer (some ⟨g,0,none⟩)] w (Lft w g a b C):=by
  have KB:Hid (Below w.heap.size w (w.alloc (.cells #[] 213))):=below_new (Below.refl _ _) _
  have L0:=hid_as (Lft.of (h.below KB.out) (Only.ofBelow KB.out))
  have HB:=hid_as hb
  have E0:=hid_as e0
  have E1:=hid_as e1
  have E2:=hid_as e2
  have HCC:=hid_as hC
  have Hhi:=hid_as hi
  have Hho:=hid_as ho
  have Hhl:=hid_as hl
  have Hhx:=hid_as hx
  clear hl hx
  clear h KB hb e0 e1 e2 hC hi ho
  go_enter Tryz.func198,Tryz.ntmps198
  go_upto_region 1 with fail
  generalize w.alloc (.cells #[] 213)=w0 at *
  have c4:=L0.out.bx.c4
  have X:=hid_as (last_no L0.out.bx 2 Hhi.out Hho.out HB.out (by dsimp only;rw [E1.out];exact Hhl.out))
  try rw [E0.out] at X
  try rw [E1.out] at X
  go_wp2_with fail
  refine X.out.mono ?_
  intro e w1 hL
  have L1:=hid_as (L0.out.next hL)
  obtain ⟨rfl,hL⟩:=hL
  clear X L0 hL
  have c4:=L1.out.bx.c4
  have X:=hid_as (on0 L1.out.bx (by have:=Hhi.out;show _ < i.length;omega))
  simp only [E0.out] at X
  simp only [Hhx.out] at X
  go_wp2_with fail
  refine X.out.mono ?_
  rintro e w' ⟨rfl,hw⟩
  subst w'
  clear X
  have X:=hid_as (tell_c L1.out.bx false 0 rfl)
  try rw [E0.out] at X
  try rw [E1.out] at X
  go_wp2_with fail
  refine X.out.mono ?_
  intro e w2 hL
  have L2:=hid_as (L1.out.next hL)
  obtain ⟨rfl,hL⟩:=hL
  clear X L1 hL
  have c4:=L2.out.bx.c4
  have f4:=L2.out.bx.fg 4
  have L3:=hid_as (L2.out.put4 0)
  go_upto_region 9 with fail
  generalize w2.setCell ⟨g,4,none⟩ (.int .i64 0)=w3 at *
  clear c4 f4 L2
  have X:=hid_as (hold0 L3.out.bx (by have:=Hhi.out;show _ < i.length;omega))
  try rw [E0.out] at X
  try rw [E1.out] at X
  go_wp2_with fail
  refine X.out.mono ?_
  intro e w4 hL
  have L4:=hid_as (L3.out.next hL)
  obtain ⟨rfl,hL⟩:=hL
  clear X L3 hL
  go_wp2
  go_end0
  rw [HCC.out]
  exact L4.out
set_option maxHeartbeats 1600000 in
theorem tp_rest_on {w:World} {g a b:Nat} {i o:List Int} {k0 k1 k2 nw x0 x1 p1:Int} {C:Ca} (e0:i.getD 0 0=x0) (e1:i.getD 1 0=x1) (e2:o.getD 1 0=p1) (h:Cl w g a b ⟨i,o,k0,k1,k2,nw⟩) (hi:i.length=2) (ho:o.length=2) (hb:Bd ⟨i,o,k0,k1,k2,nw⟩) (hx:tr (x0)=true) (hk:tr k0=true) (h2:(k2 != 1)=true) (h21:(k2 == 1)=false) (hC:C=⟨i,[0,p1],x0,k1,k2,nw⟩) :
    Calls Tryz.prog 198 #[.agg #[],.pointer (some ⟨g,0,none⟩)] w (Lft w g a b C):=by
  have KB:Hid (Below w.heap.size w (w.alloc (.cells #[] 213))):=below_new (Below.refl _ _) _
  have L0:=hid_as (Lft.of (h.below KB.out) (Only.ofBelow KB.out))
  have HB:=hid_as hb
  have E0:=hid_as e0
  have E1:=hid_as e1
  have E2:=hid_as e2
  have HCC:=hid_as hC
  have Hhi:=hid_as hi
  have Hho:=hid_as ho
  have hr:one (x0) k0=false:=by unfold one;rw [hx,hk];rfl
  have Hhx:=hid_as hx
  have Hhr:=hid_as hr
  have Hhk:=hid_as hk
  clear hx hr hk
  clear h KB hb e0 e1 e2 hC hi ho
  go_enter Tryz.func198,Tryz.ntmps198
  go_upto_region 1 with fail
  generalize w.alloc (.cells #[] 213)=w0 at *
  have c4:=L0.out.bx.c4
  have X:=hid_as (rises0 L0.out.bx (by have:=Hhi.out;show _ < i.length;omega))
  simp only [E0.out] at X
  simp only [Hhr.out] at X
  go_wp2_with fail
  refine X.out.mono ?_
  rintro e w' ⟨rfl,hw⟩
  subst w'
  clear X
  have c1:=L0.out.bx.c1
  have o1:=L0.out.bx.co 1 (by have:=Hho.out;show _ < o.length;omega)
  simp only [E2.out] at o1
  simp only [Hho.out] at c1
  have X:=hid_as (tell_c L0.out.bx false (p1) Hho.out)
  try rw [E0.out] at X
  try rw [E1.out] at X
  go_wp2_with fail
  refine X.out.mono ?_
  intro e w1 hL
  have L1:=hid_as (L0.out.next hL)
  obtain ⟨rfl,hL⟩:=hL
  clear X L0 hL
  have c4:=L1.out.bx.c4
  have X:=hid_as (on0 L1.out.bx (by have:=Hhi.out;show _ < i.length;omega))
  simp only [E0.out] at X
  simp only [Hhx.out] at X
  go_wp2_with fail
  refine X.out.mono ?_
  rintro e w' ⟨rfl,hw⟩
  subst w'
  clear X
  have X:=hid_as (hold0 L1.out.bx (by have:=Hhi.out;show _ < i.length;omega))
  try rw [E0.out] at X
  try rw [E1.out] at X
  go_wp2_with fail
  refine X.out.mono ?_
  intro e w2 hL
  have L2:=hid_as (L1.out.next hL)
  obtain ⟨rfl,hL⟩:=hL
  clear X L1 hL
  go_wp2
  go_end0
  rw [HCC.out]
  exact L2.out
set_option maxHeartbeats 1600000 in
theorem tp_rest_off {w:World} {g a b:Nat} {i o:List Int} {k0 k1 k2 nw x0 x1 p1:Int} {C:Ca} (e0:i.getD 0 0=x0) (e1:i.getD 1 0=x1) (e2:o.getD 1 0=p1) (h:Cl w g a b ⟨i,o,k0,k1,k2,nw⟩) (hi:i.length=2) (ho:o.length=2) (hb:Bd ⟨i,o,k0,k1,k2,nw⟩) (hx:tr (x0)=false) (h2:(k2 != 1)=true) (h21:(k2 == 1)=false) (hC:C=⟨i,[0,0],x0,k1,0,nw⟩) :
    Calls Tryz.prog 198 #[.agg #[],.pointer (some ⟨g,0,none⟩)] w (Lft w g a b C):=by
  have KB:Hid (Below w.heap.size w (w.alloc (.cells #[] 213))):=below_new (Below.refl _ _) _
  have L0:=hid_as (Lft.of (h.below KB.out) (Only.ofBelow KB.out))
  have HB:=hid_as hb
  have E0:=hid_as e0
  have E1:=hid_as e1
  have E2:=hid_as e2
  have HCC:=hid_as hC
  have Hhi:=hid_as hi
  have Hho:=hid_as ho
  have hr:one (x0) k0=false:=by unfold one;rw [hx];rfl
  have Hhx:=hid_as hx
  have Hhr:=hid_as hr
  clear hx hr
  clear h KB hb e0 e1 e2 hC hi ho
  go_enter Tryz.func198,Tryz.ntmps198
  go_upto_region 1 with fail
  generalize w.alloc (.cells #[] 213)=w0 at *
  have c4:=L0.out.bx.c4
  have X:=hid_as (rises0 L0.out.bx (by have:=Hhi.out;show _ < i.length;omega))
  simp only [E0.out] at X
  simp only [Hhr.out] at X
  go_wp2_with fail
  refine X.out.mono ?_
  rintro e w' ⟨rfl,hw⟩
  subst w'
  clear X
  have c1:=L0.out.bx.c1
  have o1:=L0.out.bx.co 1 (by have:=Hho.out;show _ < o.length;omega)
  simp only [E2.out] at o1
  simp only [Hho.out] at c1
  have X:=hid_as (tell_c L0.out.bx false (p1) Hho.out)
  try rw [E0.out] at X
  try rw [E1.out] at X
  go_wp2_with fail
  refine X.out.mono ?_
  intro e w1 hL
  have L1:=hid_as (L0.out.next hL)
  obtain ⟨rfl,hL⟩:=hL
  clear X L0 hL
  have c4:=L1.out.bx.c4
  have X:=hid_as (on0 L1.out.bx (by have:=Hhi.out;show _ < i.length;omega))
  simp only [E0.out] at X
  simp only [Hhx.out] at X
  go_wp2_with fail
  refine X.out.mono ?_
  rintro e w' ⟨rfl,hw⟩
  subst w'
  clear X
  have X:=hid_as (tell_c L1.out.bx false 0 rfl)
  try rw [E0.out] at X
  try rw [E1.out] at X
  go_wp2_with fail
  refine X.out.mono ?_
  intro e w2 hL
  have L2:=hid_as (L1.out.next hL)
  obtain ⟨rfl,hL⟩:=hL
  clear X L1 hL
  have c4:=L2.out.bx.c4
  have f4:=L2.out.bx.fg 4
  have L3:=hid_as (L2.out.put4 0)
  go_upto_region 9 with fail
  generalize w2.setCell ⟨g,4,none⟩ (.int .i64 0)=w3 at *
  clear c4 f4 L2
  have X:=hid_as (hold0 L3.out.bx (by have:=Hhi.out;show _ < i.length;omega))
  try rw [E0.out] at X
  try rw [E1.out] at X
  go_wp2_with fail
  refine X.out.mono ?_
  intro e w4 hL
  have L4:=hid_as (L3.out.next hL)
  obtain ⟨rfl,hL⟩:=hL
  clear X L3 hL
  go_wp2
  go_end0
  rw [HCC.out]
  exact L4.out
end Go.Proofs.YthjclogkcmomkaaGreatDoor
