/- The walk of known (stage 21). · Loops in plain mathematics (stage 21). · VmEnds (stage 21). · The walks of the reference: wraps, operators (stage 21, after stage 1). · VmIndices (stage 21). -/
import Derived.Maps.AppendAt
import Derived.WalkKit
import Derived.WalkSpells
import Derived.WalkLawsBesides
import Derived.Test.YthjclogkcmomkaaGreatDoorQ11
import Derived.Test.YthjclogkcmomkaaGreatDoorQ13
import Derived.Test.YthjclogkcmomkaaGreatDoorQ39
namespace Go.Proofs.YthjclogkcmomkaaGreatDoor
open Go.RowKit
open Fb Cod Nm Vmx
namespace Vmx
def nos:ByteArray:=⟨#[]⟩
def kl:List Ins:=[⟨21,0,0,0,nos⟩,⟨1,4,0,7,nos⟩,⟨2,0,0,0,nos⟩,⟨9,4,6,0,nos⟩,⟨3,0,0,0,nos⟩,⟨23,0,0,0,nos⟩]
theorem kl_ver:Ver [4] kl none:=Or.inr ⟨by decide +kernel,6,okS_fin (S:=[(0,0),(1,0),(2,1),(3,2),(4,1),(5,0)]) (by decide +kernel),rfl⟩
theorem no_ver:Ver [] [] (some 0):=Or.inl ⟨0,by decide +kernel,rfl⟩
theorem kl_1:exe [4] kl 0 10 10 ⟨0,wrs [4] [2],[],0⟩=some (⟨5,[3],[],1⟩,0):=by kernel_rfl
theorem kl_2:exe [4] kl 0 10 10 ⟨0,wrs [4] [0],[],0⟩=some (⟨3,[0],[0,7],1⟩,1):=by kernel_rfl
theorem kl_3:exe [4] kl 0 0 10 ⟨0,wrs [4] [2],[],0⟩=some (⟨0,[2],[],0⟩,3):=by kernel_rfl
end Vmx
theorem row_keep {w u:World} {g b:Nat} {l:List Int} (r:Row64 w b l) (hne:b ≠ g) (t:Turn g w u):Row64 u b l:=(t.block b (row_lt r) (fun e=>hne (by simpa using e))).trans r
/-- A scan over one literal cell. -/
theorem known_scan {w1:World} {g rn:Nat} (m1:Mh w1 g [4] kl rn) (h9:rn < 1000) (x most:Int) {t:St} {f:Int} (r:exe [4] kl 0 most 10 ⟨0,wrs [4] [x],[],0⟩=some (t,f)) :
    Calls Tryz.prog 15 #[.pointer (some ⟨g,0,none⟩),.slice (some ⟨w1.heap.size,0,none⟩) 1 1,.int .i64 0,.int .i64 most] (w1.alloc (.cells #[.int .i64 x] 2)) fun e w'=>∃ cb:Nat,e=.returned (.tuple #[.slice (some ⟨cb,0,none⟩) 1 1,.int .i64 f,.int .i64 (t.st:Nat)])∧w1.heap.size < cb∧Row64 w' cb t.cs∧Mh w' g [4] kl (rn+1)∧Turn g w1 w':=by
  have hg:=m1.lt
  have k:=below_new1 w1 (.cells #[.int .i64 x] 2)
  refine (mh_scan 0 most (m1.below k) (by omega) (Rgt.of kl_ver) (row_far (row_new w1 [x]) (by omega)) rfl (exe_exn 10 r (by omega))).mono ?_
  rintro e w' ⟨cb,he,hcb,hr,hm,ht⟩
  refine ⟨cb,he,?_,hr,hm,(Turn.ofBelow k).trans ht⟩
  have e:(w1.alloc (.cells (i64s [x]).toArray 2)).heap.size=w1.heap.size+1:=World.size_alloc ..
  have e':w1.heap.size+1≤cb:=by rw [← e];exact hcb
  omega
theorem nil_ca (w:World):Ca2 w none 0 0 none 0 0 [] []:=⟨Sl.nil w,rfl,by decide,Or.inl rfl,rfl,by decide,fun _=>⟨rfl,rfl⟩⟩
set_option maxRecDepth 100000 in
set_option maxHeartbeats 3200000 in
theorem known_c (w:World) (hT:Tabs w):Calls Tryz.prog 9 #[] w fun e w'=>e=.returned (.bool true)∧Below w.heap.size w w':=by
  have C0:=lit_ca w [4] kl (by decide) (by decide)
  have k2:Below w.heap.size w ((w.alloc (.cells (i64s [4]).toArray 3)).alloc (.cells (insv kl).toArray 50)):=below_and (below_new1 _ _) (below_new1 _ _)
  have k3:=below_new1 ((w.alloc (.cells (i64s [4]).toArray 3)).alloc (.cells (insv kl).toArray 50)) (.cells #[.slice (some ⟨w.heap.size,0,none⟩) 1 1,.slice (some ⟨w.heap.size+1,0,none⟩) 6 6] 25)
  have NW:=new_m (C0.below k3) ((hT.below k2).below k3) kl_ver
  have KB:=hid_as (below_and k2 k3)
  have hc:(((w.alloc (.cells (i64s [4]).toArray 3)).alloc (.cells (insv kl).toArray 50)).alloc (.cells #[.slice (some ⟨w.heap.size,0,none⟩) 1 1,.slice (some ⟨w.heap.size+1,0,none⟩) 6 6] 25)).cell? ⟨w.heap.size+2,0,none⟩=some (.slice (some ⟨w.heap.size,0,none⟩) 1 1)∧(((w.alloc (.cells (i64s [4]).toArray 3)).alloc (.cells (insv kl).toArray 50)).alloc (.cells #[.slice (some ⟨w.heap.size,0,none⟩) 1 1,.slice (some ⟨w.heap.size+1,0,none⟩) 6 6] 25)).cell? ⟨w.heap.size+2,1,none⟩=some (.slice (some ⟨w.heap.size+1,0,none⟩) 6 6):=by
    have r:=heap_alloc_new ((w.alloc (.cells (i64s [4]).toArray 3)).alloc (.cells (insv kl).toArray 50)) (.cells [Value.slice (some ⟨w.heap.size,0,none⟩) 1 1,.slice (some ⟨w.heap.size+1,0,none⟩) 6 6].toArray 25)
    rw [World.size_alloc,World.size_alloc] at r
    exact ⟨cell_row (k:=0) r rfl,cell_row (k:=1) r rfl⟩
  have TW:=hid_as ((hT.below k2).below k3)
  obtain ⟨W,hW⟩:∃ W,(((w.alloc (.cells (i64s [4]).toArray 3)).alloc (.cells (insv kl).toArray 50)).alloc (.cells #[.slice (some ⟨w.heap.size,0,none⟩) 1 1,.slice (some ⟨w.heap.size+1,0,none⟩) 6 6] 25))=W:=⟨_,rfl⟩
  rw [hW] at NW KB hc TW
  have NN:Hid (Calls Tryz.prog 11 #[.agg #[.slice (some ⟨w.heap.size,0,none⟩) 1 1,.slice (some ⟨w.heap.size+1,0,none⟩) 6 6]] W fun e w'=>∃ g,e=.returned (.tuple #[.pointer (some ⟨g,0,none⟩),.nilIface])∧Mh w' g [4] kl 0∧W.heap.size≤g∧Below W.heap.size W w'):=NW
  obtain ⟨c0,c1⟩:=hc
  have HW:(((w.alloc (.cells #[.int .i64 4] 3)).alloc (.cells #[.int .i64 21,.int .i64 0,.int .i64 0,.int .i64 0,.string ⟨#[]⟩,.int .i64 1,.int .i64 4,.int .i64 0,.int .i64 7,.string ⟨#[]⟩,.int .i64 2,.int .i64 0,.int .i64 0,.int .i64 0,.string ⟨#[]⟩,.int .i64 9,.int .i64 4,.int .i64 6,.int .i64 0,.string ⟨#[]⟩,.int .i64 3,.int .i64 0,.int .i64 0,.int .i64 0,.string ⟨#[]⟩,.int .i64 23,.int .i64 0,.int .i64 0,.int .i64 0,.string ⟨#[]⟩] 50)).alloc (.cells #[.slice (some ⟨w.heap.size,0,none⟩) 1 1,.slice (some ⟨w.heap.size+1,0,none⟩) 6 6] 25))=W:=hW
  have HWW:=hid_as HW
  clear NW hW HW C0 k2 k3 hT
  go_enter Tryz.func9,Tryz.ntmps9
  go_upto_region 2 with fail
  rw [HWW.out]
  go_wp2_with fail
  refine NN.out.mono ?_
  rintro e w1 ⟨g,rfl,m1,hg,b1⟩
  have S1:=hid_as (known_scan m1 (by decide) 2 10 kl_1)
  have HG:Hid (w.heap.size≤g):=Nat.le_trans KB.out.size hg
  have TG:Hid (2≤g):=by have h1:=TW.out.big;show 2≤g;omega
  have BW1:=hid_as (KB.out.trans (b1.mono KB.out.size))
  have T1:=hid_as (TW.out.below b1)
  have G1:=hid_as m1.lt
  clear m1 hg b1 NN c0 c1 HWW
  go_wp2_with fail
  refine S1.out.mono ?_
  rintro e w2 ⟨c1,rfl,hc1,r1,m2,t2⟩
  have R1:=hid_as r1
  have N1:Hid (c1 ≠ g):=by have:=G1.out;show c1 ≠ g;omega
  have S2:=hid_as (known_scan m2 (by decide) 0 10 kl_2)
  have TT2:=hid_as t2
  clear hc1 r1 m2 t2 S1
  go_wp2_with fail
  refine S2.out.mono ?_
  rintro e w3 ⟨c2,rfl,hc2,r2,m3,t3⟩
  have S3:=hid_as (known_scan m3 (by decide) 2 0 kl_3)
  have TT3:=hid_as (TT2.out.trans t3)
  have R2:=hid_as (row_keep R1.out N1.out t3)
  clear hc2 r2 m3 t3 S2 R1 TT2
  go_wp2_with fail
  refine S3.out.mono ?_
  rintro e w4 ⟨c3,rfl,hc3,r3,m4,t4⟩
  have TT4:=hid_as (TT3.out.trans t4)
  have R3:=hid_as (row_keep R2.out N1.out t4)
  have B4:Hid (Below w.heap.size w w4):=BW1.out.trans (TT4.out.below HG.out BW1.out.size)
  have T4:Hid (Tabs w4):=T1.out.belowB TG.out (TT4.out.below (Nat.le_refl _) (Nat.le_of_lt G1.out))
  have NB:=hid_as (new_bad (nil_ca w4) T4.out no_ver)
  have M4:=hid_as m4
  clear hc3 r3 m4 t4 S3 R2 TT3
  go_wp2_with fail
  refine NB.out.mono ?_
  rintro e w5 ⟨q,rfl,b5,hE⟩
  have M5:=hid_as (M4.out.below b5)
  have R5:=hid_as (row_below R3.out b5)
  have B5:=hid_as (B4.out.trans (b5.mono B4.out.size))
  clear b5 hE NB M4 R3 B4
  have k6:=below_new1 w5 (.cells #[.int .i64 3] 2)
  have NU:Hid (Calls Tryz.prog 16 #[.slice (some ⟨c1,0,none⟩) 1 1,.slice (some ⟨w5.heap.size,0,none⟩) 1 1] (w5.alloc (.cells #[.int .i64 3] 2)) fun e w'=>e=.returned (.bool true)∧Below w5.heap.size w5 w'):=(nums_c (row_sl (row_below R5.out k6) rfl) (row_sl (row_new w5 [3]) rfl) (by decide)).mono (fun e w' q=>⟨by rw [q.1];rfl,k6.trans (q.2.below.mono k6.size)⟩)
  clear k6
  go_wp2_with fail
  refine NU.out.mono ?_
  rintro e w6 ⟨rfl,b6⟩
  have RU:=hid_as (mh_runs (M5.out.below b6))
  have B6:=hid_as (B5.out.trans (b6.mono B5.out.size))
  clear b6
  go_wp2_with fail
  refine RU.out.mono ?_
  rintro e w7 ⟨rfl,hw⟩
  subst w7
  go_wp2
  go_ret
  exact ⟨rfl,B6.out⟩
end Go.Proofs.YthjclogkcmomkaaGreatDoor
namespace Go.Proofs.YthjclogkcmomkaaGreatDoor
open Go.RowKit
open Fb Cod Nm Vmx
namespace Vmx
theorem exn_on {K:List Int} {L:List Ins} {now most:Int} {n:Nat} {s t:St} {x:Ins} (hx:L[s.pc]?=some x) (he:ex1 K now most x s=.go t):exn K L now most (n+1) s=exn K L now most n t:=by
  rw [exn,hx]
  dsimp only
  rw [he]
theorem exn_off {K:List Int} {L:List Ins} {now most:Int} {n:Nat} {s t:St} {f:Int} {x:Ins} (hx:L[s.pc]?=some x) (he:ex1 K now most x s=.stop t f):exn K L now most (n+1) s=(t,f):=by
  rw [exn,hx]
  dsimp only
  rw [he]
def lB:List Ins:=[⟨2,0,0,0,nos⟩,⟨1,7,0,1,nos⟩,⟨9,7,8,0,nos⟩,⟨3,0,0,0,nos⟩,⟨21,0,0,0,nos⟩]
end Vmx
end Go.Proofs.YthjclogkcmomkaaGreatDoor
namespace Go.Proofs.YthjclogkcmomkaaGreatDoor
open Go.RowKit
open Fb Cod Nm Vmx
theorem new_cells (w:World) (vs:List Value) (e:TypeId):∀ j u,vs[j]?=some u→(w.alloc (.cells vs.toArray e)).cell? ((⟨w.heap.size,0,none⟩:Addr).add j)=some u:=fun j u hj=>(lies_new w vs e).news j u hj
theorem own_of_row {w:World} {b base n s:Nat} {e:TypeId} {vs:List Value} (h:w.heap[b]?=some (.cells vs.toArray e (0,0))) (hl:vs.length=n * s) (hm:n≤maxLen) (hb:base≤b):w.ownsRow base e s (.slice (some ⟨b,0,none⟩) n n) n vs :=
  ⟨hl,.inr ⟨b,n,vs.toArray,rfl,hb,h,Nat.le_refl _,hm,by simpa using hl,by simp [← hl]⟩⟩
end Go.Proofs.YthjclogkcmomkaaGreatDoor
namespace Go.Proofs.YthjclogkcmomkaaGreatDoor
open Go.RowKit
namespace Nm



set_option maxHeartbeats 2000000 in
theorem width_r (k:Int) (w:World):Calls Tryz.prog 38 #[.int .i64 k] w fun e w'=>e=.returned (.int .i64 (wd k))∧Kept w w':=by
  rcases kind_cases k with rfl | rfl | rfl | rfl | rfl | rfl | rfl | rfl | rfl | rfl | rfl | h | h
  rotate_right
  · have hd:decide (k≤11)=false:=decide_eq_false (by omega)
    go_enter Tryz.func38,Tryz.ntmps38
    go_wp2
    go_ret
    exact ⟨ret_int (wd_none (by omega)).symm,Kept.refl _⟩
  all_goals
    go_enter Tryz.func38,Tryz.ntmps38
    go_wp2
    go_ret
  all_goals first | exact ⟨rfl,Kept.refl _⟩ | exact ⟨rfl,(Kept.refl _).alloc _⟩ | exact ⟨ret_int (wd_none (by omega)).symm,Kept.refl _⟩




set_option maxHeartbeats 2000000 in
theorem range_r (k:Int) (w:World):Calls Tryz.prog 39 #[.int .i64 k] w fun e w'=>e=.returned (.tuple #[.int .i64 (lo k),.int .i64 (hi k)])∧Kept w w':=by
  rcases kind_cases k with rfl | rfl | rfl | rfl | rfl | rfl | rfl | rfl | rfl | rfl | rfl | h | h
  rotate_right
  · have hd:decide (k≤11)=false:=decide_eq_false (by omega)
    go_enter Tryz.func39,Tryz.ntmps39
    go_wp2
    go_ret2
    exact ⟨ret_two (lo_none (by omega)).symm (hi_none (by omega)).symm,Kept.refl _⟩
  all_goals
    go_enter Tryz.func39,Tryz.ntmps39
    go_wp2
    try (go_region;all_goals go_wp2)
    all_goals go_ret2
  all_goals first | exact ⟨rfl,(Kept.refl _).alloc _⟩ | exact ⟨rfl,((Kept.refl _).alloc _).drew⟩ | exact ⟨ret_two (lo_none (by omega)).symm (hi_none (by omega)).symm,Kept.refl _⟩




theorem width_at (k v:Int) (h:wd k=v) (w:World):Calls Tryz.prog 38 #[.int .i64 k] w fun e w'=>e=.returned (.int .i64 v)∧Kept w w':=by
  subst h;exact width_r k w
theorem range_at (k u v:Int) (h:lo k=u) (h':hi k=v) (w:World):Calls Tryz.prog 39 #[.int .i64 k] w fun e w'=>e=.returned (.tuple #[.int .i64 u,.int .i64 v])∧Kept w w':=by
  subst h h';exact range_r k w
theorem down8 (n:Int) (h:127 < n % 256):n % 256 - 256=sw 256 n:=by unfold sw;omega
theorem down16 (n:Int) (h:32767 < n % 65536):n % 65536 - 65536=sw 65536 n:=by unfold sw;omega
theorem down32 (n:Int) (h:2147483647 < n % 4294967296):n % 4294967296 - 4294967296=sw 4294967296 n:=by unfold sw;omega
theorem stay8 (n:Int) (h:¬ 127 < n % 256):n % 256=sw 256 n:=by unfold sw;omega
theorem stay16 (n:Int) (h:¬ 32767 < n % 65536):n % 65536=sw 65536 n:=by unfold sw;omega
theorem stay32 (n:Int) (h:¬ 2147483647 < n % 4294967296):n % 4294967296=sw 4294967296 n:=by unfold sw;omega

set_option maxHeartbeats 2000000 in
theorem wrap_r2 (n:Int) (w:World):Calls Tryz.prog 19 #[.int .i64 2,.int .i64 n] w fun e w'=>e=.returned (.int .i64 (wr 2 n))∧Kept w w':=by
  have e:=and8 n
  by_cases h:127 < n % 256
  · go_enter Tryz.func19,Tryz.ntmps19
    go_wp2_with (first | (go_at_call 38;refine (width_at 2 8 rfl _).mono ?_;rintro e w1 ⟨rfl,k1⟩) | (go_at_call 39;refine (range_at 2 (-128) 127 rfl rfl _).mono ?_;rintro e w2 ⟨rfl,k2⟩))
    go_ret
    exact ⟨ret_int (down8 n h),k1.trans k2⟩
  · go_enter Tryz.func19,Tryz.ntmps19
    go_wp2_with (first | (go_at_call 38;refine (width_at 2 8 rfl _).mono ?_;rintro e w1 ⟨rfl,k1⟩) | (go_at_call 39;refine (range_at 2 (-128) 127 rfl rfl _).mono ?_;rintro e w2 ⟨rfl,k2⟩))
    go_ret
    exact ⟨ret_int (stay8 n (by omega)),k1.trans k2⟩

set_option maxHeartbeats 2000000 in
theorem wrap_r3 (n:Int) (w:World):Calls Tryz.prog 19 #[.int .i64 3,.int .i64 n] w fun e w'=>e=.returned (.int .i64 (wr 3 n))∧Kept w w':=by
  have e:=and16 n
  by_cases h:32767 < n % 65536
  · go_enter Tryz.func19,Tryz.ntmps19
    go_wp2_with (first | (go_at_call 38;refine (width_at 3 16 rfl _).mono ?_;rintro e w1 ⟨rfl,k1⟩) | (go_at_call 39;refine (range_at 3 (-32768) 32767 rfl rfl _).mono ?_;rintro e w2 ⟨rfl,k2⟩))
    go_ret
    exact ⟨ret_int (down16 n h),k1.trans k2⟩
  · go_enter Tryz.func19,Tryz.ntmps19
    go_wp2_with (first | (go_at_call 38;refine (width_at 3 16 rfl _).mono ?_;rintro e w1 ⟨rfl,k1⟩) | (go_at_call 39;refine (range_at 3 (-32768) 32767 rfl rfl _).mono ?_;rintro e w2 ⟨rfl,k2⟩))
    go_ret
    exact ⟨ret_int (stay16 n (by omega)),k1.trans k2⟩

set_option maxHeartbeats 2000000 in
theorem wrap_r4 (n:Int) (w:World):Calls Tryz.prog 19 #[.int .i64 4,.int .i64 n] w fun e w'=>e=.returned (.int .i64 (wr 4 n))∧Kept w w':=by
  have e:=and32 n
  by_cases h:2147483647 < n % 4294967296
  · go_enter Tryz.func19,Tryz.ntmps19
    go_wp2_with (first | (go_at_call 38;refine (width_at 4 32 rfl _).mono ?_;rintro e w1 ⟨rfl,k1⟩) | (go_at_call 39;refine (range_at 4 (-2147483648) 2147483647 rfl rfl _).mono ?_;rintro e w2 ⟨rfl,k2⟩))
    go_ret
    exact ⟨ret_int (down32 n h),k1.trans k2⟩
  · go_enter Tryz.func19,Tryz.ntmps19
    go_wp2_with (first | (go_at_call 38;refine (width_at 4 32 rfl _).mono ?_;rintro e w1 ⟨rfl,k1⟩) | (go_at_call 39;refine (range_at 4 (-2147483648) 2147483647 rfl rfl _).mono ?_;rintro e w2 ⟨rfl,k2⟩))
    go_ret
    exact ⟨ret_int (stay32 n (by omega)),k1.trans k2⟩

set_option maxHeartbeats 2000000 in
theorem wrap_r5 (n:Int) (w:World):Calls Tryz.prog 19 #[.int .i64 5,.int .i64 n] w fun e w'=>e=.returned (.int .i64 (wr 5 n))∧Kept w w':=by
  have e:=and8 n
  have h:¬ 255 < n % 256:=by omega
  go_enter Tryz.func19,Tryz.ntmps19
  go_wp2_with (first | (go_at_call 38;refine (width_at 5 8 rfl _).mono ?_;rintro e w1 ⟨rfl,k1⟩) | (go_at_call 39;refine (range_at 5 (0) 255 rfl rfl _).mono ?_;rintro e w2 ⟨rfl,k2⟩))
  go_ret
  exact ⟨rfl,k1.trans k2⟩

set_option maxHeartbeats 2000000 in
theorem wrap_r6 (n:Int) (w:World):Calls Tryz.prog 19 #[.int .i64 6,.int .i64 n] w fun e w'=>e=.returned (.int .i64 (wr 6 n))∧Kept w w':=by
  have e:=and16 n
  have h:¬ 65535 < n % 65536:=by omega
  go_enter Tryz.func19,Tryz.ntmps19
  go_wp2_with (first | (go_at_call 38;refine (width_at 6 16 rfl _).mono ?_;rintro e w1 ⟨rfl,k1⟩) | (go_at_call 39;refine (range_at 6 (0) 65535 rfl rfl _).mono ?_;rintro e w2 ⟨rfl,k2⟩))
  go_ret
  exact ⟨rfl,k1.trans k2⟩

set_option maxHeartbeats 2000000 in
theorem wrap_r7 (n:Int) (w:World):Calls Tryz.prog 19 #[.int .i64 7,.int .i64 n] w fun e w'=>e=.returned (.int .i64 (wr 7 n))∧Kept w w':=by
  have e:=and32 n
  have h:¬ 4294967295 < n % 4294967296:=by omega
  go_enter Tryz.func19,Tryz.ntmps19
  go_wp2_with (first | (go_at_call 38;refine (width_at 7 32 rfl _).mono ?_;rintro e w1 ⟨rfl,k1⟩) | (go_at_call 39;refine (range_at 7 (0) 4294967295 rfl rfl _).mono ?_;rintro e w2 ⟨rfl,k2⟩))
  go_ret
  exact ⟨rfl,k1.trans k2⟩

set_option maxHeartbeats 2000000 in
theorem wrap_r8 (n:Int) (w:World):Calls Tryz.prog 19 #[.int .i64 8,.int .i64 n] w fun e w'=>e=.returned (.int .i64 (wr 8 n))∧Kept w w':=by
  have e:=and8 n
  have h:¬ 255 < n % 256:=by omega
  go_enter Tryz.func19,Tryz.ntmps19
  go_wp2_with (first | (go_at_call 38;refine (width_at 8 8 rfl _).mono ?_;rintro e w1 ⟨rfl,k1⟩) | (go_at_call 39;refine (range_at 8 (0) 255 rfl rfl _).mono ?_;rintro e w2 ⟨rfl,k2⟩))
  go_ret
  exact ⟨rfl,k1.trans k2⟩

set_option maxHeartbeats 2000000 in
theorem wrap_r9 (n:Int) (w:World):Calls Tryz.prog 19 #[.int .i64 9,.int .i64 n] w fun e w'=>e=.returned (.int .i64 (wr 9 n))∧Kept w w':=by
  have e:=and16 n
  have h:¬ 65535 < n % 65536:=by omega
  go_enter Tryz.func19,Tryz.ntmps19
  go_wp2_with (first | (go_at_call 38;refine (width_at 9 16 rfl _).mono ?_;rintro e w1 ⟨rfl,k1⟩) | (go_at_call 39;refine (range_at 9 (0) 65535 rfl rfl _).mono ?_;rintro e w2 ⟨rfl,k2⟩))
  go_ret
  exact ⟨rfl,k1.trans k2⟩

set_option maxHeartbeats 2000000 in
theorem wrap_r10 (n:Int) (w:World):Calls Tryz.prog 19 #[.int .i64 10,.int .i64 n] w fun e w'=>e=.returned (.int .i64 (wr 10 n))∧Kept w w':=by
  have e:=and32 n
  have h:¬ 4294967295 < n % 4294967296:=by omega
  go_enter Tryz.func19,Tryz.ntmps19
  go_wp2_with (first | (go_at_call 38;refine (width_at 10 32 rfl _).mono ?_;rintro e w1 ⟨rfl,k1⟩) | (go_at_call 39;refine (range_at 10 (0) 4294967295 rfl rfl _).mono ?_;rintro e w2 ⟨rfl,k2⟩))
  go_ret
  exact ⟨rfl,k1.trans k2⟩

set_option maxHeartbeats 2000000 in
theorem wrap_r11 (n:Int) (w:World):Calls Tryz.prog 19 #[.int .i64 11,.int .i64 n] w fun e w'=>e=.returned (.int .i64 (wr 11 n))∧Kept w w':=by
  have e:=and32 n
  by_cases h:2147483647 < n % 4294967296
  · go_enter Tryz.func19,Tryz.ntmps19
    go_wp2_with (first | (go_at_call 38;refine (width_at 11 32 rfl _).mono ?_;rintro e w1 ⟨rfl,k1⟩) | (go_at_call 39;refine (range_at 11 (-2147483648) 2147483647 rfl rfl _).mono ?_;rintro e w2 ⟨rfl,k2⟩))
    go_ret
    exact ⟨ret_int (down32 n h),k1.trans k2⟩
  · go_enter Tryz.func19,Tryz.ntmps19
    go_wp2_with (first | (go_at_call 38;refine (width_at 11 32 rfl _).mono ?_;rintro e w1 ⟨rfl,k1⟩) | (go_at_call 39;refine (range_at 11 (-2147483648) 2147483647 rfl rfl _).mono ?_;rintro e w2 ⟨rfl,k2⟩))
    go_ret
    exact ⟨ret_int (stay32 n (by omega)),k1.trans k2⟩

set_option maxHeartbeats 2000000 in
theorem wrap_r (k n:Int) (w:World):Calls Tryz.prog 19 #[.int .i64 k,.int .i64 n] w fun e w'=>e=.returned (.int .i64 (wr k n))∧Kept w w':=by
  rcases kind_cases k with rfl | rfl | rfl | rfl | rfl | rfl | rfl | rfl | rfl | rfl | rfl | h | h
  rotate_right
  · have hd:decide (k≤11)=false:=decide_eq_false (by omega)
    go_enter Tryz.func19,Tryz.ntmps19
    go_wp2
    go_ret
    exact ⟨ret_int (wr_none (by omega) n).symm,Kept.refl _⟩
  · by_cases h:n=0
    · subst h
      go_enter Tryz.func19,Tryz.ntmps19
      go_wp2_with (go_at_call 38;refine (width_at 1 1 rfl _).mono ?_;rintro e w1 ⟨rfl,k1⟩)
      go_ret
      exact ⟨rfl,k1⟩
    · go_enter Tryz.func19,Tryz.ntmps19
      go_wp2_with (go_at_call 38;refine (width_at 1 1 rfl _).mono ?_;rintro e w1 ⟨rfl,k1⟩)
      go_ret
      exact ⟨ret_int (show (1:Int)=wr 1 n by unfold wr;rw [if_pos rfl,if_neg h]),k1⟩
  · exact wrap_r2 n w
  · exact wrap_r3 n w
  · exact wrap_r4 n w
  · exact wrap_r5 n w
  · exact wrap_r6 n w
  · exact wrap_r7 n w
  · exact wrap_r8 n w
  · exact wrap_r9 n w
  · exact wrap_r10 n w
  · exact wrap_r11 n w
  · go_enter Tryz.func19,Tryz.ntmps19
    go_wp2
    go_ret
    exact ⟨ret_int (wr_none (by omega) n).symm,Kept.refl _⟩



end Nm
end Go.Proofs.YthjclogkcmomkaaGreatDoor
namespace Go.Proofs.YthjclogkcmomkaaGreatDoor
open Go.RowKit
open Fb Cod Nm Vmx
/-- Kinds that are being written, in block cb. -/
structure Bk (w1 W:World) (cb:Nat) (kv lv:Value) (K:List Int):Prop where
  row:W.heap[cb]?=some (.cells [kv,lv].toArray 25 (0,0))
  own:W.ownsRow w1.heap.size 3 1 kv K.length (i64s K)
  ne:kv.ownBlock ≠ some cb
  cB:w1.heap.size≤cb
  kb:Below w1.heap.size w1 W
theorem Bk.start (w1:World) (K:List Int) (h:K.length≤maxLen):Bk w1 ((w1.alloc (.cells (i64s K).toArray 3)).alloc (.cells #[.slice (some ⟨w1.heap.size,0,none⟩) K.length K.length,.slice none 0 0] 25)) (w1.heap.size+1) (.slice (some ⟨w1.heap.size,0,none⟩) K.length K.length) (.slice none 0 0) K:=by
  have r:=heap_alloc_new (w1.alloc (.cells (i64s K).toArray 3)) (.cells #[.slice (some ⟨w1.heap.size,0,none⟩) K.length K.length,.slice none 0 0] 25)
  rw [World.size_alloc] at r
  have k1:=below_new1 w1 (.cells (i64s K).toArray 3)
  have k2:=below_new1 (w1.alloc (.cells (i64s K).toArray 3)) (.cells #[.slice (some ⟨w1.heap.size,0,none⟩) K.length K.length,.slice none 0 0] 25)
  refine ⟨r,?_,by simp [Value.ownBlock],Nat.le_succ _,below_and k1 k2⟩
  exact own_of_row (base:=w1.heap.size) (s:=1) ((k2.block w1.heap.size (by simp)).trans (heap_alloc_new w1 _)) (by rw [i64s_len,Nat.mul_one]) h (Nat.le_refl _)
theorem Bk.nil (w1:World):Bk w1 (w1.alloc (.cells #[.slice none 0 0,.slice none 0 0] 25)) w1.heap.size (.slice none 0 0) (.slice none 0 0) [] :=
  ⟨heap_alloc_new w1 _,World.ownsRow_nil ..,by simp [Value.ownBlock],Nat.le_refl _,below_new1 _ _⟩
theorem Bk.lt {w1 W:World} {cb:Nat} {kv lv:Value} {K:List Int} (h:Bk w1 W cb kv lv K):cb < W.heap.size:=row_lt h.row
theorem Bk.c0 {w1 W:World} {cb:Nat} {kv lv:Value} {K:List Int} (h:Bk w1 W cb kv lv K):W.cell? ⟨cb,0,none⟩=some kv:=cell_row (k:=0) h.row rfl
theorem Bk.c1 {w1 W:World} {cb:Nat} {kv lv:Value} {K:List Int} (h:Bk w1 W cb kv lv K):W.cell? ⟨cb,1,none⟩=some lv:=cell_row (k:=1) h.row rfl
theorem Bk.push {w1 W w3:World} {cb:Nat} {kv lv v':Value} {K N:List Int} {o:Obj} (h:Bk w1 W cb kv lv K) (h3:w3.ownsRow w1.heap.size 3 1 v' (K.length+N.length) (i64s K ++ i64s N)) (hg:(W.alloc o).grownBy w3 kv.ownBlock) (hat:v'.ownBlock=kv.ownBlock ∨ v'.ownBlock=some (W.alloc o).heap.size) :
    w3.heap[cb]?=some (.cells [kv,lv].toArray 25 (0,0))∧Bk w1 (w3.setCell ⟨cb,0,none⟩ v') cb v' lv (K ++ N):=by
  have k1:=below_new1 W o
  have hl:=h.lt
  have r3:w3.heap[cb]?=some (.cells [kv,lv].toArray 25 (0,0)):=(hg.block cb (by simp;omega) (fun e=>h.ne e.symm)).trans ((k1.block cb hl).trans h.row)
  have ne':v'.ownBlock ≠ some cb:=fun e=>by
    rcases hat with q | q
    · exact h.ne (q.symm.trans e)
    · rw [e] at q
      simp only [Option.some.injEq,World.size_alloc] at q
      omega
  have t:Turn cb w3 (w3.setCell ⟨cb,0,none⟩ v'):=(Turn.refl cb w3).set 0 _
  have kB:Below w1.heap.size w1 w3:=(below_and h.kb k1).grown hg (below_and h.kb k1).size (fun k hk=>(h.own.lt k hk).1)
  refine ⟨r3,set_row r3 _,?_,ne',h.cB,kB.trans (t.below h.cB kB.size)⟩
  rw [List.length_append,show i64s (K ++ N)=i64s K ++ i64s N by simp [i64s]]
  exact h3.kept t (Or.inr (fun e=>ne' e))
theorem Bk.cast {w1 W:World} {cb:Nat} {kv lv:Value} {K N:List Int} (h:Bk w1 W cb kv lv K) (e:K=N):Bk w1 W cb kv lv N:=e ▸ h
theorem Bk.below {w1 W u:World} {cb:Nat} {kv lv:Value} {K:List Int} (h:Bk w1 W cb kv lv K) (k:Below W.heap.size W u):Bk w1 u cb kv lv K :=
  ⟨(k.block cb h.lt).trans h.row,own_below h.own k (Nat.le_refl _),h.ne,h.cB,below_and h.kb k⟩
/-- The code is laid: a row of instructions is made, and stored into the box. -/
theorem Bk.code {w1 W:World} {cb:Nat} {kv lv:Value} {K:List Int} (h:Bk w1 W cb kv lv K) (L:List Ins) (hK:0 < K.length) (k9:K.length≤1000000) (n9:L.length≤1000000) :
    ∃ va kc,kv=.slice va K.length kc∧Ca2 ((W.alloc (.cells (insv L).toArray 50)).setCell ⟨cb,1,none⟩ (.slice (some ⟨W.heap.size,0,none⟩) L.length L.length)) va K.length kc (some ⟨W.heap.size,0,none⟩) L.length L.length K L
      ∧ Below w1.heap.size w1 ((W.alloc (.cells (insv L).toArray 50)).setCell ⟨cb,1,none⟩ (.slice (some ⟨W.heap.size,0,none⟩) L.length L.length))
      ∧ ((W.alloc (.cells (insv L).toArray 50)).setCell ⟨cb,1,none⟩ (.slice (some ⟨W.heap.size,0,none⟩) L.length L.length)).cell? ⟨cb,0,none⟩=some kv
      ∧ ((W.alloc (.cells (insv L).toArray 50)).setCell ⟨cb,1,none⟩ (.slice (some ⟨W.heap.size,0,none⟩) L.length L.length)).cell? ⟨cb,1,none⟩=some (.slice (some ⟨W.heap.size,0,none⟩) L.length L.length)
      ∧ (W.alloc (.cells (insv L).toArray 50)).frozen? ⟨cb,1,none⟩=false:=by
  have k1:=below_new1 W (.cells (insv L).toArray 50)
  have r1:=(k1.block cb h.lt).trans h.row
  have r2:=set_row (k:=1) r1 (.slice (some ⟨W.heap.size,0,none⟩) L.length L.length)
  have t:Turn cb (W.alloc (.cells (insv L).toArray 50)) ((W.alloc (.cells (insv L).toArray 50)).setCell ⟨cb,1,none⟩ (.slice (some ⟨W.heap.size,0,none⟩) L.length L.length)):=(Turn.refl _ _).set 1 _
  have kB:Below w1.heap.size w1 (W.alloc (.cells (insv L).toArray 50)):=below_and h.kb k1
  have o2:=(own_below h.own k1 (Nat.le_refl _)).kept t (Or.inr (fun e=>h.ne e))
  obtain ⟨g,c,hv⟩:=own_at o2 hK
  subst hv
  refine ⟨_,_,rfl,⟨own_sl o2,rfl,k9,Or.inr ⟨W.heap.size,0,rfl,fun i x hx k u hk=>?_⟩,rfl,n9,fun e=>by cases e⟩,kB.trans (t.below h.cB kB.size),cell_row (k:=0) r2 rfl,cell_row (k:=1) r2 rfl,frozen_row r1⟩
  rw [Nat.zero_add]
  exact cell_row ((t.block W.heap.size (by simp) (fun e=>by have:=h.lt;simp at e;omega)).trans (heap_alloc_new W _)) (insv_at L i x hx k u hk)
theorem nums_same {w:World} {a:List Int} {va vb:Value} (ha:Sl w va (i64s a)) (hb:Sl w vb (i64s a)) (h9:a.length≤1000000) :
    Calls Tryz.prog 16 #[va,vb] w fun e w'=>e=.returned (.bool true)∧Same w w':=(nums_c ha hb h9).mono (fun e w' q=>⟨by rw [q.1];simp,q.2⟩)
/-- A number of a row of one's own is set. -/
theorem own_put {w:World} {base n g c:Nat} {l:List Int} (h:w.ownsRow base 2 1 (.slice (some ⟨g,0,none⟩) n c) n (i64s l)) {j:Nat} (hj:j < n) (x:Int) :
    (w.setCell ⟨g,j,none⟩ (.int .i64 x)).ownsRow base 2 1 (.slice (some ⟨g,0,none⟩) n c) n (i64s (l.set j x))∧w.frozen? ⟨g,j,none⟩=false∧w.cell? ⟨g,j,none⟩=some (.int .i64 (l.getD j 0))∧base≤g∧g < w.heap.size:=by
  have hl:l.length=n:=by have:=h.1;rw [i64s_len] at this;omega
  have hlt:=h.lt g rfl
  have hc:w.cell? ⟨g,j,none⟩=some (.int .i64 (l.getD j 0)):=by
    have:=h.cells (g:=g) rfl j _ (i64s_at l j (by omega))
    have hadd:(⟨g,0,none⟩:Addr).add j=⟨g,j,none⟩:=by unfold Addr.add;split <;> simp_all
    rw [hadd] at this
    exact this
  rcases h.2 with ⟨e,_⟩ | ⟨g',cap,cur,e,hb,hg,h1,h2,h3,h4⟩
  · simp at e
  · simp only [Value.slice.injEq,Option.some.injEq,Addr.mk.injEq] at e
    obtain ⟨⟨rfl,_,_⟩,_,rfl⟩:=e
    have hr:w.heap[g]?=some (.cells cur.toList.toArray 2 (0,0)):=by rw [Array.toArray_toList];exact hg
    refine ⟨⟨by rw [i64s_len,List.length_set];omega,Or.inr ⟨g,c,_,rfl,hb,set_row hr _,h1,h2,by simp [h3],?_⟩⟩,frozen_row hr,hc,hlt.1,hlt.2⟩
    rw [Nat.mul_one] at h4 ⊢
    rw [List.take_set,h4,i64s_set]
end Go.Proofs.YthjclogkcmomkaaGreatDoor
