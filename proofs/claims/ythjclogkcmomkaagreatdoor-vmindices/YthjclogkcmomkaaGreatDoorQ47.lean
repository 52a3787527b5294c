/- The walk of known (stage 21). · Loops in plain mathematics (stage 21). · VmIndices in plain mathematics (stage 21). · VmEnds (stage 21). -/
import Derived.Maps.AppendAt
import Derived.Test.YthjclogkcmomkaaGreatDoorQ16
import Derived.Test.YthjclogkcmomkaaGreatDoorQ46
namespace Go.Proofs.YthjclogkcmomkaaGreatDoor
open Go.RowKit
open Fb Cod Nm Vmx
namespace Vmx
def nos:ByteArray:=⟨#[]⟩
def kl:List Ins:=[⟨21,0,0,0,nos⟩,⟨1,4,0,7,nos⟩,⟨2,0,0,0,nos⟩,⟨9,4,6,0,nos⟩,⟨3,0,0,0,nos⟩,⟨23,0,0,0,nos⟩]
theorem kl_ver:Ver [4] kl none:=Or.inr ⟨by decide +kernel,6,okS_fin (S:=[(0,0),(1,0),(2,1),(3,2),(4,1),(5,0)]) (by decide +kernel),rfl⟩
theorem no_ver:Ver [] [] (some 0):=Or.inl ⟨0,by decide +kernel,rfl⟩
theorem kl_1:exe [4] kl 0 10 10 ⟨0,wrs [4] [2],[],0⟩=some (⟨5,[3],[],1⟩,0):=by kernel_rfl
theorem kl_2:exe [4] kl 0 10 10 ⟨0,wrs [4] [0],[],0⟩=some (⟨3,[0],[0,7],1⟩,1):=by kernel_rfl
theorem kl_3:exe [4] kl 0 0 10 ⟨0,wrs [4] [2],[],0⟩=some (⟨0,[2],[],0⟩,3):=by kernel_rfl
end Vmx
theorem row_keep {w u:World} {g b:Nat} {l:List Int} (r:Row64 w b l) (hne:b ≠ g) (t:Turn g w u):Row64 u b l:=(t.block b (row_lt r) (fun e=>hne (by simpa using e))).trans r
/-- A scan over one literal cell. -/
theorem known_scan {w1:World} {g rn:Nat} (m1:Mh w1 g [4] kl rn) (h9:rn < 1000) (x most:Int) {t:St} {f:Int} (r:exe [4] kl 0 most 10 ⟨0,wrs [4] [x],[],0⟩=some (t,f)) :
    Calls Tryz.prog 15 #[.pointer (some ⟨g,0,none⟩),.slice (some ⟨w1.heap.size,0,none⟩) 1 1,.int .i64 0,.int .i64 most] (w1.alloc (.cells #[.int .i64 x] 2)) fun e w'=>∃ cb:Nat,e=.returned (.tuple #[.slice (some ⟨cb,0,none⟩) 1 1,.int .i64 f,.int .i64 (t.st:Nat)])∧w1.heap.size < cb∧Row64 w' cb t.cs∧Mh w' g [4] kl (rn+1)∧Turn g w1 w':=by
  have hg:=m1.lt
  have k:=below_new1 w1 (.cells #[.int .i64 x] 2)
  refine (mh_scan 0 most (m1.below k) (by omega) (Rgt.of kl_ver) (row_far (row_new w1 [x]) (by omega)) rfl (exe_exn 10 r (by omega))).mono ?_
  rintro e w' ⟨cb,he,hcb,hr,hm,ht⟩
  refine ⟨cb,he,?_,hr,hm,(Turn.ofBelow k).trans ht⟩
  have e:(w1.alloc (.cells (i64s [x]).toArray 2)).heap.size=w1.heap.size+1:=World.size_alloc ..
  have e':w1.heap.size+1≤cb:=by rw [← e];exact hcb
  omega
theorem nil_ca (w:World):Ca2 w none 0 0 none 0 0 [] []:=⟨Sl.nil w,rfl,by decide,Or.inl rfl,rfl,by decide,fun _=>⟨rfl,rfl⟩⟩
set_option maxRecDepth 100000 in
set_option maxHeartbeats 3200000 in
theorem known_c (w:World) (hT:Tabs w):Calls Tryz.prog 9 #[] w fun e w'=>e=.returned (.bool true)∧Below w.heap.size w w':=by
  have C0:=lit_ca w [4] kl (by decide) (by decide)
  have k2:Below w.heap.size w ((w.alloc (.cells (i64s [4]).toArray 3)).alloc (.cells (insv kl).toArray 50)):=below_and (below_new1 _ _) (below_new1 _ _)
  have k3:=below_new1 ((w.alloc (.cells (i64s [4]).toArray 3)).alloc (.cells (insv kl).toArray 50)) (.cells #[.slice (some ⟨w.heap.size,0,none⟩) 1 1,.slice (some ⟨w.heap.size+1,0,none⟩) 6 6] 25)
  have NW:=new_m (C0.below k3) ((hT.below k2).below k3) kl_ver
  have KB:=hid_as (below_and k2 k3)
  have hc:(((w.alloc (.cells (i64s [4]).toArray 3)).alloc (.cells (insv kl).toArray 50)).alloc (.cells #[.slice (some ⟨w.heap.size,0,none⟩) 1 1,.slice (some ⟨w.heap.size+1,0,none⟩) 6 6] 25)).cell? ⟨w.heap.size+2,0,none⟩=some (.slice (some ⟨w.heap.size,0,none⟩) 1 1)∧(((w.alloc (.cells (i64s [4]).toArray 3)).alloc (.cells (insv kl).toArray 50)).alloc (.cells #[.slice (some ⟨w.heap.size,0,none⟩) 1 1,.slice (some ⟨w.heap.size+1,0,none⟩) 6 6] 25)).cell? ⟨w.heap.size+2,1,none⟩=some (.slice (some ⟨w.heap.size+1,0,none⟩) 6 6):=by
    have r:=heap_alloc_new ((w.alloc (.cells (i64s [4]).toArray 3)).alloc (.cells (insv kl).toArray 50)) (.cells [Value.slice (some ⟨w.heap.size,0,none⟩) 1 1,.slice (some ⟨w.heap.size+1,0,none⟩) 6 6].toArray 25)
    rw [World.size_alloc,World.size_alloc] at r
    exact ⟨cell_row (k:=0) r rfl,cell_row (k:=1) r rfl⟩
  have TW:=hid_as ((hT.below k2).below k3)
  obtain ⟨W,hW⟩:∃ W,(((w.alloc (.cells (i64s [4]).toArray 3)).alloc (.cells (insv kl).toArray 50)).alloc (.cells #[.slice (some ⟨w.heap.size,0,none⟩) 1 1,.slice (some ⟨w.heap.size+1,0,none⟩) 6 6] 25))=W:=⟨_,rfl⟩
  rw [hW] at NW KB hc TW
  have NN:Hid (Calls Tryz.prog 11 #[.agg #[.slice (some ⟨w.heap.size,0,none⟩) 1 1,.slice (some ⟨w.heap.size+1,0,none⟩) 6 6]] W fun e w'=>∃ g,e=.returned (.tuple #[.pointer (some ⟨g,0,none⟩),.nilIface])∧Mh w' g [4] kl 0∧W.heap.size≤g∧Below W.heap.size W w'):=NW
  obtain ⟨c0,c1⟩:=hc
  have HW:(((w.alloc (.cells #[.int .i64 4] 3)).alloc (.cells #[.int .i64 21,.int .i64 0,.int .i64 0,.int .i64 0,.string ⟨#[]⟩,.int .i64 1,.int .i64 4,.int .i64 0,.int .i64 7,.string ⟨#[]⟩,.int .i64 2,.int .i64 0,.int .i64 0,.int .i64 0,.string ⟨#[]⟩,.int .i64 9,.int .i64 4,.int .i64 6,.int .i64 0,.string ⟨#[]⟩,.int .i64 3,.int .i64 0,.int .i64 0,.int .i64 0,.string ⟨#[]⟩,.int .i64 23,.int .i64 0,.int .i64 0,.int .i64 0,.string ⟨#[]⟩] 50)).alloc (.cells #[.slice (some ⟨w.heap.size,0,none⟩) 1 1,.slice (some ⟨w.heap.size+1,0,none⟩) 6 6] 25))=W:=hW
  have HWW:=hid_as HW
  clear NW hW HW C0 k2 k3 hT
  go_enter Tryz.func9,Tryz.ntmps9
  go_upto_region 2 with fail
  rw [HWW.out]
  go_wp2_with fail
  refine NN.out.mono ?_
  rintro e w1 ⟨g,rfl,m1,hg,b1⟩
  have S1:=hid_as (known_scan m1 (by decide) 2 10 kl_1)
  have HG:Hid (w.heap.size≤g):=Nat.le_trans KB.out.size hg
  have TG:Hid (2≤g):=by have h1:=TW.out.big;show 2≤g;omega
  have BW1:=hid_as (KB.out.trans (b1.mono KB.out.size))
  have T1:=hid_as (TW.out.below b1)
  have G1:=hid_as m1.lt
  clear m1 hg b1 NN c0 c1 HWW
  go_wp2_with fail
  refine S1.out.mono ?_
  rintro e w2 ⟨c1,rfl,hc1,r1,m2,t2⟩
  have R1:=hid_as r1
  have N1:Hid (c1 ≠ g):=by have:=G1.out;show c1 ≠ g;omega
  have S2:=hid_as (known_scan m2 (by decide) 0 10 kl_2)
  have TT2:=hid_as t2
  clear hc1 r1 m2 t2 S1
  go_wp2_with fail
  refine S2.out.mono ?_
  rintro e w3 ⟨c2,rfl,hc2,r2,m3,t3⟩
  have S3:=hid_as (known_scan m3 (by decide) 2 0 kl_3)
  have TT3:=hid_as (TT2.out.trans t3)
  have R2:=hid_as (row_keep R1.out N1.out t3)
  clear hc2 r2 m3 t3 S2 R1 TT2
  go_wp2_with fail
  refine S3.out.mono ?_
  rintro e w4 ⟨c3,rfl,hc3,r3,m4,t4⟩
  have TT4:=hid_as (TT3.out.trans t4)
  have R3:=hid_as (row_keep R2.out N1.out t4)
  have B4:Hid (Below w.heap.size w w4):=BW1.out.trans (TT4.out.below HG.out BW1.out.size)
  have T4:Hid (Tabs w4):=T1.out.belowB TG.out (TT4.out.below (Nat.le_refl _) (Nat.le_of_lt G1.out))
  have NB:=hid_as (new_bad (nil_ca w4) T4.out no_ver)
  have M4:=hid_as m4
  clear hc3 r3 m4 t4 S3 R2 TT3
  go_wp2_with fail
  refine NB.out.mono ?_
  rintro e w5 ⟨q,rfl,b5,hE⟩
  have M5:=hid_as (M4.out.below b5)
  have R5:=hid_as (row_below R3.out b5)
  have B5:=hid_as (B4.out.trans (b5.mono B4.out.size))
  clear b5 hE NB M4 R3 B4
  have k6:=below_new1 w5 (.cells #[.int .i64 3] 2)
  have NU:Hid (Calls Tryz.prog 16 #[.slice (some ⟨c1,0,none⟩) 1 1,.slice (some ⟨w5.heap.size,0,none⟩) 1 1] (w5.alloc (.cells #[.int .i64 3] 2)) fun e w'=>e=.returned (.bool true)∧Below w5.heap.size w5 w'):=(nums_c (row_sl (row_below R5.out k6) rfl) (row_sl (row_new w5 [3]) rfl) (by decide)).mono (fun e w' q=>⟨by rw [q.1];rfl,k6.trans (q.2.below.mono k6.size)⟩)
  clear k6
  go_wp2_with fail
  refine NU.out.mono ?_
  rintro e w6 ⟨rfl,b6⟩
  have RU:=hid_as (mh_runs (M5.out.below b6))
  have B6:=hid_as (B5.out.trans (b6.mono B5.out.size))
  clear b6
  go_wp2_with fail
  refine RU.out.mono ?_
  rintro e w7 ⟨rfl,hw⟩
  subst w7
  go_wp2
  go_ret
  exact ⟨rfl,B6.out⟩
end Go.Proofs.YthjclogkcmomkaaGreatDoor
namespace Go.Proofs.YthjclogkcmomkaaGreatDoor
open Go.RowKit
open Fb Cod Nm Vmx
namespace Vmx
theorem exn_on {K:List Int} {L:List Ins} {now most:Int} {n:Nat} {s t:St} {x:Ins} (hx:L[s.pc]?=some x) (he:ex1 K now most x s=.go t):exn K L now most (n+1) s=exn K L now most n t:=by
  rw [exn,hx]
  dsimp only
  rw [he]
theorem exn_off {K:List Int} {L:List Ins} {now most:Int} {n:Nat} {s t:St} {f:Int} {x:Ins} (hx:L[s.pc]?=some x) (he:ex1 K now most x s=.stop t f):exn K L now most (n+1) s=(t,f):=by
  rw [exn,hx]
  dsimp only
  rw [he]
def lB:List Ins:=[⟨2,0,0,0,nos⟩,⟨1,7,0,1,nos⟩,⟨9,7,8,0,nos⟩,⟨3,0,0,0,nos⟩,⟨21,0,0,0,nos⟩]
end Vmx
end Go.Proofs.YthjclogkcmomkaaGreatDoor
namespace Go.Proofs.YthjclogkcmomkaaGreatDoor
open Go.RowKit
open Fb Cod Nm Vmx
namespace Vmx
def kR (k:Int) (n:Nat):List Int:=List.replicate (n+1) k
def lP (k:Int) (n:Nat) (f i v:Int):List Ins:=[⟨1,4,0,i,nos⟩,⟨5,1,n,f,nos⟩,⟨1,k,0,v,nos⟩,⟨6,1,n,f,nos⟩,⟨23,0,0,0,nos⟩]
def lG (n:Nat) (f i:Int):List Ins:=[⟨1,4,0,i,nos⟩,⟨4,1,n,f,nos⟩,⟨3,0,0,0,nos⟩,⟨23,0,0,0,nos⟩]
theorem aris_is {k f:Int} {n:Nat} (op:Int) (h:1≤n∧n≤30) (hf:-1000 < f∧f < 1000):aris (kR k n) ⟨op,1,n,f,nos⟩=true:=by
  have e1:((kR k n).drop 1).take n=List.replicate n k:=by
    unfold kR
    rw [List.drop_replicate,List.take_replicate]
    congr 1
    omega
  have e2:(kR k n).getD 1 0=k:=by
    unfold kR
    rw [List.getD_eq_getElem?_getD,List.getElem?_replicate,if_pos (by omega)];rfl
  have e3:((kR k n).length:Int)=n+1:=by simp [kR]
  show (decide ((1:Int)≤(n:Int)) && decide ((n:Int)≤256) && decide ((0:Int)≤1) && decide ((1:Int)≤((kR k n).length:Int) - (n:Int)) && (((kR k n).drop 1).take n).all (fun x=>x == (kR k n).getD 1 0) && decide (-2147483648≤f) && decide (f≤2147483648 - (n:Int)))=true
  rw [e1,e2,e3,decide_eq_true (show (1:Int)≤(n:Int) by omega),decide_eq_true (show (n:Int)≤256 by omega),decide_eq_true (show (1:Int)≤((n:Int)+1) - (n:Int) by omega),decide_eq_true (show -2147483648≤f by omega),decide_eq_true (show f≤2147483648 - (n:Int) by omega)]
  simp
theorem whole_kR {k:Int} {n m:Nat} (hk:1≤k∧k≤11) (h:n≤30) (hm:0 < m∧m≤100):whole (kR k n) m=true:=by
  unfold whole kR
  have hs:scal k=true:=scal_in hk
  rw [List.length_replicate,decide_eq_true (show n+1≤4096 by omega),decide_eq_true hm.1,decide_eq_true (show m≤32768 by omega)]
  simp [hs]
theorem lP_ver {k f:Int} {n:Nat} (i v:Int) (hk:1≤k∧k≤11) (h:1≤n∧n≤30) (hf:-1000 < f∧f < 1000):Ver (kR k n) (lP k n f i v) none:=by
  refine Or.inr ⟨?_,5,okS_fin (S:=[(0,0),(1,1),(2,1),(3,2),(4,0)]) (by kernel_rfl),rfl⟩
  unfold alone
  rw [if_pos (whole_kR hk h.2 (by show 0 < 5∧5≤100;omega)),List.findIdx?_eq_none_iff]
  intro x hx
  simp only [lP,List.mem_cons,List.not_mem_nil,or_false] at hx
  have R0:rgt (kR k n) (lP k n f i v).length ⟨1,4,0,i,nos⟩=true:=rfl
  have R1:rgt (kR k n) (lP k n f i v).length ⟨5,1,n,f,nos⟩=true:=aris_is 5 h hf
  have R2:rgt (kR k n) (lP k n f i v).length ⟨1,k,0,v,nos⟩=true:=scal_in hk
  have R3:rgt (kR k n) (lP k n f i v).length ⟨6,1,n,f,nos⟩=true:=aris_is 6 h hf
  have R4:rgt (kR k n) (lP k n f i v).length ⟨23,0,0,0,nos⟩=true:=rfl
  rcases hx with rfl | rfl | rfl | rfl | rfl
  · rw [R0];rfl
  · rw [R1];rfl
  · rw [R2];rfl
  · rw [R3];rfl
  · rw [R4];rfl
theorem lG_ver {k f:Int} {n:Nat} (i:Int) (hk:1≤k∧k≤11) (h:1≤n∧n≤30) (hf:-1000 < f∧f < 1000):Ver (kR k n) (lG n f i) none:=by
  refine Or.inr ⟨?_,4,okS_fin (S:=[(0,0),(1,1),(2,1),(3,0)]) (by kernel_rfl),rfl⟩
  unfold alone
  rw [if_pos (whole_kR hk h.2 (by show 0 < 4∧4≤100;omega)),List.findIdx?_eq_none_iff]
  intro x hx
  simp only [lG,List.mem_cons,List.not_mem_nil,or_false] at hx
  have R0:rgt (kR k n) (lG n f i).length ⟨1,4,0,i,nos⟩=true:=rfl
  have R1:rgt (kR k n) (lG n f i).length ⟨4,1,n,f,nos⟩=true:=aris_is 4 h hf
  have R2:rgt (kR k n) (lG n f i).length ⟨3,0,0,0,nos⟩=true:=by
    show (decide ((0:Int)≤0) && decide ((0:Int)≤((kR k n).length:Int) - 1))=true
    rw [show ((kR k n).length:Int)=n+1 by simp [kR],decide_eq_true (show (0:Int)≤(n:Int)+1 - 1 by omega)];rfl
  have R3:rgt (kR k n) (lG n f i).length ⟨23,0,0,0,nos⟩=true:=rfl
  rcases hx with rfl | rfl | rfl | rfl
  · rw [R0];rfl
  · rw [R1];rfl
  · rw [R2];rfl
  · rw [R3];rfl
/-- The cells that the law begins with: so many. -/
def ce (k v:Int) (m:Nat):List Int:=(List.range m).map fun (i:Nat)=>wr k (wrap64 ((i:Int) * 3+v))
theorem ce_len (k v:Int) (m:Nat):(ce k v m).length=m:=by simp [ce]
theorem ce_next (k v:Int) (m:Nat):ce k v (m+1)=ce k v m ++ [wr k (wrap64 ((m:Int) * 3+v))]:=by simp [ce,List.range_succ]
theorem ce_wr (k v:Int) (m:Nat):∀ x ∈ ce k v m,wr k x=x:=by
  intro x hx
  simp only [ce,List.mem_map] at hx
  obtain ⟨i,_,rfl⟩:=hx
  exact wr_wr _ _
theorem ce_at {k v:Int} {m j:Nat} (h:j < m):wr k ((ce k v m).getD j 0)=(ce k v m).getD j 0:=by
  rw [List.getD_eq_getElem?_getD,List.getElem?_eq_getElem (by rw [ce_len];exact h)]
  exact ce_wr k v m _ (List.getElem_mem _)
theorem kR_at (k:Int) {n j:Nat} (h:j≤n):(kR k n).getD j 0=k:=by
  unfold kR
  rw [List.getD_eq_getElem?_getD,List.getElem?_replicate,if_pos (by omega)];rfl
theorem wrs_ce (k v:Int) (n:Nat):wrs (kR k n) (ce k v (n+1))=ce k v (n+1):=by
  have hl:(kR k n).length=n+1:=by simp [kR]
  refine List.ext_getElem (by rw [wrs_len,ce_len,hl]) (fun j h1 h2=>?_)
  have h3:j < n+1:=by rw [wrs_len,hl] at h1;exact h1
  have e:=ce_at (k:=k) (v:=v) h3
  simp only [wrs,List.getElem_map,List.getElem_range]
  rw [kR_at k (by omega),e,List.getD_eq_getElem?_getD,List.getElem?_eq_getElem h2]
  rfl
theorem put_out {k f i v:Int} {n m:Nat} (cs:List Int) (h:wr 4 i < f ∨ f+n≤wr 4 i):exn (kR k n) (lP k n f i v) 0 10 (m+5) ⟨0,cs,[],0⟩=(⟨1,cs,[wr 4 i],0⟩,2):=by
  rw [exn_on (n:=m+4) (t:=⟨1,cs,[wr 4 i],0⟩) (x:=⟨1,4,0,i,nos⟩) rfl rfl]
  refine exn_off (n:=m+3) (x:=⟨5,1,n,f,nos⟩) rfl ?_
  show (if (decide (wr 4 i < f) || decide (f+n - 1 < wr 4 i))=true then Res.stop _ 2 else _)=_
  rw [if_pos (by rcases h with h | h <;> simp <;> omega)]
theorem get_out {k f i:Int} {n m:Nat} (cs:List Int) (h:wr 4 i < f ∨ f+n≤wr 4 i):exn (kR k n) (lG n f i) 0 10 (m+5) ⟨0,cs,[],0⟩=(⟨1,cs,[wr 4 i],0⟩,2):=by
  rw [exn_on (n:=m+4) (t:=⟨1,cs,[wr 4 i],0⟩) (x:=⟨1,4,0,i,nos⟩) rfl rfl]
  refine exn_off (n:=m+3) (x:=⟨4,1,n,f,nos⟩) rfl ?_
  show (if (decide (wr 4 i < f) || decide (f+n - 1 < wr 4 i))=true then Res.stop _ 2 else _)=_
  rw [if_pos (by rcases h with h | h <;> simp <;> omega)]
theorem put_in {k f i v:Int} {n m j:Nat} (cs:List Int) (h:wr 4 i=f+j) (hj:j < n):exn (kR k n) (lP k n f i v) 0 10 (m+5) ⟨0,cs,[],0⟩=(⟨4,cs.set (1+j) (wr k v),[],0⟩,0):=by
  have hb:∀ A B:Res,(if (decide (f+(j:Int) < f) || decide (f+(n:Int) - 1 < f+(j:Int)))=true then A else B)=B:=fun A B=>if_neg (by simp;omega)
  have hc:(1:Int).toNat+(f+(j:Int) - f).toNat=1+j:=by omega
  rw [exn_on (n:=m+4) (t:=⟨1,cs,[f+j],0⟩) (x:=⟨1,4,0,i,nos⟩) rfl (by show Res.go ⟨1,cs,[wr 4 i],0⟩=_;rw [h])]
  rw [exn_on (n:=m+3) (t:=⟨2,cs,[f+j],0⟩) (x:=⟨5,1,n,f,nos⟩) rfl (by
    show (if (decide (f+(j:Int) < f) || decide (f+(n:Int) - 1 < f+(j:Int)))=true then Res.stop _ 2 else Res.go ⟨2,cs,[f+(j:Int)],0⟩)=_
    exact hb _ _)]
  rw [exn_on (n:=m+2) (t:=⟨3,cs,[wr k v,f+j],0⟩) (x:=⟨1,k,0,v,nos⟩) rfl rfl]
  rw [exn_on (n:=m+1) (t:=⟨4,cs.set (1+j) (wr k v),[],0⟩) (x:=⟨6,1,n,f,nos⟩) rfl (by
    show (if (decide (f+(j:Int) < f) || decide (f+(n:Int) - 1 < f+(j:Int)))=true then Res.stop _ 2 else Res.go ⟨4,cs.set ((1:Int).toNat+(f+(j:Int) - f).toNat) (wr ((kR k n).getD ((1:Int).toNat+(f+(j:Int) - f).toNat) 0) (wr k v)),[],0⟩)=_
    rw [hb]
    show Res.go ⟨4,cs.set ((1:Int).toNat+(f+(j:Int) - f).toNat) (wr ((kR k n).getD ((1:Int).toNat+(f+(j:Int) - f).toNat) 0) (wr k v)),[],0⟩=_
    rw [hc,kR_at k (by omega),wr_wr])]
  exact exn_off (n:=m) (x:=⟨23,0,0,0,nos⟩) rfl rfl
theorem get_in {k f i v:Int} {n m j:Nat} (h:wr 4 i=f+j) (hj:j < n):exn (kR k n) (lG n f i) 0 10 (m+5) ⟨0,ce k v (n+1),[],0⟩=(⟨3,(ce k v (n+1)).set 0 ((ce k v (n+1)).getD (1+j) 0),[],0⟩,0):=by
  have hb:∀ A B:Res,(if (decide (f+(j:Int) < f) || decide (f+(n:Int) - 1 < f+(j:Int)))=true then A else B)=B:=fun A B=>if_neg (by simp;omega)
  have hc:(1:Int).toNat+(f+(j:Int) - f).toNat=1+j:=by omega
  rw [exn_on (n:=m+4) (t:=⟨1,ce k v (n+1),[f+j],0⟩) (x:=⟨1,4,0,i,nos⟩) rfl (by show Res.go ⟨1,ce k v (n+1),[wr 4 i],0⟩=_;rw [h])]
  rw [exn_on (n:=m+3) (t:=⟨2,ce k v (n+1),[(ce k v (n+1)).getD (1+j) 0],0⟩) (x:=⟨4,1,n,f,nos⟩) rfl (by
    show (if (decide (f+(j:Int) < f) || decide (f+(n:Int) - 1 < f+(j:Int)))=true then Res.stop _ 2 else Res.go ⟨2,ce k v (n+1),[(ce k v (n+1)).getD ((1:Int).toNat+(f+(j:Int) - f).toNat) 0],0⟩)=_
    rw [hb]
    show Res.go ⟨2,ce k v (n+1),[(ce k v (n+1)).getD ((1:Int).toNat+(f+(j:Int) - f).toNat) 0],0⟩=_
    rw [hc])]
  rw [exn_on (n:=m+2) (t:=⟨3,(ce k v (n+1)).set 0 ((ce k v (n+1)).getD (1+j) 0),[],0⟩) (x:=⟨3,0,0,0,nos⟩) rfl (by
    show Res.go ⟨3,(ce k v (n+1)).set 0 (wr ((kR k n).getD 0 0) ((ce k v (n+1)).getD (1+j) 0)),[],0⟩=_
    rw [kR_at k (by omega),ce_at (by omega)])]
  exact exn_off (n:=m+1) (x:=⟨23,0,0,0,nos⟩) rfl rfl
end Vmx
end Go.Proofs.YthjclogkcmomkaaGreatDoor
namespace Go.Proofs.YthjclogkcmomkaaGreatDoor
open Go.RowKit
open Fb Cod Nm Vmx
theorem new_cells (w:World) (vs:List Value) (e:TypeId):∀ j u,vs[j]?=some u→(w.alloc (.cells vs.toArray e)).cell? ((⟨w.heap.size,0,none⟩:Addr).add j)=some u:=fun j u hj=>(lies_new w vs e).news j u hj
theorem own_of_row {w:World} {b base n s:Nat} {e:TypeId} {vs:List Value} (h:w.heap[b]?=some (.cells vs.toArray e (0,0))) (hl:vs.length=n * s) (hm:n≤maxLen) (hb:base≤b):w.ownsRow base e s (.slice (some ⟨b,0,none⟩) n n) n vs :=
  ⟨hl,.inr ⟨b,n,vs.toArray,rfl,hb,h,Nat.le_refl _,hm,by simpa using hl,by simp [← hl]⟩⟩
end Go.Proofs.YthjclogkcmomkaaGreatDoor
