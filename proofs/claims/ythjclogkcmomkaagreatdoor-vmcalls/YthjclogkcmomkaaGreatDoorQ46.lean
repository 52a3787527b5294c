/- What the laws hold: machines, literal code, numbers held against one another (stage 21). · The walk of known (stage 21). · Loops in plain mathematics (stage 21). · VmEnds (stage 21). -/
import Derived.Maps.AppendAt
import Derived.Test.YthjclogkcmomkaaGreatDoorQ16
import Derived.Test.YthjclogkcmomkaaGreatDoorQ44
import Derived.Test.YthjclogkcmomkaaGreatDoorQ45
namespace Go.Proofs.YthjclogkcmomkaaGreatDoor
open Go.RowKit
open Fb Cod Nm Vmx
set_option maxHeartbeats 800000 in
theorem nums_at {w:World} {a b:List Int} {ao bo:Option Addr} {n m c d:Nat} (ha:Sl w (.slice ao n c) (i64s a)) (hb:Sl w (.slice bo m d) (i64s b)) (hn:n=a.length) (hm:m=b.length) (h9:n≤1000000) :
    Calls Tryz.prog 16 #[.slice ao n c,.slice bo m d] w fun e w'=>e=.returned (.bool (decide (a=b)))∧Same w w':=by
  have HA:=hid_as ha
  have HB:=hid_as hb
  have HN:=hid_as hn
  have HM:=hid_as hm
  clear ha hb hn hm
  by_cases hnm:n=m
  · subst hnm
    go_enter Tryz.func16,Tryz.ntmps16
    go_wp2
    go_loopw [5] (fun i wr=>∃ k:Nat,k≤n∧i=.int .i64 k∧a.take k=b.take k∧Same w wr) (fun i _=>n - (intOf i).toNat)
    case atStart=>exact ⟨0,by omega,rfl,rfl,Same.refl _⟩
    case round =>
      obtain ⟨k,hk,rfl,ht,hS⟩:=hrel
      have HT:=hid_as ht
      have KS:=hid_as hS
      clear ht hS
      by_cases hkn:k < n
      · have hk2:(k:Int) < (n:Int):=by omega
        obtain ⟨b1,f1,rfl,c1⟩:=sl64_at (HA.out.same KS.out) (k:=k) (by rw [← HN.out];exact hkn)
        obtain ⟨b2,f2,rfl,c2⟩:=sl64_at (HB.out.same KS.out) (k:=k) (by rw [← HM.out];exact hkn)
        obtain ⟨x,hx⟩:∃ x,x=a.getD k 0:=⟨_,rfl⟩
        obtain ⟨y,hy⟩:∃ y,y=b.getD k 0:=⟨_,rfl⟩
        rw [← hx] at c1
        rw [← hy] at c2
        have HX:=hid_as hx
        have HY:=hid_as hy
        clear hx hy
        by_cases he:x=y
        · have TE:=hid_as (take_eq_succ HT.out (by rw [← HN.out];exact hkn) (by rw [← HM.out];exact hkn) (by rw [← HX.out,← HY.out];exact he))
          subst he
          go_upto_region 6 with fail
          go_quiet (fail)
          go_wp2
          go_roundw
          case rel=>exact ⟨k+1,by omega,by go_num,TE.out,KS.out.trans (Same.drewN _ _)⟩
          case measure=>simp [intOf];omega
        · have NE:Hid (decide (a=b)=false):=decide_eq_false (fun e=>he (by rw [HX.out,HY.out,e]))
          have hb1:(x == y)=false:=by rw [beq_eq_false_iff_ne];exact he
          have hb2:(x != y)=true:=by rw [bne_iff_ne];exact he
          go_upto_region 6 with fail
          go_quiet (fail)
          go_wp2
          go_ret
          exact ⟨congrArg (fun t=>Ending.returned (Value.bool t)) NE.out.symm,KS.out.trans (Same.drewN _ _)⟩
      · obtain rfl:k=n:=by omega
        have EQ:Hid (decide (a=b)=true):=decide_eq_true (by
          have:=HT.out
          rw [List.take_of_length_le (by rw [← HN.out];exact Nat.le_refl _),List.take_of_length_le (by rw [← HM.out];exact Nat.le_refl _)] at this
          exact this)
        go_wp2
        go_ret
        exact ⟨congrArg (fun t=>Ending.returned (Value.bool t)) EQ.out.symm,KS.out⟩
  · have NE:Hid (decide (a=b)=false):=decide_eq_false (fun e=>hnm (by rw [HN.out,HM.out,e]))
    have hb1:((n:Int) == (m:Int))=false:=by rw [beq_eq_false_iff_ne];omega
    have hb2:((n:Int) != (m:Int))=true:=by rw [bne_iff_ne];omega
    clear HA HB
    go_enter Tryz.func16,Tryz.ntmps16
    go_wp2
    go_ret
    exact ⟨congrArg (fun t=>Ending.returned (Value.bool t)) NE.out.symm,Same.refl _⟩
theorem nums_c {w:World} {a b:List Int} {va vb:Value} (ha:Sl w va (i64s a)) (hb:Sl w vb (i64s b)) (h9:a.length≤1000000) :
    Calls Tryz.prog 16 #[va,vb] w fun e w'=>e=.returned (.bool (decide (a=b)))∧Same w w':=by
  obtain ⟨ao,c,rfl⟩:=ha.shape
  obtain ⟨bo,d,rfl⟩:=hb.shape
  have e1:=i64s_len a
  have e2:=i64s_len b
  rw [e1] at ha ⊢
  rw [e2] at hb ⊢
  exact nums_at ha hb rfl rfl h9
namespace Vmx
/-- The scan, if it ends within so many instructions. -/
def exe (K:List Int) (L:List Ins) (now most:Int):Nat→St→Option (St × Int)
  | 0,_=>none
  | n+1,s=>match L[s.pc]? with
    | none=>some (s,0)
    | some x=>match ex1 K now most x s with
      | ⟨t,none⟩=>exe K L now most n t
      | ⟨t,some f⟩=>some (t,f)
theorem exe_exn {K:List Int} {L:List Ins} {now most:Int}:∀ (n:Nat) {k:Nat} {s:St} {r:St × Int},exe K L now most n s=some r→n≤k→exn K L now most k s=r
  | 0,k,s,r,h,_=>by cases h
  | n+1,k,s,r,h,hk=>by
    obtain ⟨k,rfl⟩:∃ j,k=j+1:=⟨k - 1,by omega⟩
    rw [exe] at h
    rw [exn]
    cases hx:L[s.pc]? with
    | none=>rw [hx] at h;exact Option.some.inj h
    | some x =>
      rw [hx] at h
      dsimp only at h ⊢
      rcases he:ex1 K now most x s with ⟨t,_ | f⟩
      · rw [he] at h;exact exe_exn n h (by omega)
      · rw [he] at h;exact Option.some.inj h
end Vmx
/-- A machine of right code, verified. -/
structure Mh (w:World) (g:Nat) (K:List Int) (L:List Ins) (rn:Nat):Prop where
  at_:∃ va kc la lc,VmAt w g (.slice va K.length kc) (.slice la L.length lc) 1 0 .nilIface (rn:Int)∧Mc g w va K.length kc la L.length lc K L
theorem Mh.lt {w:World} {g:Nat} {K:List Int} {L:List Ins} {rn:Nat} (h:Mh w g K L rn):g < w.heap.size:=by
  obtain ⟨_,_,_,_,h1,_⟩:=h.at_
  exact row_lt h1
theorem Mh.below {w u:World} {g:Nat} {K:List Int} {L:List Ins} {rn:Nat} (h:Mh w g K L rn) (k:Below w.heap.size w u):Mh u g K L rn:=by
  obtain ⟨va,kc,la,lc,h1,h2⟩:=h.at_
  exact ⟨va,kc,la,lc,(k.block g (row_lt h1)).trans h1,h2.below (k.mono (Nat.le_of_lt (row_lt h1)))⟩
/-- A scan of it. -/
theorem mh_scan {w:World} {g:Nat} {K:List Int} {L:List Ins} {rn:Nat} {ca:Option Addr} {cn cc:Nat} {cs:List Int} (now most:Int) (h:Mh w g K L rn) (h9:rn < 1000000000000) (R:Rgt K L) (hs:∀ u,Turn g w u→Sl u (.slice ca cn cc) (i64s cs)) (hn:cn=cs.length) {r:St × Int} (hr:exn K L now most 4194304 ⟨0,wrs K cs,[],0⟩=r) :
    Calls Tryz.prog 15 #[.pointer (some ⟨g,0,none⟩),.slice ca cn cc,.int .i64 now,.int .i64 most] w fun e w'=>∃ cb:Nat,e=.returned (.tuple #[.slice (some ⟨cb,0,none⟩) K.length K.length,.int .i64 r.2,.int .i64 (r.1.st:Nat)])∧w.heap.size≤cb∧Row64 w' cb r.1.cs∧Mh w' g K L (rn+1)∧Turn g w w':=by
  obtain ⟨va,kc,la,lc,h1,h2⟩:=h.at_
  refine (scan_c now most h1 h9 h2 R hs hn).mono ?_
  rintro e w' ⟨cb,he,hcb,hrow,hv,ht⟩
  rw [hr] at he hrow
  exact ⟨cb,he,hcb,hrow,⟨va,kc,la,lc,hv,h2.below (ht.below (Nat.le_refl _) (Nat.le_of_lt (row_lt h1)))⟩,ht⟩
/-- A slice in another block than the machine's. -/
theorem row_far {w:World} {g b:Nat} {cs:List Int} (r:Row64 w b cs) (hne:b ≠ g):∀ u,Turn g w u→Sl u (.slice (some ⟨b,0,none⟩) cs.length cs.length) (i64s cs):=fun u t=>row_sl ((t.block b (row_lt r) (fun e=>hne (by simpa using e))).trans r) rfl
/-- Literal code: the kinds' row, the instructions'. -/
theorem lit_ca (w:World) (K:List Int) (L:List Ins) (k9:K.length≤1000000) (n9:L.length≤1000000):Ca2 ((w.alloc (.cells (i64s K).toArray 3)).alloc (.cells (insv L).toArray 50)) (some ⟨w.heap.size,0,none⟩) K.length K.length (some ⟨w.heap.size+1,0,none⟩) L.length L.length K L:=by
  have k2:=below_new1 (w.alloc (.cells (i64s K).toArray 3)) (.cells (insv L).toArray 50)
  have r1:=(k2.block w.heap.size (by simp)).trans (heap_alloc_new w (.cells (i64s K).toArray 3))
  have r2:=heap_alloc_new (w.alloc (.cells (i64s K).toArray 3)) (.cells (insv L).toArray 50)
  rw [World.size_alloc] at r2
  refine ⟨Or.inr ⟨w.heap.size,0,K.length,by rw [i64s_len],by rw [i64s_len];exact Nat.le_refl _,fun j u hj=>by rw [Nat.zero_add];exact cell_row r1 hj⟩,rfl,k9,Or.inr ⟨w.heap.size+1,0,rfl,fun i x hx k u hk=>?_⟩,rfl,n9,fun e=>by cases e⟩
  rw [Nat.zero_add]
  exact cell_row r2 (insv_at L i x hx k u hk)
/-- New of right code. -/
theorem new_m {w:World} {va la:Option Addr} {kn kc n lc:Nat} {K:List Int} {L:List Ins} (h:Ca2 w va kn kc la n lc K L) (hT:Tabs w) (hV:Ver K L none) :
    Calls Tryz.prog 11 #[.agg #[.slice va kn kc,.slice la n lc]] w fun e w'=>∃ g,e=.returned (.tuple #[.pointer (some ⟨g,0,none⟩),.nilIface])∧Mh w' g K L 0∧w.heap.size≤g∧Below w.heap.size w w':=by
  refine (new_c h hT).mono ?_
  rintro e w' ⟨⟨k,v,hk,_⟩ | ⟨_,g,va',kc',la',lc',he,h1,h2,h3⟩,hB⟩
  · cases hk.unique hV
  · rw [h.kl,h.nl] at h1 h2
    exact ⟨g,he,⟨va',kc',la',lc',h1,h2⟩,h3,hB⟩
/-- New of wrong code. -/
theorem new_bad {w:World} {va la:Option Addr} {kn kc n lc k:Nat} {K:List Int} {L:List Ins} (h:Ca2 w va kn kc la n lc K L) (hT:Tabs w) (hV:Ver K L (some k)) :
    Calls Tryz.prog 11 #[.agg #[.slice va kn kc,.slice la n lc]] w fun e w'=>∃ q,e=.returned (.tuple #[.pointer none,.iface 81 (.pointer (some ⟨q,0,none⟩))])∧Below w.heap.size w w'∧Err w (some k) (.iface 81 (.pointer (some ⟨q,0,none⟩))) w':=by
  refine (new_c h hT).mono ?_
  rintro e w' ⟨⟨j,v,hk,he,hE⟩ | ⟨hk,_⟩,hB⟩
  · have e2:some j=some k:=hk.unique hV
    obtain rfl:=Option.some.inj e2
    have hE2:=hE
    obtain ⟨q,hv,_⟩:=hE2
    subst hv
    exact ⟨q,he,hB,hE⟩
  · cases hk.unique hV
theorem mh_runs {w:World} {g:Nat} {K:List Int} {L:List Ins} {rn:Nat} (h:Mh w g K L rn):Calls Tryz.prog 17 #[.pointer (some ⟨g,0,none⟩)] w fun e w'=>e=.returned (.int .u64 (rn:Int))∧w'=w:=by
  obtain ⟨va,kc,la,lc,h1,_⟩:=h.at_
  exact runs_c h1
end Go.Proofs.YthjclogkcmomkaaGreatDoor
namespace Go.Proofs.YthjclogkcmomkaaGreatDoor
open Go.RowKit
open Fb Cod Nm Vmx
namespace Vmx
def nos:ByteArray:=⟨#[]⟩
def kl:List Ins:=[⟨21,0,0,0,nos⟩,⟨1,4,0,7,nos⟩,⟨2,0,0,0,nos⟩,⟨9,4,6,0,nos⟩,⟨3,0,0,0,nos⟩,⟨23,0,0,0,nos⟩]
theorem kl_ver:Ver [4] kl none:=Or.inr ⟨by decide +kernel,6,okS_fin (S:=[(0,0),(1,0),(2,1),(3,2),(4,1),(5,0)]) (by decide +kernel),rfl⟩
theorem no_ver:Ver [] [] (some 0):=Or.inl ⟨0,by decide +kernel,rfl⟩
theorem kl_1:exe [4] kl 0 10 10 ⟨0,wrs [4] [2],[],0⟩=some (⟨5,[3],[],1⟩,0):=by kernel_rfl
theorem kl_2:exe [4] kl 0 10 10 ⟨0,wrs [4] [0],[],0⟩=some (⟨3,[0],[0,7],1⟩,1):=by kernel_rfl
theorem kl_3:exe [4] kl 0 0 10 ⟨0,wrs [4] [2],[],0⟩=some (⟨0,[2],[],0⟩,3):=by kernel_rfl
end Vmx
theorem row_keep {w u:World} {g b:Nat} {l:List Int} (r:Row64 w b l) (hne:b ≠ g) (t:Turn g w u):Row64 u b l:=(t.block b (row_lt r) (fun e=>hne (by simpa using e))).trans r
/-- A scan over one literal cell. -/
theorem known_scan {w1:World} {g rn:Nat} (m1:Mh w1 g [4] kl rn) (h9:rn < 1000) (x most:Int) {t:St} {f:Int} (r:exe [4] kl 0 most 10 ⟨0,wrs [4] [x],[],0⟩=some (t,f)) :
    Calls Tryz.prog 15 #[.pointer (some ⟨g,0,none⟩),.slice (some ⟨w1.heap.size,0,none⟩) 1 1,.int .i64 0,.int .i64 most] (w1.alloc (.cells #[.int .i64 x] 2)) fun e w'=>∃ cb:Nat,e=.returned (.tuple #[.slice (some ⟨cb,0,none⟩) 1 1,.int .i64 f,.int .i64 (t.st:Nat)])∧w1.heap.size < cb∧Row64 w' cb t.cs∧Mh w' g [4] kl (rn+1)∧Turn g w1 w':=by
  have hg:=m1.lt
  have k:=below_new1 w1 (.cells #[.int .i64 x] 2)
  refine (mh_scan 0 most (m1.below k) (by omega) (Rgt.of kl_ver) (row_far (row_new w1 [x]) (by omega)) rfl (exe_exn 10 r (by omega))).mono ?_
  rintro e w' ⟨cb,he,hcb,hr,hm,ht⟩
  refine ⟨cb,he,?_,hr,hm,(Turn.ofBelow k).trans ht⟩
  have e:(w1.alloc (.cells (i64s [x]).toArray 2)).heap.size=w1.heap.size+1:=World.size_alloc ..
  have e':w1.heap.size+1≤cb:=by rw [← e];exact hcb
  omega
theorem nil_ca (w:World):Ca2 w none 0 0 none 0 0 [] []:=⟨Sl.nil w,rfl,by decide,Or.inl rfl,rfl,by decide,fun _=>⟨rfl,rfl⟩⟩
set_option maxRecDepth 100000 in
set_option maxHeartbeats 3200000 in
theorem known_c (w:World) (hT:Tabs w):Calls Tryz.prog 9 #[] w fun e w'=>e=.returned (.bool true)∧Below w.heap.size w w':=by
  have C0:=lit_ca w [4] kl (by decide) (by decide)
  have k2:Below w.heap.size w ((w.alloc (.cells (i64s [4]).toArray 3)).alloc (.cells (insv kl).toArray 50)):=below_and (below_new1 _ _) (below_new1 _ _)
  have k3:=below_new1 ((w.alloc (.cells (i64s [4]).toArray 3)).alloc (.cells (insv kl).toArray 50)) (.cells #[.slice (some ⟨w.heap.size,0,none⟩) 1 1,.slice (some ⟨w.heap.size+1,0,none⟩) 6 6] 25)
  have NW:=new_m (C0.below k3) ((hT.below k2).below k3) kl_ver
  have KB:=hid_as (below_and k2 k3)
  have hc:(((w.alloc (.cells (i64s [4]).toArray 3)).alloc (.cells (insv kl).toArray 50)).alloc (.cells #[.slice (some ⟨w.heap.size,0,none⟩) 1 1,.slice (some ⟨w.heap.size+1,0,none⟩) 6 6] 25)).cell? ⟨w.heap.size+2,0,none⟩=some (.slice (some ⟨w.heap.size,0,none⟩) 1 1)∧(((w.alloc (.cells (i64s [4]).toArray 3)).alloc (.cells (insv kl).toArray 50)).alloc (.cells #[.slice (some ⟨w.heap.size,0,none⟩) 1 1,.slice (some ⟨w.heap.size+1,0,none⟩) 6 6] 25)).cell? ⟨w.heap.size+2,1,none⟩=some (.slice (some ⟨w.heap.size+1,0,none⟩) 6 6):=by
    have r:=heap_alloc_new ((w.alloc (.cells (i64s [4]).toArray 3)).alloc (.cells (insv kl).toArray 50)) (.cells [Value.slice (some ⟨w.heap.size,0,none⟩) 1 1,.slice (some ⟨w.heap.size+1,0,none⟩) 6 6].toArray 25)
    rw [World.size_alloc,World.size_alloc] at r
    exact ⟨cell_row (k:=0) r rfl,cell_row (k:=1) r rfl⟩
  have TW:=hid_as ((hT.below k2).below k3)
  obtain ⟨W,hW⟩:∃ W,(((w.alloc (.cells (i64s [4]).toArray 3)).alloc (.cells (insv kl).toArray 50)).alloc (.cells #[.slice (some ⟨w.heap.size,0,none⟩) 1 1,.slice (some ⟨w.heap.size+1,0,none⟩) 6 6] 25))=W:=⟨_,rfl⟩
  rw [hW] at NW KB hc TW
  have NN:Hid (Calls Tryz.prog 11 #[.agg #[.slice (some ⟨w.heap.size,0,none⟩) 1 1,.slice (some ⟨w.heap.size+1,0,none⟩) 6 6]] W fun e w'=>∃ g,e=.returned (.tuple #[.pointer (some ⟨g,0,none⟩),.nilIface])∧Mh w' g [4] kl 0∧W.heap.size≤g∧Below W.heap.size W w'):=NW
  obtain ⟨c0,c1⟩:=hc
  have HW:(((w.alloc (.cells #[.int .i64 4] 3)).alloc (.cells #[.int .i64 21,.int .i64 0,.int .i64 0,.int .i64 0,.string ⟨#[]⟩,.int .i64 1,.int .i64 4,.int .i64 0,.int .i64 7,.string ⟨#[]⟩,.int .i64 2,.int .i64 0,.int .i64 0,.int .i64 0,.string ⟨#[]⟩,.int .i64 9,.int .i64 4,.int .i64 6,.int .i64 0,.string ⟨#[]⟩,.int .i64 3,.int .i64 0,.int .i64 0,.int .i64 0,.string ⟨#[]⟩,.int .i64 23,.int .i64 0,.int .i64 0,.int .i64 0,.string ⟨#[]⟩] 50)).alloc (.cells #[.slice (some ⟨w.heap.size,0,none⟩) 1 1,.slice (some ⟨w.heap.size+1,0,none⟩) 6 6] 25))=W:=hW
  have HWW:=hid_as HW
  clear NW hW HW C0 k2 k3 hT
  go_enter Tryz.func9,Tryz.ntmps9
  go_upto_region 2 with fail
  rw [HWW.out]
  go_wp2_with fail
  refine NN.out.mono ?_
  rintro e w1 ⟨g,rfl,m1,hg,b1⟩
  have S1:=hid_as (known_scan m1 (by decide) 2 10 kl_1)
  have HG:Hid (w.heap.size≤g):=Nat.le_trans KB.out.size hg
  have TG:Hid (2≤g):=by have h1:=TW.out.big;show 2≤g;omega
  have BW1:=hid_as (KB.out.trans (b1.mono KB.out.size))
  have T1:=hid_as (TW.out.below b1)
  have G1:=hid_as m1.lt
  clear m1 hg b1 NN c0 c1 HWW
  go_wp2_with fail
  refine S1.out.mono ?_
  rintro e w2 ⟨c1,rfl,hc1,r1,m2,t2⟩
  have R1:=hid_as r1
  have N1:Hid (c1 ≠ g):=by have:=G1.out;show c1 ≠ g;omega
  have S2:=hid_as (known_scan m2 (by decide) 0 10 kl_2)
  have TT2:=hid_as t2
  clear hc1 r1 m2 t2 S1
  go_wp2_with fail
  refine S2.out.mono ?_
  rintro e w3 ⟨c2,rfl,hc2,r2,m3,t3⟩
  have S3:=hid_as (known_scan m3 (by decide) 2 0 kl_3)
  have TT3:=hid_as (TT2.out.trans t3)
  have R2:=hid_as (row_keep R1.out N1.out t3)
  clear hc2 r2 m3 t3 S2 R1 TT2
  go_wp2_with fail
  refine S3.out.mono ?_
  rintro e w4 ⟨c3,rfl,hc3,r3,m4,t4⟩
  have TT4:=hid_as (TT3.out.trans t4)
  have R3:=hid_as (row_keep R2.out N1.out t4)
  have B4:Hid (Below w.heap.size w w4):=BW1.out.trans (TT4.out.below HG.out BW1.out.size)
  have T4:Hid (Tabs w4):=T1.out.belowB TG.out (TT4.out.below (Nat.le_refl _) (Nat.le_of_lt G1.out))
  have NB:=hid_as (new_bad (nil_ca w4) T4.out no_ver)
  have M4:=hid_as m4
  clear hc3 r3 m4 t4 S3 R2 TT3
  go_wp2_with fail
  refine NB.out.mono ?_
  rintro e w5 ⟨q,rfl,b5,hE⟩
  have M5:=hid_as (M4.out.below b5)
  have R5:=hid_as (row_below R3.out b5)
  have B5:=hid_as (B4.out.trans (b5.mono B4.out.size))
  clear b5 hE NB M4 R3 B4
  have k6:=below_new1 w5 (.cells #[.int .i64 3] 2)
  have NU:Hid (Calls Tryz.prog 16 #[.slice (some ⟨c1,0,none⟩) 1 1,.slice (some ⟨w5.heap.size,0,none⟩) 1 1] (w5.alloc (.cells #[.int .i64 3] 2)) fun e w'=>e=.returned (.bool true)∧Below w5.heap.size w5 w'):=(nums_c (row_sl (row_below R5.out k6) rfl) (row_sl (row_new w5 [3]) rfl) (by decide)).mono (fun e w' q=>⟨by rw [q.1];rfl,k6.trans (q.2.below.mono k6.size)⟩)
  clear k6
  go_wp2_with fail
  refine NU.out.mono ?_
  rintro e w6 ⟨rfl,b6⟩
  have RU:=hid_as (mh_runs (M5.out.below b6))
  have B6:=hid_as (B5.out.trans (b6.mono B5.out.size))
  clear b6
  go_wp2_with fail
  refine RU.out.mono ?_
  rintro e w7 ⟨rfl,hw⟩
  subst w7
  go_wp2
  go_ret
  exact ⟨rfl,B6.out⟩
end Go.Proofs.YthjclogkcmomkaaGreatDoor
namespace Go.Proofs.YthjclogkcmomkaaGreatDoor
open Go.RowKit
open Fb Cod Nm Vmx
namespace Vmx
theorem exn_on {K:List Int} {L:List Ins} {now most:Int} {n:Nat} {s t:St} {x:Ins} (hx:L[s.pc]?=some x) (he:ex1 K now most x s=.go t):exn K L now most (n+1) s=exn K L now most n t:=by
  rw [exn,hx]
  dsimp only
  rw [he]
theorem exn_off {K:List Int} {L:List Ins} {now most:Int} {n:Nat} {s t:St} {f:Int} {x:Ins} (hx:L[s.pc]?=some x) (he:ex1 K now most x s=.stop t f):exn K L now most (n+1) s=(t,f):=by
  rw [exn,hx]
  dsimp only
  rw [he]
def lB:List Ins:=[⟨2,0,0,0,nos⟩,⟨1,7,0,1,nos⟩,⟨9,7,8,0,nos⟩,⟨3,0,0,0,nos⟩,⟨21,0,0,0,nos⟩]
end Vmx
end Go.Proofs.YthjclogkcmomkaaGreatDoor
namespace Go.Proofs.YthjclogkcmomkaaGreatDoor
open Go.RowKit
open Fb Cod Nm Vmx
/-- Literal code in its box. -/
theorem lit_box (w:World) (K:List Int) (L:List Ins) (k9:K.length≤1000000) (n9:L.length≤1000000) (hT:Tabs w) {W:World} (hW:((w.alloc (.cells (i64s K).toArray 3)).alloc (.cells (insv L).toArray 50)).alloc (.cells #[.slice (some ⟨w.heap.size,0,none⟩) K.length K.length,.slice (some ⟨w.heap.size+1,0,none⟩) L.length L.length] 25)=W) :
    Ca2 W (some ⟨w.heap.size,0,none⟩) K.length K.length (some ⟨w.heap.size+1,0,none⟩) L.length L.length K L∧Tabs W∧Below w.heap.size w W∧W.cell? ⟨w.heap.size+2,0,none⟩=some (.slice (some ⟨w.heap.size,0,none⟩) K.length K.length)∧W.cell? ⟨w.heap.size+2,1,none⟩=some (.slice (some ⟨w.heap.size+1,0,none⟩) L.length L.length):=by
  have k2:Below w.heap.size w ((w.alloc (.cells (i64s K).toArray 3)).alloc (.cells (insv L).toArray 50)):=below_and (below_new1 _ _) (below_new1 _ _)
  have k3:=below_new1 ((w.alloc (.cells (i64s K).toArray 3)).alloc (.cells (insv L).toArray 50)) (.cells #[.slice (some ⟨w.heap.size,0,none⟩) K.length K.length,.slice (some ⟨w.heap.size+1,0,none⟩) L.length L.length] 25)
  have r:=heap_alloc_new ((w.alloc (.cells (i64s K).toArray 3)).alloc (.cells (insv L).toArray 50)) (.cells [Value.slice (some ⟨w.heap.size,0,none⟩) K.length K.length,.slice (some ⟨w.heap.size+1,0,none⟩) L.length L.length].toArray 25)
  rw [World.size_alloc,World.size_alloc] at r
  subst hW
  exact ⟨(lit_ca w K L k9 n9).below k3,(hT.below k2).below k3,below_and k2 k3,cell_row (k:=0) r rfl,cell_row (k:=1) r rfl⟩
end Go.Proofs.YthjclogkcmomkaaGreatDoor
