/- What the laws hold: machines, literal code, numbers held against one another (stage 21). · New, with where its rows lie (stage 21). -/
import Derived.Test.YthjclogkcmomkaaGreatDoorQ37
import Derived.Test.YthjclogkcmomkaaGreatDoorQ38
namespace Go.Proofs.YthjclogkcmomkaaGreatDoor
open Go.RowKit
open Fb Cod Nm Vmx
set_option maxHeartbeats 800000 in
theorem nums_at {w:World} {a b:List Int} {ao bo:Option Addr} {n m c d:Nat} (ha:Sl w (.slice ao n c) (i64s a)) (hb:Sl w (.slice bo m d) (i64s b)) (hn:n=a.length) (hm:m=b.length) (h9:n≤1000000) :
    Calls Tryz.prog 16 #[.slice ao n c,.slice bo m d] w fun e w'=>e=.returned (.bool (decide (a=b)))∧Same w w':=by
  have HA:=hid_as ha
  have HB:=hid_as hb
  have HN:=hid_as hn
  have HM:=hid_as hm
  clear ha hb hn hm
  by_cases hnm:n=m
  · subst hnm
    go_enter Tryz.func16,Tryz.ntmps16
    go_wp2
    go_loopw [5] (fun i wr=>∃ k:Nat,k≤n∧i=.int .i64 k∧a.take k=b.take k∧Same w wr) (fun i _=>n - (intOf i).toNat)
    case atStart=>exact ⟨0,by omega,rfl,rfl,Same.refl _⟩
    case round =>
      obtain ⟨k,hk,rfl,ht,hS⟩:=hrel
      have HT:=hid_as ht
      have KS:=hid_as hS
      clear ht hS
      by_cases hkn:k < n
      · have hk2:(k:Int) < (n:Int):=by omega
        obtain ⟨b1,f1,rfl,c1⟩:=sl64_at (HA.out.same KS.out) (k:=k) (by rw [← HN.out];exact hkn)
        obtain ⟨b2,f2,rfl,c2⟩:=sl64_at (HB.out.same KS.out) (k:=k) (by rw [← HM.out];exact hkn)
        obtain ⟨x,hx⟩:∃ x,x=a.getD k 0:=⟨_,rfl⟩
        obtain ⟨y,hy⟩:∃ y,y=b.getD k 0:=⟨_,rfl⟩
        rw [← hx] at c1
        rw [← hy] at c2
        have HX:=hid_as hx
        have HY:=hid_as hy
        clear hx hy
        by_cases he:x=y
        · have TE:=hid_as (take_eq_succ HT.out (by rw [← HN.out];exact hkn) (by rw [← HM.out];exact hkn) (by rw [← HX.out,← HY.out];exact he))
          subst he
          go_upto_region 6 with fail
          go_quiet (fail)
          go_wp2
          go_roundw
          case rel=>exact ⟨k+1,by omega,by go_num,TE.out,KS.out.trans (Same.drewN _ _)⟩
          case measure=>simp [intOf];omega
        · have NE:Hid (decide (a=b)=false):=decide_eq_false (fun e=>he (by rw [HX.out,HY.out,e]))
          have hb1:(x == y)=false:=by rw [beq_eq_false_iff_ne];exact he
          have hb2:(x != y)=true:=by rw [bne_iff_ne];exact he
          go_upto_region 6 with fail
          go_quiet (fail)
          go_wp2
          go_ret
          exact ⟨congrArg (fun t=>Ending.returned (Value.bool t)) NE.out.symm,KS.out.trans (Same.drewN _ _)⟩
      · obtain rfl:k=n:=by omega
        have EQ:Hid (decide (a=b)=true):=decide_eq_true (by
          have:=HT.out
          rw [List.take_of_length_le (by rw [← HN.out];exact Nat.le_refl _),List.take_of_length_le (by rw [← HM.out];exact Nat.le_refl _)] at this
          exact this)
        go_wp2
        go_ret
        exact ⟨congrArg (fun t=>Ending.returned (Value.bool t)) EQ.out.symm,KS.out⟩
  · have NE:Hid (decide (a=b)=false):=decide_eq_false (fun e=>hnm (by rw [HN.out,HM.out,e]))
    have hb1:((n:Int) == (m:Int))=false:=by rw [beq_eq_false_iff_ne];omega
    have hb2:((n:Int) != (m:Int))=true:=by rw [bne_iff_ne];omega
    clear HA HB
    go_enter Tryz.func16,Tryz.ntmps16
    go_wp2
    go_ret
    exact ⟨congrArg (fun t=>Ending.returned (Value.bool t)) NE.out.symm,Same.refl _⟩
theorem nums_c {w:World} {a b:List Int} {va vb:Value} (ha:Sl w va (i64s a)) (hb:Sl w vb (i64s b)) (h9:a.length≤1000000) :
    Calls Tryz.prog 16 #[va,vb] w fun e w'=>e=.returned (.bool (decide (a=b)))∧Same w w':=by
  obtain ⟨ao,c,rfl⟩:=ha.shape
  obtain ⟨bo,d,rfl⟩:=hb.shape
  have e1:=i64s_len a
  have e2:=i64s_len b
  rw [e1] at ha ⊢
  rw [e2] at hb ⊢
  exact nums_at ha hb rfl rfl h9
namespace Vmx
/-- The scan, if it ends within so many instructions. -/
def exe (K:List Int) (L:List Ins) (now most:Int):Nat→St→Option (St × Int)
  | 0,_=>none
  | n+1,s=>match L[s.pc]? with
    | none=>some (s,0)
    | some x=>match ex1 K now most x s with
      | ⟨t,none⟩=>exe K L now most n t
      | ⟨t,some f⟩=>some (t,f)
theorem exe_exn {K:List Int} {L:List Ins} {now most:Int}:∀ (n:Nat) {k:Nat} {s:St} {r:St × Int},exe K L now most n s=some r→n≤k→exn K L now most k s=r
  | 0,k,s,r,h,_=>by cases h
  | n+1,k,s,r,h,hk=>by
    obtain ⟨k,rfl⟩:∃ j,k=j+1:=⟨k - 1,by omega⟩
    rw [exe] at h
    rw [exn]
    cases hx:L[s.pc]? with
    | none=>rw [hx] at h;exact Option.some.inj h
    | some x =>
      rw [hx] at h
      dsimp only at h ⊢
      rcases he:ex1 K now most x s with ⟨t,_ | f⟩
      · rw [he] at h;exact exe_exn n h (by omega)
      · rw [he] at h;exact Option.some.inj h
end Vmx
/-- A machine of right code, verified. -/
structure Mh (w:World) (g:Nat) (K:List Int) (L:List Ins) (rn:Nat):Prop where
  at_:∃ va kc la lc,VmAt w g (.slice va K.length kc) (.slice la L.length lc) 1 0 .nilIface (rn:Int)∧Mc g w va K.length kc la L.length lc K L
theorem Mh.lt {w:World} {g:Nat} {K:List Int} {L:List Ins} {rn:Nat} (h:Mh w g K L rn):g < w.heap.size:=by
  obtain ⟨_,_,_,_,h1,_⟩:=h.at_
  exact row_lt h1
theorem Mh.below {w u:World} {g:Nat} {K:List Int} {L:List Ins} {rn:Nat} (h:Mh w g K L rn) (k:Below w.heap.size w u):Mh u g K L rn:=by
  obtain ⟨va,kc,la,lc,h1,h2⟩:=h.at_
  exact ⟨va,kc,la,lc,(k.block g (row_lt h1)).trans h1,h2.below (k.mono (Nat.le_of_lt (row_lt h1)))⟩
/-- A scan of it. -/
theorem mh_scan {w:World} {g:Nat} {K:List Int} {L:List Ins} {rn:Nat} {ca:Option Addr} {cn cc:Nat} {cs:List Int} (now most:Int) (h:Mh w g K L rn) (h9:rn < 1000000000000) (R:Rgt K L) (hs:∀ u,Turn g w u→Sl u (.slice ca cn cc) (i64s cs)) (hn:cn=cs.length) {r:St × Int} (hr:exn K L now most 4194304 ⟨0,wrs K cs,[],0⟩=r) :
    Calls Tryz.prog 15 #[.pointer (some ⟨g,0,none⟩),.slice ca cn cc,.int .i64 now,.int .i64 most] w fun e w'=>∃ cb:Nat,e=.returned (.tuple #[.slice (some ⟨cb,0,none⟩) K.length K.length,.int .i64 r.2,.int .i64 (r.1.st:Nat)])∧w.heap.size≤cb∧Row64 w' cb r.1.cs∧Mh w' g K L (rn+1)∧Turn g w w':=by
  obtain ⟨va,kc,la,lc,h1,h2⟩:=h.at_
  refine (scan_c now most h1 h9 h2 R hs hn).mono ?_
  rintro e w' ⟨cb,he,hcb,hrow,hv,ht⟩
  rw [hr] at he hrow
  exact ⟨cb,he,hcb,hrow,⟨va,kc,la,lc,hv,h2.below (ht.below (Nat.le_refl _) (Nat.le_of_lt (row_lt h1)))⟩,ht⟩
/-- A slice in another block than the machine's. -/
theorem row_far {w:World} {g b:Nat} {cs:List Int} (r:Row64 w b cs) (hne:b ≠ g):∀ u,Turn g w u→Sl u (.slice (some ⟨b,0,none⟩) cs.length cs.length) (i64s cs):=fun u t=>row_sl ((t.block b (row_lt r) (fun e=>hne (by simpa using e))).trans r) rfl
/-- Literal code: the kinds' row, the instructions'. -/
theorem lit_ca (w:World) (K:List Int) (L:List Ins) (k9:K.length≤1000000) (n9:L.length≤1000000):Ca2 ((w.alloc (.cells (i64s K).toArray 3)).alloc (.cells (insv L).toArray 50)) (some ⟨w.heap.size,0,none⟩) K.length K.length (some ⟨w.heap.size+1,0,none⟩) L.length L.length K L:=by
  have k2:=below_new1 (w.alloc (.cells (i64s K).toArray 3)) (.cells (insv L).toArray 50)
  have r1:=(k2.block w.heap.size (by simp)).trans (heap_alloc_new w (.cells (i64s K).toArray 3))
  have r2:=heap_alloc_new (w.alloc (.cells (i64s K).toArray 3)) (.cells (insv L).toArray 50)
  rw [World.size_alloc] at r2
  refine ⟨Or.inr ⟨w.heap.size,0,K.length,by rw [i64s_len],by rw [i64s_len];exact Nat.le_refl _,fun j u hj=>by rw [Nat.zero_add];exact cell_row r1 hj⟩,rfl,k9,Or.inr ⟨w.heap.size+1,0,rfl,fun i x hx k u hk=>?_⟩,rfl,n9,fun e=>by cases e⟩
  rw [Nat.zero_add]
  exact cell_row r2 (insv_at L i x hx k u hk)
/-- New of right code. -/
theorem new_m {w:World} {va la:Option Addr} {kn kc n lc:Nat} {K:List Int} {L:List Ins} (h:Ca2 w va kn kc la n lc K L) (hT:Tabs w) (hV:Ver K L none) :
    Calls Tryz.prog 11 #[.agg #[.slice va kn kc,.slice la n lc]] w fun e w'=>∃ g,e=.returned (.tuple #[.pointer (some ⟨g,0,none⟩),.nilIface])∧Mh w' g K L 0∧w.heap.size≤g∧Below w.heap.size w w':=by
  refine (new_c h hT).mono ?_
  rintro e w' ⟨⟨k,v,hk,_⟩ | ⟨_,g,va',kc',la',lc',he,h1,h2,h3⟩,hB⟩
  · cases hk.unique hV
  · rw [h.kl,h.nl] at h1 h2
    exact ⟨g,he,⟨va',kc',la',lc',h1,h2⟩,h3,hB⟩
/-- New of wrong code. -/
theorem new_bad {w:World} {va la:Option Addr} {kn kc n lc k:Nat} {K:List Int} {L:List Ins} (h:Ca2 w va kn kc la n lc K L) (hT:Tabs w) (hV:Ver K L (some k)) :
    Calls Tryz.prog 11 #[.agg #[.slice va kn kc,.slice la n lc]] w fun e w'=>∃ q,e=.returned (.tuple #[.pointer none,.iface 81 (.pointer (some ⟨q,0,none⟩))])∧Below w.heap.size w w'∧Err w (some k) (.iface 81 (.pointer (some ⟨q,0,none⟩))) w':=by
  refine (new_c h hT).mono ?_
  rintro e w' ⟨⟨j,v,hk,he,hE⟩ | ⟨hk,_⟩,hB⟩
  · have e2:some j=some k:=hk.unique hV
    obtain rfl:=Option.some.inj e2
    have hE2:=hE
    obtain ⟨q,hv,_⟩:=hE2
    subst hv
    exact ⟨q,he,hB,hE⟩
  · cases hk.unique hV
theorem mh_runs {w:World} {g:Nat} {K:List Int} {L:List Ins} {rn:Nat} (h:Mh w g K L rn):Calls Tryz.prog 17 #[.pointer (some ⟨g,0,none⟩)] w fun e w'=>e=.returned (.int .u64 (rn:Int))∧w'=w:=by
  obtain ⟨va,kc,la,lc,h1,_⟩:=h.at_
  exact runs_c h1
end Go.Proofs.YthjclogkcmomkaaGreatDoor
namespace Go.Proofs.YthjclogkcmomkaaGreatDoor
open Go.RowKit
open Fb Cod Nm Vmx
/-- What New tells. -/
def NewEndB (w:World) (kn n:Nat) (K:List Int) (L:List Ins) (e:Ending) (w':World):Prop :=
  ((∃ k v,Ver K L (some k)∧e=.returned (.tuple #[.pointer none,v])∧Err w (some k) v w') ∨ (Ver K L none∧∃ g va kc la lc,e=.returned (.tuple #[.pointer (some ⟨g,0,none⟩),.nilIface])∧VmAt w' g (.slice va kn kc) (.slice la n lc) 1 0 .nilIface 0∧Mc g w' va kn kc la n lc K L∧w.heap.size≤g∧(∀ p,va=some p→w.heap.size≤p.block)∧(∀ p,la=some p→w.heap.size≤p.block)))∧Below w.heap.size w w'
set_option maxRecDepth 100000 in
set_option maxHeartbeats 1600000 in
theorem new_cB {w:World} {va la:Option Addr} {kn kc n lc:Nat} {K:List Int} {L:List Ins} (h:Ca2 w va kn kc la n lc K L) (hT:Tabs w) :
    Calls Tryz.prog 11 #[.agg #[.slice va kn kc,.slice la n lc]] w (NewEndB w kn n K L):=by
  have k1:=below_new1 w (.cells #[.slice va kn kc,.slice la n lc] 25)
  have h1:=h.below k1
  have t1:=hT.below k1
  have hsz:w.heap.size≤(w.alloc (.cells #[.slice va kn kc,.slice la n lc] 25)).heap.size:=k1.size
  have c0:(w.alloc (.cells #[.slice va kn kc,.slice la n lc] 25)).cell? ⟨w.heap.size,0,none⟩=some (.slice va kn kc):=cell_row (k:=0) (l:=[.slice va kn kc,.slice la n lc]) (heap_alloc_new w _) rfl
  have c1:(w.alloc (.cells #[.slice va kn kc,.slice la n lc] 25)).cell? ⟨w.heap.size,1,none⟩=some (.slice la n lc):=cell_row (k:=1) (l:=[.slice va kn kc,.slice la n lc]) (heap_alloc_new w _) rfl
  obtain ⟨bx,hbx⟩:∃ bx,bx=w.heap.size:=⟨_,rfl⟩
  rw [← hbx] at c0 c1
  have K1:=hid_as k1
  have HC:=hid_as h1
  have HT:=hid_as t1
  have HSZ:=hid_as hsz
  have HBX:=hid_as hbx
  clear h hT k1 h1 t1 hsz
  go_enter Tryz.func11,Tryz.ntmps11
  go_wp2
  rw [← hbx]
  clear hbx
  generalize (w.alloc (.cells #[.slice va kn kc,.slice la n lc] 25))=w1 at *
  have CI:Hid (∀ W:World,Below w1.heap.size w1 W→Calls Tryz.prog 23 #[.slice va kn kc] W fun e w'=>∃ va' kc',e=.returned (.slice va' kn kc')∧Sl w' (.slice va' kn kc') (i64s K)∧(∀ p,va'=some p→w1.heap.size≤p.block∧p.block < w'.heap.size)∧Below W.heap.size W w'∧Below w1.heap.size w1 w'∧(w'.cell? ⟨bx,0,none⟩=some (.slice va kn kc)∧w'.cell? ⟨bx,1,none⟩=some (.slice la n lc))):=fun W hW=>(clone_ints (HC.out.ks.below hW) HC.out.kl HC.out.k9).mono (fun e w' q=>by
    obtain ⟨va',kc',h1,h2,h3,_,h5⟩:=q
    exact ⟨va',kc',h1,h2,fun p hp=>⟨Nat.le_trans hW.size (h3 p hp).1,(h3 p hp).2⟩,h5,below_and hW h5,keep_cell (below_and hW h5) c0,keep_cell (below_and hW h5) c1⟩)
  have CL:Hid (∀ W:World,Below w1.heap.size w1 W→Calls Tryz.prog 24 #[.slice la n lc] W fun e w'=>∃ la' lc',e=.returned (.slice la' n lc')∧Il w' la' L∧(∀ p,la'=some p→w1.heap.size≤p.block∧p.block < w'.heap.size)∧Below W.heap.size W w'∧Below w1.heap.size w1 w'∧(w'.cell? ⟨bx,0,none⟩=some (.slice va kn kc)∧w'.cell? ⟨bx,1,none⟩=some (.slice la n lc))):=fun W hW=>(clone_ins (HC.out.il.below hW) HC.out.nl HC.out.n9 HC.out.lz).mono (fun e w' q=>by
    obtain ⟨va',kc',h1,h2,h3,_,h5⟩:=q
    exact ⟨va',kc',h1,h2,fun p hp=>⟨Nat.le_trans hW.size (h3 p hp).1,(h3 p hp).2⟩,h5,below_and hW h5,keep_cell (below_and hW h5) c0,keep_cell (below_and hW h5) c1⟩)
  have BD:Hid (Below w1.heap.size w1 w1.drew):=(Same.drewN w1 1).below
  go_region_held3 (fun W=>W.cell? ⟨bx,0,none⟩=some (.slice va kn kc)∧W.cell? ⟨bx,1,none⟩=some (.slice la n lc)) (first | exact ⟨c0,c1⟩ | assumption | exact ⟨keep_cell (below_new1 _ _) (by assumption),keep_cell (below_new1 _ _) (by assumption)⟩ | go_keep) (first | ((go_at_call 23;(first | (with_reducible refine (CI.out _ BD.out).mono ?_) | (with_reducible refine (CI.out _ bi).mono ?_));rintro e w2 ⟨va',kc',rfl,sk,pk,bk0,bk,zk⟩)) | ((go_at_call 24;(first | (with_reducible refine (CL.out _ BD.out).mono ?_) | (with_reducible refine (CL.out _ bk).mono ?_));rintro e w3 ⟨la',lc',rfl,si,pi,bi0,bi,zi⟩)))
  obtain ⟨hV,hM⟩:=vm_made (sk.below bi0) HC.out.kl si HC.out.nl (fun p hp=>Nat.lt_of_lt_of_le (pk p hp).2 bi0.size) (fun p hp=>(pi p hp).2)
  have PB:Hid ((∀ p,va'=some p→w.heap.size≤p.block)∧(∀ p,la'=some p→w.heap.size≤p.block)):=⟨fun p hp=>Nat.le_trans HSZ.out (pk p hp).1,fun p hp=>Nat.le_trans HSZ.out (pi p hp).1⟩
  have B4:Hid (Below w.heap.size w (w3.alloc (.cells #[.slice va' kn kc',.slice la' n lc',.int .u32 0,.int .i32 0,.int .u32 0,.nilIface,.int .u64 0] 79))):=(K1.out.trans (bi.mono HSZ.out)).trans ((below_new1 w3 _).mono (Nat.le_trans HSZ.out bi.size))
  have G2:Hid (2≤w3.heap.size∧w.heap.size≤w3.heap.size):=by
    have h1:=HT.out.big
    have h2:=bi.size
    have h3:=HSZ.out
    exact ⟨by omega,by omega⟩
  have T4:Tabs (w3.alloc (.cells #[.slice va' kn kc',.slice la' n lc',.int .u32 0,.int .i32 0,.int .u32 0,.nilIface,.int .u64 0] 79)):=(HT.out.below bi).below (below_new1 w3 _)
  have VF:=hid_as (verified_1 hV hM (by rw [← HC.out.kl];exact HC.out.k9) (by rw [← HC.out.nl];exact HC.out.n9) T4 G2.out.1)
  have HM:=hid_as hM
  have HG:=hid_as (row_lt hV)
  clear hV hM T4 sk pk bk0 bk zk si pi bi0 bi zi CI CL BD c0 c1
  generalize (w3.alloc (.cells #[.slice va' kn kc',.slice la' n lc',.int .u32 0,.int .i32 0,.int .u32 0,.nilIface,.int .u64 0] 79))=w4 at *
  generalize w3.heap.size=g at *
  go_wp2_with fail
  refine VF.out.mono ?_
  rintro e w5 ⟨r,v,rfl,hV,hE,hR,hTn⟩
  have B5:Hid (Below w.heap.size w w5):=B4.out.trans (hTn.below G2.out.2 B4.out.size)
  have E5:Hid (Err w r v w5):=hE.mono B4.out.size
  have V5:=hid_as hV
  have R5:=hid_as hR
  have M5:=hid_as (HM.out.below (hTn.below (Nat.le_refl _) (Nat.le_of_lt HG.out)))
  clear hV hE hR hTn VF HM B4
  cases r with
  | none =>
    have hv:v=.nilIface:=E5.out
    subst hv
    go_wp2
    go_ret2
    exact ⟨Or.inr ⟨V5.out,g,va',kc',la',lc',rfl,R5.out,M5.out,G2.out.2,PB.out.1,PB.out.2⟩,B5.out⟩
  | some k =>
    have E6:=E5.out
    obtain ⟨ge,hv,_⟩:=E6
    subst hv
    go_wp2
    go_ret2
    exact ⟨Or.inl ⟨k,_,V5.out,rfl,E5.out⟩,B5.out⟩
/-- A machine whose rows lie from block B on. -/
structure Mb (B:Nat) (w:World) (g:Nat) (K:List Int) (L:List Ins) (rn:Nat):Prop where
  at_:∃ va kc la lc,VmAt w g (.slice va K.length kc) (.slice la L.length lc) 1 0 .nilIface (rn:Int)∧Mc g w va K.length kc la L.length lc K L∧(∀ p,va=some p→B≤p.block)∧(∀ p,la=some p→B≤p.block)
theorem Mb.mh {B:Nat} {w:World} {g:Nat} {K:List Int} {L:List Ins} {rn:Nat} (h:Mb B w g K L rn):Mh w g K L rn:=by
  obtain ⟨va,kc,la,lc,h1,h2,_⟩:=h.at_
  exact ⟨va,kc,la,lc,h1,h2⟩
theorem Mb.below {B:Nat} {w u:World} {g:Nat} {K:List Int} {L:List Ins} {rn:Nat} (h:Mb B w g K L rn) (k:Below w.heap.size w u):Mb B u g K L rn:=by
  obtain ⟨va,kc,la,lc,h1,h2,h3⟩:=h.at_
  exact ⟨va,kc,la,lc,(k.block g (row_lt h1)).trans h1,h2.below (k.mono (Nat.le_of_lt (row_lt h1))),h3⟩
/-- A block ahead of B has turned. -/
theorem Mb.turn {B b:Nat} {w u:World} {g:Nat} {K:List Int} {L:List Ins} {rn:Nat} (h:Mb B w g K L rn) (t:Turn b w u) (hb:b < B) (hg:g ≠ b):Mb B u g K L rn:=by
  obtain ⟨va,kc,la,lc,h1,h2,h3,h4⟩:=h.at_
  have hgl:=row_lt h1
  have key:∀ c,c < w.heap.size→B≤c→u.heap[c]?=w.heap[c]?:=fun c hc hB=>t.block c hc (fun e=>by simp at e;omega)
  refine ⟨va,kc,la,lc,(t.block g hgl (fun e=>hg (by simpa using e))).trans h1,⟨?_,h2.kl,h2.kB,?_,h2.nl,h2.lB⟩,h3,h4⟩
  · rcases h2.ks with ⟨e1,ao,cap,e2,e3⟩ | ⟨c,off,cap,e2,e3,e4⟩
    · exact Or.inl ⟨e1,ao,cap,e2,e3⟩
    · by_cases h0:0 < K.length
      · have hv:=e2
        simp only [Value.slice.injEq] at hv
        exact Or.inr ⟨c,off,cap,e2,e3,e4.kept (key c (Nat.lt_trans (h2.kB _ hv.1 h0) hgl) (h3 _ hv.1))⟩
      · refine Or.inr ⟨c,off,cap,e2,e3,fun j x hx=>?_⟩
        have:=(List.getElem?_eq_some_iff.1 hx).1
        rw [i64s_len] at this
        omega
  · by_cases h0:0 < L.length
    · exact h2.il.kept (fun p hp=>key _ (Nat.lt_trans (h2.lB p hp h0) hgl) (h4 p hp))
    · exact Or.inl (List.length_eq_zero_iff.1 (by omega))
/-- A block behind the machine has turned. -/
theorem Mb.later {B b:Nat} {w u:World} {g:Nat} {K:List Int} {L:List Ins} {rn:Nat} (h:Mb B w g K L rn) (t:Turn b w u) (hb:g < b):Mb B u g K L rn:=by
  obtain ⟨va,kc,la,lc,h1,h2,h3⟩:=h.at_
  have hgl:=row_lt h1
  exact ⟨va,kc,la,lc,(t.block g hgl (fun e=>by simp at e;omega)).trans h1,h2.below (t.below (Nat.le_of_lt hb) (Nat.le_of_lt hgl)),h3⟩
theorem new_b {w:World} {va la:Option Addr} {kn kc n lc:Nat} {K:List Int} {L:List Ins} (h:Ca2 w va kn kc la n lc K L) (hT:Tabs w) (hV:Ver K L none) :
    Calls Tryz.prog 11 #[.agg #[.slice va kn kc,.slice la n lc]] w fun e w'=>∃ g,e=.returned (.tuple #[.pointer (some ⟨g,0,none⟩),.nilIface])∧Mb w.heap.size w' g K L 0∧w.heap.size≤g∧Below w.heap.size w w':=by
  refine (new_cB h hT).mono ?_
  rintro e w' ⟨⟨k,v,hk,_⟩ | ⟨_,g,va',kc',la',lc',he,h1,h2,h3,h4,h5⟩,hB⟩
  · cases hk.unique hV
  · rw [h.kl,h.nl] at h1 h2
    exact ⟨g,he,⟨va',kc',la',lc',h1,h2,h4,h5⟩,h3,hB⟩
theorem mb_scan {B:Nat} {w:World} {g:Nat} {K:List Int} {L:List Ins} {rn:Nat} {ca:Option Addr} {cn cc:Nat} {cs:List Int} (now most:Int) (h:Mb B w g K L rn) (h9:rn < 1000000000000) (R:Rgt K L) (hs:∀ u,Turn g w u→Sl u (.slice ca cn cc) (i64s cs)) (hn:cn=cs.length) {r:St × Int} (hr:exn K L now most 4194304 ⟨0,wrs K cs,[],0⟩=r) :
    Calls Tryz.prog 15 #[.pointer (some ⟨g,0,none⟩),.slice ca cn cc,.int .i64 now,.int .i64 most] w fun e w'=>∃ cb:Nat,e=.returned (.tuple #[.slice (some ⟨cb,0,none⟩) K.length K.length,.int .i64 r.2,.int .i64 (r.1.st:Nat)])∧w.heap.size≤cb∧Row64 w' cb r.1.cs∧Mb B w' g K L (rn+1)∧Turn g w w':=by
  obtain ⟨va,kc,la,lc,h1,h2,h3⟩:=h.at_
  refine (scan_c now most h1 h9 h2 R hs hn).mono ?_
  rintro e w' ⟨cb,he,hcb,hrow,hv,ht⟩
  rw [hr] at he hrow
  exact ⟨cb,he,hcb,hrow,⟨va,kc,la,lc,hv,h2.below (ht.below (Nat.le_refl _) (Nat.le_of_lt (row_lt h1))),h3⟩,ht⟩
end Go.Proofs.YthjclogkcmomkaaGreatDoor
