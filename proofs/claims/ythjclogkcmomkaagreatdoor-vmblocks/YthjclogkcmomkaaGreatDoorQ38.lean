/- Clones of the code; New (stage 21). · New (stage 21). -/
import Derived.Deep.RegionHeld3
import Derived.Test.YthjclogkcmomkaaGreatDoorQ30
namespace Go.Proofs.YthjclogkcmomkaaGreatDoor
open Go.RowKit
open Fb Cod Nm Vmx
def insv (L:List Ins):List Value:=L.flatMap Ins.cs
theorem insv_len (L:List Ins):(insv L).length=L.length * 5:=by
  induction L with
  | nil=>rfl
  | cons a L ih =>
    have e:insv (a :: L)=a.cs ++ insv L:=by simp [insv]
    rw [e,List.length_append,ih,List.length_cons]
    simp [Ins.cs]
    omega
theorem insv_at:∀ (L:List Ins) (i:Nat) (x:Ins),L[i]?=some x→∀ k u,x.cs[k]?=some u→(insv L)[i * 5+k]?=some u
  | [],i,x,h,_,_,_=>by simp at h
  | a :: L,0,x,h,k,u,hk=>by
    simp at h
    subst h
    have hk5:k < a.cs.length:=(List.getElem?_eq_some_iff.1 hk).1
    show (a.cs ++ insv L)[0 * 5+k]?=some u
    rw [Nat.zero_mul,Nat.zero_add,List.getElem?_append_left hk5]
    exact hk
  | a :: L,i+1,x,h,k,u,hk=>by
    have:=insv_at L i x (by simpa using h) k u hk
    show (a.cs ++ insv L)[(i+1) * 5+k]?=some u
    rw [List.getElem?_append_right (by simp [Ins.cs];omega),show (i+1) * 5+k - a.cs.length=i * 5+k by simp [Ins.cs];omega]
    exact this
theorem one_ins (L:List Ins):∀ u ∈ insv L,u.oneCell'=true:=by
  intro u hu
  simp only [insv,List.mem_flatMap] at hu
  obtain ⟨x,_,hx⟩:=hu
  simp [Ins.cs] at hx
  rcases hx with rfl | rfl | rfl | rfl | rfl <;> rfl
theorem Tryz.infoIns:(Tryz.prog.info? 50).map (fun i=>(i.zero,i.size,i.bytes))=some (some (.agg #[.int .i64 0,.int .i64 0,.int .i64 0,.int .i64 0,.string ⟨#[]⟩]),5,48):=by kernel_rfl
/-- A row of one's own, as a slice in a new block. -/
theorem own_new {w:World} {base n s:Nat} {e:TypeId} {v:Value} {vs:List Value} (h:w.ownsRow base e s v n vs):∃ va kc,v=.slice va n kc∧(∀ p,va=some p→base≤p.block∧p.block < w.heap.size)∧(va=none→kc=0):=by
  rcases h.2 with ⟨rfl,h0⟩ | ⟨g,cap,cur,rfl,hb,hg,r⟩
  · refine ⟨none,0,by rw [h0],fun p hp=>?_,fun _=>rfl⟩
    cases hp
  · refine ⟨_,_,rfl,fun p hp=>?_,fun e=>?_⟩
    · obtain rfl:=Option.some.inj hp
      exact ⟨hb,row_lt hg⟩
    · cases e
set_option maxRecDepth 100000 in
set_option maxHeartbeats 800000 in
theorem clone_ints {w:World} {va:Option Addr} {kn kc:Nat} {K:List Int} (hs:Sl w (.slice va kn kc) (i64s K)) (hk:kn=K.length) (k9:kn≤1000000) :
    Calls Tryz.prog 23 #[.slice va kn kc] w fun e w'=>∃ va' kc',e=.returned (.slice va' kn kc')∧Sl w' (.slice va' kn kc') (i64s K)∧(∀ p,va'=some p→w.heap.size≤p.block∧p.block < w'.heap.size)∧(va'=none→kc'=0)∧Below w.heap.size w w':=by
  obtain ⟨i0,hi0,hz0,hz1,hz2⟩:=info_parts Tryz.infoInt
  cases va with
  | none =>
    have hv:kn=0∧kc=0∧i64s K=[]:=by
      rcases hs with ⟨h1,ao,cap,h2,h3⟩ | ⟨b,off,cap,h2,_⟩
      · simp only [Value.slice.injEq] at h2
        obtain ⟨rfl,rfl,rfl⟩:=h2
        exact ⟨rfl,h3 rfl,h1⟩
      · simp at h2
    obtain ⟨rfl,rfl,hK⟩:=hv
    have HS:Hid (Sl w (.slice none 0 0) (i64s K)):=by rw [hK];exact Sl.nil w
    have hE:(binOp BinOp.eql 22 (Value.slice none 0 0) (Value.slice none 0 0)).run Tryz.prog w=.ok (.bool true) w:=by kernel_rfl
    clear hs hk hK
    go_enter Tryz.func23,Tryz.ntmps23
    go_wp2
    go_ret
    refine ⟨_,_,rfl,HS.out,fun p hp=>?_,fun _=>rfl,Below.refl _ _⟩
    cases hp
  | some a =>
    have hnews:∀ j u,(i64s K)[j]?=some u→(w.alloc (.cells #[] 3)).cell? (a.add j)=some u:=by
      rcases hs.below (below_new1 w (.cells #[] 3)) with ⟨h1,_⟩ | ⟨b,off,cap,h2,_,hc⟩
      · intro j u hj;rw [h1] at hj;simp at hj
      · simp only [Value.slice.injEq,Option.some.injEq] at h2
        obtain ⟨rfl,_,_⟩:=h2
        exact hc.news
    have HN:=hid_as hnews
    have hE:(binOp BinOp.eql 22 (Value.slice (some a) kn kc) (Value.slice none 0 0)).run Tryz.prog w=.ok (.bool false) w:=by kernel_rfl
    have HL:Hid ((i64s K).length=kn * 1):=by rw [i64s_len,Nat.mul_one];exact hk.symm
    have OW:Hid ((w.alloc (.cells #[] 3)).ownsRow w.heap.size 3 1 (.slice (some ⟨w.heap.size,0,none⟩) 0 0) 0 []):=World.ownsRow_lit (base:=w.heap.size) (size:=1) (e:=3) w #[] 0 (Nat.le_refl _) (by unfold maxLen;omega) rfl
    have ON:Hid (∀ u ∈ i64s K,u.oneCell'=true):=one_nums K
    clear hs hk hnews
    go_enter Tryz.func23,Tryz.ntmps23
    go_wp2_with (at_builtin;go_must (refine wpList_append_own _ rfl _ _ 22 rfl w.heap.size 3 i0 (.int .i64 0) 1 8 Tryz.underlying22 hi0 hz0 hz1 hz2 rfl (by decide) _ 0 [] rfl OW.out a kn kc (i64s K) rfl HL.out HN.out ON.out (by unfold maxLen;omega) (by omega) (by simp) ?_);intro v' w2 hown hgrow _)
    rw [List.nil_append,Nat.zero_add] at hown
    obtain ⟨va',kc',hv,hp1,hp2⟩:=own_new hown
    have HS:=hid_as (own_sl hown)
    subst hv
    have HB:Hid (Below w.heap.size w w2):=(below_new1 w (.cells #[] 3)).grown hgrow (by simp) (fun g hg=>(OW.out.lt g hg).1)
    have HP:=hid_as hp1
    have HQ:=hid_as hp2
    clear hown hgrow hp1 hp2
    go_wp2
    go_ret
    exact ⟨_,_,rfl,HS.out,HP.out,HQ.out,HB.out⟩
theorem il_news {w:World} {a:Addr} {L:List Ins} (h:Il w (some a) L):∀ j u,(insv L)[j]?=some u→w.cell? (a.add j)=some u:=by
  rcases h with rfl | ⟨b,o,e,h⟩
  · intro j u hj;simp [insv] at hj
  · obtain rfl:=Option.some.inj e
    have hl:Lies w b o (insv L):=fun j u hj=>by
      have hj':j < (insv L).length:=(List.getElem?_eq_some_iff.1 hj).1
      rw [insv_len] at hj'
      have hi:j / 5 < L.length:=by omega
      obtain ⟨x,hx⟩:∃ x,L[j / 5]?=some x:=⟨_,List.getElem?_eq_getElem hi⟩
      have h5:j % 5 < 5:=Nat.mod_lt _ (by decide)
      have hlen:x.cs.length=5:=by simp [Ins.cs]
      have q:=insv_at L (j / 5) x hx (j % 5) (x.cs[j % 5]'(by omega)) (List.getElem?_eq_getElem _)
      rw [show j / 5 * 5+j % 5=j by omega] at q
      have e2:u=x.cs[j % 5]'(by omega):=Option.some.inj (hj.symm.trans q)
      have r:=h (j / 5) x hx (j % 5) u (by rw [e2];exact List.getElem?_eq_getElem _)
      rw [show o+j / 5 * 5+j % 5=o+j by omega] at r
      exact r
    exact hl.news
theorem own_il {w:World} {base n:Nat} {la:Option Addr} {lc:Nat} {L:List Ins} (h:w.ownsRow base 50 5 (.slice la n lc) n (insv L)) (hn:n=L.length):Il w la L:=by
  rcases h.2 with ⟨e,h0⟩ | ⟨g,cap,cur,e,hb,hg,r⟩
  · exact Or.inl (List.length_eq_zero_iff.1 (by omega))
  · simp only [Value.slice.injEq] at e
    obtain ⟨rfl,_,rfl⟩:=e
    refine Or.inr ⟨g,0,rfl,fun i x hx k u hk=>?_⟩
    have hi:=(List.getElem?_eq_some_iff.1 hx).1
    have hk5:k < 5:=by have:=(List.getElem?_eq_some_iff.1 hk).1;simpa [Ins.cs] using this
    rw [Nat.zero_add,h.cellAt (i * 5+k) (by omega)]
    exact insv_at L i x hx k u hk
set_option maxRecDepth 100000 in
set_option maxHeartbeats 800000 in
theorem clone_ins {w:World} {la:Option Addr} {n lc:Nat} {L:List Ins} (hs:Il w la L) (hn:n=L.length) (n9:n≤1000000) (hz:la=none→n=0∧lc=0) :
    Calls Tryz.prog 24 #[.slice la n lc] w fun e w'=>∃ la' lc',e=.returned (.slice la' n lc')∧Il w' la' L∧(∀ p,la'=some p→w.heap.size≤p.block∧p.block < w'.heap.size)∧(la'=none→lc'=0)∧Below w.heap.size w w':=by
  obtain ⟨i0,hi0,hz0,hz1,hz2⟩:=info_parts Tryz.infoIns
  cases la with
  | none =>
    obtain ⟨rfl,rfl⟩:=hz rfl
    have hL:L=[]:=List.length_eq_zero_iff.1 hn.symm
    have hE:(binOp BinOp.eql 23 (Value.slice none 0 0) (Value.slice none 0 0)).run Tryz.prog w=.ok (.bool true) w:=by kernel_rfl
    clear hs hn hz
    go_enter Tryz.func24,Tryz.ntmps24
    go_wp2
    go_ret
    refine ⟨_,_,rfl,Or.inl hL,fun p hp=>?_,fun _=>rfl,Below.refl _ _⟩
    cases hp
  | some a =>
    have HN:=hid_as (il_news (hs.below (below_new1 w (.cells #[] 50))))
    have HL:Hid ((insv L).length=n * 5):=by rw [insv_len,hn];exact rfl
    have HLN:=hid_as hn
    have hE:(binOp BinOp.eql 23 (Value.slice (some a) n lc) (Value.slice none 0 0)).run Tryz.prog w=.ok (.bool false) w:=by kernel_rfl
    have OW:Hid ((w.alloc (.cells #[] 50)).ownsRow w.heap.size 50 5 (.slice (some ⟨w.heap.size,0,none⟩) 0 0) 0 []):=World.ownsRow_lit (base:=w.heap.size) (size:=5) (e:=50) w #[] 0 (Nat.le_refl _) (by unfold maxLen;omega) rfl
    have ON:Hid (∀ u ∈ insv L,u.oneCell'=true):=one_ins L
    clear hs hn hz
    go_enter Tryz.func24,Tryz.ntmps24
    go_wp2_with (at_builtin;go_must (refine wpList_append_own _ rfl _ _ 23 rfl w.heap.size 50 i0 (.agg #[.int .i64 0,.int .i64 0,.int .i64 0,.int .i64 0,.string ⟨#[]⟩]) 5 48 Tryz.underlying23 hi0 hz0 hz1 hz2 rfl (by decide) _ 0 [] rfl OW.out a n lc (insv L) rfl HL.out HN.out ON.out (by unfold maxLen;omega) (by omega) (by simp) ?_);intro v' w2 hown hgrow _)
    rw [List.nil_append,Nat.zero_add] at hown
    obtain ⟨la',lc',hv,hp1,hp2⟩:=own_new hown
    subst hv
    have HS:=hid_as (own_il hown HLN.out)
    have HB:Hid (Below w.heap.size w w2):=(below_new1 w (.cells #[] 50)).grown hgrow (by simp) (fun g hg=>(OW.out.lt g hg).1)
    have HP:=hid_as hp1
    have HQ:=hid_as hp2
    clear hown hgrow hp1 hp2
    go_wp2
    go_ret
    exact ⟨_,_,rfl,HS.out,HP.out,HQ.out,HB.out⟩
end Go.Proofs.YthjclogkcmomkaaGreatDoor
namespace Go.Proofs.YthjclogkcmomkaaGreatDoor
open Go.RowKit
open Fb Cod Nm Vmx
/-- The code as an argument: its two slices. -/
structure Ca2 (w:World) (va:Option Addr) (kn kc:Nat) (la:Option Addr) (n lc:Nat) (K:List Int) (L:List Ins):Prop where
  ks:Sl w (.slice va kn kc) (i64s K)
  kl:kn=K.length
  k9:kn≤1000000
  il:Il w la L
  nl:n=L.length
  n9:n≤1000000
  lz:la=none→n=0∧lc=0
theorem Ca2.below {w u:World} {va:Option Addr} {kn kc:Nat} {la:Option Addr} {n lc:Nat} {K:List Int} {L:List Ins} (h:Ca2 w va kn kc la n lc K L) (k:Below w.heap.size w u):Ca2 u va kn kc la n lc K L :=
  ⟨h.ks.below k,h.kl,h.k9,h.il.below k,h.nl,h.n9,h.lz⟩
/-- A new machine. -/
theorem vm_made {w3:World} {va la:Option Addr} {kn kc n lc:Nat} {K:List Int} {L:List Ins} (hs:Sl w3 (.slice va kn kc) (i64s K)) (hk:kn=K.length) (hi:Il w3 la L) (hn:n=L.length) (p1:∀ p,va=some p→p.block < w3.heap.size) (p2:∀ p,la=some p→p.block < w3.heap.size) :
    VmAt (w3.alloc (.cells #[.slice va kn kc,.slice la n lc,.int .u32 0,.int .i32 0,.int .u32 0,.nilIface,.int .u64 0] 79)) w3.heap.size (.slice va kn kc) (.slice la n lc) 0 0 .nilIface 0∧Mc w3.heap.size (w3.alloc (.cells #[.slice va kn kc,.slice la n lc,.int .u32 0,.int .i32 0,.int .u32 0,.nilIface,.int .u64 0] 79)) va kn kc la n lc K L :=
  ⟨heap_alloc_new w3 _,hs.below (below_new1 w3 _),hk,fun p hp _=>p1 p hp,hi.below (below_new1 w3 _),hn,fun p hp _=>p2 p hp⟩
/-- What New tells. -/
def NewEnd (w:World) (kn n:Nat) (K:List Int) (L:List Ins) (e:Ending) (w':World):Prop :=
  ((∃ k v,Ver K L (some k)∧e=.returned (.tuple #[.pointer none,v])∧Err w (some k) v w') ∨ (Ver K L none∧∃ g va kc la lc,e=.returned (.tuple #[.pointer (some ⟨g,0,none⟩),.nilIface])∧VmAt w' g (.slice va kn kc) (.slice la n lc) 1 0 .nilIface 0∧Mc g w' va kn kc la n lc K L∧w.heap.size≤g))∧Below w.heap.size w w'
set_option maxRecDepth 100000 in
set_option maxHeartbeats 1600000 in
theorem new_c {w:World} {va la:Option Addr} {kn kc n lc:Nat} {K:List Int} {L:List Ins} (h:Ca2 w va kn kc la n lc K L) (hT:Tabs w) :
    Calls Tryz.prog 11 #[.agg #[.slice va kn kc,.slice la n lc]] w (NewEnd w kn n K L):=by
  have k1:=below_new1 w (.cells #[.slice va kn kc,.slice la n lc] 25)
  have h1:=h.below k1
  have t1:=hT.below k1
  have hsz:w.heap.size≤(w.alloc (.cells #[.slice va kn kc,.slice la n lc] 25)).heap.size:=k1.size
  have c0:(w.alloc (.cells #[.slice va kn kc,.slice la n lc] 25)).cell? ⟨w.heap.size,0,none⟩=some (.slice va kn kc):=cell_row (k:=0) (l:=[.slice va kn kc,.slice la n lc]) (heap_alloc_new w _) rfl
  have c1:(w.alloc (.cells #[.slice va kn kc,.slice la n lc] 25)).cell? ⟨w.heap.size,1,none⟩=some (.slice la n lc):=cell_row (k:=1) (l:=[.slice va kn kc,.slice la n lc]) (heap_alloc_new w _) rfl
  obtain ⟨bx,hbx⟩:∃ bx,bx=w.heap.size:=⟨_,rfl⟩
  rw [← hbx] at c0 c1
  have K1:=hid_as k1
  have HC:=hid_as h1
  have HT:=hid_as t1
  have HSZ:=hid_as hsz
  have HBX:=hid_as hbx
  clear h hT k1 h1 t1 hsz
  go_enter Tryz.func11,Tryz.ntmps11
  go_wp2
  rw [← hbx]
  clear hbx
  generalize (w.alloc (.cells #[.slice va kn kc,.slice la n lc] 25))=w1 at *
  have CI:Hid (∀ W:World,Below w1.heap.size w1 W→Calls Tryz.prog 23 #[.slice va kn kc] W fun e w'=>∃ va' kc',e=.returned (.slice va' kn kc')∧Sl w' (.slice va' kn kc') (i64s K)∧(∀ p,va'=some p→p.block < w'.heap.size)∧Below W.heap.size W w'∧Below w1.heap.size w1 w'∧(w'.cell? ⟨bx,0,none⟩=some (.slice va kn kc)∧w'.cell? ⟨bx,1,none⟩=some (.slice la n lc))):=fun W hW=>(clone_ints (HC.out.ks.below hW) HC.out.kl HC.out.k9).mono (fun e w' q=>by
    obtain ⟨va',kc',h1,h2,h3,_,h5⟩:=q
    exact ⟨va',kc',h1,h2,fun p hp=>(h3 p hp).2,h5,below_and hW h5,keep_cell (below_and hW h5) c0,keep_cell (below_and hW h5) c1⟩)
  have CL:Hid (∀ W:World,Below w1.heap.size w1 W→Calls Tryz.prog 24 #[.slice la n lc] W fun e w'=>∃ la' lc',e=.returned (.slice la' n lc')∧Il w' la' L∧(∀ p,la'=some p→p.block < w'.heap.size)∧Below W.heap.size W w'∧Below w1.heap.size w1 w'∧(w'.cell? ⟨bx,0,none⟩=some (.slice va kn kc)∧w'.cell? ⟨bx,1,none⟩=some (.slice la n lc))):=fun W hW=>(clone_ins (HC.out.il.below hW) HC.out.nl HC.out.n9 HC.out.lz).mono (fun e w' q=>by
    obtain ⟨va',kc',h1,h2,h3,_,h5⟩:=q
    exact ⟨va',kc',h1,h2,fun p hp=>(h3 p hp).2,h5,below_and hW h5,keep_cell (below_and hW h5) c0,keep_cell (below_and hW h5) c1⟩)
  have BD:Hid (Below w1.heap.size w1 w1.drew):=(Same.drewN w1 1).below
  go_region_held3 (fun W=>W.cell? ⟨bx,0,none⟩=some (.slice va kn kc)∧W.cell? ⟨bx,1,none⟩=some (.slice la n lc)) (first | exact ⟨c0,c1⟩ | assumption | exact ⟨keep_cell (below_new1 _ _) (by assumption),keep_cell (below_new1 _ _) (by assumption)⟩ | go_keep) (first | ((go_at_call 23;(first | (with_reducible refine (CI.out _ BD.out).mono ?_) | (with_reducible refine (CI.out _ bi).mono ?_));rintro e w2 ⟨va',kc',rfl,sk,pk,bk0,bk,zk⟩)) | ((go_at_call 24;(first | (with_reducible refine (CL.out _ BD.out).mono ?_) | (with_reducible refine (CL.out _ bk).mono ?_));rintro e w3 ⟨la',lc',rfl,si,pi,bi0,bi,zi⟩)))
  obtain ⟨hV,hM⟩:=vm_made (sk.below bi0) HC.out.kl si HC.out.nl (fun p hp=>Nat.lt_of_lt_of_le (pk p hp) bi0.size) pi
  have B4:Hid (Below w.heap.size w (w3.alloc (.cells #[.slice va' kn kc',.slice la' n lc',.int .u32 0,.int .i32 0,.int .u32 0,.nilIface,.int .u64 0] 79))):=(K1.out.trans (bi.mono HSZ.out)).trans ((below_new1 w3 _).mono (Nat.le_trans HSZ.out bi.size))
  have G2:Hid (2≤w3.heap.size∧w.heap.size≤w3.heap.size):=by
    have h1:=HT.out.big
    have h2:=bi.size
    have h3:=HSZ.out
    exact ⟨by omega,by omega⟩
  have T4:Tabs (w3.alloc (.cells #[.slice va' kn kc',.slice la' n lc',.int .u32 0,.int .i32 0,.int .u32 0,.nilIface,.int .u64 0] 79)):=(HT.out.below bi).below (below_new1 w3 _)
  have VF:=hid_as (verified_1 hV hM (by rw [← HC.out.kl];exact HC.out.k9) (by rw [← HC.out.nl];exact HC.out.n9) T4 G2.out.1)
  have HM:=hid_as hM
  have HG:=hid_as (row_lt hV)
  clear hV hM T4 sk pk bk0 bk zk si pi bi0 bi zi CI CL BD c0 c1
  generalize (w3.alloc (.cells #[.slice va' kn kc',.slice la' n lc',.int .u32 0,.int .i32 0,.int .u32 0,.nilIface,.int .u64 0] 79))=w4 at *
  generalize w3.heap.size=g at *
  go_wp2_with fail
  refine VF.out.mono ?_
  rintro e w5 ⟨r,v,rfl,hV,hE,hR,hTn⟩
  have B5:Hid (Below w.heap.size w w5):=B4.out.trans (hTn.below G2.out.2 B4.out.size)
  have E5:Hid (Err w r v w5):=hE.mono B4.out.size
  have V5:=hid_as hV
  have R5:=hid_as hR
  have M5:=hid_as (HM.out.below (hTn.below (Nat.le_refl _) (Nat.le_of_lt HG.out)))
  clear hV hE hR hTn VF HM B4
  cases r with
  | none =>
    have hv:v=.nilIface:=E5.out
    subst hv
    go_wp2
    go_ret2
    exact ⟨Or.inr ⟨V5.out,g,va',kc',la',lc',rfl,R5.out,M5.out,G2.out.2⟩,B5.out⟩
  | some k =>
    have E6:=E5.out
    obtain ⟨ge,hv,_⟩:=E6
    subst hv
    go_wp2
    go_ret2
    exact ⟨Or.inl ⟨k,_,V5.out,rfl,E5.out⟩,B5.out⟩
end Go.Proofs.YthjclogkcmomkaaGreatDoor
