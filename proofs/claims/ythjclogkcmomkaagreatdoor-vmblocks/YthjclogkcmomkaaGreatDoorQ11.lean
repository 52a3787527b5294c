/- The walks of depths, Verify, Depths (stage 20). · A machine in memory; its sync.Once: the code is verified once (stage 21, after stage 2). · The ways of code that is known, reckoned; Told of an answer (stage 20). -/
import Derived.Tactics
import Derived.Tactics2
import Derived.Defers
import Derived.Laws.Pointers
import Derived.Laws.LoneSync
import Derived.RegionTactic
import Derived.RegionCalls
import Derived.ChangeAlike
import Derived.Conc.MuLone
import Derived.KernelRfl
import Derived.LaidEql
import Derived.Stop.Asserts
import Derived.RowKitTokens
import Derived.Deep.CutRange
import Derived.Test.YthjclogkcmomkaaGreatDoorQ1
import Derived.Test.YthjclogkcmomkaaGreatDoorQ2
import Derived.Test.YthjclogkcmomkaaGreatDoorQ10
namespace Go.Proofs.YthjclogkcmomkaaGreatDoor
open Go.RowKit
open Fb Cod
abbrev RowI (w:World) (g:Nat) (l:List Int):Prop:=w.heap[g]?=some (.cells (i64s l).toArray 3 (0,0))
theorem Tryz.infoInt:(Tryz.prog.info? 3).map (fun i=>(i.zero,i.size,i.bytes))=some (some (.int .i64 0),1,8):=by kernel_rfl
namespace Cod
/-- The first depth that a map tells of a place; -1, if it tells none. -/
def dpt (F:Nat→Option Value) (j:Nat):Int:=match F j with
  | some (Value.agg cs)=>(match cs[0]? with
    | some (Value.int _ a)=>a
    | _=>-1)
  | _=>-1
def dps (F:Nat→Option Value) (n:Nat):List Int:=(List.range n).map (dpt F)
end Cod
/-- While the depths are written. -/
structure Dq (B:Nat) (w wr:World) (g m h:Nat) (la:Option Addr) (n lc:Nat) (wv:Value) (F:Nat→Option Value) (k:Nat):Prop where
  row:wr.heap[g]?=some (.cells [.slice la n lc,.map (some m),wv,.int .i64 (n:Int)].toArray 166 (0,0))
  map:MapAt wr m F
  ds:RowI wr h (part (dps F n) k)
  hg:h ≠ g
  hm:h ≠ m
  hB:w.heap.size≤h
  kb:Below w.heap.size w wr
theorem Dq.next {B:Nat} {w wr u:World} {g m h:Nat} {la:Option Addr} {n lc:Nat} {wv:Value} {F:Nat→Option Value} {k:Nat} (q:Dq B w wr g m h la n lc wv F k) (t:Turn h wr u) (r:RowI u h (part (dps F n) (k+1))):Dq B w u g m h la n lc wv F (k+1) :=
  ⟨(t.block g (row_lt q.row) (fun e=>q.hg (by simpa using e.symm))).trans q.row,q.map.turn t (fun e=>q.hm e.symm),r,q.hg,q.hm,q.hB,q.kb.trans (t.below q.hB q.kb.size)⟩
theorem Err.mono {w w1:World} {r:Option Nat} {v:Value} {w':World} (h:Err w1 r v w') (k:w.heap.size≤w1.heap.size):Err w r v w':=by
  cases r with
  | none=>exact h
  | some a =>
    obtain ⟨g,h1,h2,h3⟩:=h
    exact ⟨g,h1,Nat.le_trans k h2,h3⟩
/-- What goAllWays hands back has two parts. -/
theorem all_shape {w:World} {la:Option Addr} {n lc:Nat} {K:List Int} {L:List Ins} {e:Ending} {w':World} (h:AllW w la n lc K L e w'):∃ p v,e=.returned (.tuple #[p,v])∧((∃ k,Ver K L (some k)∧p=.pointer none∧Err w (some k) v w') ∨ (Ver K L none∧v=.nilIface∧∃ g m wv S,p=.pointer (some ⟨g,0,none⟩)∧Wy w.heap.size w' g m (.slice la n lc) wv S [] n∧Inv L S [] nox n)):=by
  rcases h with ⟨k,v,hV,rfl,hE⟩ | ⟨hV,_,g,m,wv,S,rfl,hw,hi⟩
  · exact ⟨_,_,rfl,Or.inl ⟨k,hV,rfl,hE⟩⟩
  · exact ⟨_,_,rfl,Or.inr ⟨hV,rfl,g,m,wv,S,rfl,hw,hi⟩⟩
/-- An error, or none, of this answer. -/
theorem verify_c {w:World} {va:Option Addr} {kn kc:Nat} {la:Option Addr} {n lc:Nat} {K:List Int} {L:List Ins} (h:Cd w va kn kc la n lc K L) (hT:Tabs w) :
    Calls Tryz.prog 47 #[.agg #[.slice va kn kc,.slice la n lc]] w fun e w'=>(∃ r v,Ver K L r∧e=.returned v∧Err w r v w')∧Below w.heap.size w w':=by
  have K1:=below_new1 w (.cells #[.slice va kn kc,.slice la n lc] 25)
  have GA:=hid_as (goAll_c (h.below K1) (hT.below K1))
  have KB:=hid_as K1
  clear K1
  clear h hT
  go_enter Tryz.func47,Tryz.ntmps47
  go_wp2_with (go_at_call 65;refine GA.out.mono ?_;rintro e w2 ⟨hA,b2⟩;obtain ⟨p,v,rfl,hq⟩:=all_shape hA;clear hA)
  go_ret
  refine ⟨?_,below_and KB.out b2⟩
  rcases hq with ⟨k,hV,_,hE⟩ | ⟨hV,rfl,_⟩
  · exact ⟨_,_,hV,rfl,hE.mono KB.out.size⟩
  · exact ⟨_,_,hV,rfl,rfl⟩
end Go.Proofs.YthjclogkcmomkaaGreatDoor
namespace Go.Proofs.YthjclogkcmomkaaGreatDoor
open Go.RowKit
open Fb Cod
/-- Where this program holds the lock's functions and types. -/
abbrev muLink:Go.Conc.Locks.MuLink:={ lock:=81,unlock:=82,ilock:=97,iunlock:=98,lockSlow:=117,unlockSlow:=120,disable:=113,enable:=115,acquire:=116,relMerge:=118,cas32:=114,add32:=119,tMutex:=72,tIMutex:=70,tPMutex:=174,tPIMutex:=193,tPI32:=195,tUP:=114,tNoCopy:=64,tU32:=66 }
theorem muLib:Go.Conc.Locks.MuLib Tryz.prog muLink :=
  ⟨Tryz.func81,Tryz.func82,Tryz.func97,Tryz.func98,Tryz.func113,Tryz.func115,Tryz.func116,Tryz.func118,Tryz.func114,Tryz.func119,
    Tryz.underlying70,Tryz.runUnderlying70,Tryz.sizeOf70,Tryz.isAgg70,Tryz.zeroValue70,
    Tryz.underlying72,Tryz.runUnderlying72,Tryz.sizeOf72,Tryz.isAgg72,Tryz.zeroValue72,
    Tryz.underlying174,Tryz.runUnderlying174,Tryz.sizeOf174,Tryz.isAgg174,Tryz.zeroValue174,
    Tryz.underlying193,Tryz.runUnderlying193,Tryz.sizeOf193,Tryz.isAgg193,Tryz.zeroValue193,
    Tryz.underlying195,Tryz.runUnderlying195,Tryz.sizeOf195,Tryz.isAgg195,Tryz.zeroValue195,
    Tryz.underlying114,Tryz.runUnderlying114,Tryz.sizeOf114,Tryz.isAgg114,Tryz.zeroValue114,
    Tryz.underlying64,Tryz.runUnderlying64,Tryz.sizeOf64,Tryz.isAgg64,Tryz.zeroValue64,
    Tryz.underlying21,Tryz.runUnderlying21,Tryz.sizeOf21,Tryz.isAgg21,Tryz.zeroValue21,
    by kernel_rfl⟩
theorem lock_free (a:Addr) (w:World) (hc:w.cell? a=some (.int .i32 0)) (hz:w.frozen? a=false) :
    Calls Tryz.prog 81 #[.pointer (some a)] w fun e w'=>e=.returned (.tuple #[])∧w'=w.setCell a (.int .i32 1):=Go.MuLone.lock_free muLib a w hc hz
theorem unlock_deferred (a:Addr) (u:FrameMode) (w:World) (hc:w.cell? a=some (.int .i32 1)) (hz:w.frozen? a=false) :
    CallsD Tryz.prog 82 #[.pointer (some a)] u w fun e u' w'=>u'=u∧(e=.returned (.tuple #[])∧w'=w.setCell a (.int .i32 0)):=Go.MuLone.unlock_deferred muLib a u w hc hz
theorem store_deferred (a:Addr) (x:Value) (u:FrameMode) (w:World) (hc:w.cell? a=some x) (hz:w.frozen? a=false) :
    CallsD Tryz.prog 83 #[.pointer (some a),.bool true] u w fun e u' w'=>u'=u∧(e=.returned (.tuple #[])∧w'=w.drew.setCell a (.int .u32 1)):=by
  have hc':w.drew.cell? a=some x:=by go_simp
  have hz':w.drew.frozen? a=false:=by go_simp
  have hst:=run_call_store (P:=Tryz.prog) Tryz.func99 (by kernel_rfl) (by kernel_rfl) (by kernel_rfl) (by kernel_rfl) (k:=.u32) (y:=1) hc' hz'
  go_enter_d Tryz.func83,Tryz.ntmps83
  go_wp2
  go_region_calls
  all_goals (go_end0;exact ⟨rfl,rfl⟩)
/-- A machine in block g: code, once's word and lock, what was wrong, scans. -/
def vmr (kv lv:Value) (d l:Int) (wv:Value) (rn:Int):List Value:=[kv,lv,.int .u32 d,.int .i32 l,.int .u32 0,wv,.int .u64 rn]
abbrev VmAt (w:World) (g:Nat) (kv lv:Value) (d l:Int) (wv:Value) (rn:Int):Prop:=w.heap[g]?=some (.cells (vmr kv lv d l wv rn).toArray 79 (0,0))
theorem fin_ex (L:List Ins):∃ m,Fin L m:=by
  have H:∀ n,n≤L.length→(∃ m,Fin L m) ∨ ∀ i,i < n→¬ Wrong L i:=by
    intro n
    induction n with
    | zero=>exact fun _=>Or.inr (fun i h=>absurd h (Nat.not_lt_zero _))
    | succ n ih =>
      intro hn
      rcases ih (by omega) with h | h
      · exact Or.inl h
      · by_cases hw:Wrong L n
        · exact Or.inl ⟨n,by omega,h,fun _=>hw⟩
        · refine Or.inr (fun i hi=>?_)
          rcases Nat.lt_or_ge i n with q | q
          · exact h i q
          · rw [show i=n by omega];exact hw
  rcases H L.length (Nat.le_refl _) with h | h
  · exact h
  · exact ⟨L.length,Nat.le_refl _,h,fun q=>absurd q (Nat.lt_irrefl _)⟩
theorem ver_ex (K:List Int) (L:List Ins):∃ r,Ver K L r:=by
  cases h:alone K L with
  | some k=>exact ⟨some k,Or.inl ⟨k,h,rfl⟩⟩
  | none =>
    obtain ⟨m,hm⟩:=fin_ex L
    exact ⟨_,Or.inr ⟨h,m,hm,rfl⟩⟩
theorem set_keep {W:World} {g bx:Nat} {p kv lv:Value} (h:W.cell? ⟨bx,0,none⟩=some p∧W.cell? ⟨g,0,none⟩=some kv∧W.cell? ⟨g,1,none⟩=some lv) (hne:bx ≠ g) (v:Value):(W.setCell ⟨g,5,none⟩ v).cell? ⟨bx,0,none⟩=some p∧(W.setCell ⟨g,5,none⟩ v).cell? ⟨g,0,none⟩=some kv∧(W.setCell ⟨g,5,none⟩ v).cell? ⟨g,1,none⟩=some lv :=
  ⟨(World.cell?_setCell_other _ _ _ _ (by have:=hne;simp only [ne_eq,Addr.mk.injEq];omega)).trans h.1,(World.cell?_setCell_other _ _ _ _ (by simp only [ne_eq,Addr.mk.injEq];omega)).trans h.2.1,(World.cell?_setCell_other _ _ _ _ (by simp only [ne_eq,Addr.mk.injEq];omega)).trans h.2.2⟩
set_option maxHeartbeats 800000 in
/-- What once calls. -/
theorem clos_c {w:World} {g bx:Nat} {va:Option Addr} {kn kc:Nat} {la:Option Addr} {n lc:Nat} {K:List Int} {L:List Ins} {d l:Int} {wv:Value} {rn:Int} (h:VmAt w g (.slice va kn kc) (.slice la n lc) d l wv rn) (hb:w.cell? ⟨bx,0,none⟩=some (.pointer (some ⟨g,0,none⟩))) (hne:bx ≠ g) (hc:Cd w va kn kc la n lc K L) (hT:Tabs w) :
    Calls Tryz.prog 46 #[.pointer (some ⟨bx,0,none⟩)] w fun e w'=>e=.returned (.tuple #[])∧∃ r v W,Ver K L r∧Err w r v W∧Below w.heap.size w W∧w'=W.setCell ⟨g,5,none⟩ v:=by
  have c0:w.cell? ⟨g,0,none⟩=some (.slice va kn kc):=cell_row (k:=0) h rfl
  have c1:w.cell? ⟨g,1,none⟩=some (.slice la n lc):=cell_row (k:=1) h rfl
  have c5:w.cell? ⟨g,5,none⟩=some wv:=cell_row (k:=5) h rfl
  have HH:=hid_as h
  have KP:Hid (∀ W,Below w.heap.size w W→W.cell? ⟨bx,0,none⟩=some (.pointer (some ⟨g,0,none⟩))∧W.cell? ⟨g,0,none⟩=some (.slice va kn kc)∧W.cell? ⟨g,1,none⟩=some (.slice la n lc)):=fun W hW=>⟨keep_cell hW hb,keep_cell hW c0,keep_cell hW c1⟩
  obtain ⟨r,hV⟩:=ver_ex K L
  have HV:=hid_as hV
  have VE:Calls Tryz.prog 47 #[.agg #[.slice va kn kc,.slice la n lc]] w.drew fun e w'=>(∃ v,e=.returned v∧Err w r v w')∧Below w.heap.size w w':=(verify_c (w:=w.drew) ⟨hc.ks,hc.kl,hc.k9,hc.il,hc.nl,hc.n9⟩ (hT.same (Same.drewN w 1))).mono (fun e w' q=>⟨by
    obtain ⟨⟨r',v,h1,h2,h3⟩,_⟩:=q
    rw [hV.unique h1]
    exact ⟨v,h2,h3.mono (Nat.le_refl _)⟩,((Same.drewN w 1).below).trans q.2⟩)
  have KK:=hid_as (fun (W:World) (b2:Below w.heap.size w W)=>show W.cell? ⟨g,5,none⟩=some wv∧W.frozen? ⟨g,5,none⟩=false from ⟨keep_cell b2 c5,frozen_row ((b2.block g (row_lt h)).trans h)⟩)
  have HNE:=hid_as hne
  clear h hc hT hV hne
  cases r with
  | none =>
    have VN:Hid (Calls Tryz.prog 47 #[.agg #[.slice va kn kc,.slice la n lc]] w.drew fun e w'=>e=.returned .nilIface∧Below w.heap.size w w'):=VE.mono (fun e w' q=>by
      obtain ⟨⟨v,h1,h2⟩,h3⟩:=q
      have h2':v=.nilIface:=h2
      rw [h2'] at h1
      exact ⟨h1,h3⟩)
    clear VE
    go_enter Tryz.func46,Tryz.ntmps46
    go_wp2
    go_region_held3 (fun W=>W.cell? ⟨bx,0,none⟩=some (.pointer (some ⟨g,0,none⟩))∧W.cell? ⟨g,0,none⟩=some (.slice va kn kc)∧W.cell? ⟨g,1,none⟩=some (.slice la n lc)) (first | exact ⟨hb,c0,c1⟩ | exact KP.out _ b2 | exact set_keep (KP.out _ b2) HNE.out _ | go_keep) ((go_at_call 47;(with_reducible refine VN.out.mono ?_);rintro e w2 ⟨rfl,b2⟩;have d5:=(KK.out _ b2).1;have g5:=(KK.out _ b2).2))
    go_end0
    exact ⟨rfl,none,_,w2,HV.out,rfl,b2,rfl⟩
  | some k =>
    have VN:Hid (Calls Tryz.prog 47 #[.agg #[.slice va kn kc,.slice la n lc]] w.drew fun e w'=>(∃ g',e=.returned (.iface 81 (.pointer (some ⟨g',0,none⟩)))∧Err w (some k) (.iface 81 (.pointer (some ⟨g',0,none⟩))) w')∧Below w.heap.size w w'):=VE.mono (fun e w' q=>by
      obtain ⟨⟨v,h1,h2⟩,h3⟩:=q
      have h4:=h2
      obtain ⟨g',hv,_⟩:=h4
      rw [hv] at h1 h2
      exact ⟨⟨g',h1,h2⟩,h3⟩)
    clear VE
    go_enter Tryz.func46,Tryz.ntmps46
    go_wp2
    go_region_held3 (fun W=>W.cell? ⟨bx,0,none⟩=some (.pointer (some ⟨g,0,none⟩))∧W.cell? ⟨g,0,none⟩=some (.slice va kn kc)∧W.cell? ⟨g,1,none⟩=some (.slice la n lc)) (first | exact ⟨hb,c0,c1⟩ | exact KP.out _ b2 | exact set_keep (KP.out _ b2) HNE.out _ | go_keep) ((go_at_call 47;(with_reducible refine VN.out.mono ?_);rintro e w2 ⟨⟨g',rfl,hE⟩,b2⟩;have d5:=(KK.out _ b2).1;have g5:=(KK.out _ b2).2))
    go_end0
    exact ⟨rfl,some k,_,w2,HV.out,hE,b2,rfl⟩
theorem Err.turn {w W W':World} {r:Option Nat} {v:Value} {g:Nat} (h:Err w r v W) (t:Turn g W W') (hg:g < w.heap.size):Err w r v W':=by
  cases r with
  | none=>exact h
  | some a =>
    obtain ⟨q,h1,h2,h3,h4⟩:=h
    have e:W'.heap[q]?=W.heap[q]?:=t.block q (lt_of_cell h3) (fun e=>by simp at e;omega)
    exact ⟨q,h1,h2,(World.cell?_of_block (w:=W) (a:=⟨q,0,none⟩) e).trans h3,(World.cell?_of_block (w:=W) (a:=⟨q,1,none⟩) e).trans h4⟩
/-- Behind once: the code is verified. -/
def Once1 (w:World) (g:Nat) (kv lv:Value) (rn:Int) (K:List Int) (L:List Ins) (w':World):Prop:=∃ r v,Ver K L r∧Err w r v w'∧VmAt w' g kv lv 1 0 v rn∧Turn g w w'
set_option maxRecDepth 100000 in
set_option maxHeartbeats 1600000 in
theorem slow_c {w:World} {g bx:Nat} {va:Option Addr} {kn kc:Nat} {la:Option Addr} {n lc:Nat} {K:List Int} {L:List Ins} {wv:Value} {rn:Int} (h:VmAt w g (.slice va kn kc) (.slice la n lc) 0 0 wv rn) (hb:w.cell? ⟨bx,0,none⟩=some (.pointer (some ⟨g,0,none⟩))) (hne:bx ≠ g) (hcg:∀ u,Turn g w u→Cd u va kn kc la n lc K L) (hT:Tabs w) (hg2:2≤g) :
    Calls Tryz.prog 64 #[.pointer (some ⟨g,2,none⟩),.func (.func 46) #[] #[.pointer (some ⟨bx,0,none⟩)]] w fun e w'=>e=.returned (.tuple #[])∧Once1 w g (.slice va kn kc) (.slice la n lc) rn K L w':=by
  have h2:w.cell? ⟨g,2,none⟩=some (.int .u32 0):=cell_row (k:=2) h rfl
  have h3:w.cell? ⟨g,3,none⟩=some (.int .i32 0):=cell_row (k:=3) h rfl
  have f3:w.frozen? ⟨g,3,none⟩=false:=frozen_row h
  have r1:VmAt (w.setCell ⟨g,3,none⟩ (.int .i32 1)) g (.slice va kn kc) (.slice la n lc) 0 1 wv rn:=set_row h _
  have t1:Turn g w (w.setCell ⟨g,3,none⟩ (.int .i32 1)):=(Turn.refl g w).set 3 _
  have hl:=run_call_load (P:=Tryz.prog) Tryz.func80 (by kernel_rfl) (by kernel_rfl) (by kernel_rfl) .u32 (by kernel_rfl) (w:=w.setCell ⟨g,3,none⟩ (.int .i32 1)) (a:=⟨g,2,none⟩) (x:=0) (cell_row (k:=2) r1 rfl)
  have hnot:∀ (x:Bool) (w:World),(Op.unary .not (.bool x)).run Tryz.prog w=.ok (.bool (!x)) w:=fun _ _=>rfl
  have hb1:(w.setCell ⟨g,3,none⟩ (.int .i32 1)).cell? ⟨bx,0,none⟩=some (.pointer (some ⟨g,0,none⟩)):=(World.cell?_of_block (w:=w) (a:=⟨bx,0,none⟩) (t1.block bx (lt_of_cell hb) (fun e=>hne (by simpa using e)))).trans hb
  have CL:=hid_as (clos_c r1 hb1 hne (hcg _ t1) (hT.belowB hg2 (t1.below (Nat.le_refl _) (Nat.le_of_lt (row_lt h)))))
  have HR:=hid_as r1
  have HT:=hid_as t1
  have HG:=hid_as (row_lt h)
  clear h r1 t1 hb hb1 hcg hT
  go_enter_defers Tryz.func64,Tryz.ntmps64
  go_wp2_with (go_at_call 81;refine (lock_free ⟨g,3,none⟩ _ (by go_simp) (by go_simp)).mono ?_;rintro e w' ⟨rfl,rfl⟩)
  go_wp2_with (first | (go_at_call 46;refine Calls.mono CL ?_;rintro e w1 ⟨rfl,hon⟩) | go_in)
  obtain ⟨r,v,W,hV,hE,hB,rfl⟩:=hon
  have hsz:(w.setCell ⟨g,3,none⟩ (.int .i32 1)).heap.size=w.heap.size:=by simp
  have rW:VmAt W g (.slice va kn kc) (.slice la n lc) 0 1 wv rn:=(hB.block g (by rw [hsz];exact HG.out)).trans HR.out
  have r2:VmAt (W.setCell ⟨g,5,none⟩ v) g (.slice va kn kc) (.slice la n lc) 0 1 v rn:=set_row rW _
  have r3:VmAt ((W.setCell ⟨g,5,none⟩ v).drew.setCell ⟨g,2,none⟩ (.int .u32 1)) g (.slice va kn kc) (.slice la n lc) 1 1 v rn:=set_row (w:=(W.setCell ⟨g,5,none⟩ v).drew) r2 _
  have r4:VmAt (((W.setCell ⟨g,5,none⟩ v).drew.setCell ⟨g,2,none⟩ (.int .u32 1)).setCell ⟨g,3,none⟩ (.int .i32 0)) g (.slice va kn kc) (.slice la n lc) 1 0 v rn:=set_row r3 _
  have t2:Turn g W (((W.setCell ⟨g,5,none⟩ v).drew.setCell ⟨g,2,none⟩ (.int .u32 1)).setCell ⟨g,3,none⟩ (.int .i32 0)):=((((Turn.refl g W).set 5 _).drew).set 2 _).set 3 _
  have FIN:Once1 w g (.slice va kn kc) (.slice la n lc) rn K L (((W.setCell ⟨g,5,none⟩ v).drew.setCell ⟨g,2,none⟩ (.int .u32 1)).setCell ⟨g,3,none⟩ (.int .i32 0)) :=
    ⟨r,v,hV,(hE.turn t2 (by rw [hsz];exact HG.out)).mono (by rw [hsz];exact Nat.le_refl _),r4,HT.out.trans ((Turn.ofBelow hB).trans t2)⟩
  refine leaves_cons (f:=83) (args:=#[.pointer (some ⟨g,2,none⟩),.bool true]) (by simp) (by simp [go_sem]) ?_
  refine (store_deferred ⟨g,2,none⟩ (.int .u32 0) .returning _ (cell_row (k:=2) r2 rfl) (frozen_row r2)).mono ?_
  rintro e u' w'' ⟨rfl,rfl,rfl⟩
  refine leaves_cons (f:=82) (args:=#[.pointer (some ⟨g,3,none⟩)]) (by simp [settle]) (by simp [go_sem]) ?_
  refine (unlock_deferred ⟨g,3,none⟩ _ _ (cell_row (k:=3) r3 rfl) (frozen_row r3)).mono ?_
  rintro e u' w'' ⟨rfl,rfl,rfl⟩
  exact ⟨_,results_none rfl _ _ _,rfl,FIN⟩
set_option maxRecDepth 100000 in
set_option maxHeartbeats 1600000 in
theorem do_first {w:World} {g bx:Nat} {va:Option Addr} {kn kc:Nat} {la:Option Addr} {n lc:Nat} {K:List Int} {L:List Ins} {wv:Value} {rn:Int} (h:VmAt w g (.slice va kn kc) (.slice la n lc) 0 0 wv rn) (hb:w.cell? ⟨bx,0,none⟩=some (.pointer (some ⟨g,0,none⟩))) (hne:bx ≠ g) (hcg:∀ u,Turn g w u→Cd u va kn kc la n lc K L) (hT:Tabs w) (hg2:2≤g) :
    Calls Tryz.prog 45 #[.pointer (some ⟨g,2,none⟩),.func (.func 46) #[] #[.pointer (some ⟨bx,0,none⟩)]] w fun e w'=>e=.returned (.tuple #[])∧Once1 w g (.slice va kn kc) (.slice la n lc) rn K L w':=by
  have h2:w.cell? ⟨g,2,none⟩=some (.int .u32 0):=cell_row (k:=2) h rfl
  have hl:=run_call_load (P:=Tryz.prog) Tryz.func80 (by kernel_rfl) (by kernel_rfl) (by kernel_rfl) .u32 (by kernel_rfl) (w:=w) (a:=⟨g,2,none⟩) (x:=0) h2
  have hnot:∀ (x:Bool) (w:World),(Op.unary .not (.bool x)).run Tryz.prog w=.ok (.bool (!x)) w:=fun _ _=>rfl
  have SL:=hid_as (slow_c h hb hne hcg hT hg2)
  clear h hb hne hcg hT
  go_enter Tryz.func45,Tryz.ntmps45
  go_wp2_with (first | (go_at_call 64;refine Calls.mono SL ?_;rintro e w1 ⟨rfl,hon⟩) | (go_at_call 63;go_in))
  go_end0
  exact ⟨rfl,hon⟩
set_option maxRecDepth 100000 in
set_option maxHeartbeats 1600000 in
theorem do_done (a:Addr) (fv:Value) (w:World) (h0:w.cell? a=some (.int .u32 1)) :
    Calls Tryz.prog 45 #[.pointer (some a),fv] w fun e w'=>e=.returned (.tuple #[])∧w'=w:=by
  have hl:=run_call_load (P:=Tryz.prog) Tryz.func80 (by kernel_rfl) (by kernel_rfl) (by kernel_rfl) .u32 (by kernel_rfl) h0
  have hnot:∀ (x:Bool) (w:World),(Op.unary .not (.bool x)).run Tryz.prog w=.ok (.bool (!x)) w:=fun _ _=>rfl
  go_enter Tryz.func45,Tryz.ntmps45
  go_wp2
  go_end0
  exact ⟨rfl,rfl⟩
end Go.Proofs.YthjclogkcmomkaaGreatDoor
namespace Go.Proofs.YthjclogkcmomkaaGreatDoor
open Go.RowKit
open Fb Cod
namespace Cod
def badB (x:Ins) (d:Nat):Bool:=decide (d < x.t) || decide (256 < x.dl d)
def jmpB (x:Ins):Bool:=x.op == 18 || x.op == 19 || x.op == 20
def fallsB (x:Ins):Bool:=x.op != 23 && x.op != 18
theorem badB_is (x:Ins) (d:Nat):badB x d=true ↔ x.bad d:=by simp [badB,Ins.bad]
theorem jmpB_is (x:Ins):jmpB x=true ↔ x.jmp:=by simp [jmpB,Ins.jmp,or_assoc]
theorem fallsB_is (x:Ins):fallsB x=true ↔ x.falls:=by simp [fallsB,Ins.falls]
def nexts (L:List Ins) (q:Nat × Nat):List (Nat × Nat):=match L[q.1]? with
  | none=>[]
  | some x=>if badB x q.2 then [] else (if jmpB x then [(x.a.toNat,x.dl q.2)] else []) ++ (if fallsB x && decide (q.1+1 < L.length) then [(q.1+1,x.dl q.2)] else [])
def faultB (L:List Ins) (q:Nat × Nat):Bool:=match L[q.1]? with
  | none=>false
  | some x=>badB x q.2 || (fallsB x && decide (q.1+1=L.length))
theorem goes_nexts {L:List Ins} {q r:Nat × Nat}:goes L q r ↔ r ∈ nexts L q:=by
  unfold nexts goes
  cases hx:L[q.1]? with
  | none=>simp
  | some x =>
    simp only [Option.some.injEq,exists_eq_left']
    cases hb:badB x q.2 with
    | true =>
      have:=(badB_is x q.2).1 hb
      simp [this]
    | false =>
      have nb:¬ x.bad q.2:=fun h=>by rw [(badB_is x q.2).2 h] at hb;cases hb
      have hj:=jmpB_is x
      have hf:=fallsB_is x
      obtain ⟨r1,r2⟩:=r
      simp only [nb,not_false_eq_true,true_and,Bool.false_eq_true,if_false,List.mem_append]
      constructor
      · rintro ⟨e,⟨h1,h2⟩ | ⟨h1,h2,h3⟩⟩
        · left;rw [if_pos (hj.2 h1)];simp [e,h2]
        · right;rw [if_pos (by rw [hf.2 h1,decide_eq_true h3];rfl)];simp [e,h2]
      · rintro (h | h)
        · by_cases hjb:jmpB x=true
          · rw [if_pos hjb] at h
            simp at h
            exact ⟨h.2,Or.inl ⟨hj.1 hjb,h.1⟩⟩
          · rw [if_neg hjb] at h;cases h
        · by_cases hfb:(fallsB x && decide (q.1+1 < L.length))=true
          · rw [if_pos hfb] at h
            simp at h
            rw [Bool.and_eq_true,decide_eq_true_iff] at hfb
            exact ⟨h.2,Or.inr ⟨hf.1 hfb.1,h.1,hfb.2⟩⟩
          · rw [if_neg hfb] at h;cases h
theorem fault_is {L:List Ins} {q:Nat × Nat}:fault L q ↔ faultB L q=true:=by
  unfold fault faultB
  cases hx:L[q.1]? with
  | none=>simp
  | some x =>
    simp only [Option.some.injEq,exists_eq_left',Bool.or_eq_true,Bool.and_eq_true,decide_eq_true_iff]
    rw [badB_is,fallsB_is]
/-- Whatever holds of the beginning and goes on holds of all that is reached. -/
theorem Reach.ind {L:List Ins} {P:Nat × Nat→Prop} (h0:P (0,0)) (hs:∀ q r,P q→r ∈ nexts L q→P r) {s:Nat × Nat} (h:Cod.Reach L s):P s:=by
  exact h P h0 (fun q r hq hg=>hs q r hq (goes_nexts.1 hg))
theorem Reach.to {L:List Ins} {q r:Nat × Nat} (h:Cod.Reach L q) (k:r ∈ nexts L q):Cod.Reach L r:=h.step (goes_nexts.2 k)
def okS (L:List Ins) (S:List (Nat × Nat)):Bool:=S.contains (0,0) && S.all fun q=>(nexts L q).all (fun r=>S.contains r) && !faultB L q && S.all (fun r=>r.1 != q.1 || r.2 == q.2)
theorem okS_in {L:List Ins} {S:List (Nat × Nat)} (h:okS L S=true) {s:Nat × Nat} (hr:Cod.Reach L s):s ∈ S:=by
  unfold okS at h
  rw [Bool.and_eq_true,List.all_eq_true] at h
  refine Reach.ind (P:=fun s=>s ∈ S) (by simpa using h.1) (fun q r hq hn=>?_) hr
  have:=h.2 q hq
  rw [Bool.and_eq_true,Bool.and_eq_true,List.all_eq_true] at this
  have:=this.1.1 r hn
  simpa using this
theorem okS_fin {L:List Ins} {S:List (Nat × Nat)} (h:okS L S=true):Fin L L.length:=by
  refine ⟨Nat.le_refl _,fun i _ hw=>?_,fun h=>absurd h (Nat.lt_irrefl _)⟩
  obtain ⟨d,hr,hf⟩:=hw
  have h1:=okS_in h hr
  have h':=h
  unfold okS at h'
  rw [Bool.and_eq_true,List.all_eq_true] at h'
  have h2:=h'.2 _ h1
  rw [Bool.and_eq_true,Bool.and_eq_true] at h2
  rcases hf with hf | ⟨e,he,hne⟩
  · rw [fault_is.1 hf] at h2
    simp at h2
  · have h3:=okS_in h he
    have h4:=h2.2
    rw [List.all_eq_true] at h4
    have:=h4 _ h3
    simp at this
    exact hne this
end Cod
end Go.Proofs.YthjclogkcmomkaaGreatDoor
