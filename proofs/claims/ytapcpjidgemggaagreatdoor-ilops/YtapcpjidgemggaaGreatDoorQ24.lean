/- Trees whose places may be any; an expression's places moved (stage 14). -/
import Derived.Test.YtapcpjidgemggaaGreatDoorQ16
import Derived.Test.YtapcpjidgemggaaGreatDoorQ23
namespace Go.Proofs.YtapcpjidgemggaaGreatDoor
open Go.RowKit
open Adr Lx Sx
open Ilx (Ps Wl)
theorem Tabs.keep {w w':World} (h:Tabs w) (hb:∀ g,g < 6→w'.heap[g]?=w.heap[g]?):Tabs w':=by
  obtain ⟨m,hm⟩:=h.max
  have row:∀ {g:Nat} {cs:Array Value},RowAt w g cs→g < 6→RowAt w' g cs:=fun {g cs} r hg=>by
    obtain ⟨t,fr,r⟩:=r
    exact ⟨t,fr,(hb g hg).trans r⟩
  obtain ⟨t,fr,ha⟩:=h.areas
  exact ⟨row h.kinds (by decide),(World.cell?_of_block (a:=⟨0,0,none⟩) (hb 0 (by decide))).trans h.err,⟨m,(World.cell?_of_block (a:=⟨1,0,none⟩) (hb 1 (by decide))).trans hm⟩,row h.bases (by decide),⟨t,fr,(hb 4 (by decide)).trans ha⟩,row h.units (by decide)⟩
theorem Tabs.kp {w w':World} {rb:Nat} (h:Tabs w) (k:Kp rb w w') (hr:5 < rb):Tabs w':=by
  have h5:=h.five
  exact h.keep fun g hg=>k.block g (by omega) (by omega)
/-- A tree in memory, its places any. -/
def EW (S:Nat→Prop):Nat→World→Value→Tr→Prop
  | 0,_,_,_=>False
  | d+1,w,v,t=>∃ (nd:Nd) (lp:Option Addr) (ln lc:Nat) (p:Int),t []=some nd∧v=.agg #[.int .i64 nd.op,.int .i64 nd.kind,.int .i64 nd.n,.string (tx nd.name),.string (tx nd.field),.slice lp ln lc,.int .i64 p]∧ln=nd.ar ∧
    ((nd.ar=0∧lp=none∧lc=0) ∨ ∃ g,lp=some ⟨g,0,none⟩∧0 < nd.ar∧nd.ar≤lc∧S g∧g < w.heap.size∧(∀ i,w.frozen? ⟨g,i,none⟩=false) ∧
      ∀ j,j < nd.ar→∃ (o k n:Int) (nm fl:ByteArray) (lp:Option Addr) (ln lc:Nat) (p:Int),RowE w g j o k n nm fl (.slice lp ln lc) p∧EW S d w (.agg #[.int .i64 o,.int .i64 k,.int .i64 n,.string nm,.string fl,.slice lp ln lc,.int .i64 p]) (fun q=>t (j :: q)))
theorem EA.weak {S:Nat→Prop} {w:World}:∀ {d:Nat} {v:Value} {t:Tr},EA S d w v t→EW S d w v t
  | 0,_,_,h=>h.elim
  | d+1,v,t,⟨nd,L,h1,h2,h3⟩=>by
    rcases h3 with ⟨h3,rfl⟩ | ⟨g,cap,rfl,b,b2,c,e,fz,f⟩
    · exact ⟨nd,none,0,0,nd.pl,h1,h2,h3.symm,Or.inl ⟨h3,rfl,rfl⟩⟩
    · refine ⟨nd,some ⟨g,0,none⟩,nd.ar,cap,nd.pl,h1,h2,rfl,Or.inr ⟨g,rfl,b,b2,c,e,fz,fun j hj=>?_⟩⟩
      obtain ⟨o,k,n,nm,fl,M,p,x,y⟩:=f j hj
      have y2:=EA.weak y
      cases d with
      | zero=>exact y.elim
      | succ d =>
        obtain ⟨nd',L',_,hv,hL⟩:=y
        unfold ev at hv
        simp only [Value.agg.injEq,Array.mk.injEq,List.cons.injEq] at hv
        obtain ⟨_,_,_,_,_,rfl,_⟩:=hv
        rcases hL with ⟨_,rfl⟩ | ⟨g',cap',rfl,_⟩
        · exact ⟨o,k,n,nm,fl,_,_,_,p,x,y2⟩
        · exact ⟨o,k,n,nm,fl,_,_,_,p,x,y2⟩
theorem EW.keep {S:Nat→Prop} {w w':World} (hs:w.heap.size≤w'.heap.size) (hb:∀ x,S x→x < w.heap.size→w'.heap[x]?=w.heap[x]?):∀ {d:Nat} {v:Value} {t:Tr},EW S d w v t→EW S d w' v t
  | 0,_,_,h=>h.elim
  | d+1,v,t,⟨nd,lp,ln,lc,p,h1,h2,hl,h3⟩=>by
    refine ⟨nd,lp,ln,lc,p,h1,h2,hl,?_⟩
    rcases h3 with h3 | ⟨g,a,b,b2,c,e,fz,f⟩
    · exact Or.inl h3
    · refine Or.inr ⟨g,a,b,b2,c,by omega,fun i=>(World.frozen?_of_block (a:=⟨g,i,none⟩) (hb g c e)).trans (fz i),fun j hj=>?_⟩
      obtain ⟨o,k,n,nm,fl,lp,ln,lc,p,x,y⟩:=f j hj
      exact ⟨o,k,n,nm,fl,lp,ln,lc,p,x.keep (hb g c e),EW.keep hs hb y⟩
theorem EW.into {S S':Nat→Prop} {w:World} (hb:∀ x,S x→x < w.heap.size→S' x):∀ {d:Nat} {v:Value} {t:Tr},EW S d w v t→EW S' d w v t
  | 0,_,_,h=>h.elim
  | d+1,v,t,⟨nd,lp,ln,lc,p,h1,h2,hl,h3⟩=>by
    refine ⟨nd,lp,ln,lc,p,h1,h2,hl,?_⟩
    rcases h3 with h3 | ⟨g,a,b,b2,c,e,fz,f⟩
    · exact Or.inl h3
    · refine Or.inr ⟨g,a,b,b2,hb g c e,e,fz,fun j hj=>?_⟩
      obtain ⟨o,k,n,nm,fl,lp,ln,lc,p,x,y⟩:=f j hj
      exact ⟨o,k,n,nm,fl,lp,ln,lc,p,x,EW.into hb y⟩
/-- Nothing but places of trees in blocks S has turned. -/
structure Pm (S:Nat→Prop) (w w':World):Prop where
  os:w'.os=w.os
  tape:w'.tape=w.tape
  output:w'.output=w.output
  size:w.heap.size≤w'.heap.size
  block:∀ g,g < w.heap.size→¬ S g→w'.heap[g]?=w.heap[g]?
  cell:∀ g j,g < w.heap.size→¬ j % 7=6→w'.cell? ⟨g,j,none⟩=w.cell? ⟨g,j,none⟩
  plc:∀ g j p,g < w.heap.size→w.cell? ⟨g,j,none⟩=some (.int .i64 p)→∃ p',w'.cell? ⟨g,j,none⟩=some (.int .i64 p')
  fz:∀ g j,g < w.heap.size→w'.frozen? ⟨g,j,none⟩=w.frozen? ⟨g,j,none⟩
theorem Pm.refl (S:Nat→Prop) (w:World):Pm S w w:=⟨rfl,rfl,rfl,Nat.le_refl _,fun _ _ _=>rfl,fun _ _ _ _=>rfl,fun _ _ p _ h=>⟨p,h⟩,fun _ _ _=>rfl⟩
theorem Pm.trans {S:Nat→Prop} {a b c:World} (h:Pm S a b) (k:Pm S b c):Pm S a c:=by
  have hs:=h.size
  exact ⟨k.os.trans h.os,k.tape.trans h.tape,k.output.trans h.output,Nat.le_trans h.size k.size,fun g h1 h2=>(k.block g (by omega) h2).trans (h.block g h1 h2),fun g j h1 h2=>(k.cell g j (by omega) h2).trans (h.cell g j h1 h2),fun g j p h1 h2=>by
    obtain ⟨p',h3⟩:=h.plc g j p h1 h2
    exact k.plc g j p' (by omega) h3,fun g j h1=>(k.fz g j (by omega)).trans (h.fz g j h1)⟩
theorem Pm.below {S:Nat→Prop} {a b c:World} (h:Pm S a b) (k:Below b.heap.size b c):Pm S a c :=
  h.trans ⟨k.os,k.tape,k.output,k.size,fun g h1 _=>k.block g h1,fun g _ h1 _=>k.cell (p:=⟨g,_,none⟩) h1,fun g _ p h1 h2=>⟨p,(k.cell (p:=⟨g,_,none⟩) h1).trans h2⟩,fun g _ h1=>k.frozen (p:=⟨g,_,none⟩) h1⟩
theorem Pm.drew {S:Nat→Prop} {a b:World} (h:Pm S a b):Pm S a b.drew:=h.below ⟨rfl,rfl,rfl,Nat.le_refl _,fun _ _=>rfl⟩
theorem Pm.set {S:Nat→Prop} {a w:World} (h:Pm S a w) {g j:Nat} {p p':Int} (hg:S g) (hl:g < w.heap.size) (hj:j % 7=6) (hc:w.cell? ⟨g,j,none⟩=some (.int .i64 p)):Pm S a (w.setCell ⟨g,j,none⟩ (.int .i64 p')):=by
  refine h.trans ⟨rfl,rfl,rfl,by simp [World.setCell],fun x _ h2=>Below.heap_setCell w ⟨g,j,none⟩ _ x (fun e=>h2 (by rw [show x=g from e];exact hg)),?_,?_,?_⟩
  · intro x k hx hk
    by_cases e:x=g
    · subst e
      exact World.cell?_setCell_other (w:=w) (a:=⟨x,j,none⟩) (b:=⟨x,k,none⟩) _ (fun e=>hk (by have:j=k:=congrArg Addr.off e;rw [← this];exact hj))
    · exact World.cell?_of_block (a:=⟨x,k,none⟩) (Below.heap_setCell w ⟨g,j,none⟩ _ x e)
  · intro x k q hx hq
    by_cases e:x=g
    · subst e
      by_cases e2:k=j
      · subst e2
        exact ⟨p',World.cell?_setCell_same (w:=w) (a:=⟨x,k,none⟩) _ hc⟩
      · exact ⟨q,(World.cell?_setCell_other (w:=w) (a:=⟨x,j,none⟩) (b:=⟨x,k,none⟩) _ (fun e=>e2 (congrArg Addr.off e).symm)).trans hq⟩
    · exact ⟨q,(World.cell?_of_block (a:=⟨x,k,none⟩) (Below.heap_setCell w ⟨g,j,none⟩ _ x e)).trans hq⟩
  · intro x k hx
    exact World.frozen?_setCell (w:=w) (a:=⟨g,j,none⟩) (b:=⟨x,k,none⟩) _
theorem RowE.pm {S:Nat→Prop} {w w':World} {g j:Nat} {o k n:Int} {nm fl:ByteArray} {L:Value} {p:Int} (h:RowE w g j o k n nm fl L p) (hg:g < w.heap.size) (m:Pm S w w'):∃ p',RowE w' g j o k n nm fl L p':=by
  obtain ⟨a0,a1,a2,a3,a4,a5,a6⟩:=h
  obtain ⟨p',h6⟩:=m.plc g _ p hg a6
  exact ⟨p',(m.cell g _ hg (by omega)).trans a0,(m.cell g _ hg (by omega)).trans a1,(m.cell g _ hg (by omega)).trans a2,(m.cell g _ hg (by omega)).trans a3,(m.cell g _ hg (by omega)).trans a4,(m.cell g _ hg (by omega)).trans a5,h6⟩
theorem EW.place {S:Nat→Prop} {d:Nat} {w:World} {o k n:Int} {nm fl:ByteArray} {lp:Option Addr} {ln lc:Nat} {p:Int} {t:Tr} (h:EW S d w (.agg #[.int .i64 o,.int .i64 k,.int .i64 n,.string nm,.string fl,.slice lp ln lc,.int .i64 p]) t) (p':Int):EW S d w (.agg #[.int .i64 o,.int .i64 k,.int .i64 n,.string nm,.string fl,.slice lp ln lc,.int .i64 p']) t:=by
  cases d with
  | zero=>exact h.elim
  | succ d =>
    obtain ⟨nd,lp',ln',lc',p0,h1,h2,hl,h3⟩:=h
    simp only [Value.agg.injEq,Array.mk.injEq,List.cons.injEq] at h2
    obtain ⟨e1,e2,e3,e4,e5,e6,_⟩:=h2
    refine ⟨nd,lp',ln',lc',p',h1,?_,hl,h3⟩
    rw [e1,e2,e3,e4,e5,e6]
theorem EW.pm {S:Nat→Prop} {w w':World} (m:Pm S w w'):∀ {d:Nat} {v:Value} {t:Tr},EW S d w v t→EW S d w' v t
  | 0,_,_,h=>h.elim
  | d+1,v,t,⟨nd,lp,ln,lc,p,h1,h2,hl,h3⟩=>by
    have hs:=m.size
    refine ⟨nd,lp,ln,lc,p,h1,h2,hl,?_⟩
    rcases h3 with h3 | ⟨g,a,b,b2,c,e,fz,f⟩
    · exact Or.inl h3
    · refine Or.inr ⟨g,a,b,b2,c,by omega,fun i=>(m.fz g i e).trans (fz i),fun j hj=>?_⟩
      obtain ⟨o,k,n,nm,fl,lp,ln,lc,p,x,y⟩:=f j hj
      obtain ⟨p',x'⟩:=x.pm e m
      exact ⟨o,k,n,nm,fl,lp,ln,lc,p',x',(EW.pm m y).place p'⟩
/-- A tree's operands, opened. -/
theorem EW.kids {S:Nat→Prop} {d:Nat} {w:World} {o k n:Int} {nm fl:ByteArray} {lp:Option Addr} {ln lc:Nat} {p:Int} {t:Tr} (h:EW S (d+1) w (.agg #[.int .i64 o,.int .i64 k,.int .i64 n,.string nm,.string fl,.slice lp ln lc,.int .i64 p]) t):∃ nd:Nd,t []=some nd∧o=nd.op∧k=nd.kind∧n=nd.n∧nm=tx nd.name∧fl=tx nd.field∧ln=nd.ar ∧
    ((ln=0∧lp=none∧lc=0) ∨ ∃ g,lp=some ⟨g,0,none⟩∧0 < ln∧ln≤lc∧S g∧g < w.heap.size∧(∀ i,w.frozen? ⟨g,i,none⟩=false) ∧
      ∀ j,j < ln→∃ (o k n:Int) (nm fl:ByteArray) (lp:Option Addr) (ln lc:Nat) (p:Int),RowE w g j o k n nm fl (.slice lp ln lc) p∧EW S d w (.agg #[.int .i64 o,.int .i64 k,.int .i64 n,.string nm,.string fl,.slice lp ln lc,.int .i64 p]) (fun q=>t (j :: q))):=by
  obtain ⟨nd,lp',ln',lc',p0,h1,h2,hl,h3⟩:=h
  simp only [Value.agg.injEq,Array.mk.injEq,List.cons.injEq,Value.int.injEq,Value.string.injEq,Value.slice.injEq,true_and,and_true] at h2
  obtain ⟨a1,a2,a3,a4,a5,⟨rfl,rfl,rfl⟩,_⟩:=h2
  refine ⟨nd,h1,a1,a2,a3,a4,a5,hl,?_⟩
  subst hl
  exact h3
/-- No node has more operands than this. -/
def Az (m:Nat) (t:Tr):Prop:=∀ q nd,t q=some nd→nd.ar≤m
theorem az_mkT {m:Nat} {d:Nd} {ts:List Tr} (h:d.ar≤m) (hs:∀ t ∈ ts,Az m t):Az m (mkT d ts):=by
  intro q nd hq
  cases q with
  | nil=>cases hq;exact h
  | cons i q =>
    cases hi:ts[i]? with
    | none=>simp only [mkT,hi] at hq;cases hq
    | some t=>simp only [mkT,hi] at hq;exact hs t (List.mem_of_getElem? hi) q nd hq
def Al1 {α:Type} (P:α→Prop) (r:Re α):Prop:=∀ a,r.v=some a→P a
theorem Al1.bind {α β:Type} {P:α→Prop} {Q:β→Prop} {p:Re α} {f:α→Nat→Re β} (h:Al1 P p) (k:∀ a m,P a→Al1 Q (f a m)):Al1 Q (th p f):=by
  intro b hb
  cases hp:p.v with
  | none=>rw [th_none hp] at hb;cases hb
  | some a=>rw [th_some hp] at hb;exact k a p.k (h a hp) b hb
theorem Al1.yes {α:Type} {P:α→Prop} {a:α} {k:Nat} (h:P a):Al1 P (ok a k):=fun b hb=>by cases hb;exact h
theorem Al1.nay {α:Type} {P:α→Prop} {e k:Nat}:Al1 P (no e k):=fun b hb=>by cases hb
theorem Al1.any {α:Type} {r:Re α}:Al1 (fun _=>True) r:=fun _ _=>trivial
theorem az_bin {m op pl:Nat} {t r:Tr} (hm:2≤m) (h:Az m t) (k:Az m r):Az m (bin2 op pl t r):=az_mkT hm (fun u hu=>by
  rcases List.mem_cons.1 hu with rfl | hu
  · exact h
  · obtain rfl:=List.mem_singleton.1 hu
    exact k)
theorem az_bl {m:Nat} (hm:2≤m) {T:TL} (lv:Nat) {b:Nat→Re Tr} (hb:∀ i,Al1 (Az m) (b i)):∀ (f:Nat) (t:Tr) (k:Nat),Az m t→Al1 (Az m) (bl T lv b f t k)
  | 0,_,_,_=>Al1.nay
  | f+1,t,k,ht=>by
    unfold bl
    split
    · exact Al1.yes ht
    · refine Al1.bind (hb (k+1)) fun r z hr=>?_
      split
      · exact Al1.yes (az_bin hm ht hr)
      · exact az_bl hm lv hb f _ z (az_bin hm ht hr)
theorem az_bi {m:Nat} (hm:2≤m) {T:TL} {u:Nat→Re Tr} (hu:∀ i,Al1 (Az m) (u i)):∀ (c i:Nat),Al1 (Az m) (bi T u c i)
  | 0,i=>hu i
  | c+1,i=>by
    unfold bi
    exact Al1.bind (az_bi hm hu c i) fun t k ht=>az_bl hm _ (az_bi hm hu c) _ t k ht
theorem az_leaf {m:Nat} {d:Nd} (h:d.ar=0):Az m (mkT d []):=az_mkT (by omega) (by simp)
theorem az_lit {m:Nat} {T:TL} (i:Nat):Al1 (Az m) (litT T i):=by
  unfold litT
  split
  · exact Al1.yes (az_leaf rfl)
  · exact Al1.bind Al1.any fun t k _=>Al1.yes (az_leaf rfl)
theorem az_vr {m:Nat} (hm:2≤m) {T:TL} {x:Nat→Re Tr} (hx:∀ i,Al1 (Az m) (x i)) (t:Tk × Nat) (i:Nat):Al1 (Az m) (vr T x t i):=by
  unfold vr
  split
  · exact Al1.bind Al1.any fun f k _=>Al1.yes (az_leaf rfl)
  · split
    · exact Al1.bind (hx (i+1)) fun a k ha=>Al1.bind Al1.any fun _ z _=>Al1.yes (az_mkT (by show 1≤m;omega) (fun u hu=>by obtain rfl:=List.mem_singleton.1 hu;exact ha))
    · exact Al1.yes (az_leaf rfl)
theorem rp_len {g:Nat→Bool} {m:Nat} {x:Nat→Re Tr} (hx:∀ i,Al1 (Az m) (x i)):∀ (f:Nat) (l:List Tr) (k:Nat),(∀ t ∈ l,Az m t)→Al1 (fun r=>r.length≤l.length+f∧∀ t ∈ r,Az m t) (rp g (fun l z=>th (x (z+1)) fun a y=>ok (l ++ [a]) y) f l k)
  | 0,_,_,_=>Al1.nay
  | f+1,l,k,hl=>by
    unfold rp
    split
    · refine Al1.bind (P:=fun r=>r.length=l.length+1∧∀ t ∈ r,Az m t) (Al1.bind (hx (k+1)) fun a y ha=>Al1.yes ⟨by simp,fun t ht=>?_⟩) fun r z hr=>?_
      · rcases List.mem_append.1 ht with ht | ht
        · exact hl t ht
        · obtain rfl:=List.mem_singleton.1 ht
          exact ha
      · intro a ha
        have q:=rp_len hx f r z hr.2 a ha
        exact ⟨by rw [hr.1] at q;omega,q.2⟩
    · exact Al1.yes ⟨by omega,hl⟩
theorem az_cal {T:TL} {x:Nat→Re Tr} (hx:∀ i,Al1 (Az (T.length+2)) (x i)) (t:Tk × Nat) (i:Nat):Al1 (Az (T.length+2)) (cal T x t i):=by
  unfold cal
  refine Al1.bind (hx i) fun a k ha=>Al1.bind (rp_len hx (T.length+1) [a] k (fun t ht=>by obtain rfl:=List.mem_singleton.1 ht;exact ha)) fun l z hl=>Al1.bind Al1.any fun _ y _=>Al1.yes (az_mkT ?_ hl.2)
  have:=hl.1
  rw [List.length_singleton] at this
  show l.length≤T.length+2
  omega
theorem az_una {T:TL}:∀ (d i:Nat),Al1 (Az (T.length+2)) (una T d i)
  | 0,i=>by unfold una;split <;> exact Al1.nay
  | d+1,i=>by
    have u1:∀ op,Al1 (Az (T.length+2)) (un1 op (ca T i) (una T d (i+1))):=fun op=>Al1.bind (az_una d (i+1)) fun a k ha=>Al1.yes (az_mkT (by show 1≤T.length+2;omega) (fun u hu=>by obtain rfl:=List.mem_singleton.1 hu;exact ha))
    have hx:=az_bi (m:=T.length+2) (by omega) (T:=T) (az_una d) 6
    unfold una
    split
    · exact Al1.nay
    · split
      · exact u1 3
      · split
        · exact u1 4
        · unfold pri
          split
          · exact Al1.bind (hx (i+1)) fun a k ha=>Al1.bind Al1.any fun _ z _=>Al1.yes ha
          · split
            · split
              · exact az_cal hx _ _
              · exact az_vr (by omega) hx _ _
            · exact az_lit i
theorem az_onl {T:TL} {t:Tr} (h:(onl T).v=some t):Az (T.length+2) t:=by
  have q:Al1 (Az (T.length+2)) (onl T):=by
    unfold onl
    exact Al1.bind (az_bi (by omega) (az_una 32) 6 0) fun a k ha=>Al1.bind Al1.any fun _ z _=>Al1.yes ha
  exact q t h
theorem Az.sub {m:Nat} {t:Tr} (h:Az m t) (j:Nat):Az m (fun q=>t (j :: q)):=fun q nd hq=>h (j :: q) nd hq
set_option maxHeartbeats 2000000 in
set_option maxRecDepth 100000 in
theorem move_c (b:Int):∀ (d:Nat) (S:Nat→Prop) (W:World) (g j:Nat) (o k n:Int) (nm fl:ByteArray) (lp:Option Addr) (ln lc:Nat) (p:Int) (t:Tr),S g→g < W.heap.size→(∀ i,W.frozen? ⟨g,i,none⟩=false)→Az 2000000 t→RowE W g j o k n nm fl (.slice lp ln lc) p→EW S d W (.agg #[.int .i64 o,.int .i64 k,.int .i64 n,.string nm,.string fl,.slice lp ln lc,.int .i64 p]) t →
    Calls Tryz.prog 170 #[.pointer (some ⟨g,j * 7,none⟩),.int .i64 b] W fun e w'=>e=.returned (.tuple #[])∧Pm S W w':=by
  intro d
  induction d with
  | zero=>intro S W g j o k n nm fl lp ln lc p t _ _ _ _ _ h;exact h.elim
  | succ d ih =>
    intro S W g j o k n nm fl lp ln lc p t hS hg hf haz hr he
    have IH:=hid_as ih
    obtain ⟨nd,ht,_,_,_,_,_,hl,hk⟩:=he.kids
    have hln:ln≤2000000:=by rw [hl];exact haz [] nd ht
    obtain ⟨a0,a1,a2,a3,a4,a5,a6⟩:=hr
    have fr:=hf (j * 7+6)
    have HR:=hid_as (show RowE W g j o k n nm fl (.slice lp ln lc) p from ⟨a0,a1,a2,a3,a4,a5,a6⟩)
    have HK:=hid_as hk
    have HS:=hid_as hS
    have HF:=hid_as hf
    have HZ:=hid_as haz
    have M1:=hid_as ((Pm.refl S W).set (p':=wrap64 (p+b)) hS hg (by omega) a6)
    clear hk he ih hS hf hl ht haz
    go_enter Tryz.func170,Tryz.ntmps170
    go_wp2
    generalize W.setCell ⟨g,j * 7+6,none⟩ (.int .i64 (wrap64 (p+b)))=V at M1 ⊢
    clear a0 a1 a2 a3 a4 a5 a6 fr
    go_loopw [18] (fun u wr=>∃ i:Nat,u=.int .i64 i∧i≤ln∧Hid (Pm S W wr)) (fun u _=>ln - (Lib.intOf u).toNat)
    case atStart=>exact ⟨0,rfl,by omega,M1⟩
    case round =>
      obtain ⟨i,rfl,hi,M⟩:=hrel
      obtain ⟨p2,r0,r1,r2,r3,r4,r5,r6⟩:=HR.out.pm hg M.out
      by_cases hlt:i < ln
      · have hlt2:(i:Int) < ln:=by omega
        rcases HK.out with ⟨h0,_⟩ | ⟨g',rfl,h1,h2,h3,h4,h5,h6⟩
        · omega
        obtain ⟨o1,k1,n1,nm1,fl1,lp1,ln1,lc1,p1,x1,y1⟩:=h6 i hlt
        obtain ⟨p3,x3⟩:=x1.pm h4 M.out
        have hs:=M.out.size
        have C:=hid_as (IH.out S _ g' i o1 k1 n1 nm1 fl1 lp1 ln1 lc1 p3 _ h3 (show g' < wr.heap.size by omega) (fun q=>(M.out.fz g' q h4).trans (h5 q)) (HZ.out.sub i) x3 ((EW.pm M.out y1).place p3))
        clear h3 h4 h5 h6 x1 x3 y1 HK
        go_wp2_with (go_at_call 170;(with_reducible refine (C.out).mono ?_);rintro e w2 ⟨rfl,m2⟩;have M2:=hid_as (M.out.trans m2);clear m2)
        go_roundw
        case rel=>exact ⟨i+1,by simp,by omega,M2⟩
        case measure=>simp [Lib.intOf];omega
      · have hge:¬ (i:Int) < ln:=by omega
        go_wp2
        go_end0
        exact ⟨rfl,M.out⟩
end Go.Proofs.YtapcpjidgemggaaGreatDoor
