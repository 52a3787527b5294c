/- Rows of trees, of arguments, of instructions in memory; a name, an argument, arguments (stage 14). -/
import Derived.Test.YtapcpjidgemggaaGreatDoorQ28
import Derived.Test.YtapcpjidgemggaaGreatDoorQ32
namespace Go.Proofs.YtapcpjidgemggaaGreatDoor
open Go.RowKit
open Adr Lx Sx
open Ilx (Ps Wl)
/-- What lies in blocks S is in w' as it was in w, and in blocks S' there. -/
structure Ov (S S':Nat→Prop) (w w':World):Prop where
  size:w.heap.size≤w'.heap.size
  block:∀ x,S x→x < w.heap.size→S' x∧w'.heap[x]?=w.heap[x]?
theorem Ov.trans {S S' S'':Nat→Prop} {a b c:World} (h:Ov S S' a b) (k:Ov S' S'' b c):Ov S S'' a c:=by
  have hs:=h.size
  exact ⟨Nat.le_trans h.size k.size,fun x h1 h2=>⟨(k.block x (h.block x h1 h2).1 (by omega)).1,(k.block x (h.block x h1 h2).1 (by omega)).2.trans (h.block x h1 h2).2⟩⟩
theorem Ov.refl {S:Nat→Prop} {a:World}:Ov S S a a:=⟨Nat.le_refl _,fun _ h _=>⟨h,rfl⟩⟩
theorem Ov.into {S S':Nat→Prop} {a:World} (h:∀ x,S x→x < a.heap.size→S' x):Ov S S' a a:=⟨Nat.le_refl _,fun x h1 h2=>⟨h x h1 h2,rfl⟩⟩
theorem Ov.kp {S:Nat→Prop} {rb:Nat} {a b:World} (k:Kp rb a b) (hr:¬ S rb):Ov S S a b:=⟨k.size,fun x h1 h2=>⟨h1,k.block x h2 (fun e=>hr (e ▸ h1))⟩⟩
theorem Ov.below {S:Nat→Prop} {a b:World} (k:Below a.heap.size a b):Ov S S a b:=⟨k.size,fun x h1 h2=>⟨h1,k.block x h2⟩⟩
theorem Ov.alloc {S:Nat→Prop} (a:World) (o:Obj):Ov S S a (a.alloc o):=Ov.below (below_new1 a o)
theorem Ov.set {S:Nat→Prop} (a:World) {g:Nat} (hg:¬ S g) (j:Nat) (x:Value):Ov S S a (a.setCell ⟨g,j,none⟩ x):=⟨by simp [World.setCell],fun y hy _=>⟨hy,Below.heap_setCell a ⟨g,j,none⟩ x y (fun (e:y=g)=>hg (e ▸ hy))⟩⟩
theorem Ov.grown {S:Nat→Prop} {a b:World} {row:Option Nat} (h:a.grownBy b row) (hr:∀ k,row=some k→¬ S k):Ov S S a b:=⟨h.size,fun x h1 h2=>⟨h1,h.block x h2 (fun e=>hr x e.symm h1)⟩⟩
theorem Ew.ov {S S':Nat→Prop} {w w':World} {v:Value} {t:Tr} (h:Ew S w v t) (o:Ov S S' w w'):Ew S' w' v t:=by
  have h1:Ew (fun x=>S x∧x < w.heap.size) w v t:=h.into (fun x a b=>⟨a,b⟩)
  have h2:=h1.keep o.size (fun x hx hl=>(o.block x hx.1 hl).2)
  exact h2.into (fun x hx _=>(o.block x hx.1 hx.2).1)
/-- These cells, n by n, are these things. -/
def Rw {α:Type} (n:Nat) (P:World→List Value→α→Prop) (w:World) (xs:List Value) (l:List α):Prop:=xs.length=l.length * n∧∀ (j:Nat) (a:α),l[j]?=some a→P w ((xs.drop (j * n)).take n) a
theorem Rw.nil {α:Type} {n:Nat} {P:World→List Value→α→Prop} {w:World}:Rw n P w [] []:=⟨by simp,fun j a h=>by cases h⟩
theorem Rw.push {α:Type} {n:Nat} {P:World→List Value→α→Prop} {w:World} {xs cs:List Value} {l:List α} {a:α} (h:Rw n P w xs l) (hc:cs.length=n) (ha:P w cs a):Rw n P w (xs ++ cs) (l ++ [a]):=by
  refine ⟨by rw [List.length_append,List.length_append,h.1,hc,List.length_singleton,Nat.add_mul,Nat.one_mul],fun j b hb=>?_⟩
  by_cases hj:j < l.length
  · rw [List.getElem?_append_left hj] at hb
    have q:=h.2 j b hb
    have hle:j * n+n≤xs.length:=by rw [h.1,← Nat.succ_mul];exact Nat.mul_le_mul_right n hj
    rw [List.drop_append_of_le_length (by omega),List.take_append_of_le_length (by rw [List.length_drop];omega)]
    exact q
  · rw [List.getElem?_append_right (by omega)] at hb
    have e:j - l.length=0:=by
      rcases Nat.eq_zero_or_pos (j - l.length) with e | e
      · exact e
      · rw [List.getElem?_eq_none (by rw [List.length_singleton];exact e)] at hb;cases hb
    rw [e] at hb
    have hb:a=b:=Option.some.inj hb
    have ej:j=l.length:=by omega
    subst hb ej
    rw [← h.1,List.drop_left,← hc,List.take_length]
    exact ha
theorem Rw.one {α:Type} {n:Nat} {P:World→List Value→α→Prop} {w:World} {cs:List Value} {a:α} (hc:cs.length=n) (ha:P w cs a):Rw n P w cs [a]:=(Rw.nil (P:=P)).push hc ha
theorem Rw.all {α:Type} {n:Nat} {P P':World→List Value→α→Prop} {w w':World} {xs:List Value} {l:List α} (h:Rw n P w xs l) (f:∀ cs a,P w cs a→P' w' cs a):Rw n P' w' xs l:=⟨h.1,fun j a ha=>f _ _ (h.2 j a ha)⟩
/-- An expression's cells, an argument's, a slice of such things, an instruction's. -/
def Pe (S:Nat→Prop) (w:World) (cs:List Value) (t:Tr):Prop:=∃ (o k n:Int) (nm fl:ByteArray) (lp:Option Addr) (ln lc:Nat) (p:Int),cs=[.int .i64 o,.int .i64 k,.int .i64 n,.string nm,.string fl,.slice lp ln lc,.int .i64 p]∧Ew S w (.agg #[.int .i64 o,.int .i64 k,.int .i64 n,.string nm,.string fl,.slice lp ln lc,.int .i64 p]) t
def Pa (S:Nat→Prop) (w:World) (cs:List Value) (a:Ilx.Ag):Prop:=∃ (o k n:Int) (nm fl:ByteArray) (lp:Option Addr) (ln lc:Nat) (p q:Int),cs=[.string (tx a.name),.int .i64 o,.int .i64 k,.int .i64 n,.string nm,.string fl,.slice lp ln lc,.int .i64 p,.int .i64 q]∧Ew S w (.agg #[.int .i64 o,.int .i64 k,.int .i64 n,.string nm,.string fl,.slice lp ln lc,.int .i64 p]) a.t
def Sl {α:Type} (n:Nat) (P:(Nat→Prop)→World→List Value→α→Prop) (S:Nat→Prop) (w:World) (lp:Option Addr) (ln lc:Nat) (l:List α):Prop:=ln=l.length∧((l=[]∧lp=none∧lc=0) ∨ ∃ g xs,lp=some ⟨g,0,none⟩∧ln≤lc∧S g∧g < w.heap.size∧(∀ (j:Nat) u,xs[j]?=some u→w.cell? ⟨g,j,none⟩=some u)∧Rw n (P S) w xs l)
def Pi (S:Nat→Prop) (w:World) (cs:List Value) (i:Ilx.Is):Prop:=∃ (ep:Option Addr) (en ec:Nat) (ap:Option Addr) (an ac:Nat) (q:Int),cs=[.string (tx i.lab),.string (tx i.op),.slice ep en ec,.slice ap an ac,.int .i64 q]∧Sl 7 Pe S w ep en ec i.es∧Sl 9 Pa S w ap an ac i.args
theorem Pe.ov {S S':Nat→Prop} {w w':World} (o:Ov S S' w w') {cs:List Value} {t:Tr} (h:Pe S w cs t):Pe S' w' cs t:=by
  obtain ⟨a,k,n,nm,fl,lp,ln,lc,p,h1,h2⟩:=h
  exact ⟨a,k,n,nm,fl,lp,ln,lc,p,h1,h2.ov o⟩
theorem Pa.ov {S S':Nat→Prop} {w w':World} (o:Ov S S' w w') {cs:List Value} {t:Ilx.Ag} (h:Pa S w cs t):Pa S' w' cs t:=by
  obtain ⟨a,k,n,nm,fl,lp,ln,lc,p,q,h1,h2⟩:=h
  exact ⟨a,k,n,nm,fl,lp,ln,lc,p,q,h1,h2.ov o⟩
theorem Sl.ov {α:Type} {n:Nat} {P:(Nat→Prop)→World→List Value→α→Prop} {S S':Nat→Prop} {w w':World} (o:Ov S S' w w') (hP:∀ cs a,P S w cs a→P S' w' cs a) {lp:Option Addr} {ln lc:Nat} {l:List α} (h:Sl n P S w lp ln lc l):Sl n P S' w' lp ln lc l:=by
  refine ⟨h.1,?_⟩
  rcases h.2 with h2 | ⟨g,xs,h2,h3,h4,h5,h6,h7⟩
  · exact Or.inl h2
  · have ob:=o.block g h4 h5
    exact Or.inr ⟨g,xs,h2,h3,ob.1,Nat.lt_of_lt_of_le h5 o.size,fun j u hj=>(World.cell?_of_block (a:=⟨g,j,none⟩) ob.2).trans (h6 j u hj),h7.all hP⟩
theorem Pi.ov {S S':Nat→Prop} {w w':World} (o:Ov S S' w w') {cs:List Value} {t:Ilx.Is} (h:Pi S w cs t):Pi S' w' cs t:=by
  obtain ⟨ep,en,ec,ap,an,ac,q,h1,h2,h3⟩:=h
  exact ⟨ep,en,ec,ap,an,ac,q,h1,h2.ov o (fun _ _=>Pe.ov o),h3.ov o (fun _ _=>Pa.ov o)⟩
theorem Sl.nil {α:Type} {n:Nat} {P:(Nat→Prop)→World→List Value→α→Prop} {S:Nat→Prop} {w:World}:Sl n P S w none 0 0 []:=⟨rfl,Or.inl ⟨rfl,rfl,rfl⟩⟩
/-- A slice of one thing, just made. -/
theorem Sl.one {α:Type} {n:Nat} {P:(Nat→Prop)→World→List Value→α→Prop} {S:Nat→Prop} {w:World} {cs:Array Value} {e:TypeId} {a:α} (hn:cs.size=n) (hS:S w.heap.size) (h:P S (w.alloc (.cells cs e)) cs.toList a):Sl n P S (w.alloc (.cells cs e)) (some ⟨w.heap.size,0,none⟩) 1 1 [a]:=by
  refine ⟨rfl,Or.inr ⟨w.heap.size,cs.toList,rfl,Nat.le_refl _,hS,by rw [World.size_alloc];omega,fun j u hj=>?_,Rw.one (by rw [Array.length_toList];exact hn) h⟩⟩
  rw [(Bk.fresh w cs e).cell j,← Array.getElem?_toList]
  exact hj
/-- One thing more at the end of a row of one's own. -/
theorem rw_step {α:Type} {n:Nat} {P:(Nat→Prop)→World→List Value→α→Prop} (hP:∀ (S S':Nat→Prop) (w w':World),Ov S S' w w'→∀ cs a,P S w cs a→P S' w' cs a) {base rb s:Nat} {wr w3 w5:World} {ob:Obj} {xs cs:List Value} {l:List α} {a:α} {v v5:Value} (hU:Rw n (P (fun x=>base≤x∧v.ownBlock ≠ some x)) wr xs l) (hk:Kp rb wr w3) (hrb:rb < base) (hb:base≤s) (hgs:∀ g,v.ownBlock=some g→g < s) (hc:cs.length=n)
    (E3:P (fun x=>s≤x) w3 cs a) (hg5:(w3.alloc ob).grownBy w5 v.ownBlock) (hw5:v5.ownBlock=v.ownBlock ∨ v5.ownBlock=some (w3.heap.size+1)):Rw n (P (fun x=>base≤x∧v5.ownBlock ≠ some x)) w5 (xs ++ cs) (l ++ [a]):=by
  have hs:=hk.size
  have fit:Ov (fun x=>base≤x∧v.ownBlock ≠ some x∧x ≠ w3.heap.size+1) (fun x=>base≤x∧v5.ownBlock ≠ some x) w3 w5:=by
    have o1:Ov (fun x=>base≤x∧v.ownBlock ≠ some x∧x ≠ w3.heap.size+1) (fun x=>base≤x∧v.ownBlock ≠ some x∧x ≠ w3.heap.size+1) w3 w5:=(Ov.alloc w3 ob).trans (Ov.grown hg5 (fun k hk h=>h.2.1 hk))
    refine o1.trans (Ov.into fun x hx _=>⟨hx.1,?_⟩)
    rcases hw5 with h | h
    · rw [h];exact hx.2.1
    · rw [h];intro e;exact hx.2.2 (Option.some.inj e).symm
  have U3:Rw n (P (fun x=>base≤x∧v.ownBlock ≠ some x∧x ≠ w3.heap.size+1)) w3 xs l:=hU.all (hP _ _ _ _ ((Ov.kp hk (fun h=>by have:base≤rb:=h.1;omega)).trans (Ov.into fun x hx hl=>⟨hx.1,hx.2,by omega⟩)))
  have T3:P (fun x=>base≤x∧v.ownBlock ≠ some x∧x ≠ w3.heap.size+1) w3 cs a:=hP _ _ _ _ (Ov.into fun x (hx:s≤x) hl=>⟨by omega,fun e=>by have:=hgs x e;omega,by omega⟩) _ _ E3
  exact (U3.push hc T3).all (hP _ _ _ _ fit)
/-- A row of one's own, as a slice. -/
theorem own_sl {α:Type} {n:Nat} {P:(Nat→Prop)→World→List Value→α→Prop} (hP:∀ (S S':Nat→Prop) (w w':World),Ov S S' w w'→∀ cs a,P S w cs a→P S' w' cs a) {base e:Nat} {w:World} {v:Value} {xs:List Value} {l:List α} (o:w.ownsRow base e n v l.length xs) (U:Rw n (P (fun x=>base≤x∧v.ownBlock ≠ some x)) w xs l):∃ (lp:Option Addr) (lc:Nat),v=.slice lp l.length lc∧Sl n P (fun x=>base≤x) w lp l.length lc l:=by
  have oc:=fun g (hg:v.ownBlock=some g)=>World.ownsRow.cells o hg
  have ol:=World.ownsRow.lt o
  obtain ⟨hx,⟨rfl,h0⟩ | ⟨g,cap,cur,rfl,hb,hg,hc,_⟩⟩:=o
  · exact ⟨none,0,by rw [h0],rfl,Or.inl ⟨List.length_eq_zero_iff.1 h0,rfl,rfl⟩⟩
  · refine ⟨some ⟨g,0,none⟩,cap,rfl,rfl,Or.inr ⟨g,xs,rfl,hc,hb,(ol g rfl).2,fun j u hj=>?_,U.all (hP _ _ _ _ (Ov.into fun x hx _=>hx.1))⟩⟩
    have q:=oc g rfl j u hj
    rw [show (⟨g,0,none⟩:Addr).add j=⟨g,j,none⟩ by (simp [Addr.add];omega)] at q
    exact q
theorem Ir.put9 {w:World} {rb tb cap:Nat} {X:ByteArray} {T:TL} {A:Nat→Prop} {s:Ps} {g:Nat} (r:Ir w rb tb cap X T A s) (hb:g ≠ rb) (hc:g ≠ tb) (ha:¬ A g) (x0 x1 x2 x3 x4 x5 x6 x7 x8:Value):Ir (((((((((w.setCell ⟨g,0,none⟩ x0).setCell ⟨g,1,none⟩ x1).setCell ⟨g,2,none⟩ x2).setCell ⟨g,3,none⟩ x3).setCell ⟨g,4,none⟩ x4).setCell ⟨g,5,none⟩ x5).setCell ⟨g,6,none⟩ x6).setCell ⟨g,7,none⟩ x7).setCell ⟨g,8,none⟩ x8) rb tb cap X T A s:=(((((((((r.other hb hc ha 0 x0).other hb hc ha 1 x1).other hb hc ha 2 x2).other hb hc ha 3 x3).other hb hc ha 4 x4).other hb hc ha 5 x5).other hb hc ha 6 x6).other hb hc ha 7 x7).other hb hc ha 8 x8)
theorem Ew.set9 {S:Nat→Prop} {w:World} {v:Value} {t:Tr} {g:Nat} (h:Ew S w v t) (hg:¬ S g) (x0 x1 x2 x3 x4 x5 x6 x7 x8:Value):Ew S (((((((((w.setCell ⟨g,0,none⟩ x0).setCell ⟨g,1,none⟩ x1).setCell ⟨g,2,none⟩ x2).setCell ⟨g,3,none⟩ x3).setCell ⟨g,4,none⟩ x4).setCell ⟨g,5,none⟩ x5).setCell ⟨g,6,none⟩ x6).setCell ⟨g,7,none⟩ x7).setCell ⟨g,8,none⟩ x8) v t:=(((((((((h.set hg 0 x0).set hg 1 x1).set hg 2 x2).set hg 3 x3).set hg 4 x4).set hg 5 x5).set hg 6 x6).set hg 7 x7).set hg 8 x8)
theorem Ov.set9 {S:Nat→Prop} (w:World) {g:Nat} (hg:¬ S g) (x0 x1 x2 x3 x4 x5 x6 x7 x8:Value):Ov S S w (((((((((w.setCell ⟨g,0,none⟩ x0).setCell ⟨g,1,none⟩ x1).setCell ⟨g,2,none⟩ x2).setCell ⟨g,3,none⟩ x3).setCell ⟨g,4,none⟩ x4).setCell ⟨g,5,none⟩ x5).setCell ⟨g,6,none⟩ x6).setCell ⟨g,7,none⟩ x7).setCell ⟨g,8,none⟩ x8):=(((((((((Ov.refl.trans (Ov.set _ hg 0 x0)).trans (Ov.set _ hg 1 x1)).trans (Ov.set _ hg 2 x2)).trans (Ov.set _ hg 3 x3)).trans (Ov.set _ hg 4 x4)).trans (Ov.set _ hg 5 x5)).trans (Ov.set _ hg 6 x6)).trans (Ov.set _ hg 7 x7)).trans (Ov.set _ hg 8 x8))
theorem Ew.set5 {S:Nat→Prop} {w:World} {v:Value} {t:Tr} {g:Nat} (h:Ew S w v t) (hg:¬ S g) (x0 x1 x2 x3 x4:Value):Ew S (((((w.setCell ⟨g,0,none⟩ x0).setCell ⟨g,1,none⟩ x1).setCell ⟨g,2,none⟩ x2).setCell ⟨g,3,none⟩ x3).setCell ⟨g,4,none⟩ x4) v t:=(((((h.set hg 0 x0).set hg 1 x1).set hg 2 x2).set hg 3 x3).set hg 4 x4)
theorem Ov.set5 {S:Nat→Prop} (w:World) {g:Nat} (hg:¬ S g) (x0 x1 x2 x3 x4:Value):Ov S S w (((((w.setCell ⟨g,0,none⟩ x0).setCell ⟨g,1,none⟩ x1).setCell ⟨g,2,none⟩ x2).setCell ⟨g,3,none⟩ x3).setCell ⟨g,4,none⟩ x4):=(((((Ov.refl.trans (Ov.set _ hg 0 x0)).trans (Ov.set _ hg 1 x1)).trans (Ov.set _ hg 2 x2)).trans (Ov.set _ hg 3 x3)).trans (Ov.set _ hg 4 x4))
theorem Ov.set7 {S:Nat→Prop} (w:World) {g:Nat} (hg:¬ S g) (a b c d e f x:Value):Ov S S w (((((((w.setCell ⟨g,0,none⟩ a).setCell ⟨g,1,none⟩ b).setCell ⟨g,2,none⟩ c).setCell ⟨g,3,none⟩ d).setCell ⟨g,4,none⟩ e).setCell ⟨g,5,none⟩ f).setCell ⟨g,6,none⟩ x):=(((((((Ov.set w hg 0 a).trans (Ov.set _ hg 1 b)).trans (Ov.set _ hg 2 c)).trans (Ov.set _ hg 3 d)).trans (Ov.set _ hg 4 e)).trans (Ov.set _ hg 5 f)).trans (Ov.set _ hg 6 x))
set_option maxHeartbeats 4000000 in
set_option maxRecDepth 100000 in
theorem j_name {v w:World} {rb tb cap:Nat} {X:ByteArray} {T:TL} {A:Nat→Prop} {s:Ps} (J:Jr v rb tb cap X T A s w):Calls Tryz.prog 123 #[.pointer (some ⟨rb,0,none⟩)] w fun e w'=>∃ (o k n:Int) (nm fl:ByteArray) (lp:Option Addr) (ln lc:Nat) (p:Int),e=.returned (.agg #[.int .i64 o,.int .i64 k,.int .i64 n,.string nm,.string fl,.slice lp ln lc,.int .i64 p])∧Ew (fun x=>w.heap.size≤x) w' (.agg #[.int .i64 o,.int .i64 k,.int .i64 n,.string nm,.string fl,.slice lp ln lc,.int .i64 p]) (plainV (Ilx.nmT s))∧Kp rb w w'∧Jr v rb tb cap X T A (Ilx.nmS s) w':=by
  have J0:=hid_as (J.here.box (.cells #[.int .i64 0,.int .i64 0,.int .i64 0,.string ⟨#[]⟩,.string ⟨#[]⟩,.slice none 0 0,.int .i64 0] 53))
  have B0:=hid_as (Bk.fresh w #[.int .i64 0,.int .i64 0,.int .i64 0,.string ⟨#[]⟩,.string ⟨#[]⟩,.slice none 0 0,.int .i64 0] 53)
  have JJ:=hid_as J
  have hrl:=J.rlt
  have htl:=J.r.lt
  have hna:=hid_as J.r.na
  have TO:=hid_as (j_takeOf_2 J0.out)
  rw [World.size_alloc] at TO
  have XS:Hid (Ilx.nmS s=Ilx.tk (Ilx.tq s [2])):=hid_as rfl
  have XT:Hid (Ilx.nmT s=Ilx.hd (Ilx.tq s [2]).L):=hid_as rfl
  clear J
  go_enter Tryz.func123,Tryz.ntmps123
  go_wp2_with (first
    | (go_at_call 40;(with_reducible refine (TO.out).mono ?_);rintro e w1 ⟨_,rfl,⟨ta1,tk1,tn1,tt1,pl1,t1,rfl⟩,k1,j1⟩;have J1:=hid_as j1;have B1:=hid_as (B0.out.kp k1 (by omega));have z1:=k1.size;(try rw [World.size_alloc] at z1);have K1:=hid_as k1;clear k1 j1;replace t1:=hid_as t1;have s0:=fun o=>(bk7 (B1.out.alloc o)).1;have s1:=fun o=>(bk7 (B1.out.alloc o)).2.1;have s2:=fun o=>(bk7 (B1.out.alloc o)).2.2.1;have s3:=fun o=>(bk7 (B1.out.alloc o)).2.2.2.1;have s4:=fun o=>(bk7 (B1.out.alloc o)).2.2.2.2.1;have s5:=fun o=>(bk7 (B1.out.alloc o)).2.2.2.2.2.1;have s6:=fun o=>(bk7 (B1.out.alloc o)).2.2.2.2.2.2;have sf:=fun o=>(B1.out.alloc o).fr;have N1:=hid_as (Bk.fresh w1 #[.int .i64 ta1,.int .i64 tk1,.int .i64 tn1,.string (tx tt1),.int .i64 pl1] 42);obtain ⟨g0,g1,g2,g3,g4⟩:=bk5 N1.out))
  have KK:=(J1.out.k.alloc (.cells #[.int .i64 ta1,.int .i64 tk1,.int .i64 tn1,.string (tx tt1),.int .i64 pl1] 42)).put7 (Nat.le_refl _) (.int .i64 2) (.int .i64 0) (.int .i64 0) (.string (tx tt1)) (.string ⟨#[]⟩) (.slice none 0 0) (.int .i64 pl1)
  obtain ⟨x0,x1,x2,x3,x4,x5,x6⟩:=bk7 ((B1.out.alloc (.cells #[.int .i64 ta1,.int .i64 tk1,.int .i64 tn1,.string (tx tt1),.int .i64 pl1] 42)).put7 (.int .i64 2) (.int .i64 0) (.int .i64 0) (.string (tx tt1)) (.string ⟨#[]⟩) (.slice none 0 0) (.int .i64 pl1))
  refine bodyPost_ret (v:=.agg #[.int .i64 2,.int .i64 0,.int .i64 0,.string (tx tt1),.string ⟨#[]⟩,.slice none 0 0,.int .i64 pl1]) (by simp [results,Tryz.results123,go_sem,x0,x1,x2,x3,x4,x5,x6]) rfl ⟨_,_,_,_,_,_,_,_,_,rfl,?_,KK,?_⟩
  · rw [XT.out,t1.out]
    exact EWplain _ _ (⟨ta1,tk1,tn1,tt1⟩,pl1) pl1
  · rw [XS.out]
    exact JJ.out.nx KK (((J1.out.r.alloc (.cells #[.int .i64 ta1,.int .i64 tk1,.int .i64 tn1,.string (tx tt1),.int .i64 pl1] 42)).put7 (by omega) (by omega) (fun q=>q.2 rfl) _ _ _ _ _ _ _).unbox hna.out)
theorem Jr.drew {v w:World} {rb tb cap:Nat} {X:ByteArray} {T:TL} {A:Nat→Prop} {s:Ps} (J:Jr v rb tb cap X T A s w):Jr v rb tb cap X T A s w.drew:=J.bl ⟨rfl,rfl,rfl,Nat.le_refl _,fun _ _=>rfl⟩
set_option maxHeartbeats 4000000 in
set_option maxRecDepth 100000 in
theorem j_arg {v w:World} {rb tb cap:Nat} {X:ByteArray} {T:TL} {A:Nat→Prop} {s:Ps} (J:Jr v rb tb cap X T A s w):Calls Tryz.prog 152 #[.pointer (some ⟨rb,0,none⟩)] w fun e w'=>∃ (nx:ByteArray) (o k n:Int) (nm fl:ByteArray) (lp:Option Addr) (ln lc:Nat) (p q:Int),e=.returned (.agg #[.string nx,.int .i64 o,.int .i64 k,.int .i64 n,.string nm,.string fl,.slice lp ln lc,.int .i64 p,.int .i64 q])∧(nx=tx (Ilx.agV s).name∧Ew (fun x=>w.heap.size≤x) w' (.agg #[.int .i64 o,.int .i64 k,.int .i64 n,.string nm,.string fl,.slice lp ln lc,.int .i64 p]) (Ilx.agV s).t)∧Kp rb w w'∧Jr v rb tb cap X T A (Ilx.agS s) w':=by
  have J0:=hid_as (J.here.box (.cells #[.string ⟨#[]⟩,.int .i64 0,.int .i64 0,.int .i64 0,.string ⟨#[]⟩,.string ⟨#[]⟩,.slice none 0 0,.int .i64 0,.int .i64 0] 77))
  have B0:=hid_as (Bk.fresh w #[.string ⟨#[]⟩,.int .i64 0,.int .i64 0,.int .i64 0,.string ⟨#[]⟩,.string ⟨#[]⟩,.slice none 0 0,.int .i64 0,.int .i64 0] 77)
  have JJ:=hid_as J
  have hrl:=J.rlt
  have htl:=J.r.lt
  have hna:=hid_as J.r.na
  have TO:=hid_as (j_takeOf_2 J0.out)
  rw [World.size_alloc] at TO
  have XP:Hid (∀ W,Jr w rb tb cap X T (fun x=>A x∧x ≠ w.heap.size) (Ilx.tk (Ilx.tq s [2])) W→Calls Tryz.prog 36 #[.pointer (some ⟨rb,0,none⟩),.string ⟨#[58,61]⟩] W fun e w'=>e=.returned (.tuple #[])∧Kp rb W w'∧Jr w rb tb cap X T (fun x=>A x∧x ≠ w.heap.size) (Ilx.xq (Ilx.tk (Ilx.tq s [2])) [58,61]) w'):=hid_as fun W J=>j_expect J ⟨#[58,61]⟩
  have VL:=hid_as (fun W (J:Jr w rb tb cap X T (fun x=>A x∧x ≠ w.heap.size) (Ilx.xq (Ilx.tk (Ilx.tq s [2])) [58,61]) W)=>j_value J)
  have XS:Hid (Ilx.agS s=Ilx.vlS (Ilx.xq (Ilx.nmS s) [58,61])):=hid_as (by unfold Ilx.agS;exact rfl)
  have XM:Hid (Ilx.nmS s=Ilx.tk (Ilx.tq s [2])):=hid_as rfl
  rw [XM.out] at XS
  have XN:Hid (Ilx.agV s=⟨(Ilx.nmT s).1.text,Ilx.vlT (Ilx.xq (Ilx.nmS s) [58,61])⟩):=hid_as (by unfold Ilx.agV;exact rfl)
  rw [XM.out] at XN
  have XT:Hid (Ilx.nmT s=Ilx.hd (Ilx.tq s [2]).L):=hid_as rfl
  generalize Ilx.vlT (Ilx.xq (Ilx.tk (Ilx.tq s [2])) [58,61])=tr at *
  generalize Ilx.vlS (Ilx.xq (Ilx.tk (Ilx.tq s [2])) [58,61])=sr at *
  clear J
  go_enter Tryz.func152,Tryz.ntmps152
  go_wp2_with (first
    | (go_at_call 40;(with_reducible refine (TO.out).mono ?_);rintro e w1 ⟨_,rfl,⟨ta1,tk1,tn1,tt1,pl1,t1,rfl⟩,k1,j1⟩;have J1:=hid_as j1;have B1:=hid_as (B0.out.kp k1 (by omega));have z1:=k1.size;(try rw [World.size_alloc] at z1);have K1:=hid_as k1;clear k1 j1;replace t1:=hid_as t1;have N1:=hid_as (Bk.fresh w1 #[.int .i64 ta1,.int .i64 tk1,.int .i64 tn1,.string (tx tt1),.int .i64 pl1] 42))
    | (go_at_call 36;(with_reducible refine (XP.out _ (J1.out.alloc (.cells #[.int .i64 ta1,.int .i64 tk1,.int .i64 tn1,.string (tx tt1),.int .i64 pl1] 42))).mono ?_);rintro e w2 ⟨rfl,k2,j2⟩;have J2:=hid_as j2;have B2:=hid_as ((B1.out.alloc (.cells #[.int .i64 ta1,.int .i64 tk1,.int .i64 tn1,.string (tx tt1),.int .i64 pl1] 42)).kp k2 (by omega));have N2:=hid_as (N1.out.kp k2 (by omega));have z2:=k2.size;(try rw [World.size_alloc] at z2);have K2:=hid_as k2;clear k2 j2;have y2:=N2.out.lt;have N2d:=hid_as N2.out.drew;obtain ⟨g0,g1,g2,g3,g4⟩:=bk5 N2d.out;have gf:=N2d.out.fr))
  go_region_with (first
    | (go_at_call 125;(with_reducible refine (VL.out _ J2.out.drew).mono ?_);rintro e w3 ⟨o3,kd3,n3,nm3,fl3,lp3,ln3,lc3,p3,rfl,e3,k3,j3⟩;have J3:=hid_as j3;have B3:=hid_as (B2.out.drew.kp k3 (by omega));have N3:=hid_as (N2.out.drew.kp k3 (by omega));have z3:=k3.size;(try rw [World.size_alloc] at z3);have K3:=hid_as k3;clear k3 j3;have E3:=hid_as e3;clear e3;clear g0 g1 g2 g3 g4 gf;obtain ⟨g0,g1,g2,g3,g4⟩:=bk5 N3.out;have gf:=N3.out.fr;obtain ⟨s0,s1,s2,s3,s4,s5,s6,s7,s8⟩:=bk9 B3.out;have sf:=B3.out.fr))
  all_goals go_wp2
  all_goals
    obtain ⟨x0,x1,x2,x3,x4,x5,x6,x7,x8⟩:=bk9 (B3.out.put9 (.string (tx tt1)) (.int .i64 o3) (.int .i64 kd3) (.int .i64 n3) (.string nm3) (.string fl3) (.slice lp3 ln3 lc3) (.int .i64 p3) (.int .i64 pl1))
    have KK:=J3.out.k.put9 (Nat.le_refl _) (.string (tx tt1)) (.int .i64 o3) (.int .i64 kd3) (.int .i64 n3) (.string nm3) (.string fl3) (.slice lp3 ln3 lc3) (.int .i64 p3) (.int .i64 pl1)
    refine bodyPost_ret (v:=.agg #[.string (tx tt1),.int .i64 o3,.int .i64 kd3,.int .i64 n3,.string nm3,.string fl3,.slice lp3 ln3 lc3,.int .i64 p3,.int .i64 pl1]) (by simp [results,Tryz.results152,go_sem,x0,x1,x2,x3,x4,x5,x6,x7,x8]) rfl ⟨_,_,_,_,_,_,_,_,_,_,_,rfl,⟨?_,?_⟩,KK,?_⟩
    · rw [XN.out,XT.out,t1.out]
    · rw [XN.out]
      exact (E3.out.set9 (by show ¬ (_≤_);have:w2.drew.heap.size=w2.heap.size:=rfl;omega) _ _ _ _ _ _ _ _ _).into (fun x (hx:w2.heap.size≤x) _=>by show w.heap.size≤x;omega)
    · rw [XS.out]
      exact JJ.out.nx KK ((J3.out.r.put9 (by omega) (by omega) (fun q=>q.2 rfl) _ _ _ _ _ _ _ _ _).unbox hna.out)
end Go.Proofs.YtapcpjidgemggaaGreatDoor
