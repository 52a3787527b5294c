/- The reader in memory; its small methods (stage 13). -/
import Derived.WalkLawsBesides
import Derived.Test.YtapcpjidgemggaaGreatDoorQ8
import Derived.Test.YtapcpjidgemggaaGreatDoorQ10
namespace Go.Proofs.YtapcpjidgemggaaGreatDoor
open Go.RowKit
open Adr Lx Sx
/-- Nothing that was there has turned, but block rb. -/
structure Kp (rb:Nat) (w w':World):Prop where
  os:w'.os=w.os
  tape:w'.tape=w.tape
  output:w'.output=w.output
  size:w.heap.size≤w'.heap.size
  block:∀ j,j < w.heap.size→j ≠ rb→w'.heap[j]?=w.heap[j]?
theorem Kp.refl (rb:Nat) (w:World):Kp rb w w:=⟨rfl,rfl,rfl,Nat.le_refl _,fun _ _ _=>rfl⟩
theorem Kp.trans {rb:Nat} {a b c:World} (h:Kp rb a b) (k:Kp rb b c):Kp rb a c :=
  ⟨k.os.trans h.os,k.tape.trans h.tape,k.output.trans h.output,Nat.le_trans h.size k.size,fun j h1 h2=>(k.block j (Nat.lt_of_lt_of_le h1 h.size) h2).trans (h.block j h1 h2)⟩
theorem Kp.below {rb:Nat} {a b c:World} (h:Kp rb a b) (k:Below b.heap.size b c):Kp rb a c :=
  h.trans ⟨k.os,k.tape,k.output,k.size,fun j h1 _=>k.block j h1⟩
theorem Kp.drew {rb:Nat} {a b:World} (h:Kp rb a b):Kp rb a b.drew:=⟨h.os,h.tape,h.output,h.size,h.block⟩
theorem Kp.alloc {rb:Nat} {a b:World} (h:Kp rb a b) (o:Obj):Kp rb a (b.alloc o):=h.below (below_new1 b o)
theorem Kp.put {rb:Nat} {a b:World} (h:Kp rb a b) (j:Nat) (x:Value):Kp rb a (b.setCell ⟨rb,j,none⟩ x) :=
  h.trans ⟨rfl,rfl,rfl,by simp [World.setCell],fun k _ h2=>Below.heap_setCell _ _ _ _ h2⟩
theorem Kp.set {rb g:Nat} {a b:World} (h:Kp rb a b) (hg:a.heap.size≤g) (j:Nat) (x:Value):Kp rb a (b.setCell ⟨g,j,none⟩ x) :=
  ⟨h.os,h.tape,h.output,by simp [World.setCell];exact h.size,fun k h1 h2=>(Below.heap_setCell _ _ _ _ (by show k ≠ g;omega)).trans (h.block k h1 h2)⟩
/-- A block with these cells, which may be written. -/
def Bk (w:World) (g:Nat) (cs:Array Value):Prop:=∃ t,w.heap[g]?=some (.cells cs t (0,0))
theorem Bk.lt {w:World} {g:Nat} {cs:Array Value} (h:Bk w g cs):g < w.heap.size:=by
  obtain ⟨t,h⟩:=h
  by_cases hz:g < w.heap.size
  · exact hz
  · rw [Array.getElem?_eq_none (by omega)] at h;cases h
theorem Bk.cell {w:World} {g:Nat} {cs:Array Value} (h:Bk w g cs) (j:Nat):w.cell? ⟨g,j,none⟩=cs[j]?:=by
  obtain ⟨t,h⟩:=h
  exact cell_of_row w g j cs t _ h
theorem Bk.fr {w:World} {g:Nat} {cs:Array Value} (h:Bk w g cs) (j:Nat):w.frozen? ⟨g,j,none⟩=false:=by
  obtain ⟨t,h⟩:=h
  unfold World.frozen?
  simp [h]
theorem Bk.kp {rb:Nat} {w w':World} {g:Nat} {cs:Array Value} (h:Bk w g cs) (k:Kp rb w w') (hg:g ≠ rb):Bk w' g cs:=by
  have hl:=h.lt
  obtain ⟨t,h⟩:=h
  exact ⟨t,(k.block g hl hg).trans h⟩
theorem Bk.below {w w':World} {g:Nat} {cs:Array Value} (h:Bk w g cs) (k:Below w.heap.size w w'):Bk w' g cs:=by
  have hl:=h.lt
  obtain ⟨t,h⟩:=h
  exact ⟨t,(k.block g hl).trans h⟩
theorem Bk.alloc {w:World} {g:Nat} {cs:Array Value} (h:Bk w g cs) (o:Obj):Bk (w.alloc o) g cs:=h.below (below_new1 w o)
theorem Bk.other {w:World} {g b:Nat} {cs:Array Value} (h:Bk w g cs) (j:Nat) (x:Value) (hb:g ≠ b):Bk (w.setCell ⟨b,j,none⟩ x) g cs:=by
  obtain ⟨t,h⟩:=h
  exact ⟨t,(Below.heap_setCell w ⟨b,j,none⟩ x g hb).trans h⟩
theorem Bk.drew {w:World} {g:Nat} {cs:Array Value} (h:Bk w g cs):Bk w.drew g cs:=h
theorem Bk.fresh (w:World) (cs:Array Value) (t:TypeId):Bk (w.alloc (.cells cs t)) w.heap.size cs:=⟨t,(MapKept.heap_alloc w (.cells cs t)).1⟩
theorem Bk.set {w:World} {g:Nat} {cs:Array Value} (h:Bk w g cs) (j:Nat) (x:Value):Bk (w.setCell ⟨g,j,none⟩ x) g (cs.setIfInBounds j x):=by
  obtain ⟨t,h⟩:=h
  refine ⟨t,?_⟩
  simp only [World.setCell,Array.getElem?_modify,if_true,h,Option.map_some]
  rfl
/-- A text's tokens end with the end. -/
def Wf (T:TL):Prop:=T.length≤1000000∧∀ i,i < T.length→i+1 < T.length ∨ (cu T i).1=nul
/-- The reader lies in block rb, its tokens in block tb; i: how many were read. -/
structure Rd (w:World) (rb tb cap:Nat) (T:TL) (i:Nat):Prop where
  own:Bk w rb #[.slice (some ⟨tb,0,none⟩) T.length cap,.int .i64 i]
  laid:Laid w tb T
  lt:tb < w.heap.size
  ne:tb ≠ rb
  wf:Wf T
  ir:i < T.length
theorem Rd.rlt {w:World} {rb tb cap:Nat} {T:TL} {i:Nat} (h:Rd w rb tb cap T i):rb < w.heap.size:=h.own.lt
theorem Rd.below {w w':World} {rb tb cap:Nat} {T:TL} {i:Nat} (h:Rd w rb tb cap T i) (k:Below w.heap.size w w'):Rd w' rb tb cap T i :=
  ⟨h.own.below k,h.laid.below h.lt k,Nat.lt_of_lt_of_le h.lt k.size,h.ne,h.wf,h.ir⟩
theorem Rd.alloc {w:World} {rb tb cap:Nat} {T:TL} {i:Nat} (h:Rd w rb tb cap T i) (o:Obj):Rd (w.alloc o) rb tb cap T i:=h.below (below_new1 w o)
theorem Rd.drew {w:World} {rb tb cap:Nat} {T:TL} {i:Nat} (h:Rd w rb tb cap T i):Rd w.drew rb tb cap T i:=⟨h.own.drew,h.laid,h.lt,h.ne,h.wf,h.ir⟩
theorem Rd.other {w:World} {rb tb cap:Nat} {T:TL} {i b:Nat} (h:Rd w rb tb cap T i) (hb:b ≠ rb) (hc:b ≠ tb) (j:Nat) (x:Value):Rd (w.setCell ⟨b,j,none⟩ x) rb tb cap T i :=
  ⟨h.own.other j x (Ne.symm hb),fun a u hu=>(World.cell?_of_block (w:=w) (Below.heap_setCell w ⟨b,j,none⟩ x tb (Ne.symm hc))).trans (h.laid a u hu),by simp [World.setCell];exact h.lt,h.ne,h.wf,h.ir⟩
theorem Rd.step {w:World} {rb tb cap:Nat} {T:TL} {i k:Nat} (h:Rd w rb tb cap T i) (hk:k < T.length):Rd (w.setCell ⟨rb,1,none⟩ (.int .i64 k)) rb tb cap T k :=
  ⟨h.own.set 1 _,fun a u hu=>(World.cell?_of_block (w:=w) (Below.heap_setCell w ⟨rb,1,none⟩ _ tb h.ne)).trans (h.laid a u hu),by simp [World.setCell];exact h.lt,h.ne,h.wf,hk⟩
theorem Rd.step1 {w:World} {rb tb cap:Nat} {T:TL} {i:Nat} (h:Rd w rb tb cap T i) (hk:i+1 < T.length):Rd (w.setCell ⟨rb,1,none⟩ (.int .i64 ((i:Int)+1))) rb tb cap T (i+1):=by
  have h1:=h.step hk
  rw [show (((i+1:Nat):Int))=(i:Int)+1 by omega] at h1
  exact h1
/-- The panic that ends a reading. -/
def pan (T:TL) (n k:Nat):List PanicEntry:=[{ v:=.iface 151 (.agg #[.int .i64 (ca T k),.int .i64 n]),recovered:=false }]
/-- What a reading's call comes to. -/
def Outc {α:Type} (rb tb cap:Nat) (T:TL) (i:Nat) (w:World) (r:Re α) (Q:α→Value→World→Prop) (e:Ending) (w':World):Prop :=
  Kp rb w w'∧((∃ a k v,r=ok a k∧e=.returned v∧Q a v w'∧Rd w' rb tb cap T k∧i≤k) ∨ (∃ n k,r=no n k∧e=.panicked (pan T n k)))
theorem Bk.put3 {w:World} {g:Nat} {y0 y1 y2:Value} (h:Bk w g #[y0,y1,y2]) (x0 x1 x2:Value):Bk (((w.setCell ⟨g,0,none⟩ x0).setCell ⟨g,1,none⟩ x1).setCell ⟨g,2,none⟩ x2) g #[x0,x1,x2]:=by
  have q:=(((h.set 0 x0).set 1 x1).set 2 x2)
  simp only [List.setIfInBounds_toArray,List.set_cons_zero,List.set_cons_succ] at q
  exact q
theorem Kp.put3 {rb g:Nat} {a w:World} (k:Kp rb a w) (hg:a.heap.size≤g) (x0 x1 x2:Value):Kp rb a (((w.setCell ⟨g,0,none⟩ x0).setCell ⟨g,1,none⟩ x1).setCell ⟨g,2,none⟩ x2):=(((k.set hg 0 x0).set hg 1 x1).set hg 2 x2)
theorem Rd.put3 {w:World} {rb tb cap:Nat} {T:TL} {i g:Nat} (r:Rd w rb tb cap T i) (hb:g ≠ rb) (hc:g ≠ tb) (x0 x1 x2:Value):Rd (((w.setCell ⟨g,0,none⟩ x0).setCell ⟨g,1,none⟩ x1).setCell ⟨g,2,none⟩ x2) rb tb cap T i:=(((r.other hb hc 0 x0).other hb hc 1 x1).other hb hc 2 x2)
theorem Bk.put5 {w:World} {g:Nat} {y0 y1 y2 y3 y4:Value} (h:Bk w g #[y0,y1,y2,y3,y4]) (x0 x1 x2 x3 x4:Value):Bk (((((w.setCell ⟨g,0,none⟩ x0).setCell ⟨g,1,none⟩ x1).setCell ⟨g,2,none⟩ x2).setCell ⟨g,3,none⟩ x3).setCell ⟨g,4,none⟩ x4) g #[x0,x1,x2,x3,x4]:=by
  have q:=(((((h.set 0 x0).set 1 x1).set 2 x2).set 3 x3).set 4 x4)
  simp only [List.setIfInBounds_toArray,List.set_cons_zero,List.set_cons_succ] at q
  exact q
theorem Kp.put5 {rb g:Nat} {a w:World} (k:Kp rb a w) (hg:a.heap.size≤g) (x0 x1 x2 x3 x4:Value):Kp rb a (((((w.setCell ⟨g,0,none⟩ x0).setCell ⟨g,1,none⟩ x1).setCell ⟨g,2,none⟩ x2).setCell ⟨g,3,none⟩ x3).setCell ⟨g,4,none⟩ x4):=(((((k.set hg 0 x0).set hg 1 x1).set hg 2 x2).set hg 3 x3).set hg 4 x4)
theorem Rd.put5 {w:World} {rb tb cap:Nat} {T:TL} {i g:Nat} (r:Rd w rb tb cap T i) (hb:g ≠ rb) (hc:g ≠ tb) (x0 x1 x2 x3 x4:Value):Rd (((((w.setCell ⟨g,0,none⟩ x0).setCell ⟨g,1,none⟩ x1).setCell ⟨g,2,none⟩ x2).setCell ⟨g,3,none⟩ x3).setCell ⟨g,4,none⟩ x4) rb tb cap T i:=(((((r.other hb hc 0 x0).other hb hc 1 x1).other hb hc 2 x2).other hb hc 3 x3).other hb hc 4 x4)
theorem Bk.put6 {w:World} {g:Nat} {y0 y1 y2 y3 y4 y5:Value} (h:Bk w g #[y0,y1,y2,y3,y4,y5]) (x0 x1 x2 x3 x4 x5:Value):Bk ((((((w.setCell ⟨g,0,none⟩ x0).setCell ⟨g,1,none⟩ x1).setCell ⟨g,2,none⟩ x2).setCell ⟨g,3,none⟩ x3).setCell ⟨g,4,none⟩ x4).setCell ⟨g,5,none⟩ x5) g #[x0,x1,x2,x3,x4,x5]:=by
  have q:=((((((h.set 0 x0).set 1 x1).set 2 x2).set 3 x3).set 4 x4).set 5 x5)
  simp only [List.setIfInBounds_toArray,List.set_cons_zero,List.set_cons_succ] at q
  exact q
theorem Kp.put6 {rb g:Nat} {a w:World} (k:Kp rb a w) (hg:a.heap.size≤g) (x0 x1 x2 x3 x4 x5:Value):Kp rb a ((((((w.setCell ⟨g,0,none⟩ x0).setCell ⟨g,1,none⟩ x1).setCell ⟨g,2,none⟩ x2).setCell ⟨g,3,none⟩ x3).setCell ⟨g,4,none⟩ x4).setCell ⟨g,5,none⟩ x5):=((((((k.set hg 0 x0).set hg 1 x1).set hg 2 x2).set hg 3 x3).set hg 4 x4).set hg 5 x5)
theorem Rd.put6 {w:World} {rb tb cap:Nat} {T:TL} {i g:Nat} (r:Rd w rb tb cap T i) (hb:g ≠ rb) (hc:g ≠ tb) (x0 x1 x2 x3 x4 x5:Value):Rd ((((((w.setCell ⟨g,0,none⟩ x0).setCell ⟨g,1,none⟩ x1).setCell ⟨g,2,none⟩ x2).setCell ⟨g,3,none⟩ x3).setCell ⟨g,4,none⟩ x4).setCell ⟨g,5,none⟩ x5) rb tb cap T i:=((((((r.other hb hc 0 x0).other hb hc 1 x1).other hb hc 2 x2).other hb hc 3 x3).other hb hc 4 x4).other hb hc 5 x5)
theorem Bk.put7 {w:World} {g:Nat} {y0 y1 y2 y3 y4 y5 y6:Value} (h:Bk w g #[y0,y1,y2,y3,y4,y5,y6]) (x0 x1 x2 x3 x4 x5 x6:Value):Bk (((((((w.setCell ⟨g,0,none⟩ x0).setCell ⟨g,1,none⟩ x1).setCell ⟨g,2,none⟩ x2).setCell ⟨g,3,none⟩ x3).setCell ⟨g,4,none⟩ x4).setCell ⟨g,5,none⟩ x5).setCell ⟨g,6,none⟩ x6) g #[x0,x1,x2,x3,x4,x5,x6]:=by
  have q:=(((((((h.set 0 x0).set 1 x1).set 2 x2).set 3 x3).set 4 x4).set 5 x5).set 6 x6)
  simp only [List.setIfInBounds_toArray,List.set_cons_zero,List.set_cons_succ] at q
  exact q
theorem Kp.put7 {rb g:Nat} {a w:World} (k:Kp rb a w) (hg:a.heap.size≤g) (x0 x1 x2 x3 x4 x5 x6:Value):Kp rb a (((((((w.setCell ⟨g,0,none⟩ x0).setCell ⟨g,1,none⟩ x1).setCell ⟨g,2,none⟩ x2).setCell ⟨g,3,none⟩ x3).setCell ⟨g,4,none⟩ x4).setCell ⟨g,5,none⟩ x5).setCell ⟨g,6,none⟩ x6):=(((((((k.set hg 0 x0).set hg 1 x1).set hg 2 x2).set hg 3 x3).set hg 4 x4).set hg 5 x5).set hg 6 x6)
theorem Rd.put7 {w:World} {rb tb cap:Nat} {T:TL} {i g:Nat} (r:Rd w rb tb cap T i) (hb:g ≠ rb) (hc:g ≠ tb) (x0 x1 x2 x3 x4 x5 x6:Value):Rd (((((((w.setCell ⟨g,0,none⟩ x0).setCell ⟨g,1,none⟩ x1).setCell ⟨g,2,none⟩ x2).setCell ⟨g,3,none⟩ x3).setCell ⟨g,4,none⟩ x4).setCell ⟨g,5,none⟩ x5).setCell ⟨g,6,none⟩ x6) rb tb cap T i:=(((((((r.other hb hc 0 x0).other hb hc 1 x1).other hb hc 2 x2).other hb hc 3 x3).other hb hc 4 x4).other hb hc 5 x5).other hb hc 6 x6)
theorem Bk.past7 {w:World} {g b:Nat} {cs:Array Value} (h:Bk w b cs) (hb:b ≠ g) (x0 x1 x2 x3 x4 x5 x6:Value):Bk (((((((w.setCell ⟨g,0,none⟩ x0).setCell ⟨g,1,none⟩ x1).setCell ⟨g,2,none⟩ x2).setCell ⟨g,3,none⟩ x3).setCell ⟨g,4,none⟩ x4).setCell ⟨g,5,none⟩ x5).setCell ⟨g,6,none⟩ x6) b cs:=(((((((h.other 0 x0 hb).other 1 x1 hb).other 2 x2 hb).other 3 x3 hb).other 4 x4 hb).other 5 x5 hb).other 6 x6 hb)
theorem Bk.put9 {w:World} {g:Nat} {y0 y1 y2 y3 y4 y5 y6 y7 y8:Value} (h:Bk w g #[y0,y1,y2,y3,y4,y5,y6,y7,y8]) (x0 x1 x2 x3 x4 x5 x6 x7 x8:Value):Bk (((((((((w.setCell ⟨g,0,none⟩ x0).setCell ⟨g,1,none⟩ x1).setCell ⟨g,2,none⟩ x2).setCell ⟨g,3,none⟩ x3).setCell ⟨g,4,none⟩ x4).setCell ⟨g,5,none⟩ x5).setCell ⟨g,6,none⟩ x6).setCell ⟨g,7,none⟩ x7).setCell ⟨g,8,none⟩ x8) g #[x0,x1,x2,x3,x4,x5,x6,x7,x8]:=by
  have q:=(((((((((h.set 0 x0).set 1 x1).set 2 x2).set 3 x3).set 4 x4).set 5 x5).set 6 x6).set 7 x7).set 8 x8)
  simp only [List.setIfInBounds_toArray,List.set_cons_zero,List.set_cons_succ] at q
  exact q
theorem Kp.put9 {rb g:Nat} {a w:World} (k:Kp rb a w) (hg:a.heap.size≤g) (x0 x1 x2 x3 x4 x5 x6 x7 x8:Value):Kp rb a (((((((((w.setCell ⟨g,0,none⟩ x0).setCell ⟨g,1,none⟩ x1).setCell ⟨g,2,none⟩ x2).setCell ⟨g,3,none⟩ x3).setCell ⟨g,4,none⟩ x4).setCell ⟨g,5,none⟩ x5).setCell ⟨g,6,none⟩ x6).setCell ⟨g,7,none⟩ x7).setCell ⟨g,8,none⟩ x8):=(((((((((k.set hg 0 x0).set hg 1 x1).set hg 2 x2).set hg 3 x3).set hg 4 x4).set hg 5 x5).set hg 6 x6).set hg 7 x7).set hg 8 x8)
theorem Rd.put9 {w:World} {rb tb cap:Nat} {T:TL} {i g:Nat} (r:Rd w rb tb cap T i) (hb:g ≠ rb) (hc:g ≠ tb) (x0 x1 x2 x3 x4 x5 x6 x7 x8:Value):Rd (((((((((w.setCell ⟨g,0,none⟩ x0).setCell ⟨g,1,none⟩ x1).setCell ⟨g,2,none⟩ x2).setCell ⟨g,3,none⟩ x3).setCell ⟨g,4,none⟩ x4).setCell ⟨g,5,none⟩ x5).setCell ⟨g,6,none⟩ x6).setCell ⟨g,7,none⟩ x7).setCell ⟨g,8,none⟩ x8) rb tb cap T i:=(((((((((r.other hb hc 0 x0).other hb hc 1 x1).other hb hc 2 x2).other hb hc 3 x3).other hb hc 4 x4).other hb hc 5 x5).other hb hc 6 x6).other hb hc 7 x7).other hb hc 8 x8)
theorem Bk.put10 {w:World} {g:Nat} {y0 y1 y2 y3 y4 y5 y6 y7 y8 y9:Value} (h:Bk w g #[y0,y1,y2,y3,y4,y5,y6,y7,y8,y9]) (x0 x1 x2 x3 x4 x5 x6 x7 x8 x9:Value):Bk ((((((((((w.setCell ⟨g,0,none⟩ x0).setCell ⟨g,1,none⟩ x1).setCell ⟨g,2,none⟩ x2).setCell ⟨g,3,none⟩ x3).setCell ⟨g,4,none⟩ x4).setCell ⟨g,5,none⟩ x5).setCell ⟨g,6,none⟩ x6).setCell ⟨g,7,none⟩ x7).setCell ⟨g,8,none⟩ x8).setCell ⟨g,9,none⟩ x9) g #[x0,x1,x2,x3,x4,x5,x6,x7,x8,x9]:=by
  have q:=((((((((((h.set 0 x0).set 1 x1).set 2 x2).set 3 x3).set 4 x4).set 5 x5).set 6 x6).set 7 x7).set 8 x8).set 9 x9)
  simp only [List.setIfInBounds_toArray,List.set_cons_zero,List.set_cons_succ] at q
  exact q
theorem Kp.put10 {rb g:Nat} {a w:World} (k:Kp rb a w) (hg:a.heap.size≤g) (x0 x1 x2 x3 x4 x5 x6 x7 x8 x9:Value):Kp rb a ((((((((((w.setCell ⟨g,0,none⟩ x0).setCell ⟨g,1,none⟩ x1).setCell ⟨g,2,none⟩ x2).setCell ⟨g,3,none⟩ x3).setCell ⟨g,4,none⟩ x4).setCell ⟨g,5,none⟩ x5).setCell ⟨g,6,none⟩ x6).setCell ⟨g,7,none⟩ x7).setCell ⟨g,8,none⟩ x8).setCell ⟨g,9,none⟩ x9):=((((((((((k.set hg 0 x0).set hg 1 x1).set hg 2 x2).set hg 3 x3).set hg 4 x4).set hg 5 x5).set hg 6 x6).set hg 7 x7).set hg 8 x8).set hg 9 x9)
theorem Rd.put10 {w:World} {rb tb cap:Nat} {T:TL} {i g:Nat} (r:Rd w rb tb cap T i) (hb:g ≠ rb) (hc:g ≠ tb) (x0 x1 x2 x3 x4 x5 x6 x7 x8 x9:Value):Rd ((((((((((w.setCell ⟨g,0,none⟩ x0).setCell ⟨g,1,none⟩ x1).setCell ⟨g,2,none⟩ x2).setCell ⟨g,3,none⟩ x3).setCell ⟨g,4,none⟩ x4).setCell ⟨g,5,none⟩ x5).setCell ⟨g,6,none⟩ x6).setCell ⟨g,7,none⟩ x7).setCell ⟨g,8,none⟩ x8).setCell ⟨g,9,none⟩ x9) rb tb cap T i:=((((((((((r.other hb hc 0 x0).other hb hc 1 x1).other hb hc 2 x2).other hb hc 3 x3).other hb hc 4 x4).other hb hc 5 x5).other hb hc 6 x6).other hb hc 7 x7).other hb hc 8 x8).other hb hc 9 x9)
theorem Bk.put13 {w:World} {g:Nat} {y0 y1 y2 y3 y4 y5 y6 y7 y8 y9 y10 y11 y12:Value} (h:Bk w g #[y0,y1,y2,y3,y4,y5,y6,y7,y8,y9,y10,y11,y12]) (x0 x1 x2 x3 x4 x5 x6 x7 x8 x9 x10 x11 x12:Value):Bk (((((((((((((w.setCell ⟨g,0,none⟩ x0).setCell ⟨g,1,none⟩ x1).setCell ⟨g,2,none⟩ x2).setCell ⟨g,3,none⟩ x3).setCell ⟨g,4,none⟩ x4).setCell ⟨g,5,none⟩ x5).setCell ⟨g,6,none⟩ x6).setCell ⟨g,7,none⟩ x7).setCell ⟨g,8,none⟩ x8).setCell ⟨g,9,none⟩ x9).setCell ⟨g,10,none⟩ x10).setCell ⟨g,11,none⟩ x11).setCell ⟨g,12,none⟩ x12) g #[x0,x1,x2,x3,x4,x5,x6,x7,x8,x9,x10,x11,x12]:=by
  have q:=(((((((((((((h.set 0 x0).set 1 x1).set 2 x2).set 3 x3).set 4 x4).set 5 x5).set 6 x6).set 7 x7).set 8 x8).set 9 x9).set 10 x10).set 11 x11).set 12 x12)
  simp only [List.setIfInBounds_toArray,List.set_cons_zero,List.set_cons_succ] at q
  exact q
theorem Kp.put13 {rb g:Nat} {a w:World} (k:Kp rb a w) (hg:a.heap.size≤g) (x0 x1 x2 x3 x4 x5 x6 x7 x8 x9 x10 x11 x12:Value):Kp rb a (((((((((((((w.setCell ⟨g,0,none⟩ x0).setCell ⟨g,1,none⟩ x1).setCell ⟨g,2,none⟩ x2).setCell ⟨g,3,none⟩ x3).setCell ⟨g,4,none⟩ x4).setCell ⟨g,5,none⟩ x5).setCell ⟨g,6,none⟩ x6).setCell ⟨g,7,none⟩ x7).setCell ⟨g,8,none⟩ x8).setCell ⟨g,9,none⟩ x9).setCell ⟨g,10,none⟩ x10).setCell ⟨g,11,none⟩ x11).setCell ⟨g,12,none⟩ x12):=(((((((((((((k.set hg 0 x0).set hg 1 x1).set hg 2 x2).set hg 3 x3).set hg 4 x4).set hg 5 x5).set hg 6 x6).set hg 7 x7).set hg 8 x8).set hg 9 x9).set hg 10 x10).set hg 11 x11).set hg 12 x12)
theorem Rd.put13 {w:World} {rb tb cap:Nat} {T:TL} {i g:Nat} (r:Rd w rb tb cap T i) (hb:g ≠ rb) (hc:g ≠ tb) (x0 x1 x2 x3 x4 x5 x6 x7 x8 x9 x10 x11 x12:Value):Rd (((((((((((((w.setCell ⟨g,0,none⟩ x0).setCell ⟨g,1,none⟩ x1).setCell ⟨g,2,none⟩ x2).setCell ⟨g,3,none⟩ x3).setCell ⟨g,4,none⟩ x4).setCell ⟨g,5,none⟩ x5).setCell ⟨g,6,none⟩ x6).setCell ⟨g,7,none⟩ x7).setCell ⟨g,8,none⟩ x8).setCell ⟨g,9,none⟩ x9).setCell ⟨g,10,none⟩ x10).setCell ⟨g,11,none⟩ x11).setCell ⟨g,12,none⟩ x12) rb tb cap T i:=(((((((((((((r.other hb hc 0 x0).other hb hc 1 x1).other hb hc 2 x2).other hb hc 3 x3).other hb hc 4 x4).other hb hc 5 x5).other hb hc 6 x6).other hb hc 7 x7).other hb hc 8 x8).other hb hc 9 x9).other hb hc 10 x10).other hb hc 11 x11).other hb hc 12 x12)
theorem cell_tk {w:World} {tb i:Nat} {T:TL} (h:Laid w tb T) (hi:i < T.length) :
    w.cell? ⟨tb,i * 5,none⟩=some (.int .i64 (cu T i).1.tok)∧w.cell? ⟨tb,i * 5+1,none⟩=some (.int .i64 (cu T i).1.kind)∧w.cell? ⟨tb,i * 5+2,none⟩=some (.int .i64 (cu T i).1.n) ∧
    w.cell? ⟨tb,i * 5+3,none⟩=some (.string (tx (cu T i).1.text))∧w.cell? ⟨tb,i * 5+4,none⟩=some (.int .i64 (cu T i).2):=by
  have e:cu T i=T[i]:=by unfold cu;simp [List.getD,List.getElem?_eq_getElem hi]
  rw [e]
  have key:∀ (L:TL) (n:Nat) (hn:n < L.length) (j:Nat) (hj:j < 5),(tcs L)[n * 5+j]?=([.int .i64 L[n].1.tok,.int .i64 L[n].1.kind,.int .i64 L[n].1.n,.string (tx L[n].1.text),.int .i64 L[n].2]:List Value)[j]?:=by
    intro L
    induction L with
    | nil=>intro n hn;simp at hn
    | cons p L ih =>
      intro n hn j hj
      have e2:tcs (p :: L)=[.int .i64 p.1.tok,.int .i64 p.1.kind,.int .i64 p.1.n,.string (tx p.1.text),.int .i64 p.2] ++ tcs L:=by simp [tcs]
      rw [e2]
      cases n with
      | zero =>
        rw [List.getElem?_append_left (by simp;omega)]
        simp
      | succ n =>
        rw [List.getElem?_append_right (by simp;omega)]
        have:=ih n (by simpa using hn) j hj
        simp only [List.length_cons,List.length_nil,List.getElem_cons_succ]
        rw [show (n+1) * 5+j - (0+1+1+1+1+1)=n * 5+j by omega]
        exact this
  exact ⟨h _ _ (key T i hi 0 (by omega)),h _ _ (key T i hi 1 (by omega)),h _ _ (key T i hi 2 (by omega)),h _ _ (key T i hi 3 (by omega)),h _ _ (key T i hi 4 (by omega))⟩
end Go.Proofs.YtapcpjidgemggaaGreatDoor
