/- Values in memory: rows, slices, what has turned (stage 20). · The blocks' pins: types' pinsOf, namesOf, Pins, Pin (stage 21, after stage 17). · Rows of numbers that are filled (stage 20, after stage 17). · The walks of types' pinsOf, count, names, kindOf, Block, Pins, Pin (stage 21). · The walk of pinsOf (stage 21). · The walk of pinsOf (stage 21). · Function blocks in plain mathematics (stage 21, after stage 17). · Timers, way by way (plain mathematics, stage 17). -/
import Derived.Test.YthjclogkcmomkaaGreatDoorProg
import Derived.WalkKit
import Derived.WalkSpells
import Derived.WalkLawsBesides
import Derived.Laws.NewBlocks
import Derived.Laws.AppendOwnNone
import Derived.OwnWalk
import Derived.BigQuiet
import Derived.Deep.QuietTactic
import Derived.Deep.RegionLaw
import Derived.Laws.BytesArg
import Derived.Lib.AppendZeros
import Derived.Deep.OwnRows
import Derived.Deep.RegionHeld3
import Derived.Deep.Cut
import Derived.Deep.RegionWith
namespace Go.Proofs.YthjclogkcmomkaaGreatDoor
open Go.RowKit
def bls (bs:List Bool):List Value:=bs.map Value.bool
theorem bls_at (bs:List Bool) (k:Nat) (h:k < bs.length):(bls bs)[k]?=some (.bool (bs.getD k false)):=by simp [bls,List.getD_eq_getElem?_getD,List.getElem?_eq_getElem h]
/-- The values vs lie in block b from off on. -/
def Lies (w:World) (b off:Nat) (vs:List Value):Prop:=∀ k u,vs[k]?=some u→w.cell? ⟨b,off+k,none⟩=some u
/-- A slice value of these values, in this world. -/
def Sl (w:World) (v:Value) (vs:List Value):Prop:=(vs=[]∧∃ ao cap,v=.slice ao 0 cap∧(ao=none→cap=0)) ∨ ∃ b off cap,v=.slice (some ⟨b,off,none⟩) vs.length cap∧vs.length≤cap∧Lies w b off vs
theorem lt_of_cell {w:World} {a:Addr} {v:Value} (h:w.cell? a=some v):a.block < w.heap.size:=World.block_lt_of_cell? w a h
theorem Lies.below {w u:World} {b off:Nat} {vs:List Value} (h:Lies w b off vs) (k:Below w.heap.size w u):Lies u b off vs:=fun i x hx=>(k.cell (p:=⟨b,off+i,none⟩) (lt_of_cell (h i x hx))).trans (h i x hx)
theorem Lies.kept {w u:World} {b off:Nat} {vs:List Value} (h:Lies w b off vs) (k:u.heap[b]?=w.heap[b]?):Lies u b off vs:=fun i x hx=>(World.cell?_of_block (w:=w) (a:=⟨b,off+i,none⟩) k).trans (h i x hx)
theorem Sl.below {w u:World} {v:Value} {vs:List Value} (h:Sl w v vs) (k:Below w.heap.size w u):Sl u v vs:=by
  rcases h with h | ⟨b,off,cap,rfl,hcap,hc⟩
  · exact Or.inl h
  · exact Or.inr ⟨b,off,cap,rfl,hcap,hc.below k⟩
theorem Sl.shape {w:World} {v:Value} {vs:List Value} (h:Sl w v vs):∃ ao c,v=.slice ao vs.length c:=by
  rcases h with ⟨rfl,ao,cap,rfl,_⟩ | ⟨b,off,cap,rfl,_⟩
  · exact ⟨ao,cap,rfl⟩
  · exact ⟨_,_,rfl⟩
theorem Sl.nil (w:World):Sl w (.slice none 0 0) []:=Or.inl ⟨rfl,none,0,rfl,fun _=>rfl⟩
theorem own_sl {w:World} {base n:Nat} {e:TypeId} {v:Value} {vs:List Value} (h:w.ownsRow base e 1 v n vs):Sl w v vs:=by
  have hl:vs.length=n:=by simpa using h.1
  rcases h.2 with ⟨rfl,h0⟩ | ⟨g,cap,cur,rfl,hb,hg,hn,hm,hs,ht⟩
  · have:vs=[]:=List.length_eq_zero_iff.1 (by omega)
    subst this
    exact Sl.nil w
  · refine Or.inr ⟨g,0,cap,by rw [hl],by omega,fun j u hj=>?_⟩
    have hlt:j < n:=by have:=(List.getElem?_eq_some_iff.1 hj).1;omega
    rw [Nat.zero_add,h.cellAt j (by omega),hj]
theorem own_below {w u:World} {base n B:Nat} {e:TypeId} {v:Value} {vs:List Value} (h:w.ownsRow base e 1 v n vs) (k:Below B w u) (hB:w.heap.size≤B):u.ownsRow base e 1 v n vs:=by
  refine ⟨h.1,?_⟩
  rcases h.2 with h' | ⟨g,cap,cur,rfl,hb,hg,r⟩
  · exact Or.inl h'
  · have hlt:g < w.heap.size:=(h.lt g rfl).2
    exact Or.inr ⟨g,cap,cur,rfl,hb,(k.block g (by omega)).trans hg,r⟩
theorem own_base {w:World} {base base' n:Nat} {e:TypeId} {v:Value} {vs:List Value} (h:w.ownsRow base e 1 v n vs) (hb:base'≤base):w.ownsRow base' e 1 v n vs:=by
  refine ⟨h.1,?_⟩
  rcases h.2 with h' | ⟨g,cap,cur,rfl,hb',r⟩
  · exact Or.inl h'
  · exact Or.inr ⟨g,cap,cur,rfl,by omega,r⟩
theorem Lies.news {w:World} {b off:Nat} {vs:List Value} (hc:Lies w b off vs):∀ j u,vs[j]?=some u→w.cell? ((⟨b,off,none⟩:Addr).add j)=some u:=by
  intro j u hj
  have hplain:(⟨b,off,none⟩:Addr).add j=⟨b,off+j,none⟩:=by unfold Addr.add;split <;> simp_all
  rw [hplain]
  exact hc j u hj
theorem Lies.drop {w:World} {b off:Nat} {vs:List Value} (hc:Lies w b off vs) (k:Nat):Lies w b (off+k) (vs.drop k):=by
  intro j u hj
  rw [List.getElem?_drop] at hj
  rw [Nat.add_assoc]
  exact hc _ u hj
theorem Lies.bl {w:World} {b off:Nat} {bs:List Bool} (hc:Lies w b off (bls bs)) (k:Nat) (h:k < bs.length):w.cell? ⟨b,off+k,none⟩=some (.bool (bs.getD k false)):=hc k _ (bls_at bs k h)
theorem below_new {a w:World} (h:Below a.heap.size a w) (o:Obj):Below a.heap.size a (w.alloc o):=h.alloc h.size o
theorem int_is {k:IntKind} {a b:Int} (h:a=b):Value.int k a=.int k b:=by rw [h]
theorem hid_as {p:Prop} (h:p):Hid p:=h
theorem below_and {a b c:World} (h:Below a.heap.size a b) (k:Below b.heap.size b c):Below a.heap.size a c:=h.trans (k.mono h.size)
theorem Sl.heap {w W:World} {v:Value} {vs:List Value} (h:Sl w v vs) (hW:W.heap=w.heap):Sl W v vs:=by
  rcases h with h | ⟨b,off,cap,rfl,hcap,hc⟩
  · exact Or.inl h
  · exact Or.inr ⟨b,off,cap,rfl,hcap,hc.kept (by rw [hW])⟩
theorem Sl.drewN {w:World} {v:Value} {vs:List Value} (h:Sl w v vs) (d:Nat):Sl (w.drewN d) v vs:=h
theorem cell_row {w:World} {g k:Nat} {l:List Value} {t:TypeId} {v:Value} (h:w.heap[g]?=some (.cells l.toArray t (0,0))) (hv:l[k]?=some v):w.cell? ⟨g,k,none⟩=some v:=by
  simp [World.cell?,h,hv]
theorem frozen_row {w:World} {g k:Nat} {l:List Value} {t:TypeId} (h:w.heap[g]?=some (.cells l.toArray t (0,0))):w.frozen? ⟨g,k,none⟩=false:=by
  simp [World.frozen?,h]
theorem set_row {w:World} {g k:Nat} {l:List Value} {t:TypeId} (h:w.heap[g]?=some (.cells l.toArray t (0,0))) (v:Value):(w.setCell ⟨g,k,none⟩ v).heap[g]?=some (.cells (l.set k v).toArray t (0,0)):=by
  rw [setCell_eq_setRow w g k _ t (0,0) v h,setRow_heap w g _ _ t _ h]
  simp
/-- All blocks that there were, but g, are as they were. -/
abbrev Turn (g:Nat) (w w':World):Prop:=w.grownBy w' (some g)
theorem Turn.refl (g:Nat) (w:World):Turn g w w:=⟨rfl,rfl,rfl,Nat.le_refl _,fun _ _ _=>rfl⟩
theorem Turn.trans {g:Nat} {a b c:World} (h:Turn g a b) (k:Turn g b c):Turn g a c :=
  ⟨k.os.trans h.os,k.tape.trans h.tape,k.output.trans h.output,Nat.le_trans h.size k.size,fun j hj hne=>(k.block j (Nat.lt_of_lt_of_le hj h.size) hne).trans (h.block j hj hne)⟩
theorem Turn.ofBelow {g:Nat} {w w':World} (h:Below w.heap.size w w'):Turn g w w':=⟨h.os,h.tape,h.output,h.size,fun j hj _=>h.block j hj⟩
theorem Turn.set {g:Nat} {w w':World} (h:Turn g w w') (k:Nat) (v:Value):Turn g w (w'.setCell ⟨g,k,none⟩ v):=by
  refine ⟨h.os,h.tape,h.output,by simpa using h.size,fun j hj hne=>?_⟩
  rw [Below.heap_setCell _ _ _ _ (fun e=>hne (congrArg some e))]
  exact h.block j hj hne
theorem Turn.alloc {g:Nat} {w w':World} (h:Turn g w w') (o:Obj):Turn g w (w'.alloc o):=h.trans (Turn.ofBelow (below_new (Below.refl _ w') o))
theorem Turn.drew {g:Nat} {w w':World} (h:Turn g w w'):Turn g w w'.drew:=⟨h.os,h.tape,h.output,h.size,h.block⟩
theorem Turn.drewN {g:Nat} {w w':World} (h:Turn g w w') (d:Nat):Turn g w (w'.drewN d):=⟨h.os,h.tape,h.output,h.size,h.block⟩
theorem Turn.below {g B:Nat} {w w':World} (h:Turn g w w') (hB:B≤g) (hs:B≤w.heap.size):Below B w w':=⟨h.os,h.tape,h.output,h.size,fun j hj=>h.block j (by omega) (fun e=>by simp at e;omega)⟩
/-- The same world but for what was drawn. -/
structure Same (w w':World):Prop where
  os:w'.os=w.os
  tape:w'.tape=w.tape
  output:w'.output=w.output
  heap:w'.heap=w.heap
theorem Same.refl (w:World):Same w w:=⟨rfl,rfl,rfl,rfl⟩
theorem Same.drewN (w:World) (d:Nat):Same w (w.drewN d):=⟨rfl,rfl,rfl,rfl⟩
theorem Same.drew (w:World):Same w w.drew:=⟨rfl,rfl,rfl,rfl⟩
theorem Same.trans {a b c:World} (h:Same a b) (k:Same b c):Same a c:=⟨k.os.trans h.os,k.tape.trans h.tape,k.output.trans h.output,k.heap.trans h.heap⟩
theorem Same.below {w w':World} (h:Same w w'):Below w.heap.size w w':=⟨h.os,h.tape,h.output,by rw [h.heap];exact Nat.le_refl _,fun j _=>by rw [h.heap]⟩
/-- Only these blocks, of those that there were, may have turned. -/
structure Only (S:List Nat) (w w':World):Prop where
  os:w'.os=w.os
  tape:w'.tape=w.tape
  output:w'.output=w.output
  size:w.heap.size≤w'.heap.size
  block:∀ j,j < w.heap.size→j ∉ S→w'.heap[j]?=w.heap[j]?
theorem Only.refl (S:List Nat) (w:World):Only S w w:=⟨rfl,rfl,rfl,Nat.le_refl _,fun _ _ _=>rfl⟩
theorem Only.trans {S:List Nat} {a b c:World} (h:Only S a b) (k:Only S b c):Only S a c :=
  ⟨k.os.trans h.os,k.tape.trans h.tape,k.output.trans h.output,Nat.le_trans h.size k.size,fun j hj hne=>(k.block j (Nat.lt_of_lt_of_le hj h.size) hne).trans (h.block j hj hne)⟩
theorem Only.ofBelow {S:List Nat} {w w':World} (h:Below w.heap.size w w'):Only S w w':=⟨h.os,h.tape,h.output,h.size,fun j hj _=>h.block j hj⟩
theorem Only.ofTurn {S:List Nat} {g:Nat} {w w':World} (h:Turn g w w') (hg:g ∈ S):Only S w w':=⟨h.os,h.tape,h.output,h.size,fun j hj hne=>h.block j hj (fun e=>by
  have e':j=g:=by simpa using e
  exact hne (e' ▸ hg))⟩
theorem Only.below {S:List Nat} {B:Nat} {w w':World} (h:Only S w w') (hS:∀ j ∈ S,B≤j) (hB:B≤w.heap.size):Below B w w':=⟨h.os,h.tape,h.output,h.size,fun j hj=>h.block j (by omega) (fun e=>by have:=hS j e;omega)⟩
theorem Only.none {w w':World} (h:Only [] w w'):Below w.heap.size w w':=h.below (fun j hj=>by cases hj) (Nat.le_refl _)
theorem Only.mono {S T:List Nat} {w w':World} (h:Only S w w') (k:∀ j ∈ S,j ∈ T):Only T w w':=⟨h.os,h.tape,h.output,h.size,fun j hj hne=>h.block j hj (fun e=>hne (k j e))⟩
theorem Same.only {w w':World} (h:Same w w') (S:List Nat):Only S w w':=Only.ofBelow h.below
theorem Sl.same {w u:World} {v:Value} {vs:List Value} (t:Sl w v vs) (k:Same w u):Sl u v vs:=t.heap k.heap
def i64s (l:List Int):List Value:=l.map fun x=>Value.int .i64 x
theorem i64s_len (l:List Int):(i64s l).length=l.length:=by simp [i64s]
theorem i64s_at (l:List Int) (k:Nat) (h:k < l.length):(i64s l)[k]?=some (.int .i64 (l.getD k 0)):=by simp [i64s,List.getD_eq_getElem?_getD,List.getElem?_eq_getElem h]
theorem sl64_at {w:World} {ao:Option Addr} {n c k:Nat} {l:List Int} (h:Sl w (.slice ao n c) (i64s l)) (hk:k < l.length):∃ b off,ao=some ⟨b,off,none⟩∧w.cell? ⟨b,off+k,none⟩=some (.int .i64 (l.getD k 0)):=by
  rcases h with ⟨h0,_⟩ | ⟨b,off,cap,e,_,hl⟩
  · have:=congrArg List.length h0
    rw [i64s_len] at this
    simp at this
    simp [this] at hk
  · simp only [Value.slice.injEq] at e
    exact ⟨b,off,e.1,hl k _ (i64s_at l k hk)⟩
theorem take_eq_succ {a b:List Int} {k:Nat} (h:a.take k=b.take k) (ha:k < a.length) (hb:k < b.length) (e:a.getD k 0=b.getD k 0):a.take (k+1)=b.take (k+1):=by
  rw [List.getD_eq_getElem?_getD,List.getD_eq_getElem?_getD,List.getElem?_eq_getElem ha,List.getElem?_eq_getElem hb] at e
  rw [List.take_add_one,List.take_add_one,h,List.getElem?_eq_getElem ha,List.getElem?_eq_getElem hb]
  simp only [Option.getD_some] at e
  rw [e]
theorem info_parts {P:Program} {t:TypeId} {z:Value} {n b:Nat} (h:(P.info? t).map (fun i=>(i.zero,i.size,i.bytes))=some (some z,n,b)):∃ i,P.info? t=some i∧i.zero=some z∧i.size=n∧i.bytes=b:=by
  cases hq:P.info? t with
  | none=>rw [hq] at h;cases h
  | some i=>rw [hq] at h;simp at h;exact ⟨i,rfl,h.1,h.2.1,h.2.2⟩
theorem one_nums (l:List Int):∀ u ∈ i64s l,u.oneCell'=true:=by
  intro u hu
  simp only [i64s,List.mem_map] at hu
  obtain ⟨x,_,rfl⟩:=hu
  rfl
theorem own_shape {w:World} {base n:Nat} {e:TypeId} {v:Value} {vs:List Value} (h:w.ownsRow base e 1 v n vs):∃ ao c,v=.slice ao n c:=by
  rcases h.2 with ⟨rfl,h0⟩ | ⟨g,cap,cur,rfl,_⟩
  · exact ⟨none,0,by rw [h0]⟩
  · exact ⟨_,_,rfl⟩
theorem own_at {w:World} {base n s:Nat} {e:TypeId} {v:Value} {vs:List Value} (h:w.ownsRow base e s v n vs) (h0:0 < n):∃ g c,v=.slice (some ⟨g,0,none⟩) n c:=by
  rcases h.2 with ⟨_,h'⟩ | ⟨g,cap,cur,e,_⟩
  · omega
  · exact ⟨g,cap,e⟩
theorem take_snocL {α:Type} (l:List α) (k:Nat) (h:k < l.length):l.take (k+1)=l.take k ++ [l[k]'h]:=by
  rw [List.take_add_one,List.getElem?_eq_getElem h];rfl
theorem lies_new (w:World) (vs:List Value) (e:TypeId):Lies (w.alloc (.cells vs.toArray e)) w.heap.size 0 vs:=by
  intro k u hk
  rw [Nat.zero_add]
  exact cell_row (l:=vs) (t:=e) (heap_alloc_new w _) hk
theorem below_new1 (w:World) (o:Obj):Below w.heap.size w (w.alloc o):=below_new (Below.refl _ w) o
end Go.Proofs.YthjclogkcmomkaaGreatDoor
namespace Go.Proofs.YthjclogkcmomkaaGreatDoor
open Go.RowKit
namespace Fb
def tx (l:List UInt8):ByteArray:=⟨l.toArray⟩
/-- The blocks' names. -/
def nml (k:Nat):List UInt8:=match k with
  | 0=>[84,79,78] | 1=>[84,79,70] | 2=>[84,80] | 3=>[67,84,85] | 4=>[67,84,68] | 5=>[67,84,85,68]
  | 6=>[82,95,84,82,73,71] | 7=>[70,95,84,82,73,71] | 8=>[83,82] | 9=>[82,83] | _=>[]
def nm (k:Nat):ByteArray:=tx (nml k)
/-- Their pins: names, kinds. -/
def pI (k:Nat):List (List UInt8 × Int):=match k with
  | 0 | 1 | 2=>[([73,78],1),([80,84],11)]
  | 3=>[([67,85],1),([82],1),([80,86],3)]
  | 4=>[([67,68],1),([76,68],1),([80,86],3)]
  | 5=>[([67,85],1),([67,68],1),([82],1),([76,68],1),([80,86],3)]
  | 6 | 7=>[([67,76,75],1)]
  | 8=>[([83,49],1),([82],1)]
  | 9=>[([83],1),([82,49],1)]
  | _=>[]
def pO (k:Nat):List (List UInt8 × Int):=match k with
  | 0 | 1 | 2=>[([81],1),([69,84],11)]
  | 3 | 4=>[([81],1),([67,86],3)]
  | 5=>[([81,85],1),([81,68],1),([67,86],3)]
  | 6 | 7=>[([81],1)]
  | 8 | 9=>[([81,49],1)]
  | _=>[]
end Fb
open Fb
theorem ret_bool {a b:Bool} (h:a=b):Ending.returned (.bool a)=.returned (.bool b):=by rw [h]
theorem ret_int {a b:Int} (h:a=b):Ending.returned (.int .i64 a)=.returned (.int .i64 b):=by rw [h]
/-- No block bears this name. -/
def Nob (s:ByteArray):Prop:=∀ k,k < 10→(s.toList == nml k)=false
/-- A row of pins in memory. -/
def prow (l:List (List UInt8 × Int)):List Value:=l.flatMap fun p=>[.string (tx p.1),.int .i64 p.2]
theorem prow_len (l:List (List UInt8 × Int)):(prow l).length=2 * l.length:=by
  induction l with
  | nil=>rfl
  | cons a l ih=>simp only [prow,List.flatMap_cons,List.length_append,List.length_cons,List.length_nil] at *;omega
theorem Tryz.infoStr:(Tryz.prog.info? 9).map (fun i=>(i.zero,i.size,i.bytes))=some (some (.string ⟨#[]⟩),1,16):=by kernel_rfl
def strs (l:List (List UInt8 × Int)):List Value:=l.map fun p=>Value.string (tx p.1)
theorem strs_len (l:List (List UInt8 × Int)):(strs l).length=l.length:=by simp [strs]
theorem strs_app (a b:List (List UInt8 × Int)):strs (a ++ b)=strs a ++ strs b:=by simp [strs]
theorem prow_at:∀ (l:List (List UInt8 × Int)) (k:Nat) (h:k < l.length),(prow l)[k * 2]?=some (.string (tx (l[k]'h).1))∧(prow l)[k * 2+1]?=some (.int .i64 (l[k]'h).2)
  | [],k,h=>by simp at h
  | a :: l,0,h=>by simp [prow]
  | a :: l,k+1,h=>by
    have:=prow_at l k (by simpa using h)
    have e:prow (a :: l)=[.string (tx a.1),.int .i64 a.2] ++ prow l:=by simp [prow]
    rw [e,show (k+1) * 2=k * 2+2 by omega,show k * 2+2+1=k * 2+1+2 by omega]
    rw [List.getElem?_append_right (by simp),List.getElem?_append_right (by simp)]
    simpa using this
/-- The kind of the first pin of that name. -/
def kdf (q:List UInt8):List (List UInt8 × Int)→Int
  | []=>0
  | p :: l=>if p.1=q then p.2 else kdf q l
theorem pI_le (k:Nat):(pI k).length≤5:=by unfold pI;split <;> simp
theorem pO_le (k:Nat):(pO k).length≤3:=by unfold pO;split <;> simp
theorem tx_eq (a b:List UInt8):((tx a).toList == (tx b).toList)=decide (a=b):=by
  rw [ByteArray.toList_eq,ByteArray.toList_eq]
  show (a == b)=decide (a=b)
  by_cases h:a=b
  · subst h;simp
  · rw [decide_eq_false h,beq_eq_false_iff_ne];exact h
theorem kdf_drop {l:List (List UInt8 × Int)} {q:List UInt8} {k:Nat} (h:k < l.length):kdf q (l.drop k)=if (l[k]'h).1=q then (l[k]'h).2 else kdf q (l.drop (k+1)):=by
  rw [List.drop_eq_getElem_cons h];rfl
theorem pI_pos (k:Nat) (hk:k < 10):0 < (pI k).length:=by
  match k,hk with
  | 0,_=>exact (by decide)
  | 1,_=>exact (by decide)
  | 2,_=>exact (by decide)
  | 3,_=>exact (by decide)
  | 4,_=>exact (by decide)
  | 5,_=>exact (by decide)
  | 6,_=>exact (by decide)
  | 7,_=>exact (by decide)
  | 8,_=>exact (by decide)
  | 9,_=>exact (by decide)
end Go.Proofs.YthjclogkcmomkaaGreatDoor
namespace Go.Proofs.YthjclogkcmomkaaGreatDoor
open Go.RowKit
/-- The first k of these, zeros behind. -/
def part (l:List Int) (k:Nat):List Int:=l.take k ++ List.replicate (l.length - k) 0
theorem part_len (l:List Int) (k:Nat):(part l k).length=l.length:=by simp [part];omega
theorem part_at (l:List Int) (k j:Nat):(part l k)[j]?=if j < l.length then (if j < k then l[j]? else some 0) else none:=by
  simp only [part,List.getElem?_append,List.length_take,List.getElem?_take,List.getElem?_replicate]
  by_cases hl:j < l.length
  · rw [if_pos hl]
    by_cases hj:j < k
    · rw [if_pos (by rw [Nat.lt_min];exact ⟨hj,hl⟩),if_pos hj,if_pos hj]
    · rw [if_neg (by rw [Nat.lt_min];omega),if_neg hj,if_pos (by rw [Nat.min_eq_left (by omega)];omega)]
  · rw [if_neg hl,if_neg (by rw [Nat.lt_min];omega),if_neg]
    by_cases hk:k≤l.length
    · rw [Nat.min_eq_left hk];omega
    · rw [Nat.min_eq_right (by omega)];omega
theorem part_next (l:List Int) (k:Nat) (h:k < l.length):(part l k).set k (l.getD k 0)=part l (k+1):=by
  apply List.ext_getElem?
  intro j
  rw [List.getElem?_set,part_len,part_at,part_at]
  by_cases e:k=j
  · subst e
    rw [if_pos rfl,if_pos h,if_pos h,if_pos (by omega),List.getD_eq_getElem?_getD,List.getElem?_eq_getElem h]
    rfl
  · rw [if_neg e]
    by_cases hl:j < l.length
    · rw [if_pos hl,if_pos hl]
      by_cases hj:j < k
      · rw [if_pos hj,if_pos (by omega)]
      · rw [if_neg hj,if_neg (by omega)]
    · rw [if_neg hl,if_neg hl]
theorem part_all (l:List Int) (k:Nat) (h:l.length≤k):part l k=l:=by simp [part,List.take_of_length_le h,Nat.sub_eq_zero_of_le h]
theorem part_zero (l:List Int):part l 0=List.replicate l.length 0:=by simp [part]
theorem i64s_set (l:List Int) (i:Nat) (x:Int):i64s (l.set i x)=(i64s l).set i (.int .i64 x):=by simp [i64s,List.map_set]
end Go.Proofs.YthjclogkcmomkaaGreatDoor
namespace Go.Proofs.YthjclogkcmomkaaGreatDoor
open Go.RowKit
open Fb
/-- A row of five pins. -/
def p5 (l:List (List UInt8 × Int)):List Value:=prow l ++ ((List.replicate (5 - l.length) [Value.string ⟨#[]⟩,Value.int .i64 0]).flatten)
/-- Pins with names, five at most. -/
structure Pn (l:List (List UInt8 × Int)):Prop where
  le:l.length≤5
  ne:∀ p,p ∈ l→p.1 ≠ []
theorem p5_at {l:List (List UInt8 × Int)} (k:Nat) (h:k < l.length):(p5 l)[k * 2]?=some (.string (tx (l[k]'h).1))∧(p5 l)[k * 2+1]?=some (.int .i64 (l[k]'h).2):=by
  have q:=prow_at l k h
  have e:=prow_len l
  unfold p5
  rw [List.getElem?_append_left (by omega),List.getElem?_append_left (by omega)]
  exact q
theorem p5_end {l:List (List UInt8 × Int)} (h:l.length < 5):(p5 l)[l.length * 2]?=some (.string ⟨#[]⟩):=by
  have e:=prow_len l
  unfold p5
  rw [List.getElem?_append_right (by omega),e,show l.length * 2 - 2 * l.length=0 by omega]
  obtain ⟨m,hm⟩:∃ m,5 - l.length=m+1:=⟨4 - l.length,by omega⟩
  rw [hm,List.replicate_succ,List.flatten_cons]
  rfl
theorem pI_pn (k:Nat) (hk:k < 10):Pn (pI k):=by
  match k,hk with
  | 0,_=>exact ⟨by decide,by decide⟩
  | 1,_=>exact ⟨by decide,by decide⟩
  | 2,_=>exact ⟨by decide,by decide⟩
  | 3,_=>exact ⟨by decide,by decide⟩
  | 4,_=>exact ⟨by decide,by decide⟩
  | 5,_=>exact ⟨by decide,by decide⟩
  | 6,_=>exact ⟨by decide,by decide⟩
  | 7,_=>exact ⟨by decide,by decide⟩
  | 8,_=>exact ⟨by decide,by decide⟩
  | 9,_=>exact ⟨by decide,by decide⟩
theorem pO_pn (k:Nat) (hk:k < 10):Pn (pO k):=by
  match k,hk with
  | 0,_=>exact ⟨by decide,by decide⟩
  | 1,_=>exact ⟨by decide,by decide⟩
  | 2,_=>exact ⟨by decide,by decide⟩
  | 3,_=>exact ⟨by decide,by decide⟩
  | 4,_=>exact ⟨by decide,by decide⟩
  | 5,_=>exact ⟨by decide,by decide⟩
  | 6,_=>exact ⟨by decide,by decide⟩
  | 7,_=>exact ⟨by decide,by decide⟩
  | 8,_=>exact ⟨by decide,by decide⟩
  | 9,_=>exact ⟨by decide,by decide⟩
theorem pO_pos (k:Nat) (hk:k < 10):0 < (pO k).length:=by
  match k,hk with
  | 0,_=>exact (by decide)
  | 1,_=>exact (by decide)
  | 2,_=>exact (by decide)
  | 3,_=>exact (by decide)
  | 4,_=>exact (by decide)
  | 5,_=>exact (by decide)
  | 6,_=>exact (by decide)
  | 7,_=>exact (by decide)
  | 8,_=>exact (by decide)
  | 9,_=>exact (by decide)
end Go.Proofs.YthjclogkcmomkaaGreatDoor
namespace Go.Proofs.YthjclogkcmomkaaGreatDoor
open Go.RowKit
open Fb
set_option maxHeartbeats 400000 in
theorem pinsOf_0 (w:World):Calls Tryz.prog 127 #[.string (nm 0)] w fun e w'=>e=.returned (.tuple #[.agg (p5 (pI 0)).toArray,.agg (p5 (pO 0)).toArray])∧Below w.heap.size w w':=by
  have B1:=hid_as (fun o o':Obj=>below_new (below_new1 w o) o')
  unfold nm nml tx
  go_enter Tryz.func127,Tryz.ntmps127
  go_wp2
  exact bodyPost_ret (v:=.tuple #[.agg (p5 (pI 0)).toArray,.agg (p5 (pO 0)).toArray]) (by simp [results,Tryz.results127,go_sem,p5,prow,pI,pO,tx]) rfl ⟨rfl,B1.out _ _⟩
set_option maxHeartbeats 400000 in
theorem pinsOf_1 (w:World):Calls Tryz.prog 127 #[.string (nm 1)] w fun e w'=>e=.returned (.tuple #[.agg (p5 (pI 1)).toArray,.agg (p5 (pO 1)).toArray])∧Below w.heap.size w w':=by
  have B1:=hid_as (fun o o':Obj=>below_new (below_new1 w o) o')
  unfold nm nml tx
  go_enter Tryz.func127,Tryz.ntmps127
  go_wp2
  exact bodyPost_ret (v:=.tuple #[.agg (p5 (pI 1)).toArray,.agg (p5 (pO 1)).toArray]) (by simp [results,Tryz.results127,go_sem,p5,prow,pI,pO,tx]) rfl ⟨rfl,B1.out _ _⟩
set_option maxHeartbeats 400000 in
theorem pinsOf_2 (w:World):Calls Tryz.prog 127 #[.string (nm 2)] w fun e w'=>e=.returned (.tuple #[.agg (p5 (pI 2)).toArray,.agg (p5 (pO 2)).toArray])∧Below w.heap.size w w':=by
  have B1:=hid_as (fun o o':Obj=>below_new (below_new1 w o) o')
  unfold nm nml tx
  go_enter Tryz.func127,Tryz.ntmps127
  go_wp2
  exact bodyPost_ret (v:=.tuple #[.agg (p5 (pI 2)).toArray,.agg (p5 (pO 2)).toArray]) (by simp [results,Tryz.results127,go_sem,p5,prow,pI,pO,tx]) rfl ⟨rfl,B1.out _ _⟩
set_option maxHeartbeats 400000 in
theorem pinsOf_3 (w:World):Calls Tryz.prog 127 #[.string (nm 3)] w fun e w'=>e=.returned (.tuple #[.agg (p5 (pI 3)).toArray,.agg (p5 (pO 3)).toArray])∧Below w.heap.size w w':=by
  have B1:=hid_as (fun o o':Obj=>below_new (below_new1 w o) o')
  unfold nm nml tx
  go_enter Tryz.func127,Tryz.ntmps127
  go_wp2
  exact bodyPost_ret (v:=.tuple #[.agg (p5 (pI 3)).toArray,.agg (p5 (pO 3)).toArray]) (by simp [results,Tryz.results127,go_sem,p5,prow,pI,pO,tx]) rfl ⟨rfl,B1.out _ _⟩
set_option maxHeartbeats 400000 in
theorem pinsOf_4 (w:World):Calls Tryz.prog 127 #[.string (nm 4)] w fun e w'=>e=.returned (.tuple #[.agg (p5 (pI 4)).toArray,.agg (p5 (pO 4)).toArray])∧Below w.heap.size w w':=by
  have B1:=hid_as (fun o o':Obj=>below_new (below_new1 w o) o')
  unfold nm nml tx
  go_enter Tryz.func127,Tryz.ntmps127
  go_wp2
  exact bodyPost_ret (v:=.tuple #[.agg (p5 (pI 4)).toArray,.agg (p5 (pO 4)).toArray]) (by simp [results,Tryz.results127,go_sem,p5,prow,pI,pO,tx]) rfl ⟨rfl,B1.out _ _⟩
end Go.Proofs.YthjclogkcmomkaaGreatDoor
namespace Go.Proofs.YthjclogkcmomkaaGreatDoor
open Go.RowKit
open Fb
set_option maxHeartbeats 400000 in
theorem pinsOf_5 (w:World):Calls Tryz.prog 127 #[.string (nm 5)] w fun e w'=>e=.returned (.tuple #[.agg (p5 (pI 5)).toArray,.agg (p5 (pO 5)).toArray])∧Below w.heap.size w w':=by
  have B1:=hid_as (fun o o':Obj=>below_new (below_new1 w o) o')
  unfold nm nml tx
  go_enter Tryz.func127,Tryz.ntmps127
  go_wp2
  exact bodyPost_ret (v:=.tuple #[.agg (p5 (pI 5)).toArray,.agg (p5 (pO 5)).toArray]) (by simp [results,Tryz.results127,go_sem,p5,prow,pI,pO,tx]) rfl ⟨rfl,B1.out _ _⟩
set_option maxHeartbeats 400000 in
theorem pinsOf_6 (w:World):Calls Tryz.prog 127 #[.string (nm 6)] w fun e w'=>e=.returned (.tuple #[.agg (p5 (pI 6)).toArray,.agg (p5 (pO 6)).toArray])∧Below w.heap.size w w':=by
  have B1:=hid_as (fun o o':Obj=>below_new (below_new1 w o) o')
  unfold nm nml tx
  go_enter Tryz.func127,Tryz.ntmps127
  go_wp2
  exact bodyPost_ret (v:=.tuple #[.agg (p5 (pI 6)).toArray,.agg (p5 (pO 6)).toArray]) (by simp [results,Tryz.results127,go_sem,p5,prow,pI,pO,tx]) rfl ⟨rfl,B1.out _ _⟩
set_option maxHeartbeats 400000 in
theorem pinsOf_7 (w:World):Calls Tryz.prog 127 #[.string (nm 7)] w fun e w'=>e=.returned (.tuple #[.agg (p5 (pI 7)).toArray,.agg (p5 (pO 7)).toArray])∧Below w.heap.size w w':=by
  have B1:=hid_as (fun o o':Obj=>below_new (below_new1 w o) o')
  unfold nm nml tx
  go_enter Tryz.func127,Tryz.ntmps127
  go_wp2
  exact bodyPost_ret (v:=.tuple #[.agg (p5 (pI 7)).toArray,.agg (p5 (pO 7)).toArray]) (by simp [results,Tryz.results127,go_sem,p5,prow,pI,pO,tx]) rfl ⟨rfl,B1.out _ _⟩
set_option maxHeartbeats 400000 in
theorem pinsOf_8 (w:World):Calls Tryz.prog 127 #[.string (nm 8)] w fun e w'=>e=.returned (.tuple #[.agg (p5 (pI 8)).toArray,.agg (p5 (pO 8)).toArray])∧Below w.heap.size w w':=by
  have B1:=hid_as (fun o o':Obj=>below_new (below_new1 w o) o')
  unfold nm nml tx
  go_enter Tryz.func127,Tryz.ntmps127
  go_wp2
  exact bodyPost_ret (v:=.tuple #[.agg (p5 (pI 8)).toArray,.agg (p5 (pO 8)).toArray]) (by simp [results,Tryz.results127,go_sem,p5,prow,pI,pO,tx]) rfl ⟨rfl,B1.out _ _⟩
set_option maxHeartbeats 400000 in
theorem pinsOf_9 (w:World):Calls Tryz.prog 127 #[.string (nm 9)] w fun e w'=>e=.returned (.tuple #[.agg (p5 (pI 9)).toArray,.agg (p5 (pO 9)).toArray])∧Below w.heap.size w w':=by
  have B1:=hid_as (fun o o':Obj=>below_new (below_new1 w o) o')
  unfold nm nml tx
  go_enter Tryz.func127,Tryz.ntmps127
  go_wp2
  exact bodyPost_ret (v:=.tuple #[.agg (p5 (pI 9)).toArray,.agg (p5 (pO 9)).toArray]) (by simp [results,Tryz.results127,go_sem,p5,prow,pI,pO,tx]) rfl ⟨rfl,B1.out _ _⟩
set_option maxHeartbeats 800000 in
theorem pinsOf_none (s:ByteArray) (h:Nob s) (w:World):Calls Tryz.prog 127 #[.string s] w fun e w'=>e=.returned (.tuple #[.agg (p5 []).toArray,.agg (p5 []).toArray])∧Below w.heap.size w w':=by
  have B1:=hid_as (fun o o':Obj=>below_new (below_new1 w o) o')
  have h0:=h 0 (by decide)
  have h1:=h 1 (by decide)
  have h2:=h 2 (by decide)
  have h3:=h 3 (by decide)
  have h4:=h 4 (by decide)
  have h5:=h 5 (by decide)
  have h6:=h 6 (by decide)
  have h7:=h 7 (by decide)
  have h8:=h 8 (by decide)
  have h9:=h 9 (by decide)
  simp only [nml] at h0 h1 h2 h3 h4 h5 h6 h7 h8 h9
  go_enter Tryz.func127,Tryz.ntmps127
  go_wp2
  exact bodyPost_ret (v:=.tuple #[.agg (p5 []).toArray,.agg (p5 []).toArray]) (by simp [results,Tryz.results127,go_sem,p5,prow,tx]) rfl ⟨rfl,B1.out _ _⟩
end Go.Proofs.YthjclogkcmomkaaGreatDoor
namespace Go.Proofs.YthjclogkcmomkaaGreatDoor
open Go.RowKit
namespace Fb
def w16 (n:Int):Int:=(n+32768) % 65536 - 32768
def w32 (n:Int):Int:=(n+2147483648) % 4294967296 - 2147483648
def b01 (b:Bool):Int:=if b then 1 else 0
def tr (n:Int):Bool:=n != 0
/-- A number as one of a kind that blocks have. -/
def wkd (k n:Int):Int:=if k=1 then b01 (tr n) else if k=3 then w16 n else w32 n
theorem wkd_0 (k:Int):wkd k 0=0:=by
  unfold wkd
  by_cases h1:k=1
  · rw [if_pos h1];rfl
  · rw [if_neg h1]
    by_cases h3:k=3
    · rw [if_pos h3];rfl
    · rw [if_neg h3];rfl
theorem w32_ok (n:Int):-2147483648≤w32 n∧w32 n≤2147483647:=by unfold w32;omega
theorem w16_ok (n:Int):-32768≤w16 n∧w16 n≤32767:=by unfold w16;omega
/-- What a step tells: the outputs, what is kept. -/
structure Rs where
  o:List Int
  k0:Int
  k1:Int
  k2:Int
def one (a b:Int):Bool:=tr a && !tr b
def since (nw k:Int):Int:=max (w32 (nw - k)) 0
def el (pt nw k:Int):Int:=min (since nw k) pt
/-- TON, of an input, PT not below 0, what is kept, the clock. -/
def ton (a:Bool) (pt k0 k1 k2 nw:Int):Rs :=
  let k1':=if a && !tr k0 then nw else k1
  let k2':=if a && !tr k0 then 0 else k2
  if a then
    if k2'=1 then ⟨[1,pt],1,k1',1⟩
    else ⟨[b01 (decide (pt≤el pt nw k1')),el pt nw k1'],1,k1',b01 (decide (pt≤el pt nw k1'))⟩
  else ⟨[0,0],0,k1',0⟩
def tof (a:Bool) (pt et k0 k1 k2 nw:Int):Rs :=
  if a then ⟨[1,0],1,k1,0⟩
  else
    let k1':=if tr k0 then nw else k1
    let k2':=if tr k0 then 1 else k2
    if k2'=0 then ⟨[0,et],0,k1',0⟩
    else ⟨[b01 (decide (el pt nw k1' < pt)),el pt nw k1'],0,k1',if el pt nw k1' < pt then k2' else 0⟩
def tp (a:Bool) (pt et k0 k1 k2 nw:Int):Rs :=
  let go:=a && !tr k0 && !decide (k2=1)
  let k1':=if go then nw else k1
  let k2':=if go then 1 else k2
  let et':=if k2'=1 then el pt nw k1' else et
  let q:=decide (k2'=1) && decide (el pt nw k1' < pt)
  let k3:=if k2'=1∧¬ el pt nw k1' < pt then 2 else k2'
  if k3 ≠ 1∧a=false then ⟨[b01 q,0],b01 a,k1',0⟩ else ⟨[b01 q,et'],b01 a,k1',k3⟩
def ctu (a b:Bool) (pv cv k0 k1 k2:Int):Rs :=
  let c:=if b then 0 else if a && !tr k0 then min (cv+1) 32767 else cv
  ⟨[b01 (decide (pv≤c)),c],b01 a,k1,k2⟩
def ctd (a b:Bool) (pv cv k0 k1 k2:Int):Rs :=
  let c:=if b then pv else if a && !tr k0 then max (cv - 1) (-32768) else cv
  ⟨[b01 (decide (c≤0)),c],b01 a,k1,k2⟩
def ctud (a b r l:Bool) (pv cv k0 k1 k2:Int):Rs :=
  let up:=a && !tr k0
  let dn:=b && !tr k1
  let c:=if r then 0 else if l then pv else if up && !dn then min (cv+1) 32767 else if dn && !up then max (cv - 1) (-32768) else cv
  ⟨[b01 (decide (pv≤c)),b01 (decide (c≤0)),c],b01 a,b01 b,k2⟩
/-- The blocks in the laws' order: TON, TOF, TP, CTU, CTD, CTUD, R_TRIG, F_TRIG, SR, RS. -/
def stp (k:Nat) (i o:List Int) (p0 p1 p2 t:Int):Rs :=
  let a:=tr (i.getD 0 0)
  let b:=tr (i.getD 1 0)
  let k0:=w32 p0
  let k1:=w32 p1
  let k2:=w32 p2
  let nw:=w32 t
  match k with
  | 0=>ton a (max (w32 (i.getD 1 0)) 0) k0 k1 k2 nw
  | 1=>tof a (max (w32 (i.getD 1 0)) 0) (w32 (o.getD 1 0)) k0 k1 k2 nw
  | 2=>tp a (max (w32 (i.getD 1 0)) 0) (w32 (o.getD 1 0)) k0 k1 k2 nw
  | 3=>ctu a b (w16 (i.getD 2 0)) (w16 (o.getD 1 0)) k0 k1 k2
  | 4=>ctd a b (w16 (i.getD 2 0)) (w16 (o.getD 1 0)) k0 k1 k2
  | 5=>ctud a b (tr (i.getD 2 0)) (tr (i.getD 3 0)) (w16 (i.getD 4 0)) (w16 (o.getD 2 0)) k0 k1 k2
  | 6=>⟨[b01 (a && !tr k0)],b01 a,k1,k2⟩
  | 7=>⟨[b01 (!a && tr k0)],b01 a,k1,k2⟩
  | 8=>⟨[b01 (a || (tr (o.getD 0 0) && !b))],k0,k1,k2⟩
  | 9=>⟨[b01 (!b && (a || tr (o.getD 0 0)))],k0,k1,k2⟩
  | _=>⟨[],0,0,0⟩
end Fb
end Go.Proofs.YthjclogkcmomkaaGreatDoor
namespace Go.Proofs.YthjclogkcmomkaaGreatDoor
open Go.RowKit
open Fb
theorem ptr_of {k:Int} (h:(k != 0)=true):tr k=true:=h
theorem pton_edge {pt k1 k2 nw:Int}:ton true pt 0 k1 k2 nw=⟨[b01 (decide (pt≤el pt nw nw)),el pt nw nw],1,nw,b01 (decide (pt≤el pt nw nw))⟩:=by
  simp [ton,show tr 0=false from rfl]
theorem pton_done {pt k0 k1 nw:Int} (h:(k0 != 0)=true):ton true pt k0 k1 1 nw=⟨[1,pt],1,k1,1⟩:=by
  simp [ton,ptr_of h]
theorem pton_wait {pt k0 k1 k2 nw:Int} (h:(k0 != 0)=true) (h2:¬ k2=1):ton true pt k0 k1 k2 nw=⟨[b01 (decide (pt≤el pt nw k1)),el pt nw k1],1,k1,b01 (decide (pt≤el pt nw k1))⟩:=by
  simp [ton,ptr_of h,h2]
theorem ptof_fall {pt et k0 k1 k2 nw:Int} (h:(k0 != 0)=true):tof false pt et k0 k1 k2 nw=⟨[b01 (decide (el pt nw nw < pt)),el pt nw nw],0,nw,if el pt nw nw < pt then 1 else 0⟩:=by
  simp [tof,ptr_of h]
theorem ptof_idle {pt et k1 nw:Int}:tof false pt et 0 k1 0 nw=⟨[0,et],0,k1,0⟩:=by
  simp [tof,show tr 0=false from rfl]
theorem ptof_run {pt et k1 k2 nw:Int} (h:¬ k2=0):tof false pt et 0 k1 k2 nw=⟨[b01 (decide (el pt nw k1 < pt)),el pt nw k1],0,k1,if el pt nw k1 < pt then k2 else 0⟩:=by
  simp [tof,show tr 0=false from rfl,h]
theorem ptp_go {pt et k1 k2 nw:Int} (h:¬ k2=1):tp true pt et 0 k1 k2 nw=if el pt nw nw < pt then ⟨[1,el pt nw nw],1,nw,1⟩ else ⟨[0,el pt nw nw],1,nw,2⟩:=by
  by_cases e:el pt nw nw < pt <;> simp [tp,show tr 0=false from rfl,h,e,b01]
theorem ptp_run {pt et k0 k1 nw:Int}:tp true pt et k0 k1 1 nw=if el pt nw k1 < pt then ⟨[1,el pt nw k1],1,k1,1⟩ else ⟨[0,el pt nw k1],1,k1,2⟩:=by
  by_cases e:el pt nw k1 < pt <;> simp [tp,e,b01]
theorem ptp_hold {pt et k0 k1 k2 nw:Int} (h:(k0 != 0)=true) (h2:¬ k2=1):tp true pt et k0 k1 k2 nw=⟨[0,et],1,k1,k2⟩:=by
  simp [tp,ptr_of h,h2,b01]
theorem ptp_off1 {pt et k0 k1 nw:Int}:tp false pt et k0 k1 1 nw=if el pt nw k1 < pt then ⟨[1,el pt nw k1],0,k1,1⟩ else ⟨[0,0],0,k1,0⟩:=by
  by_cases e:el pt nw k1 < pt <;> simp [tp,e,b01]
theorem ptp_off {pt et k0 k1 k2 nw:Int} (h2:¬ k2=1):tp false pt et k0 k1 k2 nw=⟨[0,0],0,k1,0⟩:=by
  simp [tp,h2,b01]
theorem pctu_hold {pv cv k0 k1 k2:Int} (h:tr k0=true):ctu true false pv cv k0 k1 k2=⟨[b01 (decide (pv≤cv)),cv],b01 true,k1,k2⟩:=by simp [ctu,h]
theorem pctu_up {pv cv k1 k2:Int} (h:cv < 32767):ctu true false pv cv 0 k1 k2=⟨[b01 (decide (pv≤cv+1)),cv+1],b01 true,k1,k2⟩:=by
  simp only [ctu,show tr 0=false from rfl,Bool.false_eq_true,if_false,Bool.not_false,Bool.and_self,if_true,show min (cv+1) 32767=cv+1 by omega]
theorem pctu_top {pv k1 k2:Int} (h:pv≤32767):ctu true false pv 32767 0 k1 k2=⟨[b01 true,32767],b01 true,k1,k2⟩:=by
  rw [show ctu true false pv 32767 0 k1 k2=⟨[b01 (decide (pv≤32767)),32767],b01 true,k1,k2⟩ from rfl,decide_eq_true h]
theorem pctd_hold {pv cv k0 k1 k2:Int} (h:tr k0=true):ctd true false pv cv k0 k1 k2=⟨[b01 (decide (cv≤0)),cv],b01 true,k1,k2⟩:=by simp [ctd,h]
theorem pctd_up {pv cv k1 k2:Int} (h:-32768 < cv):ctd true false pv cv 0 k1 k2=⟨[b01 (decide (cv - 1≤0)),cv - 1],b01 true,k1,k2⟩:=by
  simp only [ctd,show tr 0=false from rfl,Bool.false_eq_true,if_false,Bool.not_false,Bool.and_self,if_true,show max (cv - 1) (-32768)=cv - 1 by omega]
theorem pctd_top {pv k1 k2:Int}:ctd true false pv (-32768) 0 k1 k2=⟨[b01 true,-32768],b01 true,k1,k2⟩:=rfl
end Go.Proofs.YthjclogkcmomkaaGreatDoor
