/- Values in memory: rows, slices, what has turned (stage 20). · A map of numbers in memory: what is looked up, what is put (stage 20). -/
import Derived.Test.YthjclogkcmomkaaGreatDoorProg
import Derived.WalkKit
import Derived.WalkSpells
import Derived.WalkLawsBesides
import Derived.Laws.NewBlocks
import Derived.Laws.AppendOwnNone
import Derived.OwnWalk
import Derived.BigQuiet
import Derived.Deep.QuietTactic
import Derived.Deep.RegionLaw
import Derived.Laws.BytesArg
import Derived.Lib.AppendZeros
import Derived.Deep.OwnRows
import Derived.Deep.RegionHeld3
import Derived.Deep.Cut
import Derived.Deep.RegionWith
import Derived.Maps.Keyed
import Derived.Carry
namespace Go.Proofs.YthjclogkcmomkaaGreatDoor
open Go.RowKit
/-- The values vs lie in block b from off on. -/
def Lies (w:World) (b off:Nat) (vs:List Value):Prop:=∀ k u,vs[k]?=some u→w.cell? ⟨b,off+k,none⟩=some u
/-- A slice value of these values, in this world. -/
def Sl (w:World) (v:Value) (vs:List Value):Prop:=(vs=[]∧∃ ao cap,v=.slice ao 0 cap∧(ao=none→cap=0)) ∨ ∃ b off cap,v=.slice (some ⟨b,off,none⟩) vs.length cap∧vs.length≤cap∧Lies w b off vs
theorem lt_of_cell {w:World} {a:Addr} {v:Value} (h:w.cell? a=some v):a.block < w.heap.size:=World.block_lt_of_cell? w a h
theorem Lies.below {w u:World} {b off:Nat} {vs:List Value} (h:Lies w b off vs) (k:Below w.heap.size w u):Lies u b off vs:=fun i x hx=>(k.cell (p:=⟨b,off+i,none⟩) (lt_of_cell (h i x hx))).trans (h i x hx)
theorem Lies.kept {w u:World} {b off:Nat} {vs:List Value} (h:Lies w b off vs) (k:u.heap[b]?=w.heap[b]?):Lies u b off vs:=fun i x hx=>(World.cell?_of_block (w:=w) (a:=⟨b,off+i,none⟩) k).trans (h i x hx)
theorem Sl.below {w u:World} {v:Value} {vs:List Value} (h:Sl w v vs) (k:Below w.heap.size w u):Sl u v vs:=by
  rcases h with h | ⟨b,off,cap,rfl,hcap,hc⟩
  · exact Or.inl h
  · exact Or.inr ⟨b,off,cap,rfl,hcap,hc.below k⟩
theorem Sl.shape {w:World} {v:Value} {vs:List Value} (h:Sl w v vs):∃ ao c,v=.slice ao vs.length c:=by
  rcases h with ⟨rfl,ao,cap,rfl,_⟩ | ⟨b,off,cap,rfl,_⟩
  · exact ⟨ao,cap,rfl⟩
  · exact ⟨_,_,rfl⟩
theorem Sl.nil (w:World):Sl w (.slice none 0 0) []:=Or.inl ⟨rfl,none,0,rfl,fun _=>rfl⟩
theorem own_sl {w:World} {base n:Nat} {e:TypeId} {v:Value} {vs:List Value} (h:w.ownsRow base e 1 v n vs):Sl w v vs:=by
  have hl:vs.length=n:=by simpa using h.1
  rcases h.2 with ⟨rfl,h0⟩ | ⟨g,cap,cur,rfl,hb,hg,hn,hm,hs,ht⟩
  · have:vs=[]:=List.length_eq_zero_iff.1 (by omega)
    subst this
    exact Sl.nil w
  · refine Or.inr ⟨g,0,cap,by rw [hl],by omega,fun j u hj=>?_⟩
    have hlt:j < n:=by have:=(List.getElem?_eq_some_iff.1 hj).1;omega
    rw [Nat.zero_add,h.cellAt j (by omega),hj]
theorem own_below {w u:World} {base n B:Nat} {e:TypeId} {v:Value} {vs:List Value} (h:w.ownsRow base e 1 v n vs) (k:Below B w u) (hB:w.heap.size≤B):u.ownsRow base e 1 v n vs:=by
  refine ⟨h.1,?_⟩
  rcases h.2 with h' | ⟨g,cap,cur,rfl,hb,hg,r⟩
  · exact Or.inl h'
  · have hlt:g < w.heap.size:=(h.lt g rfl).2
    exact Or.inr ⟨g,cap,cur,rfl,hb,(k.block g (by omega)).trans hg,r⟩
theorem own_base {w:World} {base base' n:Nat} {e:TypeId} {v:Value} {vs:List Value} (h:w.ownsRow base e 1 v n vs) (hb:base'≤base):w.ownsRow base' e 1 v n vs:=by
  refine ⟨h.1,?_⟩
  rcases h.2 with h' | ⟨g,cap,cur,rfl,hb',r⟩
  · exact Or.inl h'
  · exact Or.inr ⟨g,cap,cur,rfl,by omega,r⟩
theorem Lies.news {w:World} {b off:Nat} {vs:List Value} (hc:Lies w b off vs):∀ j u,vs[j]?=some u→w.cell? ((⟨b,off,none⟩:Addr).add j)=some u:=by
  intro j u hj
  have hplain:(⟨b,off,none⟩:Addr).add j=⟨b,off+j,none⟩:=by unfold Addr.add;split <;> simp_all
  rw [hplain]
  exact hc j u hj
theorem Lies.drop {w:World} {b off:Nat} {vs:List Value} (hc:Lies w b off vs) (k:Nat):Lies w b (off+k) (vs.drop k):=by
  intro j u hj
  rw [List.getElem?_drop] at hj
  rw [Nat.add_assoc]
  exact hc _ u hj
theorem below_new {a w:World} (h:Below a.heap.size a w) (o:Obj):Below a.heap.size a (w.alloc o):=h.alloc h.size o
theorem hid_as {p:Prop} (h:p):Hid p:=h
theorem below_and {a b c:World} (h:Below a.heap.size a b) (k:Below b.heap.size b c):Below a.heap.size a c:=h.trans (k.mono h.size)
theorem Sl.heap {w W:World} {v:Value} {vs:List Value} (h:Sl w v vs) (hW:W.heap=w.heap):Sl W v vs:=by
  rcases h with h | ⟨b,off,cap,rfl,hcap,hc⟩
  · exact Or.inl h
  · exact Or.inr ⟨b,off,cap,rfl,hcap,hc.kept (by rw [hW])⟩
theorem Sl.drewN {w:World} {v:Value} {vs:List Value} (h:Sl w v vs) (d:Nat):Sl (w.drewN d) v vs:=h
theorem cell_row {w:World} {g k:Nat} {l:List Value} {t:TypeId} {v:Value} (h:w.heap[g]?=some (.cells l.toArray t (0,0))) (hv:l[k]?=some v):w.cell? ⟨g,k,none⟩=some v:=by
  simp [World.cell?,h,hv]
theorem frozen_row {w:World} {g k:Nat} {l:List Value} {t:TypeId} (h:w.heap[g]?=some (.cells l.toArray t (0,0))):w.frozen? ⟨g,k,none⟩=false:=by
  simp [World.frozen?,h]
theorem set_row {w:World} {g k:Nat} {l:List Value} {t:TypeId} (h:w.heap[g]?=some (.cells l.toArray t (0,0))) (v:Value):(w.setCell ⟨g,k,none⟩ v).heap[g]?=some (.cells (l.set k v).toArray t (0,0)):=by
  rw [setCell_eq_setRow w g k _ t (0,0) v h,setRow_heap w g _ _ t _ h]
  simp
/-- All blocks that there were, but g, are as they were. -/
abbrev Turn (g:Nat) (w w':World):Prop:=w.grownBy w' (some g)
theorem Turn.refl (g:Nat) (w:World):Turn g w w:=⟨rfl,rfl,rfl,Nat.le_refl _,fun _ _ _=>rfl⟩
theorem Turn.trans {g:Nat} {a b c:World} (h:Turn g a b) (k:Turn g b c):Turn g a c :=
  ⟨k.os.trans h.os,k.tape.trans h.tape,k.output.trans h.output,Nat.le_trans h.size k.size,fun j hj hne=>(k.block j (Nat.lt_of_lt_of_le hj h.size) hne).trans (h.block j hj hne)⟩
theorem Turn.ofBelow {g:Nat} {w w':World} (h:Below w.heap.size w w'):Turn g w w':=⟨h.os,h.tape,h.output,h.size,fun j hj _=>h.block j hj⟩
theorem Turn.set {g:Nat} {w w':World} (h:Turn g w w') (k:Nat) (v:Value):Turn g w (w'.setCell ⟨g,k,none⟩ v):=by
  refine ⟨h.os,h.tape,h.output,by simpa using h.size,fun j hj hne=>?_⟩
  rw [Below.heap_setCell _ _ _ _ (fun e=>hne (congrArg some e))]
  exact h.block j hj hne
theorem Turn.alloc {g:Nat} {w w':World} (h:Turn g w w') (o:Obj):Turn g w (w'.alloc o):=h.trans (Turn.ofBelow (below_new (Below.refl _ w') o))
theorem Turn.drew {g:Nat} {w w':World} (h:Turn g w w'):Turn g w w'.drew:=⟨h.os,h.tape,h.output,h.size,h.block⟩
theorem Turn.drewN {g:Nat} {w w':World} (h:Turn g w w') (d:Nat):Turn g w (w'.drewN d):=⟨h.os,h.tape,h.output,h.size,h.block⟩
theorem Turn.below {g B:Nat} {w w':World} (h:Turn g w w') (hB:B≤g) (hs:B≤w.heap.size):Below B w w':=⟨h.os,h.tape,h.output,h.size,fun j hj=>h.block j (by omega) (fun e=>by simp at e;omega)⟩
/-- The same world but for what was drawn. -/
structure Same (w w':World):Prop where
  os:w'.os=w.os
  tape:w'.tape=w.tape
  output:w'.output=w.output
  heap:w'.heap=w.heap
theorem Same.refl (w:World):Same w w:=⟨rfl,rfl,rfl,rfl⟩
theorem Same.drewN (w:World) (d:Nat):Same w (w.drewN d):=⟨rfl,rfl,rfl,rfl⟩
theorem Same.drew (w:World):Same w w.drew:=⟨rfl,rfl,rfl,rfl⟩
theorem Same.trans {a b c:World} (h:Same a b) (k:Same b c):Same a c:=⟨k.os.trans h.os,k.tape.trans h.tape,k.output.trans h.output,k.heap.trans h.heap⟩
theorem Same.below {w w':World} (h:Same w w'):Below w.heap.size w w':=⟨h.os,h.tape,h.output,by rw [h.heap];exact Nat.le_refl _,fun j _=>by rw [h.heap]⟩
/-- Only these blocks, of those that there were, may have turned. -/
structure Only (S:List Nat) (w w':World):Prop where
  os:w'.os=w.os
  tape:w'.tape=w.tape
  output:w'.output=w.output
  size:w.heap.size≤w'.heap.size
  block:∀ j,j < w.heap.size→j ∉ S→w'.heap[j]?=w.heap[j]?
theorem Only.refl (S:List Nat) (w:World):Only S w w:=⟨rfl,rfl,rfl,Nat.le_refl _,fun _ _ _=>rfl⟩
theorem Only.trans {S:List Nat} {a b c:World} (h:Only S a b) (k:Only S b c):Only S a c :=
  ⟨k.os.trans h.os,k.tape.trans h.tape,k.output.trans h.output,Nat.le_trans h.size k.size,fun j hj hne=>(k.block j (Nat.lt_of_lt_of_le hj h.size) hne).trans (h.block j hj hne)⟩
theorem Only.ofBelow {S:List Nat} {w w':World} (h:Below w.heap.size w w'):Only S w w':=⟨h.os,h.tape,h.output,h.size,fun j hj _=>h.block j hj⟩
theorem Only.ofTurn {S:List Nat} {g:Nat} {w w':World} (h:Turn g w w') (hg:g ∈ S):Only S w w':=⟨h.os,h.tape,h.output,h.size,fun j hj hne=>h.block j hj (fun e=>by
  have e':j=g:=by simpa using e
  exact hne (e' ▸ hg))⟩
theorem Only.below {S:List Nat} {B:Nat} {w w':World} (h:Only S w w') (hS:∀ j ∈ S,B≤j) (hB:B≤w.heap.size):Below B w w':=⟨h.os,h.tape,h.output,h.size,fun j hj=>h.block j (by omega) (fun e=>by have:=hS j e;omega)⟩
theorem Only.none {w w':World} (h:Only [] w w'):Below w.heap.size w w':=h.below (fun j hj=>by cases hj) (Nat.le_refl _)
theorem Only.mono {S T:List Nat} {w w':World} (h:Only S w w') (k:∀ j ∈ S,j ∈ T):Only T w w':=⟨h.os,h.tape,h.output,h.size,fun j hj hne=>h.block j hj (fun e=>hne (k j e))⟩
theorem Same.only {w w':World} (h:Same w w') (S:List Nat):Only S w w':=Only.ofBelow h.below
theorem Sl.same {w u:World} {v:Value} {vs:List Value} (t:Sl w v vs) (k:Same w u):Sl u v vs:=t.heap k.heap
def i64s (l:List Int):List Value:=l.map fun x=>Value.int .i64 x
theorem i64s_len (l:List Int):(i64s l).length=l.length:=by simp [i64s]
theorem i64s_at (l:List Int) (k:Nat) (h:k < l.length):(i64s l)[k]?=some (.int .i64 (l.getD k 0)):=by simp [i64s,List.getD_eq_getElem?_getD,List.getElem?_eq_getElem h]
theorem sl64_at {w:World} {ao:Option Addr} {n c k:Nat} {l:List Int} (h:Sl w (.slice ao n c) (i64s l)) (hk:k < l.length):∃ b off,ao=some ⟨b,off,none⟩∧w.cell? ⟨b,off+k,none⟩=some (.int .i64 (l.getD k 0)):=by
  rcases h with ⟨h0,_⟩ | ⟨b,off,cap,e,_,hl⟩
  · have:=congrArg List.length h0
    rw [i64s_len] at this
    simp at this
    simp [this] at hk
  · simp only [Value.slice.injEq] at e
    exact ⟨b,off,e.1,hl k _ (i64s_at l k hk)⟩
theorem take_eq_succ {a b:List Int} {k:Nat} (h:a.take k=b.take k) (ha:k < a.length) (hb:k < b.length) (e:a.getD k 0=b.getD k 0):a.take (k+1)=b.take (k+1):=by
  rw [List.getD_eq_getElem?_getD,List.getD_eq_getElem?_getD,List.getElem?_eq_getElem ha,List.getElem?_eq_getElem hb] at e
  rw [List.take_add_one,List.take_add_one,h,List.getElem?_eq_getElem ha,List.getElem?_eq_getElem hb]
  simp only [Option.getD_some] at e
  rw [e]
theorem info_parts {P:Program} {t:TypeId} {z:Value} {n b:Nat} (h:(P.info? t).map (fun i=>(i.zero,i.size,i.bytes))=some (some z,n,b)):∃ i,P.info? t=some i∧i.zero=some z∧i.size=n∧i.bytes=b:=by
  cases hq:P.info? t with
  | none=>rw [hq] at h;cases h
  | some i=>rw [hq] at h;simp at h;exact ⟨i,rfl,h.1,h.2.1,h.2.2⟩
theorem one_nums (l:List Int):∀ u ∈ i64s l,u.oneCell'=true:=by
  intro u hu
  simp only [i64s,List.mem_map] at hu
  obtain ⟨x,_,rfl⟩:=hu
  rfl
theorem own_shape {w:World} {base n:Nat} {e:TypeId} {v:Value} {vs:List Value} (h:w.ownsRow base e 1 v n vs):∃ ao c,v=.slice ao n c:=by
  rcases h.2 with ⟨rfl,h0⟩ | ⟨g,cap,cur,rfl,_⟩
  · exact ⟨none,0,by rw [h0]⟩
  · exact ⟨_,_,rfl⟩
theorem own_at {w:World} {base n s:Nat} {e:TypeId} {v:Value} {vs:List Value} (h:w.ownsRow base e s v n vs) (h0:0 < n):∃ g c,v=.slice (some ⟨g,0,none⟩) n c:=by
  rcases h.2 with ⟨_,h'⟩ | ⟨g,cap,cur,e,_⟩
  · omega
  · exact ⟨g,cap,e⟩
theorem take_snocL {α:Type} (l:List α) (k:Nat) (h:k < l.length):l.take (k+1)=l.take k ++ [l[k]'h]:=by
  rw [List.take_add_one,List.getElem?_eq_getElem h];rfl
theorem lies_new (w:World) (vs:List Value) (e:TypeId):Lies (w.alloc (.cells vs.toArray e)) w.heap.size 0 vs:=by
  intro k u hk
  rw [Nat.zero_add]
  exact cell_row (l:=vs) (t:=e) (heap_alloc_new w _) hk
theorem below_new1 (w:World) (o:Obj):Below w.heap.size w (w.alloc o):=below_new (Below.refl _ w) o
end Go.Proofs.YthjclogkcmomkaaGreatDoor
namespace Go.Proofs.YthjclogkcmomkaaGreatDoor
open Go.RowKit
theorem Tryz.keyed:Maps.Keyed Tryz.prog 3:=Maps.int_keyed Tryz.underlying3
theorem key_of {k:Nat} (hk:k≤9000000000000000000):keyOf Tryz.prog 3 (.int .i64 (k:Int))=some (.int .i64 (k:Int)) :=
  Maps.keyOf_int_mk Tryz.underlying3 (by simp [Lit.wf,IntKind.min,IntKind.max,IntKind.signed,IntKind.bits];omega)
/-- Block b is a map: at k lies f k. -/
def MapAt (w:World) (b:Nat) (f:Nat→Option Value):Prop:=∃ es clock,w.heap[b]?=some (.map es clock)∧es.toList.Pairwise (fun x y=>x.key ≠ y.key)∧(∀ e,e ∈ es.toList→∃ k:Nat,e.key=.int .i64 (k:Int)∧k≤9000000000000000000∧f k=some e.val)∧(∀ k v,f k=some v→∃ e,e ∈ es.toList∧e.key=.int .i64 (k:Int))
theorem MapAt.kept {w u:World} {b:Nat} {f:Nat→Option Value} (h:MapAt w b f) (k:u.heap[b]?=w.heap[b]?):MapAt u b f:=by
  obtain ⟨es,clock,h1,r⟩:=h
  exact ⟨es,clock,k.trans h1,r⟩
theorem MapAt.lt {w:World} {b:Nat} {f:Nat→Option Value} (h:MapAt w b f):b < w.heap.size:=by
  obtain ⟨es,clock,h1,_⟩:=h
  exact (Array.getElem?_eq_some_iff.1 h1).1
theorem MapAt.below {w u:World} {b:Nat} {f:Nat→Option Value} (h:MapAt w b f) (k:Below w.heap.size w u):MapAt u b f:=h.kept (k.block b h.lt)
theorem MapAt.turn {w u:World} {b g:Nat} {f:Nat→Option Value} (h:MapAt w b f) (k:Turn g w u) (hne:b ≠ g):MapAt u b f:=h.kept (k.block b h.lt (fun e=>hne (by simpa using e)))
theorem map_made (w:World):MapAt (w.alloc (.map #[] 0)) w.heap.size (fun _=>none) :=
  ⟨#[],0,heap_alloc_new w _,by simp,by simp,by simp⟩
def upd (f:Nat→Option Value) (k:Nat) (v:Value):Nat→Option Value:=fun j=>if j=k then some v else f j
theorem MapAt.keys {es:Array MapEntry} {f:Nat→Option Value} (h:∀ e,e ∈ es.toList→∃ k:Nat,e.key=.int .i64 (k:Int)∧k≤9000000000000000000∧f k=some e.val):∀ e,e ∈ es.toList→∃ l,keyOf Tryz.prog 3 e.key=some l:=by
  intro e he
  obtain ⟨k,h1,h2,_⟩:=h e he
  rw [h1]
  exact ⟨_,key_of h2⟩
theorem map_look {w:World} {b t el:Nat} {f:Nat→Option Value} (h:MapAt w b f) (ht:Tryz.prog.underlying t=some (.map 3 el)) {z:Value} (hz:(zeroValue el).run Tryz.prog w=.ok z w) {k:Nat} (hk:k≤9000000000000000000) :
    (Instr.lookup t (.map (some b)) (.int .i64 (k:Int)) true).run Tryz.prog w=.ok (.tuple #[(f k).getD z,.bool (f k).isSome]) w:=by
  obtain ⟨es,clock,hb,_,h1,h2⟩:=h
  rcases Tryz.keyed.find w (key_of hk) es.toList (MapAt.keys h1) with ⟨g1,g2⟩ | ⟨j,e0,g1,g2,g3⟩
  · have hf:f k=none:=by
      cases hf:f k with
      | none=>rfl
      | some v =>
        obtain ⟨e,he,hq⟩:=h2 k v hf
        exact absurd hq (g2 e he)
    rw [hf]
    simp [Instr.lookup,run_underlying ht,MapKept.run_getObj_map hb,Tryz.keyed.check w _ (key_of hk),g1,hz,Result.andThen]
  · obtain ⟨k',e1,_,e2⟩:=h1 e0 (List.mem_of_getElem? g2)
    rw [g3] at e1
    simp only [Value.int.injEq,true_and] at e1
    have:k'=k:=by omega
    subst this
    rw [e2]
    simp [Instr.lookup,run_underlying ht,MapKept.run_getObj_map hb,Tryz.keyed.check w _ (key_of hk),g1,Result.andThen]
theorem map_put {w:World} {b t el:Nat} {f:Nat→Option Value} (h:MapAt w b f) (ht:Tryz.prog.underlying t=some (.map 3 el)) {k:Nat} (hk:k≤9000000000000000000) (v:Value) :
    ∃ w',(Instr.mapUpdate t (.map (some b)) (.int .i64 (k:Int)) v).run Tryz.prog w=.ok () w'∧MapAt w' b (upd f k v)∧Turn b w w':=by
  obtain ⟨es,clock,hb,hp,h1,h2⟩:=h
  have turn:∀ o,Turn b w (ChangeMaps.setBlock w b o):=fun o=>⟨rfl,rfl,rfl,by simp [ChangeMaps.setBlock],fun i _ hi=>ChangeMaps.heap_setBlock_other hb _ (fun e=>hi (by rw [e]))⟩
  rcases Tryz.keyed.find w (key_of hk) es.toList (MapAt.keys h1) with ⟨g1,g2⟩ | ⟨j,e0,g1,g2,g3⟩
  · refine ⟨ChangeMaps.setBlock w b (.map (es.push ⟨.int .i64 (k:Int),v,clock⟩) (clock+1)),?_,⟨_,_,ChangeMaps.heap_setBlock_same hb _,?_,?_,?_⟩,turn _⟩
    · simp [Instr.mapUpdate,run_underlying ht,MapKept.run_getObj_map hb,Tryz.keyed.check w false (key_of hk),g1,MapKept.run_setObj_map _ hb,Result.andThen,ChangeMaps.setBlock]
    · rw [Array.toList_push,List.pairwise_append]
      exact ⟨hp,by simp,fun a ha c hc=>by simp at hc;subst hc;exact g2 a ha⟩
    · intro e he
      rw [Array.toList_push,List.mem_append] at he
      rcases he with he | he
      · obtain ⟨q,e1,e2,e3⟩:=h1 e he
        refine ⟨q,e1,e2,?_⟩
        have:q ≠ k:=fun hq=>g2 e he (by rw [e1,hq])
        simp [upd,this,e3]
      · simp at he
        subst he
        exact ⟨k,rfl,hk,by simp [upd]⟩
    · intro q u hq
      rw [Array.toList_push]
      by_cases hqk:q=k
      · subst hqk
        exact ⟨_,List.mem_append.2 (Or.inr (List.mem_singleton.2 rfl)),rfl⟩
      · simp only [upd,hqk,if_false] at hq
        obtain ⟨e,he,e1⟩:=h2 q u hq
        exact ⟨e,List.mem_append.2 (Or.inl he),e1⟩
  · have hjl:j < es.toList.length:=(List.getElem?_eq_some_iff.1 g2).1
    have hj:es[j]?=some e0:=by simpa using g2
    have hlist:(es.modify j (fun e'=>{ e' with key:=.int .i64 (k:Int),val:=v })).toList=es.toList.set j { e0 with key:=.int .i64 (k:Int),val:=v }:=by rw [Array.toList_modify,ChangeMaps.modify_eq_set _ _ _ _ g2]
    have e0j:es.toList[j]'hjl=e0:=(List.getElem?_eq_some_iff.1 g2).2
    have uniq:∀ i (hi:i < es.toList.length),i ≠ j→(es.toList[i]'hi).key ≠ .int .i64 (k:Int):=by
      intro i hi hne
      have hpp:=List.pairwise_iff_getElem.1 hp
      rcases Nat.lt_or_gt_of_ne hne with hl | hl
      · have:=hpp i j hi hjl hl
        rw [e0j,g3] at this
        exact this
      · have:=hpp j i hjl hi hl
        rw [e0j,g3] at this
        exact fun e=>this e.symm
    refine ⟨ChangeMaps.setBlock w b (.map (es.modify j (fun e'=>{ e' with key:=.int .i64 (k:Int),val:=v })) clock),?_,⟨_,_,ChangeMaps.heap_setBlock_same hb _,?_,?_,?_⟩,turn _⟩
    · simp [Instr.mapUpdate,run_underlying ht,MapKept.run_getObj_map hb,Tryz.keyed.check w false (key_of hk),g1,hj,g3,Tryz.keyed.stays w (key_of hk),MapKept.run_setObj_map _ hb,Result.andThen,ChangeMaps.setBlock]
    · rw [hlist,List.pairwise_iff_getElem]
      intro i1 i2 hi1 hi2 hlt
      rw [List.length_set] at hi1 hi2
      rw [List.getElem_set,List.getElem_set]
      have hpp:=List.pairwise_iff_getElem.1 hp i1 i2 hi1 hi2 hlt
      by_cases q1:j=i1
      · subst q1
        have q2:¬ j=i2:=by omega
        rw [if_pos rfl,if_neg q2]
        exact fun e=>uniq i2 hi2 (fun h=>q2 h.symm) e.symm
      · rw [if_neg q1]
        by_cases q2:j=i2
        · subst q2
          rw [if_pos rfl]
          exact uniq i1 hi1 (fun h=>q1 h.symm)
        · rw [if_neg q2]
          exact hpp
    · rw [hlist]
      intro e he
      obtain ⟨i,hi,rfl⟩:=List.getElem_of_mem he
      rw [List.length_set] at hi
      rw [List.getElem_set]
      by_cases q:j=i
      · rw [if_pos q]
        exact ⟨k,rfl,hk,by simp [upd]⟩
      · rw [if_neg q]
        obtain ⟨k',e1,e2,e3⟩:=h1 _ (List.getElem_mem hi)
        refine ⟨k',e1,e2,?_⟩
        have:k' ≠ k:=fun hq=>uniq i hi (fun h=>q h.symm) (by rw [e1,hq])
        simp [upd,this,e3]
    · intro q u hq
      rw [hlist]
      by_cases hqk:q=k
      · subst hqk
        exact ⟨_,List.mem_of_getElem? (List.getElem?_set_self (by simpa using hjl)),rfl⟩
      · simp only [upd,hqk,if_false] at hq
        obtain ⟨e,he,e1⟩:=h2 q u hq
        obtain ⟨i,hi,rfl⟩:=List.getElem_of_mem he
        have hij:j ≠ i:=fun h=>by
          subst h
          rw [e0j,g3] at e1
          simp only [Value.int.injEq,true_and] at e1
          omega
        refine ⟨es.toList[i]'hi,?_,e1⟩
        refine List.mem_of_getElem? (i:=i) ?_
        rw [List.getElem?_set_ne hij,List.getElem?_eq_getElem hi]
end Go.Proofs.YthjclogkcmomkaaGreatDoor
