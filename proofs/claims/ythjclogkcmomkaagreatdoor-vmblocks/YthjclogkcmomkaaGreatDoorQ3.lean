/- A map of numbers in memory: what is looked up, what is put (stage 20). · The ways in memory: what was come to, what is waiting; fail, effect (stage 20). · Bits of words of sixty-four; a meeting turned (stage 20). · The walk of comeTo, where it was already (stage 20). -/
import Derived.Maps.Keyed
import Derived.Carry
import Derived.Maps.AppendAt
import Derived.Test.YthjclogkcmomkaaGreatDoorQ1
import Derived.Test.YthjclogkcmomkaaGreatDoorQ2
namespace Go.Proofs.YthjclogkcmomkaaGreatDoor
open Go.RowKit
theorem Tryz.keyed:Maps.Keyed Tryz.prog 3:=Maps.int_keyed Tryz.underlying3
theorem key_of {k:Nat} (hk:k≤9000000000000000000):keyOf Tryz.prog 3 (.int .i64 (k:Int))=some (.int .i64 (k:Int)) :=
  Maps.keyOf_int_mk Tryz.underlying3 (by simp [Lit.wf,IntKind.min,IntKind.max,IntKind.signed,IntKind.bits];omega)
/-- Block b is a map: at k lies f k. -/
def MapAt (w:World) (b:Nat) (f:Nat→Option Value):Prop:=∃ es clock,w.heap[b]?=some (.map es clock)∧es.toList.Pairwise (fun x y=>x.key ≠ y.key)∧(∀ e,e ∈ es.toList→∃ k:Nat,e.key=.int .i64 (k:Int)∧k≤9000000000000000000∧f k=some e.val)∧(∀ k v,f k=some v→∃ e,e ∈ es.toList∧e.key=.int .i64 (k:Int))
theorem MapAt.kept {w u:World} {b:Nat} {f:Nat→Option Value} (h:MapAt w b f) (k:u.heap[b]?=w.heap[b]?):MapAt u b f:=by
  obtain ⟨es,clock,h1,r⟩:=h
  exact ⟨es,clock,k.trans h1,r⟩
theorem MapAt.lt {w:World} {b:Nat} {f:Nat→Option Value} (h:MapAt w b f):b < w.heap.size:=by
  obtain ⟨es,clock,h1,_⟩:=h
  exact (Array.getElem?_eq_some_iff.1 h1).1
theorem MapAt.below {w u:World} {b:Nat} {f:Nat→Option Value} (h:MapAt w b f) (k:Below w.heap.size w u):MapAt u b f:=h.kept (k.block b h.lt)
theorem MapAt.turn {w u:World} {b g:Nat} {f:Nat→Option Value} (h:MapAt w b f) (k:Turn g w u) (hne:b ≠ g):MapAt u b f:=h.kept (k.block b h.lt (fun e=>hne (by simpa using e)))
theorem map_made (w:World):MapAt (w.alloc (.map #[] 0)) w.heap.size (fun _=>none) :=
  ⟨#[],0,heap_alloc_new w _,by simp,by simp,by simp⟩
def upd (f:Nat→Option Value) (k:Nat) (v:Value):Nat→Option Value:=fun j=>if j=k then some v else f j
theorem MapAt.keys {es:Array MapEntry} {f:Nat→Option Value} (h:∀ e,e ∈ es.toList→∃ k:Nat,e.key=.int .i64 (k:Int)∧k≤9000000000000000000∧f k=some e.val):∀ e,e ∈ es.toList→∃ l,keyOf Tryz.prog 3 e.key=some l:=by
  intro e he
  obtain ⟨k,h1,h2,_⟩:=h e he
  rw [h1]
  exact ⟨_,key_of h2⟩
theorem map_look {w:World} {b t el:Nat} {f:Nat→Option Value} (h:MapAt w b f) (ht:Tryz.prog.underlying t=some (.map 3 el)) {z:Value} (hz:(zeroValue el).run Tryz.prog w=.ok z w) {k:Nat} (hk:k≤9000000000000000000) :
    (Instr.lookup t (.map (some b)) (.int .i64 (k:Int)) true).run Tryz.prog w=.ok (.tuple #[(f k).getD z,.bool (f k).isSome]) w:=by
  obtain ⟨es,clock,hb,_,h1,h2⟩:=h
  rcases Tryz.keyed.find w (key_of hk) es.toList (MapAt.keys h1) with ⟨g1,g2⟩ | ⟨j,e0,g1,g2,g3⟩
  · have hf:f k=none:=by
      cases hf:f k with
      | none=>rfl
      | some v =>
        obtain ⟨e,he,hq⟩:=h2 k v hf
        exact absurd hq (g2 e he)
    rw [hf]
    simp [Instr.lookup,run_underlying ht,MapKept.run_getObj_map hb,Tryz.keyed.check w _ (key_of hk),g1,hz,Result.andThen]
  · obtain ⟨k',e1,_,e2⟩:=h1 e0 (List.mem_of_getElem? g2)
    rw [g3] at e1
    simp only [Value.int.injEq,true_and] at e1
    have:k'=k:=by omega
    subst this
    rw [e2]
    simp [Instr.lookup,run_underlying ht,MapKept.run_getObj_map hb,Tryz.keyed.check w _ (key_of hk),g1,Result.andThen]
theorem map_put {w:World} {b t el:Nat} {f:Nat→Option Value} (h:MapAt w b f) (ht:Tryz.prog.underlying t=some (.map 3 el)) {k:Nat} (hk:k≤9000000000000000000) (v:Value) :
    ∃ w',(Instr.mapUpdate t (.map (some b)) (.int .i64 (k:Int)) v).run Tryz.prog w=.ok () w'∧MapAt w' b (upd f k v)∧Turn b w w':=by
  obtain ⟨es,clock,hb,hp,h1,h2⟩:=h
  have turn:∀ o,Turn b w (ChangeMaps.setBlock w b o):=fun o=>⟨rfl,rfl,rfl,by simp [ChangeMaps.setBlock],fun i _ hi=>ChangeMaps.heap_setBlock_other hb _ (fun e=>hi (by rw [e]))⟩
  rcases Tryz.keyed.find w (key_of hk) es.toList (MapAt.keys h1) with ⟨g1,g2⟩ | ⟨j,e0,g1,g2,g3⟩
  · refine ⟨ChangeMaps.setBlock w b (.map (es.push ⟨.int .i64 (k:Int),v,clock⟩) (clock+1)),?_,⟨_,_,ChangeMaps.heap_setBlock_same hb _,?_,?_,?_⟩,turn _⟩
    · simp [Instr.mapUpdate,run_underlying ht,MapKept.run_getObj_map hb,Tryz.keyed.check w false (key_of hk),g1,MapKept.run_setObj_map _ hb,Result.andThen,ChangeMaps.setBlock]
    · rw [Array.toList_push,List.pairwise_append]
      exact ⟨hp,by simp,fun a ha c hc=>by simp at hc;subst hc;exact g2 a ha⟩
    · intro e he
      rw [Array.toList_push,List.mem_append] at he
      rcases he with he | he
      · obtain ⟨q,e1,e2,e3⟩:=h1 e he
        refine ⟨q,e1,e2,?_⟩
        have:q ≠ k:=fun hq=>g2 e he (by rw [e1,hq])
        simp [upd,this,e3]
      · simp at he
        subst he
        exact ⟨k,rfl,hk,by simp [upd]⟩
    · intro q u hq
      rw [Array.toList_push]
      by_cases hqk:q=k
      · subst hqk
        exact ⟨_,List.mem_append.2 (Or.inr (List.mem_singleton.2 rfl)),rfl⟩
      · simp only [upd,hqk,if_false] at hq
        obtain ⟨e,he,e1⟩:=h2 q u hq
        exact ⟨e,List.mem_append.2 (Or.inl he),e1⟩
  · have hjl:j < es.toList.length:=(List.getElem?_eq_some_iff.1 g2).1
    have hj:es[j]?=some e0:=by simpa using g2
    have hlist:(es.modify j (fun e'=>{ e' with key:=.int .i64 (k:Int),val:=v })).toList=es.toList.set j { e0 with key:=.int .i64 (k:Int),val:=v }:=by rw [Array.toList_modify,ChangeMaps.modify_eq_set _ _ _ _ g2]
    have e0j:es.toList[j]'hjl=e0:=(List.getElem?_eq_some_iff.1 g2).2
    have uniq:∀ i (hi:i < es.toList.length),i ≠ j→(es.toList[i]'hi).key ≠ .int .i64 (k:Int):=by
      intro i hi hne
      have hpp:=List.pairwise_iff_getElem.1 hp
      rcases Nat.lt_or_gt_of_ne hne with hl | hl
      · have:=hpp i j hi hjl hl
        rw [e0j,g3] at this
        exact this
      · have:=hpp j i hjl hi hl
        rw [e0j,g3] at this
        exact fun e=>this e.symm
    refine ⟨ChangeMaps.setBlock w b (.map (es.modify j (fun e'=>{ e' with key:=.int .i64 (k:Int),val:=v })) clock),?_,⟨_,_,ChangeMaps.heap_setBlock_same hb _,?_,?_,?_⟩,turn _⟩
    · simp [Instr.mapUpdate,run_underlying ht,MapKept.run_getObj_map hb,Tryz.keyed.check w false (key_of hk),g1,hj,g3,Tryz.keyed.stays w (key_of hk),MapKept.run_setObj_map _ hb,Result.andThen,ChangeMaps.setBlock]
    · rw [hlist,List.pairwise_iff_getElem]
      intro i1 i2 hi1 hi2 hlt
      rw [List.length_set] at hi1 hi2
      rw [List.getElem_set,List.getElem_set]
      have hpp:=List.pairwise_iff_getElem.1 hp i1 i2 hi1 hi2 hlt
      by_cases q1:j=i1
      · subst q1
        have q2:¬ j=i2:=by omega
        rw [if_pos rfl,if_neg q2]
        exact fun e=>uniq i2 hi2 (fun h=>q2 h.symm) e.symm
      · rw [if_neg q1]
        by_cases q2:j=i2
        · subst q2
          rw [if_pos rfl]
          exact uniq i1 hi1 (fun h=>q1 h.symm)
        · rw [if_neg q2]
          exact hpp
    · rw [hlist]
      intro e he
      obtain ⟨i,hi,rfl⟩:=List.getElem_of_mem he
      rw [List.length_set] at hi
      rw [List.getElem_set]
      by_cases q:j=i
      · rw [if_pos q]
        exact ⟨k,rfl,hk,by simp [upd]⟩
      · rw [if_neg q]
        obtain ⟨k',e1,e2,e3⟩:=h1 _ (List.getElem_mem hi)
        refine ⟨k',e1,e2,?_⟩
        have:k' ≠ k:=fun hq=>uniq i hi (fun h=>q h.symm) (by rw [e1,hq])
        simp [upd,this,e3]
    · intro q u hq
      rw [hlist]
      by_cases hqk:q=k
      · subst hqk
        exact ⟨_,List.mem_of_getElem? (List.getElem?_set_self (by simpa using hjl)),rfl⟩
      · simp only [upd,hqk,if_false] at hq
        obtain ⟨e,he,e1⟩:=h2 q u hq
        obtain ⟨i,hi,rfl⟩:=List.getElem_of_mem he
        have hij:j ≠ i:=fun h=>by
          subst h
          rw [e0j,g3] at e1
          simp only [Value.int.injEq,true_and] at e1
          omega
        refine ⟨es.toList[i]'hi,?_,e1⟩
        refine List.mem_of_getElem? (i:=i) ?_
        rw [List.getElem?_set_ne hij,List.getElem?_eq_getElem hi]
end Go.Proofs.YthjclogkcmomkaaGreatDoor
namespace Go.Proofs.YthjclogkcmomkaaGreatDoor
open Go.RowKit
open Fb Cod
def prs (T:List (Nat × Nat)):List Value:=T.flatMap fun q=>[.int .i64 (q.1:Int),.int .i64 (q.2:Int)]
theorem prs_len (T:List (Nat × Nat)):(prs T).length=T.length * 2:=by
  induction T with
  | nil=>rfl
  | cons a T ih=>simp only [prs,List.flatMap_cons,List.length_append,List.length_cons,List.length_nil] at *;omega
theorem prs_app (a b:List (Nat × Nat)):prs (a ++ b)=prs a ++ prs b:=by simp [prs]
/-- A meeting: the first depth, all depths in five words of bits. -/
def mv (f:Nat) (u:Nat→Nat):Value:=.agg #[.int .i64 (f:Int),.int .u64 (u 0:Nat),.int .u64 (u 1:Nat),.int .u64 (u 2:Nat),.int .u64 (u 3:Nat),.int .u64 (u 4:Nat)]
structure Meet (S:List (Nat × Nat)) (wr i f:Nat) (u:Nat→Nat):Prop where
  f6:f≤256
  fm:(i,f) ∈ S
  sm:∀ q,u q < 18446744073709551616
  bit:∀ d,d≤256→((u (d / 64)).testBit (d % 64)=true ↔ (i,d) ∈ S)
  two:∀ d,(i,d) ∈ S→d ≠ f→wr≤i
def Met (F:Nat→Option Value) (S:List (Nat × Nat)) (wr:Nat):Prop:=∀ i,(F i=none∧∀ d,(i,d) ∉ S) ∨ ∃ f u,F i=some (mv f u)∧Meet S wr i f u
theorem Met.two {F:Nat→Option Value} {S:List (Nat × Nat)} {wr:Nat} (h:Met F S wr):Two S wr:=by
  intro i d e hd he hne
  rcases h i with ⟨_,h⟩ | ⟨f,u,_,h⟩
  · exact absurd hd (h d)
  · by_cases hf:d=f
    · subst hf;exact h.two e he (fun q=>hne q.symm)
    · exact h.two d hd hf
theorem Met.le {F:Nat→Option Value} {S:List (Nat × Nat)} {wr wr':Nat} (h:Met F S wr) (hl:wr'≤wr):Met F S wr':=by
  intro i
  rcases h i with h | ⟨f,u,h1,h⟩
  · exact Or.inl h
  · exact Or.inr ⟨f,u,h1,h.f6,h.fm,h.sm,h.bit,fun d hd hne=>Nat.le_trans hl (h.two d hd hne)⟩
/-- The going through code, in block g; its map in block m. -/
structure Wy (B:Nat) (w:World) (g m:Nat) (lv wv:Value) (S T:List (Nat × Nat)) (wr:Nat):Prop where
  row:w.heap[g]?=some (.cells [lv,.map (some m),wv,.int .i64 (wr:Int)].toArray 166 (0,0))
  own:w.ownsRow B 169 2 wv T.length (prs T)
  map:∃ F,MapAt w m F∧Met F S wr
  gB:B≤g
  mB:B≤m
  gm:g ≠ m
  wg:∀ h,wv.ownBlock=some h→h ≠ g∧h ≠ m
theorem row_lt {w:World} {g:Nat} {o:Obj} (h:w.heap[g]?=some o):g < w.heap.size:=(Array.getElem?_eq_some_iff.1 h).1
theorem Wy.glt {B:Nat} {w:World} {g m:Nat} {lv wv:Value} {S T:List (Nat × Nat)} {wr:Nat} (h:Wy B w g m lv wv S T wr):g < w.heap.size:=row_lt h.row
theorem Wy.below {B:Nat} {w u:World} {g m:Nat} {lv wv:Value} {S T:List (Nat × Nat)} {wr:Nat} (h:Wy B w g m lv wv S T wr) (k:Below w.heap.size w u):Wy B u g m lv wv S T wr:=by
  obtain ⟨F,h1,h2⟩:=h.map
  refine ⟨(k.block g h.glt).trans h.row,⟨h.own.1,?_⟩,⟨F,h1.below k,h2⟩,h.gB,h.mB,h.gm,h.wg⟩
  rcases h.own.2 with h' | ⟨b,cap,cur,e,hb,hg,r⟩
  · exact Or.inl h'
  · exact Or.inr ⟨b,cap,cur,e,hb,(k.block b (row_lt hg)).trans hg,r⟩
theorem Wy.same {B:Nat} {w u:World} {g m:Nat} {lv wv:Value} {S T:List (Nat × Nat)} {wr:Nat} (h:Wy B w g m lv wv S T wr) (k:Same w u):Wy B u g m lv wv S T wr:=h.below k.below
theorem Wy.c0 {B:Nat} {w:World} {g m:Nat} {lv wv:Value} {S T:List (Nat × Nat)} {wr:Nat} (h:Wy B w g m lv wv S T wr):w.cell? ⟨g,0,none⟩=some lv:=cell_row (k:=0) h.row rfl
theorem Wy.c1 {B:Nat} {w:World} {g m:Nat} {lv wv:Value} {S T:List (Nat × Nat)} {wr:Nat} (h:Wy B w g m lv wv S T wr):w.cell? ⟨g,1,none⟩=some (.map (some m)):=cell_row (k:=1) h.row rfl
theorem Wy.c2 {B:Nat} {w:World} {g m:Nat} {lv wv:Value} {S T:List (Nat × Nat)} {wr:Nat} (h:Wy B w g m lv wv S T wr):w.cell? ⟨g,2,none⟩=some wv:=cell_row (k:=2) h.row rfl
theorem Wy.c3 {B:Nat} {w:World} {g m:Nat} {lv wv:Value} {S T:List (Nat × Nat)} {wr:Nat} (h:Wy B w g m lv wv S T wr):w.cell? ⟨g,3,none⟩=some (.int .i64 (wr:Int)):=cell_row (k:=3) h.row rfl
theorem Wy.fz {B:Nat} {w:World} {g m:Nat} {lv wv:Value} {S T:List (Nat × Nat)} {wr:Nat} (h:Wy B w g m lv wv S T wr) (k:Nat):w.frozen? ⟨g,k,none⟩=false:=frozen_row h.row
/-- The number that is wrong is set. -/
theorem Wy.setW {B:Nat} {w:World} {g m:Nat} {lv wv:Value} {S T:List (Nat × Nat)} {wr:Nat} (h:Wy B w g m lv wv S T wr) (n:Nat) (hn:n≤wr):Wy B (w.setCell ⟨g,3,none⟩ (.int .i64 (n:Int))) g m lv wv S T n:=by
  obtain ⟨F,h1,h2⟩:=h.map
  have t:Turn g w (w.setCell ⟨g,3,none⟩ (.int .i64 (n:Int))):=(Turn.refl g w).set 3 _
  refine ⟨set_row h.row _,h.own.kept t ?_,⟨F,h1.turn t (fun e=>h.gm e.symm),h2.le hn⟩,h.gB,h.mB,h.gm,h.wg⟩
  cases hb:wv.ownBlock with
  | none=>exact Or.inl rfl
  | some b=>exact Or.inr (fun e=>(h.wg b hb).1 (by simpa using e))
theorem fail_c {B:Nat} {w:World} {g m:Nat} {lv wv:Value} {S T:List (Nat × Nat)} {wr:Nat} (i:Nat) (h:Wy B w g m lv wv S T wr) :
    Calls Tryz.prog 103 #[.pointer (some ⟨g,0,none⟩),.int .i64 (i:Int)] w fun e w'=>e=.returned (.tuple #[])∧Wy B w' g m lv wv S T (min wr i)∧Turn g w w':=by
  have c3:=h.c3
  have f3:=h.fz 3
  by_cases hi:i < wr
  · have hi2:(i:Int) < (wr:Int):=by omega
    have R:Hid (Wy B (w.setCell ⟨g,3,none⟩ (.int .i64 (i:Int))) g m lv wv S T (min wr i)∧Turn g w (w.setCell ⟨g,3,none⟩ (.int .i64 (i:Int)))):=by
      rw [Nat.min_eq_right (Nat.le_of_lt hi)]
      exact ⟨h.setW i (Nat.le_of_lt hi),(Turn.refl g w).set 3 _⟩
    clear h
    go_enter Tryz.func103,Tryz.ntmps103
    go_wp2
    go_end0
    exact ⟨rfl,R.out⟩
  · have hi2:¬ (i:Int) < (wr:Int):=by omega
    have R:Hid (Wy B (w.setCell ⟨g,3,none⟩ (.int .i64 (wr:Int))) g m lv wv S T (min wr i)∧Turn g w (w.setCell ⟨g,3,none⟩ (.int .i64 (wr:Int)))):=by
      rw [Nat.min_eq_left (by omega)]
      exact ⟨h.setW wr (Nat.le_refl _),(Turn.refl g w).set 3 _⟩
    clear h
    go_enter Tryz.func103,Tryz.ntmps103
    go_wp2
    go_end0
    exact ⟨rfl,R.out⟩
theorem tk_le (k:Nat):tk k≤3:=by
  match k with
  | 0 | 1 | 2 | 3 | 4 | 5 | 6 | 7 | 8 | 9 | 10 | 11 | 12 | 13 | 14 | 15 | 16 | 17 | 18 | 19 | 20 | 21 | 22 | 23 | 24=>decide
  | n+25=>simp [tk]
theorem pt_le (k:Nat):pt k≤2:=by
  match k with
  | 0 | 1 | 2 | 3 | 4 | 5 | 6 | 7 | 8 | 9 | 10 | 11 | 12 | 13 | 14 | 15 | 16 | 17 | 18 | 19 | 20 | 21 | 22 | 23 | 24=>decide
  | n+25=>simp [pt]
theorem two_new (w:World) (o p:Obj) (d:Nat):Below w.heap.size w (((w.alloc o).alloc p).drewN d):=below_and (below_and (below_new1 w o) (below_new1 _ p)) (Same.drewN _ _).below
set_option maxHeartbeats 800000 in
theorem effect_at (k t p xt xp:Nat) (a b c:Int) (nm o:ByteArray) (w:World) (hk:k < 25)
    (c0:(w.alloc (.cells #[.int .i64 (k:Int),.int .i64 a,.int .i64 b,.int .i64 c,.string nm] 50)).cell? ⟨1,k * 3,none⟩=some (.string o))
    (c1:(w.alloc (.cells #[.int .i64 (k:Int),.int .i64 a,.int .i64 b,.int .i64 c,.string nm] 50)).cell? ⟨1,k * 3+1,none⟩=some (.int .i64 (t:Int)))
    (c2:(w.alloc (.cells #[.int .i64 (k:Int),.int .i64 a,.int .i64 b,.int .i64 c,.string nm] 50)).cell? ⟨1,k * 3+2,none⟩=some (.int .i64 (p:Int)))
    (h:(k=24∧t≤3∧p≤3∧0≤a∧a < 256∧(xt:Int)=t+a∧(xp:Int)=p+a) ∨ (k ≠ 24∧xt=t∧xp=p)) :
    Calls Tryz.prog 104 #[.agg #[.int .i64 (k:Int),.int .i64 a,.int .i64 b,.int .i64 c,.string nm]] w fun e w'=>e=.returned (.tuple #[.int .i64 (xt:Int),.int .i64 (xp:Int)])∧Below w.heap.size w w':=by
  have hk0:(0:Int)≤(k:Int):=by omega
  have hk2:(k:Int) < 25:=by omega
  rcases h with ⟨h24,ht,hp,ha,ha2,e1,e2⟩ | ⟨h24,rfl,rfl⟩
  · have hb:((k:Int) == 24)=true:=by rw [beq_iff_eq];omega
    have ET:=hid_as e1
    have EP:=hid_as e2
    clear e1 e2 h24
    go_enter Tryz.func104,Tryz.ntmps104
    go_wp2
    go_region
    go_wp2
    go_ret2
    rw [ET.out,EP.out]
    exact ⟨rfl,two_new _ _ _ _⟩
  · have hb:((k:Int) == 24)=false:=by rw [beq_eq_false_iff_ne];omega
    clear h24
    go_enter Tryz.func104,Tryz.ntmps104
    go_wp2
    go_region
    go_wp2
    go_ret2
    exact ⟨rfl,two_new _ _ _ _⟩
theorem effect_c (x:Ins) (w:World) (hT:Tabs w) (h1:1≤x.op) (h2:x.op≤24) (ha:x.op=24→0≤x.a∧x.a < 256) :
    Calls Tryz.prog 104 #[.agg #[.int .i64 x.op,.int .i64 x.a,.int .i64 x.b,.int .i64 x.c,.string x.name]] w fun e w'=>e=.returned (.tuple #[.int .i64 (x.t:Nat),.int .i64 (x.p:Nat)])∧Below w.heap.size w w':=by
  obtain ⟨op,a,b,c,nm⟩:=x
  simp only at h1 h2 ha
  obtain ⟨k,rfl⟩:∃ k:Nat,op=(k:Int):=⟨op.toNat,by omega⟩
  have hk:k < 25:=by omega
  obtain ⟨c0,c1,c2⟩:=(hT.below (below_new1 w (.cells #[.int .i64 (k:Int),.int .i64 a,.int .i64 b,.int .i64 c,.string nm] 50))).at_ hk
  refine effect_at k (tk k) (pt k) _ _ a b c nm _ w hk c0 c1 c2 ?_
  by_cases h24:k=24
  · have h24':(k:Int)=24:=by omega
    have:=ha h24'
    refine Or.inl ⟨h24,tk_le k,Nat.le_trans (pt_le k) (by omega),this.1,this.2,?_,?_⟩
    · simp only [Ins.t,more,Int.toNat_natCast]
      rw [if_pos h24']
      omega
    · simp only [Ins.p,more,Int.toNat_natCast]
      rw [if_pos h24']
      omega
  · have h24':¬ (k:Int)=24:=by omega
    refine Or.inr ⟨h24,?_,?_⟩
    · simp only [Ins.t,more,Int.toNat_natCast]
      rw [if_neg h24']
      omega
    · simp only [Ins.p,more,Int.toNat_natCast]
      rw [if_neg h24']
      omega
end Go.Proofs.YthjclogkcmomkaaGreatDoor
namespace Go.Proofs.YthjclogkcmomkaaGreatDoor
open Go.RowKit
open Fb Cod
theorem pow_wrap {r:Nat} (h:r < 64):IntKind.u64.wrap (2 ^ r)=((2 ^ r:Nat):Int):=by
  have h1:2 ^ r < 2 ^ 64:=Nat.pow_lt_pow_right (by decide) h
  have e:(2:Int) ^ r=((2 ^ r:Nat):Int):=by simp
  rw [e]
  generalize 2 ^ r=P at *
  simp only [IntKind.wrap,IntKind.bits,IntKind.signed]
  simp
  omega
theorem pow_small {r:Nat} (h:r < 64):2 ^ r < 18446744073709551616:=by
  have h1:2 ^ r < 2 ^ 64:=Nat.pow_lt_pow_right (by decide) h
  omega
theorem u64_is {a:Nat} (h:a < 18446744073709551616):IntKind.u64.wrap (a:Int)=(a:Int):=by
  simp only [IntKind.wrap,IntKind.bits,IntKind.signed]
  simp
  omega
theorem and_64 {a b:Nat} (ha:a < 18446744073709551616) (hb:b < 18446744073709551616):bits .and .u64 (a:Int) (b:Int)=((a &&& b:Nat):Int):=by
  show IntKind.u64.wrap ((BitVec.ofInt 64 (a:Int) &&& BitVec.ofInt 64 (b:Int)).toNat:Int)=_
  have h:(BitVec.ofInt 64 (a:Int) &&& BitVec.ofInt 64 (b:Int)).toNat=a &&& b:=by
    rw [BitVec.toNat_and,BitVec.ofInt_natCast,BitVec.toNat_ofNat,BitVec.ofInt_natCast,BitVec.toNat_ofNat,Nat.mod_eq_of_lt ha,Nat.mod_eq_of_lt hb]
  have hlt:a &&& b < 2 ^ 64:=Nat.and_lt_two_pow a hb
  rw [h,u64_is (by omega)]
theorem or_64 {a b:Nat} (ha:a < 18446744073709551616) (hb:b < 18446744073709551616):bits .or .u64 (a:Int) (b:Int)=((a ||| b:Nat):Int):=by
  show IntKind.u64.wrap ((BitVec.ofInt 64 (a:Int) ||| BitVec.ofInt 64 (b:Int)).toNat:Int)=_
  have h:(BitVec.ofInt 64 (a:Int) ||| BitVec.ofInt 64 (b:Int)).toNat=a ||| b:=by
    rw [BitVec.toNat_or,BitVec.ofInt_natCast,BitVec.toNat_ofNat,BitVec.ofInt_natCast,BitVec.toNat_ofNat,Nat.mod_eq_of_lt ha,Nat.mod_eq_of_lt hb]
  have hlt:a ||| b < 2 ^ 64:=Nat.or_lt_two_pow ha hb
  rw [h,u64_is (by omega)]
theorem and_pow (a r:Nat):(a &&& 2 ^ r=0) ↔ a.testBit r=false:=by
  constructor
  · intro h
    have:=congrArg (fun n=>n.testBit r) h
    simpa [Nat.testBit_and,Nat.testBit_two_pow] using this
  · intro h
    apply Nat.eq_of_testBit_eq
    intro j
    rw [Nat.testBit_and,Nat.testBit_two_pow,Nat.zero_testBit]
    by_cases hj:r=j
    · subst hj;rw [h];rfl
    · rw [decide_eq_false hj,Bool.and_false]
theorem bit_yes {a r:Nat} (ha:a < 18446744073709551616) (hr:r < 64) (h:a.testBit r=true):(bits .and .u64 (a:Int) ((2 ^ r:Nat):Int) != 0)=true:=by
  rw [and_64 ha (pow_small hr),bne_iff_ne]
  intro e
  have e':a &&& 2 ^ r=0:=by omega
  rw [(and_pow a r).1 e'] at h
  cases h
theorem bit_no {a r:Nat} (ha:a < 18446744073709551616) (hr:r < 64) (h:a.testBit r=false):(bits .and .u64 (a:Int) ((2 ^ r:Nat):Int) != 0)=false:=by
  rw [and_64 ha (pow_small hr),(and_pow a r).2 h]
  rfl
theorem or_small {a r:Nat} (ha:a < 18446744073709551616) (hr:r < 64):a ||| 2 ^ r < 18446744073709551616:=by
  have:a ||| 2 ^ r < 2 ^ 64:=Nat.or_lt_two_pow ha (by have:=pow_small hr;omega)
  omega
theorem or_bit (a r j:Nat):(a ||| 2 ^ r).testBit j=true ↔ a.testBit j=true ∨ r=j:=by
  rw [Nat.testBit_or,Nat.testBit_two_pow,Bool.or_eq_true,decide_eq_true_iff]
/-- One word of a meeting, set. -/
def usb (u:Nat→Nat) (q v:Nat):Nat→Nat:=fun j=>if j=q then v else u j
theorem Meet.add {S:List (Nat × Nat)} {wr wr' i f d q r:Nat} {u:Nat→Nat} (h:Meet S wr i f u) (hd:d≤256) (hq:d=q * 64+r) (hr:r < 64) (hl:wr'≤wr) (hw:d ≠ f→wr'≤i):Meet (S ++ [(i,d)]) wr' i f (usb u q (u q ||| 2 ^ r)) where
  f6:=h.f6
  fm:=List.mem_append.2 (Or.inl h.fm)
  sm:=fun j=>by
    unfold usb
    split
    · exact or_small (h.sm q) hr
    · exact h.sm j
  bit:=fun e he=>by
    rw [List.mem_append,List.mem_singleton,Prod.mk.injEq,← h.bit e he]
    unfold usb
    by_cases hj:e / 64=q
    · rw [if_pos hj,hj,or_bit]
      have:(r=e % 64) ↔ (i=i∧e=d):=⟨fun k=>⟨rfl,by omega⟩,fun k=>by omega⟩
      rw [this]
    · rw [if_neg hj]
      exact ⟨Or.inl,fun k=>k.elim id (fun k=>absurd (show e / 64=q by omega) hj)⟩
  two:=fun e he hne=>by
    rcases List.mem_append.1 he with he | he
    · exact Nat.le_trans hl (h.two e he hne)
    · simp at he;subst he;exact hw hne
theorem Meet.new {S:List (Nat × Nat)} {wr i d q r:Nat} (h:∀ e,(i,e) ∉ S) (hd:d≤256) (hq:d=q * 64+r) (hr:r < 64):Meet (S ++ [(i,d)]) wr i d (usb (fun _=>0) q (0 ||| 2 ^ r)) where
  f6:=hd
  fm:=List.mem_append.2 (Or.inr (by simp))
  sm:=fun j=>by
    unfold usb
    split
    · exact or_small (by decide) hr
    · exact (by decide:(0:Nat) < 18446744073709551616)
  bit:=fun e he=>by
    rw [List.mem_append,List.mem_singleton,Prod.mk.injEq]
    unfold usb
    by_cases hj:e / 64=q
    · rw [if_pos hj,or_bit]
      have:(r=e % 64) ↔ (i=i∧e=d):=⟨fun k=>⟨rfl,by omega⟩,fun k=>by omega⟩
      rw [this]
      simp [h]
    · rw [if_neg hj]
      refine ⟨fun k=>?_,fun k=>k.elim (fun k=>absurd k (h e)) (fun k=>absurd (show e / 64=q by omega) hj)⟩
      simp at k
  two:=fun e he hne=>by
    rcases List.mem_append.1 he with he | he
    · exact absurd he (h e)
    · simp at he;exact absurd he hne
theorem Meet.other {S:List (Nat × Nat)} {wr wr' j i f d:Nat} {u:Nat→Nat} (h:Meet S wr j f u) (hne:j ≠ i) (hl:wr'≤wr):Meet (S ++ [(i,d)]) wr' j f u where
  f6:=h.f6
  fm:=List.mem_append.2 (Or.inl h.fm)
  sm:=h.sm
  bit:=fun e he=>by
    rw [List.mem_append,List.mem_singleton,Prod.mk.injEq,← h.bit e he]
    simp [hne]
  two:=fun e he hn=>by
    rcases List.mem_append.1 he with he | he
    · exact Nat.le_trans hl (h.two e he hn)
    · simp at he;exact absurd he.1 hne
theorem Met.put {F:Nat→Option Value} {S:List (Nat × Nat)} {wr wr' i f d:Nat} {u:Nat→Nat} (h:Met F S wr) (hl:wr'≤wr) (hm:Meet (S ++ [(i,d)]) wr' i f u):Met (upd F i (mv f u)) (S ++ [(i,d)]) wr':=by
  intro j
  by_cases hj:j=i
  · subst hj
    exact Or.inr ⟨f,u,by simp [upd],hm⟩
  · rcases h j with ⟨h1,h2⟩ | ⟨f',u',h1,h2⟩
    · refine Or.inl ⟨by simp [upd,hj,h1],fun e he=>?_⟩
      rcases List.mem_append.1 he with he | he
      · exact h2 e he
      · simp at he;exact hj he.1
    · exact Or.inr ⟨f',u',by simp [upd,hj,h1],h2.other hj hl⟩
/-- A meeting's row, a word of it set. -/
def mrow (f:Nat) (u:Nat→Nat):List Value:=[.int .i64 (f:Int),.int .u64 (u 0:Nat),.int .u64 (u 1:Nat),.int .u64 (u 2:Nat),.int .u64 (u 3:Nat),.int .u64 (u 4:Nat)]
theorem mrow_set (f:Nat) (u:Nat→Nat) (q v:Nat) (h:q < 5):(mrow f u).set (1+q) (.int .u64 (v:Int))=mrow f (usb u q v):=by
  match q,h with
  | 0,_=>rfl
  | 1,_=>rfl
  | 2,_=>rfl
  | 3,_=>rfl
  | 4,_=>rfl
theorem mrow_at (f:Nat) (u:Nat→Nat) (q:Nat) (h:q < 5):(mrow f u)[1+q]?=some (.int .u64 (u q:Nat)):=by
  match q,h with
  | 0,_=>rfl
  | 1,_=>rfl
  | 2,_=>rfl
  | 3,_=>rfl
  | 4,_=>rfl
end Go.Proofs.YthjclogkcmomkaaGreatDoor
namespace Go.Proofs.YthjclogkcmomkaaGreatDoor
open Go.RowKit
open Fb Cod
/-- But for three blocks nothing that there was has turned. -/
def Oth (w w':World) (g m:Nat) (b:Option Nat):Prop:=∀ j,j < w.heap.size→j ≠ g→j ≠ m→some j ≠ b→w'.heap[j]?=w.heap[j]?
theorem Oth.below {w w':World} {g m:Nat} {b:Option Nat} (h:Below w.heap.size w w'):Oth w w' g m b:=fun j hj _ _ _=>h.block j hj
theorem alloc_row (w:World) (l:List Value) (t:TypeId):(w.alloc (.cells l.toArray t)).heap[w.heap.size]?=some (.cells l.toArray t (0,0)):=heap_alloc_new w _
theorem new_drew (w:World) (o:Obj):Below w.heap.size w (w.alloc o).drew:=below_and (below_new1 w o) (Same.drew _).below
set_option maxHeartbeats 3200000 in
set_option maxRecDepth 100000 in
theorem come_k1 {B:Nat} {w:World} {g m:Nat} {lv wv:Value} {S T:List (Nat × Nat)} {wr:Nat} (i d q r:Nat) (f:Nat) (u:Nat→Nat) (h:Wy B w g m lv wv S T wr) (hl:(Instr.lookup 163 (.map (some m)) (.int .i64 (i:Int)) true).run Tryz.prog w=.ok (.tuple #[.agg #[.int .i64 (f:Int),.int .u64 (u 0:Nat),.int .u64 (u 1:Nat),.int .u64 (u 2:Nat),.int .u64 (u 3:Nat),.int .u64 (u 4:Nat)],.bool true]) w)
    (hf:f=d) (hu:u q < 18446744073709551616) (hq:d=q * 64+r) (hr:r < 64) (hq5:q < 5) (hs:(u q).testBit r=true) :
    Calls Tryz.prog 85 #[.pointer (some ⟨g,0,none⟩),.int .i64 (i:Int),.int .i64 (d:Int)] w fun e w'=>e=.returned (.tuple #[])∧Below w.heap.size w w':=by
  have c1:=h.c1
  have e1:(d:Int) / 64=(q:Int):=by omega
  have e1n:d / 64=q:=by omega
  have e2:(d:Int) % 64=(r:Int):=by omega
  have e2n:d % 64=r:=by omega
  have e3n:r % 64=r:=by omega
  have q5:(q:Int) < 5:=by omega
  have e4:=pow_wrap hr
  have tb:=bit_yes hu hr hs
  have hb:((d:Int) != (d:Int))=false:=by simp
  subst hf
  have cq:(w.alloc (.cells #[.int .i64 (f:Int),.int .u64 (u 0:Nat),.int .u64 (u 1:Nat),.int .u64 (u 2:Nat),.int .u64 (u 3:Nat),.int .u64 (u 4:Nat)] 179)).cell? ⟨w.heap.size,1+q,none⟩=some (.int .u64 (u q:Nat)):=cell_row (l:=mrow f u) (alloc_row w (mrow f u) 179) (mrow_at f u q hq5)
  have HQ:=hid_as hq
  clear h hq hu hs
  generalize 2 ^ r=pw at *
  go_enter Tryz.func85,Tryz.ntmps85
  go_wp2
  go_region
  go_wp2
  (try simp only [Exit.inBlock,Exit.then])
  refine bodyPost_ret (results_none rfl _ _ _) rfl ?_
  exact ⟨rfl,new_drew _ _⟩
set_option maxHeartbeats 3200000 in
set_option maxRecDepth 100000 in
theorem come_k2 {B:Nat} {w:World} {g m:Nat} {lv wv:Value} {S T:List (Nat × Nat)} {wr:Nat} (i d q r:Nat) (f:Nat) (u:Nat→Nat) (h:Wy B w g m lv wv S T wr) (hl:(Instr.lookup 163 (.map (some m)) (.int .i64 (i:Int)) true).run Tryz.prog w=.ok (.tuple #[.agg #[.int .i64 (f:Int),.int .u64 (u 0:Nat),.int .u64 (u 1:Nat),.int .u64 (u 2:Nat),.int .u64 (u 3:Nat),.int .u64 (u 4:Nat)],.bool true]) w)
    (hf:f ≠ d) (hu:u q < 18446744073709551616) (hq:d=q * 64+r) (hr:r < 64) (hq5:q < 5) (hs:(u q).testBit r=true) (hB:B≤w.heap.size) :
    Calls Tryz.prog 85 #[.pointer (some ⟨g,0,none⟩),.int .i64 (i:Int),.int .i64 (d:Int)] w fun e w'=>e=.returned (.tuple #[])∧Wy B w' g m lv wv S T (min wr i)∧Below B w w'∧Oth w w' g m wv.ownBlock:=by
  have c1:=h.c1
  have e1:(d:Int) / 64=(q:Int):=by omega
  have e1n:d / 64=q:=by omega
  have e2:(d:Int) % 64=(r:Int):=by omega
  have e2n:d % 64=r:=by omega
  have e3n:r % 64=r:=by omega
  have q5:(q:Int) < 5:=by omega
  have e4:=pow_wrap hr
  have tb:=bit_yes hu hr hs
  have hb:((d:Int) != (f:Int))=true:=by rw [bne_iff_ne];omega
  have FC:Hid (Calls Tryz.prog 103 #[.pointer (some ⟨g,0,none⟩),.int .i64 (i:Int)] (w.alloc (.cells #[.int .i64 (f:Int),.int .u64 (u 0:Nat),.int .u64 (u 1:Nat),.int .u64 (u 2:Nat),.int .u64 (u 3:Nat),.int .u64 (u 4:Nat)] 179)) fun e w'=>e=.returned (.tuple #[])∧Wy B w' g m lv wv S T (min wr i)∧(Below B w w'∧Oth w w' g m wv.ownBlock)∧w'.cell? ⟨w.heap.size,1+q,none⟩=some (.int .u64 (u q:Nat))):=by
    refine (fail_c i (h.below (below_new1 w _))).mono ?_
    rintro e w' ⟨rfl,hw,ht⟩
    refine ⟨rfl,hw,⟨((below_new1 w _).mono hB).trans (ht.below h.gB (by simp;omega)),fun j hj h1 _ _=>(ht.block j (by simp;omega) (fun e=>h1 (by simpa using e))).trans ((below_new1 w _).block j hj)⟩,cell_row (l:=mrow f u) (t:=179) ?_ (mrow_at f u q hq5)⟩
    rw [ht.block _ (by simp) (fun e=>by have:=h.glt;simp at e;omega)]
    exact alloc_row w (mrow f u) 179
  have HQ:=hid_as hq
  clear h hq hu hs
  generalize 2 ^ r=pw at *
  go_enter Tryz.func85,Tryz.ntmps85
  go_wp2_with (go_at_call 103;refine FC.out.mono ?_;rintro e w1 ⟨rfl,hw1,hb1,cq⟩)
  have R:=hid_as (And.intro hw1 hb1)
  clear hw1 hb1 FC
  go_region
  go_wp2
  (try simp only [Exit.inBlock,Exit.then])
  refine bodyPost_ret (results_none rfl _ _ _) rfl ?_
  exact ⟨rfl,R.out.1.same (Same.drew _),R.out.2.1.trans ((Same.drew _).below.mono (by have:=R.out.2.1.size;omega)),fun j a1 a2 a3 a4=>R.out.2.2 j a1 a2 a3 a4⟩
theorem Wy.row_ne {B:Nat} {w:World} {g m:Nat} {lv wv:Value} {S T:List (Nat × Nat)} {wr:Nat} (h:Wy B w g m lv wv S T wr):m ≠ w.heap.size∧g ≠ w.heap.size:=by
  obtain ⟨F,hF,_⟩:=h.map
  have:=hF.lt
  have:=h.glt
  omega
end Go.Proofs.YthjclogkcmomkaaGreatDoor
