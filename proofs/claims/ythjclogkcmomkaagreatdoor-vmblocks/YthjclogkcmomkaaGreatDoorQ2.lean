/- Code in plain mathematics: the ways through it (stage 20). · The variables that the program lays: the handle, the table of the operators, the powers of ten (stage 20). · Code in memory; kinds (stage 20). -/
import Derived.Lib.LaidTab
import Derived.Lib.AppendIntMem
import Derived.Test.YthjclogkcmomkaaGreatDoorQ1
namespace Go.Proofs.YthjclogkcmomkaaGreatDoor
open Go.RowKit
open Fb
namespace Cod
/-- An instruction. -/
structure Ins where
  op:Int
  a:Int
  b:Int
  c:Int
  name:ByteArray
/-- What an operator takes off, and puts on (of OpPick the least). -/
def tk (k:Nat):Nat:=[0,0,0,1,1,1,2,1,1,2,1,2,1,2,2,3,1,1,0,1,1,0,0,0,1].getD k 0
def pt (k:Nat):Nat:=[0,1,1,0,1,1,0,1,1,1,1,1,1,1,1,1,2,0,0,0,0,0,0,0,2].getD k 0
def more (x:Ins):Nat:=if x.op=24 then x.a.toNat else 0
def Ins.t (x:Ins):Nat:=tk x.op.toNat+more x
def Ins.p (x:Ins):Nat:=pt x.op.toNat+more x
def Ins.dl (x:Ins) (d:Nat):Nat:=d - x.t+x.p
/-- Too few numbers, or too many. -/
def Ins.bad (x:Ins) (d:Nat):Prop:=d < x.t ∨ 256 < x.dl d
def Ins.jmp (x:Ins):Prop:=x.op=18 ∨ x.op=19 ∨ x.op=20
def Ins.falls (x:Ins):Prop:=x.op ≠ 23∧x.op ≠ 18
/-- From one place and depth to the next. -/
def goes (L:List Ins) (s r:Nat × Nat):Prop:=∃ x,L[s.1]?=some x∧¬ x.bad s.2∧r.2=x.dl s.2∧((x.jmp∧r.1=x.a.toNat) ∨ (x.falls∧r.1=s.1+1∧s.1+1 < L.length))
def fault (L:List Ins) (s:Nat × Nat):Prop:=∃ x,L[s.1]?=some x∧(x.bad s.2 ∨ (x.falls∧s.1+1=L.length))
def Reach (L:List Ins) (s:Nat × Nat):Prop:=∀ P:Nat × Nat→Prop,P (0,0)→(∀ q r,P q→goes L q r→P r)→P s
theorem Reach.start {L:List Ins}:Reach L (0,0):=fun _ h _=>h
theorem Reach.step {L:List Ins} {s r:Nat × Nat} (h:Reach L s) (g:goes L s r):Reach L r:=fun P h0 hs=>hs s r (h P h0 hs) g
def Wrong (L:List Ins) (i:Nat):Prop:=∃ d,Reach L (i,d)∧(fault L (i,d) ∨ ∃ e,Reach L (i,e)∧e ≠ d)
/-- n is the least number that is wrong; the code's length: none is. -/
structure Fin (L:List Ins) (n:Nat):Prop where
  le:n≤L.length
  low:∀ i,i < n→¬ Wrong L i
  at_:n < L.length→Wrong L n
theorem Fin.unique {L:List Ins} {n m:Nat} (h:Fin L n) (k:Fin L m):n=m:=by
  rcases Nat.lt_trichotomy n m with q | q | q
  · exact absurd (h.at_ (Nat.lt_of_lt_of_le q k.le)) (k.low n q)
  · exact q
  · exact absurd (k.at_ (Nat.lt_of_lt_of_le q h.le)) (h.low m q)
/-- While ways are gone: S was come to, T is to be gone on from, X is being gone on from. -/
structure Inv (L:List Ins) (S T:List (Nat × Nat)) (X:Nat × Nat→Prop) (wr:Nat):Prop where
  nd:S.Nodup
  tnd:T.Nodup
  sub:∀ q,q ∈ T→q ∈ S
  start:(0,0) ∈ S
  rng:∀ q,q ∈ S→q.1 < L.length∧q.2≤256
  reach:∀ q,q ∈ S→Reach L q
  clo:∀ q,q ∈ S→q ∉ T→¬ X q→(∀ r,goes L q r→r ∈ S)∧(fault L q→wr≤q.1)
  le:wr≤L.length
  snd:wr < L.length→Wrong L wr
/-- No place has two depths ahead of wr. -/
def Two (S:List (Nat × Nat)) (wr:Nat):Prop:=∀ i d e,(i,d) ∈ S→(i,e) ∈ S→d ≠ e→wr≤i
def nox (_:Nat × Nat):Prop:=False
theorem Inv.init {L:List Ins} (h:0 < L.length):Inv L [(0,0)] [(0,0)] nox L.length where
  nd:=by simp
  tnd:=by simp
  sub:=fun q h=>h
  start:=by simp
  rng:=fun q hq=>by simp at hq;subst hq;exact ⟨h,by decide⟩
  reach:=fun q hq=>by simp at hq;subst hq;exact .start
  clo:=fun q hq hn _=>absurd hq hn
  le:=Nat.le_refl _
  snd:=fun h=>absurd h (Nat.lt_irrefl _)
theorem Two.init (n:Nat):Two [(0,0)] n:=fun i d e h k hne=>by
  simp only [List.mem_singleton,Prod.mk.injEq] at h k
  omega
theorem Inv.pop {L:List Ins} {S T:List (Nat × Nat)} {q:Nat × Nat} {wr:Nat} (h:Inv L S (T ++ [q]) nox wr):Inv L S T (·=q) wr:=by
  have ha:=List.nodup_append.1 h.tnd
  refine ⟨h.nd,ha.1,fun r hr=>h.sub r (by simp [hr]),h.start,h.rng,h.reach,fun r hr hn hx=>h.clo r hr (fun hm=>?_) (fun hf=>hf),h.le,h.snd⟩
  rcases List.mem_append.1 hm with hm | hm
  · exact hn hm
  · exact hx (by simpa using hm)
theorem Inv.add {L:List Ins} {S T:List (Nat × Nat)} {X:Nat × Nat→Prop} {r:Nat × Nat} {wr:Nat} (h:Inv L S T X wr) (hr:Reach L r) (h1:r.1 < L.length) (h2:r.2≤256) (hn:r ∉ S):Inv L (S ++ [r]) (T ++ [r]) X wr where
  nd:=List.nodup_append.2 ⟨h.nd,by simp,fun a ha b hb e=>by simp at hb;subst hb;subst e;exact hn ha⟩
  tnd:=List.nodup_append.2 ⟨h.tnd,by simp,fun a ha b hb e=>by simp at hb;subst hb;subst e;exact hn (h.sub _ ha)⟩
  sub:=fun q hq=>by
    rcases List.mem_append.1 hq with hq | hq
    · exact List.mem_append.2 (Or.inl (h.sub q hq))
    · exact List.mem_append.2 (Or.inr hq)
  start:=List.mem_append.2 (Or.inl h.start)
  rng:=fun q hq=>by
    rcases List.mem_append.1 hq with hq | hq
    · exact h.rng q hq
    · simp at hq;subst hq;exact ⟨h1,h2⟩
  reach:=fun q hq=>by
    rcases List.mem_append.1 hq with hq | hq
    · exact h.reach q hq
    · simp at hq;subst hq;exact hr
  clo:=fun q hq hn hx=>by
    rcases List.mem_append.1 hq with hq | hq
    · obtain ⟨c1,c2⟩:=h.clo q hq (fun hm=>hn (List.mem_append.2 (Or.inl hm))) hx
      exact ⟨fun s hs=>List.mem_append.2 (Or.inl (c1 s hs)),c2⟩
    · exact absurd (List.mem_append.2 (Or.inr hq)) hn
  le:=h.le
  snd:=h.snd
theorem Inv.fail {L:List Ins} {S T:List (Nat × Nat)} {X:Nat × Nat→Prop} {wr:Nat} (h:Inv L S T X wr) (i:Nat) (hw:Wrong L i):Inv L S T X (min wr i) where
  nd:=h.nd
  tnd:=h.tnd
  sub:=h.sub
  start:=h.start
  rng:=h.rng
  reach:=h.reach
  clo:=fun q hq hn hx=>by
    obtain ⟨c1,c2⟩:=h.clo q hq hn hx
    exact ⟨c1,fun hf=>Nat.le_trans (Nat.min_le_left ..) (c2 hf)⟩
  le:=Nat.le_trans (Nat.min_le_left ..) h.le
  snd:=fun hl=>by
    rcases Nat.le_total wr i with hi | hi
    · rw [Nat.min_eq_left hi] at hl ⊢;exact h.snd hl
    · rw [Nat.min_eq_right hi];exact hw
theorem Inv.done {L:List Ins} {S T:List (Nat × Nat)} {q:Nat × Nat} {wr:Nat} (h:Inv L S T (·=q) wr) (h1:∀ r,goes L q r→r ∈ S) (h2:fault L q→wr≤q.1):Inv L S T nox wr :=
  ⟨h.nd,h.tnd,h.sub,h.start,h.rng,h.reach,fun r hr hn _=>by
    by_cases e:r=q
    · subst e;exact ⟨h1,h2⟩
    · exact h.clo r hr hn e,h.le,h.snd⟩
theorem Inv.all {L:List Ins} {S:List (Nat × Nat)} {wr:Nat} (h:Inv L S [] nox wr) (s:Nat × Nat):s ∈ S ↔ Reach L s:=by
  refine ⟨h.reach s,fun hr=>?_⟩
  exact hr (fun q=>q ∈ S) h.start (fun q r ih hg=>(h.clo _ ih (by simp) (fun hf=>hf)).1 _ hg)
theorem Inv.fin {L:List Ins} {S:List (Nat × Nat)} {wr:Nat} (h:Inv L S [] nox wr) (t:Two S wr):Fin L wr:=by
  refine ⟨h.le,fun i hi hw=>?_,h.snd⟩
  obtain ⟨d,hr,hf | ⟨e,he,hne⟩⟩:=hw
  · have:=(h.clo _ ((h.all _).2 hr) (by simp) (fun hf=>hf)).2 hf
    simp only at this
    omega
  · have:=t i e d ((h.all _).2 he) ((h.all _).2 hr) hne
    omega
theorem Two.mono {S:List (Nat × Nat)} {n m:Nat} (h:Two S n) (k:m≤n):Two S m:=fun i d e a b c=>Nat.le_trans k (h i d e a b c)
/-- Too many places and depths there can't be. -/
theorem nodup_le:∀ (n:Nat) (l:List Nat),l.Nodup→(∀ x,x ∈ l→x < n)→l.length≤n
  | 0,l,_,h=>by
    cases l with
    | nil=>simp
    | cons a l=>exact absurd (h a (by simp)) (Nat.not_lt_zero _)
  | n+1,l,hn,h=>by
    have h1:=nodup_le n (l.erase n) (hn.erase n) (fun x hx=>by
      have:=(List.Nodup.mem_erase_iff hn).1 hx
      have:=h x this.2
      omega)
    rw [List.length_erase] at h1
    split at h1 <;> omega
def enc (q:Nat × Nat):Nat:=q.1 * 257+q.2
theorem states_le {S:List (Nat × Nat)} {n:Nat} (hn:S.Nodup) (h:∀ q,q ∈ S→q.1 < n∧q.2≤256):S.length≤n * 257:=by
  have e:(S.map enc).length=S.length:=List.length_map ..
  rw [← e]
  refine nodup_le _ _ ?_ ?_
  · refine List.Pairwise.map _ ?_ (List.Pairwise.and_mem.1 hn)
    intro a b hab he
    obtain ⟨ha,hb,hne⟩:=hab
    have h1:=h a ha
    have h2:=h b hb
    refine hne ?_
    unfold enc at he
    obtain ⟨a1,a2⟩:=a
    obtain ⟨b1,b2⟩:=b
    simp only at *
    have:a1=b1:=by omega
    subst this
    have:a2=b2:=by omega
    rw [this]
  · intro x hx
    obtain ⟨q,hq,rfl⟩:=List.mem_map.1 hx
    have:=h q hq
    unfold enc
    omega
theorem Inv.size {L:List Ins} {S T:List (Nat × Nat)} {X:Nat × Nat→Prop} {wr:Nat} (h:Inv L S T X wr):S.length≤L.length * 257:=states_le h.nd h.rng
/-- The measure: what may still be come to. -/
def mu (L:List Ins) (S T:List (Nat × Nat)):Nat:=2 * (L.length * 257 - S.length)+T.length
/-- The depths that the code has, if it is right: -1 of what isn't reached. -/
structure Dps (L:List Ins) (ds:List Int):Prop where
  len:ds.length=L.length
  yes:∀ i d,i < L.length→Reach L (i,d)→ds[i]?=some (d:Int)
  no:∀ i,i < L.length→(∀ d,¬ Reach L (i,d))→ds[i]?=some (-1)
theorem Dps.unique {L:List Ins} {a b:List Int} (h:Dps L a) (k:Dps L b):a=b:=by
  apply List.ext_getElem?
  intro i
  by_cases hi:i < L.length
  · by_cases hr:∃ d,Reach L (i,d)
    · obtain ⟨d,hd⟩:=hr
      rw [h.yes i d hi hd,k.yes i d hi hd]
    · have hn:∀ d,¬ Reach L (i,d):=fun d hd=>hr ⟨d,hd⟩
      rw [h.no i hi hn,k.no i hi hn]
  · rw [List.getElem?_eq_none (by rw [h.len];omega),List.getElem?_eq_none (by rw [k.len];omega)]
end Cod
end Go.Proofs.YthjclogkcmomkaaGreatDoor
namespace Go.Proofs.YthjclogkcmomkaaGreatDoor
open Go.RowKit
open Cod Fb
namespace Cod
def opw (k:Nat):List UInt8:=[[],[112,117,115,104],[108,111,97,100],[115,116,111,114,101],[108,111,97,100,97,116],[99,104,101,99,107,97,116],[115,116,111,114,101,97,116],[110,101,103],[110,111,116],[97,112,112,108,121],[99,111,110,118,101,114,116],[115,104,105,102,116],[97,98,115],[109,105,110],[109,97,120],[115,101,108],[100,117,112],[100,114,111,112],[106,117,109,112],[122,101,114,111],[111,116,104,101,114],[115,116,101,112],[99,97,108,108],[101,110,100],[112,105,99,107]].getD k []
end Cod
def opv (k:Nat):List Value:=[.string (tx (opw k)),.int .i64 (tk k:Nat),.int .i64 (pt k:Nat)]
def ops75:List Value:=(List.range 25).flatMap opv
theorem ops_len:ops75.length=75:=by kernel_rfl
/-- The program's variables lie as it lays them. -/
structure Tabs (w:World):Prop where
  ops:∀ j u,ops75[j]?=some u→w.cell? ⟨1,j,none⟩=some u
  big:1 < w.heap.size
theorem Tabs.belowB {B:Nat} {w w':World} (h:Tabs w) (hB:2≤B) (k:Below B w w'):Tabs w':=by
  have h5:=h.big
  exact ⟨fun j u hj=>(k.cell (p:=⟨1,j,none⟩) (show 1 < _ by omega)).trans (h.ops j u hj),Nat.lt_of_lt_of_le h5 k.size⟩
theorem Tabs.below {w w':World} (h:Tabs w) (k:Below w.heap.size w w'):Tabs w':=h.belowB (by have:=h.big;omega) k
theorem Tabs.same {w w':World} (h:Tabs w) (k:Same w w'):Tabs w':=h.below k.below
/-- The error sort lies as the program lays it. -/
structure ErrT (w:World):Prop where
  err:w.cell? ⟨0,0,none⟩=some (.iface 142 (.agg #[.pointer (some ⟨2,31,none⟩)]))
theorem ErrT.below {w w':World} (h:ErrT w) (k:Below w.heap.size w w'):ErrT w':=⟨(k.cell (p:=⟨0,0,none⟩) (World.block_lt_of_cell? w _ h.err)).trans h.err⟩
theorem flat3 {f:Nat→List Value} (hf:∀ k,(f k).length=3):∀ (n k j:Nat),k < n→j < 3→((List.range n).flatMap f)[k * 3+j]?=(f k)[j]?
  | 0,k,j,h,_=>absurd h (Nat.not_lt_zero _)
  | n+1,k,j,h,hj=>by
    have hl:∀ m,((List.range m).flatMap f).length=m * 3:=fun m=>by
      induction m with
      | zero=>rfl
      | succ m ih=>rw [List.range_succ,List.flatMap_append,List.length_append,ih];simp [hf];omega
    rw [List.range_succ,List.flatMap_append]
    by_cases hk:k < n
    · rw [List.getElem?_append_left (by rw [hl];omega)]
      exact flat3 hf n k j hk hj
    · have:k=n:=by omega
      subst this
      rw [List.getElem?_append_right (by rw [hl];omega),hl,show k * 3+j - k * 3=j by omega]
      simp
theorem Tabs.at_ {w:World} (h:Tabs w) {k:Nat} (hk:k < 25):w.cell? ⟨1,k * 3,none⟩=some (.string (tx (opw k)))∧w.cell? ⟨1,k * 3+1,none⟩=some (.int .i64 (tk k:Nat))∧w.cell? ⟨1,k * 3+2,none⟩=some (.int .i64 (pt k:Nat)):=by
  have e:∀ j,j < 3→ops75[k * 3+j]?=(opv k)[j]?:=fun j hj=>flat3 (f:=opv) (fun _=>rfl) 25 k j hk hj
  exact ⟨h.ops _ _ (e 0 (by omega)),h.ops _ _ (e 1 (by omega)),h.ops _ _ (e 2 (by omega))⟩
end Go.Proofs.YthjclogkcmomkaaGreatDoor
namespace Go.Proofs.YthjclogkcmomkaaGreatDoor
open Go.RowKit
open Fb Cod
namespace Cod
def Ins.cs (x:Ins):List Value:=[.int .i64 x.op,.int .i64 x.a,.int .i64 x.b,.int .i64 x.c,.string x.name]
def scal (k:Int):Bool:=decide (1≤k) && decide (k≤11)
def sgn (k:Int):Bool:=k == 2 || k == 3 || k == 4 || k == 11
def bitk (k:Int):Bool:=k == 8 || k == 9 || k == 10
end Cod
/-- The i-th instruction of a list that lies in memory. -/
def InsAt (w:World) (b o i:Nat) (x:Ins):Prop:=∀ k u,x.cs[k]?=some u→w.cell? ⟨b,o+i * 5+k,none⟩=some u
theorem keep_cell {w u:World} {p:Addr} {v:Value} (k:Below w.heap.size w u) (h:w.cell? p=some v):u.cell? p=some v:=(k.cell (lt_of_cell h)).trans h
theorem InsAt.below {w u:World} {b o i:Nat} {x:Ins} (h:InsAt w b o i x) (k:Below w.heap.size w u):InsAt u b o i x:=fun j v hv=>keep_cell k (h j v hv)
/-- Instructions in memory. -/
def Il (w:World) (la:Option Addr) (L:List Ins):Prop:=L=[] ∨ ∃ b o,la=some ⟨b,o,none⟩∧∀ i x,L[i]?=some x→InsAt w b o i x
theorem Il.below {w u:World} {la:Option Addr} {L:List Ins} (h:Il w la L) (k:Below w.heap.size w u):Il u la L:=by
  rcases h with h | ⟨b,o,rfl,h⟩
  · exact Or.inl h
  · exact Or.inr ⟨b,o,rfl,fun i x hx=>(h i x hx).below k⟩
theorem Il.kept {w u:World} {la:Option Addr} {L:List Ins} (h:Il w la L) (k:∀ p,la=some p→u.heap[p.block]?=w.heap[p.block]?):Il u la L:=by
  rcases h with h | ⟨b,o,rfl,h⟩
  · exact Or.inl h
  · refine Or.inr ⟨b,o,rfl,fun i x hx j v hv=>?_⟩
    have hb:u.heap[b]?=w.heap[b]?:=k _ rfl
    exact (World.cell?_of_block (w:=w) (a:=⟨b,o+i * 5+j,none⟩) hb).trans (h i x hx j v hv)
theorem Il.belowB {w u:World} {B:Nat} {la:Option Addr} {L:List Ins} (h:Il w la L) (hl:∀ p,la=some p→0 < L.length→p.block < B) (k:Below B w u):Il u la L:=by
  by_cases h0:0 < L.length
  · exact h.kept (fun p hp=>k.block _ (hl p hp h0))
  · exact Or.inl (List.length_eq_zero_iff.1 (by omega))
theorem Il.same {w u:World} {la:Option Addr} {L:List Ins} (h:Il w la L) (k:Same w u):Il u la L:=h.below k.below
theorem Il.at_ {w:World} {la:Option Addr} {L:List Ins} {i:Nat} {x:Ins} (h:Il w la L) (hx:L[i]?=some x):∃ b o,la=some ⟨b,o,none⟩∧w.cell? ⟨b,o+i * 5,none⟩=some (.int .i64 x.op)∧w.cell? ⟨b,o+i * 5+1,none⟩=some (.int .i64 x.a)∧w.cell? ⟨b,o+i * 5+2,none⟩=some (.int .i64 x.b)∧w.cell? ⟨b,o+i * 5+3,none⟩=some (.int .i64 x.c)∧w.cell? ⟨b,o+i * 5+4,none⟩=some (.string x.name):=by
  rcases h with rfl | ⟨b,o,rfl,h⟩
  · simp at hx
  · have q:=h i x hx
    exact ⟨b,o,rfl,q 0 _ rfl,q 1 _ rfl,q 2 _ rfl,q 3 _ rfl,q 4 _ rfl⟩
theorem Il.lt {w:World} {la:Option Addr} {L:List Ins} (h:Il w la L) {b o:Nat} (hl:la=some ⟨b,o,none⟩) (h0:0 < L.length):b < w.heap.size:=by
  rcases h with rfl | ⟨b',o',hl',h⟩
  · simp at h0
  · rw [hl] at hl'
    simp only [Option.some.injEq,Addr.mk.injEq] at hl'
    obtain ⟨rfl,rfl,_⟩:=hl'
    exact lt_of_cell (h 0 _ (List.getElem?_eq_getElem h0) 0 _ rfl)
theorem kind_cases (k:Int):(k=1 ∨ k=2 ∨ k=3 ∨ k=4 ∨ k=5 ∨ k=6 ∨ k=7 ∨ k=8 ∨ k=9 ∨ k=10 ∨ k=11) ∨ ¬ (1≤k∧k≤11):=by omega
set_option maxHeartbeats 800000 in
theorem width_in (k:Int) (W:Int) (h:(k=1∧W=1) ∨ (k=2∧W=8) ∨ (k=3∧W=16) ∨ (k=4∧W=32) ∨ (k=5∧W=8) ∨ (k=6∧W=16) ∨ (k=7∧W=32) ∨ (k=8∧W=8) ∨ (k=9∧W=16) ∨ (k=10∧W=32) ∨ (k=11∧W=32)) (w:World):Calls Tryz.prog 72 #[.int .i64 k] w fun e w'=>e=.returned (.int .i64 W)∧w'=w:=by
  rcases h with ⟨rfl,rfl⟩ | ⟨rfl,rfl⟩ | ⟨rfl,rfl⟩ | ⟨rfl,rfl⟩ | ⟨rfl,rfl⟩ | ⟨rfl,rfl⟩ | ⟨rfl,rfl⟩ | ⟨rfl,rfl⟩ | ⟨rfl,rfl⟩ | ⟨rfl,rfl⟩ | ⟨rfl,rfl⟩ <;>
  · go_enter Tryz.func72,Tryz.ntmps72
    go_wp2
    go_ret
    exact ⟨rfl,rfl⟩
theorem ne_b {k:Int} {n:Int} (h:k ≠ n):(k == n)=false:=by rw [beq_eq_false_iff_ne];exact h
set_option maxHeartbeats 800000 in
theorem width_out (k:Int) (h:¬ (1≤k∧k≤11)) (w:World):Calls Tryz.prog 72 #[.int .i64 k] w fun e w'=>e=.returned (.int .i64 0)∧w'=w:=by
  have h1:=ne_b (show k ≠ 1 by omega)
  have h2:=ne_b (show k ≠ 2 by omega)
  have h3:=ne_b (show k ≠ 3 by omega)
  have h4:=ne_b (show k ≠ 4 by omega)
  have h5:=ne_b (show k ≠ 5 by omega)
  have h6:=ne_b (show k ≠ 6 by omega)
  have h7:=ne_b (show k ≠ 7 by omega)
  have h8:=ne_b (show k ≠ 8 by omega)
  have h9:=ne_b (show k ≠ 9 by omega)
  have h10:=ne_b (show k ≠ 10 by omega)
  have h11:=ne_b (show k ≠ 11 by omega)
  go_enter Tryz.func72,Tryz.ntmps72
  go_wp2
  go_ret
  exact ⟨rfl,rfl⟩
theorem scal_in {k:Int} (h:1≤k∧k≤11):scal k=true:=by unfold scal;rw [decide_eq_true h.1,decide_eq_true h.2];rfl
theorem scal_out {k:Int} (h:¬ (1≤k∧k≤11)):scal k=false:=by
  unfold scal
  by_cases h1:1≤k
  · rw [decide_eq_false (show ¬ k≤11 by omega)];simp
  · rw [decide_eq_false h1];rfl
theorem width_is (k:Int) (h:1≤k∧k≤11):∃ W:Int,0 < W∧∀ w:World,Calls Tryz.prog 72 #[.int .i64 k] w fun e w'=>e=.returned (.int .i64 W)∧w'=w:=by
  rcases kind_cases k with h' | h'
  · rcases h' with rfl | rfl | rfl | rfl | rfl | rfl | rfl | rfl | rfl | rfl | rfl
    · exact ⟨1,by decide,fun w=>width_in 1 1 (by simp) w⟩
    · exact ⟨8,by decide,fun w=>width_in 2 8 (by simp) w⟩
    · exact ⟨16,by decide,fun w=>width_in 3 16 (by simp) w⟩
    · exact ⟨32,by decide,fun w=>width_in 4 32 (by simp) w⟩
    · exact ⟨8,by decide,fun w=>width_in 5 8 (by simp) w⟩
    · exact ⟨16,by decide,fun w=>width_in 6 16 (by simp) w⟩
    · exact ⟨32,by decide,fun w=>width_in 7 32 (by simp) w⟩
    · exact ⟨8,by decide,fun w=>width_in 8 8 (by simp) w⟩
    · exact ⟨16,by decide,fun w=>width_in 9 16 (by simp) w⟩
    · exact ⟨32,by decide,fun w=>width_in 10 32 (by simp) w⟩
    · exact ⟨32,by decide,fun w=>width_in 11 32 (by simp) w⟩
  · exact absurd h h'
theorem scalar_c (k:Int) (w:World):Calls Tryz.prog 70 #[.int .i64 k] w fun e w'=>e=.returned (.bool (scal k))∧w'=w:=by
  by_cases h:1≤k∧k≤11
  · rw [scal_in h]
    obtain ⟨W,hW,C⟩:=width_is k h
    go_enter Tryz.func70,Tryz.ntmps70
    go_wp2_with (go_at_call 72;refine (C _).mono ?_;rintro e w' ⟨rfl,hw⟩;subst w')
    go_ret
    exact ⟨rfl,rfl⟩
  · rw [scal_out h]
    have C:=width_out k h
    clear h
    go_enter Tryz.func70,Tryz.ntmps70
    go_wp2_with (go_at_call 72;refine (C _).mono ?_;rintro e w' ⟨rfl,hw⟩;subst w')
    go_ret
    exact ⟨rfl,rfl⟩
set_option maxHeartbeats 800000 in
theorem signed_c (k:Int) (w:World):Calls Tryz.prog 73 #[.int .i64 k] w fun e w'=>e=.returned (.bool (sgn k))∧w'=w:=by
  by_cases h:k=2 ∨ k=3 ∨ k=4 ∨ k=11
  · rcases h with rfl | rfl | rfl | rfl <;>
    · go_enter Tryz.func73,Tryz.ntmps73
      go_wp2
      go_ret
      exact ⟨rfl,rfl⟩
  · have h2:=ne_b (show k ≠ 2 by omega)
    have h3:=ne_b (show k ≠ 3 by omega)
    have h4:=ne_b (show k ≠ 4 by omega)
    have h11:=ne_b (show k ≠ 11 by omega)
    have H:Hid (sgn k=false):=by unfold sgn;rw [h2,h3,h4,h11];rfl
    clear h
    go_enter Tryz.func73,Tryz.ntmps73
    go_wp2
    go_ret
    exact ⟨ret_bool H.out.symm,rfl⟩
set_option maxHeartbeats 800000 in
theorem bits_c (F:Nat) (hF:F=123 ∨ F=54) (k:Int) (w:World):Calls Tryz.prog F #[.int .i64 k] w fun e w'=>e=.returned (.bool (bitk k))∧w'=w:=by
  by_cases h:k=8 ∨ k=9 ∨ k=10
  · rcases hF with rfl | rfl <;> rcases h with rfl | rfl | rfl
    · go_enter Tryz.func123,Tryz.ntmps123
      go_wp2
      go_ret
      exact ⟨rfl,rfl⟩
    · go_enter Tryz.func123,Tryz.ntmps123
      go_wp2
      go_ret
      exact ⟨rfl,rfl⟩
    · go_enter Tryz.func123,Tryz.ntmps123
      go_wp2
      go_ret
      exact ⟨rfl,rfl⟩
    · go_enter Tryz.func54,Tryz.ntmps54
      go_wp2
      go_ret
      exact ⟨rfl,rfl⟩
    · go_enter Tryz.func54,Tryz.ntmps54
      go_wp2
      go_ret
      exact ⟨rfl,rfl⟩
    · go_enter Tryz.func54,Tryz.ntmps54
      go_wp2
      go_ret
      exact ⟨rfl,rfl⟩
  · have h2:=ne_b (show k ≠ 8 by omega)
    have h3:=ne_b (show k ≠ 9 by omega)
    have h4:=ne_b (show k ≠ 10 by omega)
    have H:Hid (bitk k=false):=by unfold bitk;rw [h2,h3,h4];rfl
    clear h
    rcases hF with rfl | rfl
    · go_enter Tryz.func123,Tryz.ntmps123
      go_wp2
      go_ret
      exact ⟨ret_bool H.out.symm,rfl⟩
    · go_enter Tryz.func54,Tryz.ntmps54
      go_wp2
      go_ret
      exact ⟨ret_bool H.out.symm,rfl⟩
/-- DINT's range. -/
theorem range4_c (w:World):Calls Tryz.prog 138 #[.int .i64 4] w fun e w'=>e=.returned (.tuple #[.int .i64 (-2147483648),.int .i64 2147483647])∧w'=w:=by
  have C:=fun W:World=>width_in 4 32 (by simp) W
  have D:=fun W:World=>signed_c 4 W
  go_enter Tryz.func138,Tryz.ntmps138
  go_wp2_with (first | (go_at_call 72;refine (C _).mono ?_;rintro e w' ⟨rfl,hw⟩;subst w') | (go_at_call 73;refine (D _).mono ?_;rintro e w' ⟨rfl,hw⟩;subst w'))
  go_ret2
  exact ⟨rfl,rfl⟩
/-- Cells from first on, count of them: are they there? -/
theorem areCells_c (va:Option Addr) (kn kc:Nat) (a n:Int) (w:World) (hk:kn≤4611686018427387904) (hn:0≤n) (hn2:n≤4611686018427387904):Calls Tryz.prog 121 #[.slice va kn kc,.int .i64 a,.int .i64 n] w fun e w'=>e=.returned (.bool (decide (0≤a) && decide (a≤kn - n)))∧w'=w:=by
  have hw:wrap64 ((kn:Int) - n)=kn - n:=by unfold wrap64;omega
  by_cases h1:0≤a
  · by_cases h2:a≤kn - n
    · have H:Hid ((decide (0≤a) && decide (a≤(kn:Int) - n))=true):=by rw [decide_eq_true h1,decide_eq_true h2];rfl
      go_enter Tryz.func121,Tryz.ntmps121
      go_wp2
      go_ret
      exact ⟨ret_bool H.out.symm,rfl⟩
    · have H:Hid (decide (a≤(kn:Int) - n)=false):=decide_eq_false h2
      go_enter Tryz.func121,Tryz.ntmps121
      go_wp2
      go_ret
      exact ⟨ret_bool H.out.symm,rfl⟩
  · have H:Hid ((decide (0≤a) && decide (a≤(kn:Int) - n))=false):=by rw [decide_eq_false h1];rfl
    go_enter Tryz.func121,Tryz.ntmps121
    go_wp2
    go_ret
    exact ⟨ret_bool H.out.symm,rfl⟩
end Go.Proofs.YthjclogkcmomkaaGreatDoor
