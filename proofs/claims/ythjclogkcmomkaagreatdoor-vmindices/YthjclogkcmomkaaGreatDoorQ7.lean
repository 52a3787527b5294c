/- Bits of words of sixty-four; a meeting turned (stage 20). · The walk of comeTo, where it was already (stage 20). -/
import Derived.Test.YthjclogkcmomkaaGreatDoorQ6
namespace Go.Proofs.YthjclogkcmomkaaGreatDoor
open Go.RowKit
open Fb Cod
theorem pow_wrap {r:Nat} (h:r < 64):IntKind.u64.wrap (2 ^ r)=((2 ^ r:Nat):Int):=by
  have h1:2 ^ r < 2 ^ 64:=Nat.pow_lt_pow_right (by decide) h
  have e:(2:Int) ^ r=((2 ^ r:Nat):Int):=by simp
  rw [e]
  generalize 2 ^ r=P at *
  simp only [IntKind.wrap,IntKind.bits,IntKind.signed]
  simp
  omega
theorem pow_small {r:Nat} (h:r < 64):2 ^ r < 18446744073709551616:=by
  have h1:2 ^ r < 2 ^ 64:=Nat.pow_lt_pow_right (by decide) h
  omega
theorem u64_is {a:Nat} (h:a < 18446744073709551616):IntKind.u64.wrap (a:Int)=(a:Int):=by
  simp only [IntKind.wrap,IntKind.bits,IntKind.signed]
  simp
  omega
theorem and_64 {a b:Nat} (ha:a < 18446744073709551616) (hb:b < 18446744073709551616):bits .and .u64 (a:Int) (b:Int)=((a &&& b:Nat):Int):=by
  show IntKind.u64.wrap ((BitVec.ofInt 64 (a:Int) &&& BitVec.ofInt 64 (b:Int)).toNat:Int)=_
  have h:(BitVec.ofInt 64 (a:Int) &&& BitVec.ofInt 64 (b:Int)).toNat=a &&& b:=by
    rw [BitVec.toNat_and,BitVec.ofInt_natCast,BitVec.toNat_ofNat,BitVec.ofInt_natCast,BitVec.toNat_ofNat,Nat.mod_eq_of_lt ha,Nat.mod_eq_of_lt hb]
  have hlt:a &&& b < 2 ^ 64:=Nat.and_lt_two_pow a hb
  rw [h,u64_is (by omega)]
theorem or_64 {a b:Nat} (ha:a < 18446744073709551616) (hb:b < 18446744073709551616):bits .or .u64 (a:Int) (b:Int)=((a ||| b:Nat):Int):=by
  show IntKind.u64.wrap ((BitVec.ofInt 64 (a:Int) ||| BitVec.ofInt 64 (b:Int)).toNat:Int)=_
  have h:(BitVec.ofInt 64 (a:Int) ||| BitVec.ofInt 64 (b:Int)).toNat=a ||| b:=by
    rw [BitVec.toNat_or,BitVec.ofInt_natCast,BitVec.toNat_ofNat,BitVec.ofInt_natCast,BitVec.toNat_ofNat,Nat.mod_eq_of_lt ha,Nat.mod_eq_of_lt hb]
  have hlt:a ||| b < 2 ^ 64:=Nat.or_lt_two_pow ha hb
  rw [h,u64_is (by omega)]
theorem and_pow (a r:Nat):(a &&& 2 ^ r=0) ↔ a.testBit r=false:=by
  constructor
  · intro h
    have:=congrArg (fun n=>n.testBit r) h
    simpa [Nat.testBit_and,Nat.testBit_two_pow] using this
  · intro h
    apply Nat.eq_of_testBit_eq
    intro j
    rw [Nat.testBit_and,Nat.testBit_two_pow,Nat.zero_testBit]
    by_cases hj:r=j
    · subst hj;rw [h];rfl
    · rw [decide_eq_false hj,Bool.and_false]
theorem bit_yes {a r:Nat} (ha:a < 18446744073709551616) (hr:r < 64) (h:a.testBit r=true):(bits .and .u64 (a:Int) ((2 ^ r:Nat):Int) != 0)=true:=by
  rw [and_64 ha (pow_small hr),bne_iff_ne]
  intro e
  have e':a &&& 2 ^ r=0:=by omega
  rw [(and_pow a r).1 e'] at h
  cases h
theorem bit_no {a r:Nat} (ha:a < 18446744073709551616) (hr:r < 64) (h:a.testBit r=false):(bits .and .u64 (a:Int) ((2 ^ r:Nat):Int) != 0)=false:=by
  rw [and_64 ha (pow_small hr),(and_pow a r).2 h]
  rfl
theorem or_small {a r:Nat} (ha:a < 18446744073709551616) (hr:r < 64):a ||| 2 ^ r < 18446744073709551616:=by
  have:a ||| 2 ^ r < 2 ^ 64:=Nat.or_lt_two_pow ha (by have:=pow_small hr;omega)
  omega
theorem or_bit (a r j:Nat):(a ||| 2 ^ r).testBit j=true ↔ a.testBit j=true ∨ r=j:=by
  rw [Nat.testBit_or,Nat.testBit_two_pow,Bool.or_eq_true,decide_eq_true_iff]
/-- One word of a meeting, set. -/
def usb (u:Nat→Nat) (q v:Nat):Nat→Nat:=fun j=>if j=q then v else u j
theorem Meet.add {S:List (Nat × Nat)} {wr wr' i f d q r:Nat} {u:Nat→Nat} (h:Meet S wr i f u) (hd:d≤256) (hq:d=q * 64+r) (hr:r < 64) (hl:wr'≤wr) (hw:d ≠ f→wr'≤i):Meet (S ++ [(i,d)]) wr' i f (usb u q (u q ||| 2 ^ r)) where
  f6:=h.f6
  fm:=List.mem_append.2 (Or.inl h.fm)
  sm:=fun j=>by
    unfold usb
    split
    · exact or_small (h.sm q) hr
    · exact h.sm j
  bit:=fun e he=>by
    rw [List.mem_append,List.mem_singleton,Prod.mk.injEq,← h.bit e he]
    unfold usb
    by_cases hj:e / 64=q
    · rw [if_pos hj,hj,or_bit]
      have:(r=e % 64) ↔ (i=i∧e=d):=⟨fun k=>⟨rfl,by omega⟩,fun k=>by omega⟩
      rw [this]
    · rw [if_neg hj]
      exact ⟨Or.inl,fun k=>k.elim id (fun k=>absurd (show e / 64=q by omega) hj)⟩
  two:=fun e he hne=>by
    rcases List.mem_append.1 he with he | he
    · exact Nat.le_trans hl (h.two e he hne)
    · simp at he;subst he;exact hw hne
theorem Meet.new {S:List (Nat × Nat)} {wr i d q r:Nat} (h:∀ e,(i,e) ∉ S) (hd:d≤256) (hq:d=q * 64+r) (hr:r < 64):Meet (S ++ [(i,d)]) wr i d (usb (fun _=>0) q (0 ||| 2 ^ r)) where
  f6:=hd
  fm:=List.mem_append.2 (Or.inr (by simp))
  sm:=fun j=>by
    unfold usb
    split
    · exact or_small (by decide) hr
    · exact (by decide:(0:Nat) < 18446744073709551616)
  bit:=fun e he=>by
    rw [List.mem_append,List.mem_singleton,Prod.mk.injEq]
    unfold usb
    by_cases hj:e / 64=q
    · rw [if_pos hj,or_bit]
      have:(r=e % 64) ↔ (i=i∧e=d):=⟨fun k=>⟨rfl,by omega⟩,fun k=>by omega⟩
      rw [this]
      simp [h]
    · rw [if_neg hj]
      refine ⟨fun k=>?_,fun k=>k.elim (fun k=>absurd k (h e)) (fun k=>absurd (show e / 64=q by omega) hj)⟩
      simp at k
  two:=fun e he hne=>by
    rcases List.mem_append.1 he with he | he
    · exact absurd he (h e)
    · simp at he;exact absurd he hne
theorem Meet.other {S:List (Nat × Nat)} {wr wr' j i f d:Nat} {u:Nat→Nat} (h:Meet S wr j f u) (hne:j ≠ i) (hl:wr'≤wr):Meet (S ++ [(i,d)]) wr' j f u where
  f6:=h.f6
  fm:=List.mem_append.2 (Or.inl h.fm)
  sm:=h.sm
  bit:=fun e he=>by
    rw [List.mem_append,List.mem_singleton,Prod.mk.injEq,← h.bit e he]
    simp [hne]
  two:=fun e he hn=>by
    rcases List.mem_append.1 he with he | he
    · exact Nat.le_trans hl (h.two e he hn)
    · simp at he;exact absurd he.1 hne
theorem Met.put {F:Nat→Option Value} {S:List (Nat × Nat)} {wr wr' i f d:Nat} {u:Nat→Nat} (h:Met F S wr) (hl:wr'≤wr) (hm:Meet (S ++ [(i,d)]) wr' i f u):Met (upd F i (mv f u)) (S ++ [(i,d)]) wr':=by
  intro j
  by_cases hj:j=i
  · subst hj
    exact Or.inr ⟨f,u,by simp [upd],hm⟩
  · rcases h j with ⟨h1,h2⟩ | ⟨f',u',h1,h2⟩
    · refine Or.inl ⟨by simp [upd,hj,h1],fun e he=>?_⟩
      rcases List.mem_append.1 he with he | he
      · exact h2 e he
      · simp at he;exact hj he.1
    · exact Or.inr ⟨f',u',by simp [upd,hj,h1],h2.other hj hl⟩
/-- A meeting's row, a word of it set. -/
def mrow (f:Nat) (u:Nat→Nat):List Value:=[.int .i64 (f:Int),.int .u64 (u 0:Nat),.int .u64 (u 1:Nat),.int .u64 (u 2:Nat),.int .u64 (u 3:Nat),.int .u64 (u 4:Nat)]
theorem mrow_set (f:Nat) (u:Nat→Nat) (q v:Nat) (h:q < 5):(mrow f u).set (1+q) (.int .u64 (v:Int))=mrow f (usb u q v):=by
  match q,h with
  | 0,_=>rfl
  | 1,_=>rfl
  | 2,_=>rfl
  | 3,_=>rfl
  | 4,_=>rfl
theorem mrow_at (f:Nat) (u:Nat→Nat) (q:Nat) (h:q < 5):(mrow f u)[1+q]?=some (.int .u64 (u q:Nat)):=by
  match q,h with
  | 0,_=>rfl
  | 1,_=>rfl
  | 2,_=>rfl
  | 3,_=>rfl
  | 4,_=>rfl
end Go.Proofs.YthjclogkcmomkaaGreatDoor
namespace Go.Proofs.YthjclogkcmomkaaGreatDoor
open Go.RowKit
open Fb Cod
/-- But for three blocks nothing that there was has turned. -/
def Oth (w w':World) (g m:Nat) (b:Option Nat):Prop:=∀ j,j < w.heap.size→j ≠ g→j ≠ m→some j ≠ b→w'.heap[j]?=w.heap[j]?
theorem Oth.below {w w':World} {g m:Nat} {b:Option Nat} (h:Below w.heap.size w w'):Oth w w' g m b:=fun j hj _ _ _=>h.block j hj
theorem alloc_row (w:World) (l:List Value) (t:TypeId):(w.alloc (.cells l.toArray t)).heap[w.heap.size]?=some (.cells l.toArray t (0,0)):=heap_alloc_new w _
theorem new_drew (w:World) (o:Obj):Below w.heap.size w (w.alloc o).drew:=below_and (below_new1 w o) (Same.drew _).below
set_option maxHeartbeats 3200000 in
set_option maxRecDepth 100000 in
theorem come_k1 {B:Nat} {w:World} {g m:Nat} {lv wv:Value} {S T:List (Nat × Nat)} {wr:Nat} (i d q r:Nat) (f:Nat) (u:Nat→Nat) (h:Wy B w g m lv wv S T wr) (hl:(Instr.lookup 163 (.map (some m)) (.int .i64 (i:Int)) true).run Tryz.prog w=.ok (.tuple #[.agg #[.int .i64 (f:Int),.int .u64 (u 0:Nat),.int .u64 (u 1:Nat),.int .u64 (u 2:Nat),.int .u64 (u 3:Nat),.int .u64 (u 4:Nat)],.bool true]) w)
    (hf:f=d) (hu:u q < 18446744073709551616) (hq:d=q * 64+r) (hr:r < 64) (hq5:q < 5) (hs:(u q).testBit r=true) :
    Calls Tryz.prog 85 #[.pointer (some ⟨g,0,none⟩),.int .i64 (i:Int),.int .i64 (d:Int)] w fun e w'=>e=.returned (.tuple #[])∧Below w.heap.size w w':=by
  have c1:=h.c1
  have e1:(d:Int) / 64=(q:Int):=by omega
  have e1n:d / 64=q:=by omega
  have e2:(d:Int) % 64=(r:Int):=by omega
  have e2n:d % 64=r:=by omega
  have e3n:r % 64=r:=by omega
  have q5:(q:Int) < 5:=by omega
  have e4:=pow_wrap hr
  have tb:=bit_yes hu hr hs
  have hb:((d:Int) != (d:Int))=false:=by simp
  subst hf
  have cq:(w.alloc (.cells #[.int .i64 (f:Int),.int .u64 (u 0:Nat),.int .u64 (u 1:Nat),.int .u64 (u 2:Nat),.int .u64 (u 3:Nat),.int .u64 (u 4:Nat)] 179)).cell? ⟨w.heap.size,1+q,none⟩=some (.int .u64 (u q:Nat)):=cell_row (l:=mrow f u) (alloc_row w (mrow f u) 179) (mrow_at f u q hq5)
  have HQ:=hid_as hq
  clear h hq hu hs
  generalize 2 ^ r=pw at *
  go_enter Tryz.func85,Tryz.ntmps85
  go_wp2
  go_region
  go_wp2
  (try simp only [Exit.inBlock,Exit.then])
  refine bodyPost_ret (results_none rfl _ _ _) rfl ?_
  exact ⟨rfl,new_drew _ _⟩
set_option maxHeartbeats 3200000 in
set_option maxRecDepth 100000 in
theorem come_k2 {B:Nat} {w:World} {g m:Nat} {lv wv:Value} {S T:List (Nat × Nat)} {wr:Nat} (i d q r:Nat) (f:Nat) (u:Nat→Nat) (h:Wy B w g m lv wv S T wr) (hl:(Instr.lookup 163 (.map (some m)) (.int .i64 (i:Int)) true).run Tryz.prog w=.ok (.tuple #[.agg #[.int .i64 (f:Int),.int .u64 (u 0:Nat),.int .u64 (u 1:Nat),.int .u64 (u 2:Nat),.int .u64 (u 3:Nat),.int .u64 (u 4:Nat)],.bool true]) w)
    (hf:f ≠ d) (hu:u q < 18446744073709551616) (hq:d=q * 64+r) (hr:r < 64) (hq5:q < 5) (hs:(u q).testBit r=true) (hB:B≤w.heap.size) :
    Calls Tryz.prog 85 #[.pointer (some ⟨g,0,none⟩),.int .i64 (i:Int),.int .i64 (d:Int)] w fun e w'=>e=.returned (.tuple #[])∧Wy B w' g m lv wv S T (min wr i)∧Below B w w'∧Oth w w' g m wv.ownBlock:=by
  have c1:=h.c1
  have e1:(d:Int) / 64=(q:Int):=by omega
  have e1n:d / 64=q:=by omega
  have e2:(d:Int) % 64=(r:Int):=by omega
  have e2n:d % 64=r:=by omega
  have e3n:r % 64=r:=by omega
  have q5:(q:Int) < 5:=by omega
  have e4:=pow_wrap hr
  have tb:=bit_yes hu hr hs
  have hb:((d:Int) != (f:Int))=true:=by rw [bne_iff_ne];omega
  have FC:Hid (Calls Tryz.prog 103 #[.pointer (some ⟨g,0,none⟩),.int .i64 (i:Int)] (w.alloc (.cells #[.int .i64 (f:Int),.int .u64 (u 0:Nat),.int .u64 (u 1:Nat),.int .u64 (u 2:Nat),.int .u64 (u 3:Nat),.int .u64 (u 4:Nat)] 179)) fun e w'=>e=.returned (.tuple #[])∧Wy B w' g m lv wv S T (min wr i)∧(Below B w w'∧Oth w w' g m wv.ownBlock)∧w'.cell? ⟨w.heap.size,1+q,none⟩=some (.int .u64 (u q:Nat))):=by
    refine (fail_c i (h.below (below_new1 w _))).mono ?_
    rintro e w' ⟨rfl,hw,ht⟩
    refine ⟨rfl,hw,⟨((below_new1 w _).mono hB).trans (ht.below h.gB (by simp;omega)),fun j hj h1 _ _=>(ht.block j (by simp;omega) (fun e=>h1 (by simpa using e))).trans ((below_new1 w _).block j hj)⟩,cell_row (l:=mrow f u) (t:=179) ?_ (mrow_at f u q hq5)⟩
    rw [ht.block _ (by simp) (fun e=>by have:=h.glt;simp at e;omega)]
    exact alloc_row w (mrow f u) 179
  have HQ:=hid_as hq
  clear h hq hu hs
  generalize 2 ^ r=pw at *
  go_enter Tryz.func85,Tryz.ntmps85
  go_wp2_with (go_at_call 103;refine FC.out.mono ?_;rintro e w1 ⟨rfl,hw1,hb1,cq⟩)
  have R:=hid_as (And.intro hw1 hb1)
  clear hw1 hb1 FC
  go_region
  go_wp2
  (try simp only [Exit.inBlock,Exit.then])
  refine bodyPost_ret (results_none rfl _ _ _) rfl ?_
  exact ⟨rfl,R.out.1.same (Same.drew _),R.out.2.1.trans ((Same.drew _).below.mono (by have:=R.out.2.1.size;omega)),fun j a1 a2 a3 a4=>R.out.2.2 j a1 a2 a3 a4⟩
theorem Wy.row_ne {B:Nat} {w:World} {g m:Nat} {lv wv:Value} {S T:List (Nat × Nat)} {wr:Nat} (h:Wy B w g m lv wv S T wr):m ≠ w.heap.size∧g ≠ w.heap.size:=by
  obtain ⟨F,hF,_⟩:=h.map
  have:=hF.lt
  have:=h.glt
  omega
end Go.Proofs.YthjclogkcmomkaaGreatDoor
