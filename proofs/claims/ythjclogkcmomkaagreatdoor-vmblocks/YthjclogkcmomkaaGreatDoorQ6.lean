/- goOn whole: what was come to grows, nothing is forgotten (stage 20). · What is right by itself; the walks of the small functions, of isArray (stage 20). · The walk of isArray (stage 20). -/
import Derived.Deep.CutRange
import Derived.Deep.CutBlock
import Derived.Test.YthjclogkcmomkaaGreatDoorQ5
namespace Go.Proofs.YthjclogkcmomkaaGreatDoor
open Go.RowKit
open Fb Cod
/-- What coming to a place keeps. -/
structure Kpt (L:List Ins) (q:Nat × Nat) (S T:List (Nat × Nat)) (X:Nat × Nat→Prop) (wr:Nat) (S' T':List (Nat × Nat)) (wr':Nat):Prop where
  inv:Inv L S' T' X wr'
  mem:q ∈ S'
  sub:∀ r,r ∈ S→r ∈ S'
  wr:wr'≤wr
  mu:mu L S' T'≤mu L S T
theorem Came.kpt {L:List Ins} {q:Nat × Nat} {S T S' T':List (Nat × Nat)} {X:Nat × Nat→Prop} {wr wr':Nat} (h:Came q S T wr S' T' wr') (k:Inv L S T X wr) (hr:Cod.Reach L q) (h1:q.1 < L.length) (h2:q.2≤256):Kpt L q S T X wr S' T' wr':=by
  have low:wr'≤wr:=by
    rcases h.wr with e | ⟨e,_⟩
    · omega
    · rw [e];exact Nat.min_le_left ..
  have turn:∀ {S' T'},Inv L S' T' X wr→Inv L S' T' X wr':=fun k'=>by
    rcases h.wr with e | ⟨e,d,hd,hne⟩
    · rw [e];exact k'
    · rw [e]
      exact k'.fail q.1 ⟨q.2,hr,Or.inr ⟨d,k.reach _ hd,hne⟩⟩
  by_cases hq:q ∈ S
  · obtain ⟨rfl,rfl⟩:=h.old hq
    exact ⟨turn k,hq,fun r hr=>hr,low,Nat.le_refl _⟩
  · obtain ⟨rfl,rfl⟩:=h.new hq
    have k':=k.add hr h1 h2 hq
    refine ⟨turn k',List.mem_append.2 (Or.inr (by simp)),fun r hr=>List.mem_append.2 (Or.inl hr),low,?_⟩
    have:=k'.size
    unfold mu
    rw [List.length_append,List.length_append] at *
    simp only [List.length_cons,List.length_nil] at *
    omega
/-- What going on from a place does. -/
def Gone (B:Nat) (w:World) (g m:Nat) (la:Option Addr) (n lc:Nat) (L:List Ins) (S T:List (Nat × Nat)) (e:Ending) (w':World):Prop :=
  e=.returned (.tuple #[])∧∃ wv' S' T' wr',Gw B w' g m la n lc wv' L S' T' wr'∧Inv L S' T' nox wr'∧mu L S' T'≤mu L S T∧Below B w w'
theorem goOn_c {B:Nat} {w:World} {g m:Nat} {la:Option Addr} {n lc:Nat} {wv:Value} {L:List Ins} {S T:List (Nat × Nat)} {wr:Nat} {i d:Nat} {x:Ins} (G:Gw B w g m la n lc wv L S T wr) (hn:n=L.length) (hn9:n≤1000000) (hx:L[i]?=some x) (ok:OkI n x) (inv:Inv L S T (·=(i,d)) wr) (hm:(i,d) ∈ S) (hT:T.length≤900000000) :
    Calls Tryz.prog 86 #[.pointer (some ⟨g,0,none⟩),.agg #[.int .i64 (i:Int),.int .i64 (d:Int)]] w (Gone B w g m la n lc L S T):=by
  have hr:=inv.reach _ hm
  have hrg:=inv.rng _ hm
  simp only at hrg
  have hd:=hrg.2
  have only:∀ y,L[i]?=some y→y=x:=fun y hy=>by rw [hx] at hy;exact (Option.some.inj hy).symm
  by_cases hb:d < x.t
  · refine (go_bad1 G hn hn9 hx ok hd hT hb).mono ?_
    rintro e w' ⟨rfl,h1,h2⟩
    have hf:fault L (i,d):=⟨x,hx,Or.inl (Or.inl hb)⟩
    refine ⟨rfl,wv,S,T,_,h1,(inv.fail i ⟨d,hr,Or.inl hf⟩).done (fun r hg=>?_) (fun _=>Nat.min_le_right ..),Nat.le_refl _,h2⟩
    obtain ⟨y,hy,hnb,_⟩:=hg
    rw [only y hy] at hnb
    exact absurd (Or.inl hb) hnb
  by_cases hb2:256 < x.dl d
  · refine (go_bad2 G hn hn9 hx ok hd hT hb hb2).mono ?_
    rintro e w' ⟨rfl,h1,h2⟩
    have hf:fault L (i,d):=⟨x,hx,Or.inl (Or.inr hb2)⟩
    refine ⟨rfl,wv,S,T,_,h1,(inv.fail i ⟨d,hr,Or.inl hf⟩).done (fun r hg=>?_) (fun _=>Nat.min_le_right ..),Nat.le_refl _,h2⟩
    obtain ⟨y,hy,hnb,_⟩:=hg
    rw [only y hy] at hnb
    exact absurd (Or.inr hb2) hnb
  have nb:¬ x.bad d:=fun h=>h.elim hb hb2
  have hi:=hrg.1
  by_cases o23:x.op=23
  · refine (go_end G hn hn9 hx ok hd hT hb hb2 o23).mono ?_
    rintro e w' ⟨rfl,h1,h2⟩
    refine ⟨rfl,wv,S,T,_,h1,inv.done (fun r hg=>?_) (fun hf=>?_),Nat.le_refl _,h2⟩
    · obtain ⟨y,hy,_,_,⟨hj,_⟩ | ⟨hj,_⟩⟩:=hg
      · rw [only y hy] at hj
        rcases hj with hj | hj | hj <;> omega
      · rw [only y hy] at hj
        exact absurd o23 hj.1
    · obtain ⟨y,hy,hb' | ⟨hj,_⟩⟩:=hf
      · rw [only y hy] at hb'
        exact absurd hb' nb
      · rw [only y hy] at hj
        exact absurd o23 hj.1
  have goesJ:x.jmp→∀ an:Nat,x.a=(an:Int)→goes L (i,d) (an,x.dl d):=fun hj an ha=>⟨x,hx,nb,rfl,Or.inl ⟨hj,by rw [ha];rfl⟩⟩
  have goesF:x.falls→i+1 < L.length→goes L (i,d) (i+1,x.dl d):=fun hj hl=>⟨x,hx,nb,rfl,Or.inr ⟨hj,rfl,hl⟩⟩
  have jn:x.jmp→∃ an:Nat,x.a=(an:Int)∧an < n:=fun hj=>by
    have:=ok.jmp hj
    exact ⟨x.a.toNat,by omega,by omega⟩
  by_cases o18:x.op=18
  · obtain ⟨an,ha,hal⟩:=jn (Or.inl o18)
    refine (go_jump G hn hn9 hx ok hd hT hb hb2 o18 an ha (Nat.le_of_lt hal)).mono ?_
    rintro e w' ⟨rfl,wv',S',T',wr',h1,h2,h3⟩
    have K:=h2.kpt inv (hr.step (goesJ (Or.inl o18) an ha)) (by simp only;omega) (by simp only;omega)
    refine ⟨rfl,wv',S',T',wr',h1,K.inv.done (fun r hg=>?_) (fun hf=>?_),K.mu,h3⟩
    · obtain ⟨y,hy,_,hr2,⟨_,hr1⟩ | ⟨hj,_⟩⟩:=hg
      · rw [only y hy,ha] at hr1
        rw [only y hy] at hr2
        have:r=(an,x.dl d):=Prod.ext hr1 hr2
        rw [this]
        exact K.mem
      · rw [only y hy] at hj
        exact absurd o18 hj.2
    · obtain ⟨y,hy,hb' | ⟨hj,_⟩⟩:=hf
      · rw [only y hy] at hb'
        exact absurd hb' nb
      · rw [only y hy] at hj
        exact absurd o18 hj.2
  have fl:x.falls:=⟨o23,o18⟩
  by_cases oz:x.op=19 ∨ x.op=20
  · have hj:x.jmp:=Or.inr oz
    obtain ⟨an,ha,hal⟩:=jn hj
    by_cases hl:i+1=n
    · have post:∀ e w',(e=Ending.returned (.tuple #[])∧∃ wv' S' T' wr',Gw B w' g m la n lc wv' L S' T' (min wr' i)∧Came (an,x.dl d) S T wr S' T' wr'∧Below B w w')→Gone B w g m la n lc L S T e w':=by
        rintro e w' ⟨rfl,wv',S',T',wr',h1,h2,h3⟩
        have K:=h2.kpt inv (hr.step (goesJ hj an ha)) (by simp only;omega) (by simp only;omega)
        have hf:fault L (i,d):=⟨x,hx,Or.inr ⟨fl,by simp only;omega⟩⟩
        refine ⟨rfl,wv',S',T',_,h1,(K.inv.fail i ⟨d,hr,Or.inl hf⟩).done (fun r hg=>?_) (fun _=>Nat.min_le_right ..),K.mu,h3⟩
        obtain ⟨y,hy,_,hr2,⟨_,hr1⟩ | ⟨_,_,hlt⟩⟩:=hg
        · rw [only y hy,ha] at hr1
          rw [only y hy] at hr2
          have:r=(an,x.dl d):=Prod.ext hr1 hr2
          rw [this]
          exact K.mem
        · simp only at hlt
          omega
      rcases oz with o | o
      · exact (go_zero19a G hn hn9 hx ok hd hT hb hb2 o an ha (Nat.le_of_lt hal) hl).mono post
      · exact (go_zero20a G hn hn9 hx ok hd hT hb hb2 o an ha (Nat.le_of_lt hal) hl).mono post
    · have hl2:i+1 < n:=by omega
      have post:∀ e w',(e=Ending.returned (.tuple #[])∧∃ wv' S1 T1 wr1 S' T' wr',Gw B w' g m la n lc wv' L S' T' wr'∧Came (an,x.dl d) S T wr S1 T1 wr1∧Came (i+1,x.dl d) S1 T1 wr1 S' T' wr'∧Below B w w')→Gone B w g m la n lc L S T e w':=by
        rintro e w' ⟨rfl,wv',S1,T1,wr1,S',T',wr',h1,h2,h2',h3⟩
        have K:=h2.kpt inv (hr.step (goesJ hj an ha)) (by simp only;omega) (by simp only;omega)
        have K2:=h2'.kpt K.inv (hr.step (goesF fl (by omega))) (by simp only;omega) (by simp only;omega)
        refine ⟨rfl,wv',S',T',_,h1,K2.inv.done (fun r hg=>?_) (fun hf=>?_),Nat.le_trans K2.mu K.mu,h3⟩
        · obtain ⟨y,hy,_,hr2,⟨_,hr1⟩ | ⟨_,hr1,_⟩⟩:=hg
          · rw [only y hy,ha] at hr1
            rw [only y hy] at hr2
            have:r=(an,x.dl d):=Prod.ext hr1 hr2
            rw [this]
            exact K2.sub _ K.mem
          · rw [only y hy] at hr2
            have:r=(i+1,x.dl d):=Prod.ext hr1 hr2
            rw [this]
            exact K2.mem
        · obtain ⟨y,hy,hb' | ⟨_,he⟩⟩:=hf
          · rw [only y hy] at hb'
            exact absurd hb' nb
          · simp only at he
            omega
      rcases oz with o | o
      · exact (go_zero19b G hn hn9 hx ok hd hT hb hb2 o an ha (Nat.le_of_lt hal) hl2).mono post
      · exact (go_zero20b G hn hn9 hx ok hd hT hb hb2 o an ha (Nat.le_of_lt hal) hl2).mono post
  have o4:x.op ≠ 23∧x.op ≠ 18∧x.op ≠ 19∧x.op ≠ 20:=⟨o23,o18,fun e=>oz (Or.inl e),fun e=>oz (Or.inr e)⟩
  have nj:¬ x.jmp:=fun h=>by
    rcases h with h | h | h
    · exact o4.2.1 h
    · exact o4.2.2.1 h
    · exact o4.2.2.2 h
  by_cases hl:i+1=n
  · refine (go_fall1 G hn hn9 hx ok hd hT hb hb2 o4 hl).mono ?_
    rintro e w' ⟨rfl,h1,h2⟩
    have hf:fault L (i,d):=⟨x,hx,Or.inr ⟨fl,by simp only;omega⟩⟩
    refine ⟨rfl,wv,S,T,_,h1,(inv.fail i ⟨d,hr,Or.inl hf⟩).done (fun r hg=>?_) (fun _=>Nat.min_le_right ..),Nat.le_refl _,h2⟩
    obtain ⟨y,hy,_,_,⟨hj,_⟩ | ⟨_,_,hlt⟩⟩:=hg
    · rw [only y hy] at hj
      exact absurd hj nj
    · simp only at hlt
      omega
  · refine (go_fall2 G hn hn9 hx ok hd hT hb hb2 o4 (by omega)).mono ?_
    rintro e w' ⟨rfl,wv',S',T',wr',h1,h2,h3⟩
    have K:=h2.kpt inv (hr.step (goesF fl (by omega))) (by simp only;omega) (by simp only;omega)
    refine ⟨rfl,wv',S',T',wr',h1,K.inv.done (fun r hg=>?_) (fun hf=>?_),K.mu,h3⟩
    · obtain ⟨y,hy,_,hr2,⟨hj,_⟩ | ⟨_,hr1,_⟩⟩:=hg
      · rw [only y hy] at hj
        exact absurd hj nj
      · rw [only y hy] at hr2
        have:r=(i+1,x.dl d):=Prod.ext hr1 hr2
        rw [this]
        exact K.mem
    · obtain ⟨y,hy,hb' | ⟨_,he⟩⟩:=hf
      · rw [only y hy] at hb'
        exact absurd hb' nb
      · simp only at he
        omega
end Go.Proofs.YthjclogkcmomkaaGreatDoor
namespace Go.Proofs.YthjclogkcmomkaaGreatDoor
open Go.RowKit
open Fb Cod
namespace Cod
def shn (s:ByteArray):Bool:=s.toList == [83,72,76] || s.toList == [83,72,82] || s.toList == [82,79,76] || s.toList == [82,79,82]
def aris (K:List Int) (x:Ins):Bool:=decide (1≤x.b) && decide (x.b≤256) && decide (0≤x.a) && decide (x.a≤(K.length:Int) - x.b) && ((K.drop x.a.toNat).take x.b.toNat).all (fun k=>k == K.getD x.a.toNat 0) && decide (-2147483648≤x.c) && decide (x.c≤2147483648 - x.b)
def pk (k:Nat):List Int:=(pI k ++ pO k).map (·.2) ++ [4,4,4]
def blkAt (K:List Int) (x:Ins) (k:Nat):Bool:=decide (0≤x.a) && decide (x.a≤(K.length:Int) - ((pk k).length:Int)) && decide ((K.drop x.a.toNat).take (pk k).length=pk k)
def blk (K:List Int) (x:Ins):Bool:=(List.range 10).any fun k=>x.name.toList == nml k && blkAt K x k
def rgt (K:List Int) (n:Nat) (x:Ins):Bool :=
  if x.op=1 ∨ x.op=8 then scal x.a
  else if x.op=2 ∨ x.op=3 then decide (0≤x.a) && decide (x.a≤(K.length:Int) - 1)
  else if x.op=4 ∨ x.op=5 ∨ x.op=6 then aris K x
  else if x.op=7 ∨ x.op=12 then sgn x.a
  else if x.op=9 then scal x.a && decide (5≤x.b) && decide (x.b≤18)
  else if x.op=10 then scal x.a && scal x.b
  else if x.op=11 then bitk x.a && shn x.name
  else if x.op=18 ∨ x.op=19 ∨ x.op=20 then decide (0≤x.a) && decide (x.a < (n:Int))
  else if x.op=22 then blk K x
  else if x.op=24 then decide (0≤x.a) && decide (x.a < 256)
  else decide (1≤x.op) && decide (x.op≤24)
def whole (K:List Int) (n:Nat):Bool:=K.all scal && decide (K.length≤4096) && decide (0 < n) && decide (n≤32768)
/-- The first instruction that is wrong by itself. -/
def alone (K:List Int) (L:List Ins):Option Nat:=if whole K L.length then L.findIdx? (fun x=>!rgt K L.length x) else some 0
theorem rgt_ok {K:List Int} {n:Nat} {x:Ins} (h:rgt K n x=true):OkI n x:=by
  unfold rgt at h
  by_cases h1:x.op=1 ∨ x.op=8
  · exact ⟨by omega,by omega,fun e=>by omega,fun e=>by rcases e with e | e | e <;> omega⟩
  rw [if_neg h1] at h
  by_cases h2:x.op=2 ∨ x.op=3
  · exact ⟨by omega,by omega,fun e=>by omega,fun e=>by rcases e with e | e | e <;> omega⟩
  rw [if_neg h2] at h
  by_cases h3:x.op=4 ∨ x.op=5 ∨ x.op=6
  · exact ⟨by omega,by omega,fun e=>by omega,fun e=>by rcases e with e | e | e <;> omega⟩
  rw [if_neg h3] at h
  by_cases h4:x.op=7 ∨ x.op=12
  · exact ⟨by omega,by omega,fun e=>by omega,fun e=>by rcases e with e | e | e <;> omega⟩
  rw [if_neg h4] at h
  by_cases h5:x.op=9
  · exact ⟨by omega,by omega,fun e=>by omega,fun e=>by rcases e with e | e | e <;> omega⟩
  rw [if_neg h5] at h
  by_cases h6:x.op=10
  · exact ⟨by omega,by omega,fun e=>by omega,fun e=>by rcases e with e | e | e <;> omega⟩
  rw [if_neg h6] at h
  by_cases h7:x.op=11
  · exact ⟨by omega,by omega,fun e=>by omega,fun e=>by rcases e with e | e | e <;> omega⟩
  rw [if_neg h7] at h
  by_cases h8:x.op=18 ∨ x.op=19 ∨ x.op=20
  · rw [if_pos h8,Bool.and_eq_true,decide_eq_true_iff,decide_eq_true_iff] at h
    exact ⟨by omega,by omega,fun e=>by omega,fun _=>h⟩
  rw [if_neg h8] at h
  by_cases h9:x.op=22
  · exact ⟨by omega,by omega,fun e=>by omega,fun e=>by rcases e with e | e | e <;> omega⟩
  rw [if_neg h9] at h
  by_cases h10:x.op=24
  · rw [if_pos h10,Bool.and_eq_true,decide_eq_true_iff,decide_eq_true_iff] at h
    exact ⟨by omega,by omega,fun _=>h,fun e=>by rcases e with e | e | e <;> omega⟩
  rw [if_neg h10,Bool.and_eq_true,decide_eq_true_iff,decide_eq_true_iff] at h
  exact ⟨h.1,h.2,fun e=>absurd e h10,fun e=>absurd e h8⟩
end Cod
theorem isShift_c (s:ByteArray) (w:World):Calls Tryz.prog 124 #[.string s] w fun e w'=>e=.returned (.bool (shn s))∧w'=w:=by
  unfold shn
  cases h1:s.toList == [83,72,76] with
  | true =>
    go_enter Tryz.func124,Tryz.ntmps124
    go_wp2
    go_ret
    exact ⟨rfl,rfl⟩
  | false =>
    cases h2:s.toList == [83,72,82] with
    | true =>
      go_enter Tryz.func124,Tryz.ntmps124
      go_wp2
      go_ret
      exact ⟨rfl,rfl⟩
    | false =>
      cases h3:s.toList == [82,79,76] with
      | true =>
        go_enter Tryz.func124,Tryz.ntmps124
        go_wp2
        go_ret
        exact ⟨rfl,rfl⟩
      | false =>
        cases h4:s.toList == [82,79,82] with
        | true =>
          go_enter Tryz.func124,Tryz.ntmps124
          go_wp2
          go_ret
          exact ⟨rfl,rfl⟩
        | false =>
          go_enter Tryz.func124,Tryz.ntmps124
          go_wp2
          go_ret
          exact ⟨rfl,rfl⟩
theorem isOp_c (op:Int) (w:World):Calls Tryz.prog 126 #[.int .i64 op] w fun e w'=>e=.returned (.bool (decide (1≤op) && decide (op≤24)))∧w'=w:=by
  by_cases h1:1≤op
  · by_cases h2:op≤24
    · have H:Hid ((decide (1≤op) && decide (op≤24))=true):=by rw [decide_eq_true h1,decide_eq_true h2];rfl
      have g1:(0:Int) < op:=by omega
      have g2:op < 25:=by omega
      clear h1 h2
      go_enter Tryz.func126,Tryz.ntmps126
      go_wp2
      go_ret
      exact ⟨ret_bool H.out.symm,rfl⟩
    · have H:Hid ((decide (1≤op) && decide (op≤24))=false):=by rw [decide_eq_true h1,decide_eq_false h2];rfl
      have g1:(0:Int) < op:=by omega
      have g2:¬ op < 25:=by omega
      clear h1 h2
      go_enter Tryz.func126,Tryz.ntmps126
      go_wp2
      go_ret
      exact ⟨ret_bool H.out.symm,rfl⟩
  · have H:Hid ((decide (1≤op) && decide (op≤24))=false):=by rw [decide_eq_false h1];rfl
    have g1:¬ (0:Int) < op:=by omega
    clear h1
    go_enter Tryz.func126,Tryz.ntmps126
    go_wp2
    go_ret
    exact ⟨ret_bool H.out.symm,rfl⟩
/-- An error at a place. -/
theorem wrong_c (k:Nat) (w:World):Calls Tryz.prog 87 #[.int .i64 (k:Int)] w fun e w'=>e=.returned (.iface 81 (.pointer (some ⟨w.heap.size,0,none⟩)))∧w'=w.alloc (.cells #[.int .i64 (k:Int),.int .i64 200] 86):=by
  go_enter Tryz.func87,Tryz.ntmps87
  go_wp2
  go_ret
  exact ⟨rfl,rfl⟩
end Go.Proofs.YthjclogkcmomkaaGreatDoor
namespace Go.Proofs.YthjclogkcmomkaaGreatDoor
open Go.RowKit
open Fb Cod
theorem aris_parts (K:List Int) (x:Ins):aris K x=true ↔ (1≤x.b∧x.b≤256)∧(0≤x.a∧x.a≤(K.length:Int) - x.b)∧((K.drop x.a.toNat).take x.b.toNat).all (fun k=>k == K.getD x.a.toNat 0)=true∧(-2147483648≤x.c∧x.c≤2147483648 - x.b):=by
  unfold aris
  simp only [Bool.and_eq_true,decide_eq_true_iff]
  constructor
  · rintro ⟨⟨⟨⟨⟨⟨a,b⟩,c⟩,d⟩,e⟩,f⟩,g⟩
    exact ⟨⟨a,b⟩,⟨c,d⟩,e,f,g⟩
  · rintro ⟨⟨a,b⟩,⟨c,d⟩,e,f,g⟩
    exact ⟨⟨⟨⟨⟨⟨a,b⟩,c⟩,d⟩,e⟩,f⟩,g⟩
theorem not_aris {K:List Int} {x:Ins} (h:¬ aris K x=true):aris K x=false:=by
  cases q:aris K x with
  | true=>exact absurd q h
  | false=>rfl
theorem all_next {K:List Int} {A N k:Nat} {v:Int} (h:((K.drop A).take k).all (fun q=>q == v)=true) (hk:k < N) (hA:A+N≤K.length) (e:(K.getD (A+k) 0 == v)=true):((K.drop A).take (k+1)).all (fun q=>q == v)=true:=by
  rw [List.take_add_one,List.all_append,h,Bool.true_and]
  rw [List.getElem?_drop,List.getElem?_eq_getElem (show A+k < K.length by omega)]
  rw [List.getD_eq_getElem?_getD,List.getElem?_eq_getElem (show A+k < K.length by omega)] at e
  simpa using e
theorem all_not {K:List Int} {A N k:Nat} {v:Int} (hk:k < N) (hA:A+N≤K.length) (e:(K.getD (A+k) 0 == v)=false):((K.drop A).take N).all (fun q=>q == v)=false:=by
  rw [List.all_eq_false]
  refine ⟨K.getD (A+k) 0,?_,by rw [e];simp⟩
  rw [List.getD_eq_getElem?_getD,List.getElem?_eq_getElem (show A+k < K.length by omega)]
  refine List.mem_of_getElem? (i:=k) ?_
  rw [List.getElem?_take,if_pos hk,List.getElem?_drop,List.getElem?_eq_getElem (show A+k < K.length by omega)]
  rfl
set_option maxHeartbeats 400000 in
set_option maxRecDepth 100000 in
theorem isArray_no (va:Option Addr) (kn kc:Nat) (K:List Int) (x:Ins) (w:World) (hk:kn=K.length) (k9:kn≤1000000) (h:¬ ((1≤x.b∧x.b≤256)∧0≤x.a∧x.a≤(K.length:Int) - x.b)) :
    Calls Tryz.prog 122 #[.slice va kn kc,.agg #[.int .i64 x.op,.int .i64 x.a,.int .i64 x.b,.int .i64 x.c,.string x.name]] w fun e w'=>e=.returned (.bool (aris K x))∧Below w.heap.size w w':=by
  rw [not_aris (fun q=>h ⟨((aris_parts K x).1 q).1,((aris_parts K x).1 q).2.1⟩)]
  obtain ⟨op,a,b,c,nm⟩:=x
  simp only at h
  by_cases h1:b < 1
  · clear h
    go_enter Tryz.func122,Tryz.ntmps122
    go_wp2
    go_ret
    exact ⟨rfl,below_new1 _ _⟩
  · by_cases h2:256 < b
    · clear h
      go_enter Tryz.func122,Tryz.ntmps122
      go_wp2
      go_ret
      exact ⟨rfl,below_new1 _ _⟩
    · have hf:(decide (0≤a) && decide (a≤(kn:Int) - b))=false:=by
        rw [Bool.eq_false_iff]
        intro q
        rw [Bool.and_eq_true,decide_eq_true_iff,decide_eq_true_iff] at q
        exact h ⟨by omega,by omega⟩
      have AR:Hid (∀ W:World,Calls Tryz.prog 121 #[.slice va kn kc,.int .i64 a,.int .i64 b] W fun e w'=>e=.returned (.bool false)∧w'=W):=fun W=>by
        have q:=areCells_c va kn kc a b W (by omega) (by omega) (by omega)
        rw [hf] at q
        exact q
      clear h hf hk
      go_enter Tryz.func122,Tryz.ntmps122
      go_wp2_with (go_at_call 121;refine (AR.out _).mono ?_;rintro e w' ⟨rfl,hw⟩;subst w')
      go_ret
      exact ⟨rfl,below_new1 _ _⟩
set_option maxHeartbeats 400000 in
set_option maxRecDepth 100000 in
theorem isArray_yes (kb ko kn kc A N:Nat) (K:List Int) (op c:Int) (nm:ByteArray) (w:World) (hs:Lies w kb ko (i64s K)) (hk:kn=K.length) (hc:kn≤kc) (k9:kn≤1000000) (h1:1≤N) (h2:N≤256) (h3:A+N≤kn) :
    Calls Tryz.prog 122 #[.slice (some ⟨kb,ko,none⟩) kn kc,.agg #[.int .i64 op,.int .i64 (A:Int),.int .i64 (N:Int),.int .i64 c,.string nm]] w fun e w'=>e=.returned (.bool (((K.drop A).take N).all (fun k=>k == K.getD A 0) && decide (-2147483648≤c) && decide (c≤2147483648 - (N:Int))))∧Below w.heap.size w w':=by
  have AR:=hid_as (fun W:World=>areCells_c (some ⟨kb,ko,none⟩) kn kc (A:Int) (N:Int) W (by omega) (by omega) (by omega))
  have hf:(decide ((0:Int)≤(A:Int)) && decide ((A:Int)≤(kn:Int) - (N:Int)))=true:=by
    rw [decide_eq_true (show (0:Int)≤(A:Int) by omega),decide_eq_true (show (A:Int)≤(kn:Int) - (N:Int) by omega)];rfl
  rw [hf] at AR
  have RG:=hid_as range4_c
  have HS:=hid_as hs
  have HK:=hid_as hk
  have g1:¬ (N:Int) < 1:=by omega
  have g2:¬ (256:Int) < (N:Int):=by omega
  have g3:(A:Int)+(N:Int)≤(kc:Int):=by omega
  have g4:A+N≤kc:=by omega
  have g5:A≤kc:=by omega
  have e9:A+N - A=N:=by omega
  obtain ⟨v,hv⟩:∃ v,v=K.getD A 0:=⟨_,rfl⟩
  obtain ⟨w1,hw1⟩:∃ w1,w.alloc (.cells #[.int .i64 op,.int .i64 (A:Int),.int .i64 (N:Int),.int .i64 c,.string nm] 50)=w1:=⟨_,rfl⟩
  obtain ⟨bs,hbs⟩:∃ bs,bs=w.heap.size:=⟨_,rfl⟩
  have K1:Below w.heap.size w w1:=by rw [← hw1];exact below_new1 _ _
  have r1:w1.heap[bs]?=some (.cells (Ins.mk op A N c nm).cs.toArray 50 (0,0)):=by rw [← hw1,hbs];exact heap_alloc_new w _
  have y1:w1.cell? ⟨bs,1,none⟩=some (.int .i64 (A:Int)):=cell_row (k:=1) r1 rfl
  have y2:w1.cell? ⟨bs,2,none⟩=some (.int .i64 (N:Int)):=cell_row (k:=2) r1 rfl
  have y3:w1.cell? ⟨bs,3,none⟩=some (.int .i64 c):=cell_row (k:=3) r1 rfl
  have LS:Hid (Lies w1 kb ko (i64s K)):=hs.below K1
  have ca:w1.cell? ⟨kb,ko+A,none⟩=some (.int .i64 (K.getD A 0)):=LS.out A _ (i64s_at K A (by omega))
  rw [← hv] at ca ⊢
  have HV:=hid_as hv
  have KB:=hid_as K1
  clear hf hs hk hv r1 K1 HS
  go_enter Tryz.func122,Tryz.ntmps122
  go_upto_region 1 with fail
  rw [← hbs]
  clear hw1 hbs
  go_wp2_with (go_at_call 121;refine (AR.out _).mono ?_;rintro e w' ⟨rfl,hw⟩;subst w')
  go_loopw [36] (fun i wr=>∃ k:Nat,k≤N∧i=.int .i64 k∧((K.drop A).take k).all (fun q=>q == v)=true∧wr=w1) (fun i _=>N - (intOf i).toNat)
  case atStart=>exact ⟨0,by omega,rfl,by simp,rfl⟩
  case round =>
    obtain ⟨k,hk,rfl,ha,hw⟩:=hrel
    subst wr
    have HA:=hid_as ha
    clear ha
    by_cases hkn:k < N
    · have hk2:(k:Int) < (N:Int):=by omega
      have hkl:A+k < K.length:=by rw [← HK.out];omega
      have ck:w1.cell? ⟨kb,ko+A+k,none⟩=some (.int .i64 (K.getD (A+k) 0)):=by rw [Nat.add_assoc];exact LS.out (A+k) _ (i64s_at K (A+k) hkl)
      obtain ⟨q,hq⟩:∃ q,q=K.getD (A+k) 0:=⟨_,rfl⟩
      rw [← hq] at ck
      by_cases he:q=v
      · have hb:(q != v)=false:=by simp [he]
        have HN:=hid_as (all_next (N:=N) HA.out hkn (by rw [← HK.out];omega) (show (K.getD (A+k) 0 == v)=true by rw [← hq,he];simp))
        have HE:=hid_as he
        clear hq he
        go_wp2
        go_roundw
        case rel=>exact ⟨k+1,by omega,by go_num,HN.out,by first | trivial | rfl⟩
        case measure=>simp [intOf];omega
      · have hb:(q != v)=true:=by rw [bne_iff_ne];exact he
        have HF:=hid_as (all_not (v:=v) hkn (A:=A) (K:=K) (by rw [← HK.out];omega) (show (K.getD (A+k) 0 == v)=false by rw [← hq];rw [beq_eq_false_iff_ne];exact he))
        clear hq he
        go_wp2
        go_ret
        refine ⟨ret_bool ?_,KB.out⟩
        rw [HF.out]
        rfl
    · obtain rfl:k=N:=by omega
      have HG:Hid ((decide ((-2147483648:Int)≤c) && decide (c≤2147483648 - (k:Int)))=(decide ((-2147483648:Int)≤c) && decide (c≤2147483647 - ((k:Int) - 1)))):=by
        rw [show (2147483648:Int) - (k:Int)=2147483647 - ((k:Int) - 1) by omega]
        rfl
      by_cases hc1:(-2147483648:Int)≤c
      · go_wp2_with (go_at_call 138;refine (RG.out _).mono ?_;rintro e w' ⟨rfl,hw⟩;subst w')
        go_ret
        refine ⟨ret_bool ?_,KB.out⟩
        rw [HA.out,Bool.true_and,HG.out,decide_eq_true hc1]
        rfl
      · go_wp2_with (go_at_call 138;refine (RG.out _).mono ?_;rintro e w' ⟨rfl,hw⟩;subst w')
        go_ret
        refine ⟨ret_bool ?_,KB.out⟩
        rw [HA.out,Bool.true_and,HG.out,decide_eq_false (by omega)]
        rfl
theorem isArray_c {w:World} {va:Option Addr} {kn kc:Nat} {K:List Int} (hs:Sl w (.slice va kn kc) (i64s K)) (hk:kn=K.length) (k9:kn≤1000000) (x:Ins) :
    Calls Tryz.prog 122 #[.slice va kn kc,.agg #[.int .i64 x.op,.int .i64 x.a,.int .i64 x.b,.int .i64 x.c,.string x.name]] w fun e w'=>e=.returned (.bool (aris K x))∧Below w.heap.size w w':=by
  by_cases h:(1≤x.b∧x.b≤256)∧0≤x.a∧x.a≤(K.length:Int) - x.b
  · obtain ⟨⟨h1,h2⟩,h3,h4⟩:=h
    rcases hs with ⟨h0,_⟩ | ⟨kb,ko,cap,e,hcap,hl⟩
    · have:=congrArg List.length h0
      rw [i64s_len] at this
      simp at this
      rw [this] at h4
      simp at h4
      omega
    · simp only [Value.slice.injEq] at e
      obtain ⟨rfl,e2,rfl⟩:=e
      rw [i64s_len] at hcap
      obtain ⟨op,a,b,c,nm⟩:=x
      simp only at h1 h2 h3 h4
      obtain ⟨A,rfl⟩:∃ A:Nat,a=(A:Int):=⟨a.toNat,by omega⟩
      obtain ⟨N,rfl⟩:∃ N:Nat,b=(N:Int):=⟨b.toNat,by omega⟩
      refine (isArray_yes kb ko kn kc A N K op c nm w hl hk (by omega) k9 (by omega) (by omega) (by omega)).mono ?_
      rintro e w' ⟨rfl,hb⟩
      refine ⟨ret_bool ?_,hb⟩
      unfold aris
      rw [decide_eq_true h1,decide_eq_true h2,decide_eq_true h3,decide_eq_true h4]
      simp only [Bool.true_and,Int.toNat_natCast]
  · exact isArray_no va kn kc K x w hk k9 h
end Go.Proofs.YthjclogkcmomkaaGreatDoor
