/- The reference's scanner: letters, digits, the sign at a place, digits in a row (stage 12, carried over). · The reference's digits in a row (stage 12, carried over). · The reference's numbers (stage 12, carried over). · The reference's times, in plain mathematics: what its loop counts (stage 12, carried over). · Plain mathematics of tokens: what stands behind digits, words, units says nothing of them (stage 12, carried over). · Plain mathematics of times: parts, one by one (stage 12, carried over). · Plain mathematics of tokens: the token alone, and with something behind it (stage 12, carried over). · What the reference tells, in plain mathematics (stage 12, carried over). -/
import Derived.Deep.CutRange
import Derived.Deep.CutBlock
import Derived.OwnWalk
import Derived.Laws.AppendOwn
import Derived.Test.YtapcpjidgemggaaGreatDoorQ1
import Derived.Test.YtapcpjidgemggaaGreatDoorQ3
import Derived.Test.YtapcpjidgemggaaGreatDoorQ5
namespace Go.Proofs.YtapcpjidgemggaaGreatDoor
open Go.RowKit
open Adr Lx
/-- A scanner of this text, at this place, lies in block g. -/
structure Sc (W:World) (g:Nat) (s:ByteArray) (a:Nat):Prop where
  c0:W.cell? ⟨g,0,none⟩=some (.string s)
  c1:W.cell? ⟨g,1,none⟩=some (.int .i64 a)
  fr:W.frozen? ⟨g,1,none⟩=false
theorem Sc.same {W W':World} {g:Nat} {s:ByteArray} {a:Nat} (h:Sc W g s a) (k:Same W W'):Sc W' g s a :=
  ⟨by rw [← h.c0];simp [World.cell?,k.heap],by rw [← h.c1];simp [World.cell?,k.heap],by rw [← h.fr];simp [World.frozen?,k.heap]⟩
open Go.RowKit
open Adr Lx
/-- All blocks that there were, but g, are as they were. -/
abbrev Turn (g:Nat) (w w':World):Prop:=w.grownBy w' (some g)
theorem Turn.refl (g:Nat) (w:World):Turn g w w:=⟨rfl,rfl,rfl,Nat.le_refl _,fun _ _ _=>rfl⟩
theorem Turn.trans {g:Nat} {a b c:World} (h:Turn g a b) (k:Turn g b c):Turn g a c :=
  ⟨k.os.trans h.os,k.tape.trans h.tape,k.output.trans h.output,Nat.le_trans h.size k.size,fun j hj hne=>(k.block j (Nat.lt_of_lt_of_le hj h.size) hne).trans (h.block j hj hne)⟩
theorem Turn.ofBelow {g:Nat} {w w':World} (h:Below w.heap.size w w'):Turn g w w':=⟨h.os,h.tape,h.output,h.size,fun j hj _=>h.block j hj⟩
theorem Turn.set {g:Nat} {w w':World} (h:Turn g w w') (k:Nat) (v:Value):Turn g w (w'.setCell ⟨g,k,none⟩ v):=by
  refine ⟨h.os,h.tape,h.output,by simpa using h.size,fun j hj hne=>?_⟩
  rw [Below.heap_setCell _ _ _ _ (fun e=>hne (congrArg some e))]
  exact h.block j hj hne
theorem Turn.alloc {g:Nat} {w w':World} (h:Turn g w w') (o:Obj):Turn g w (w'.alloc o):=h.trans (Turn.ofBelow (below_new1 w' o))
theorem Turn.drew {g:Nat} {w w':World} (h:Turn g w w'):Turn g w w'.drew:=⟨h.os,h.tape,h.output,h.size,h.block⟩
theorem Turn.drewN {g:Nat} {w w':World} (h:Turn g w w') (d:Nat):Turn g w (w'.drewN d):=⟨h.os,h.tape,h.output,h.size,h.block⟩
theorem Turn.below {g B:Nat} {w w':World} (h:Turn g w w') (hB:B≤g) (hs:B≤w.heap.size):Below B w w':=⟨h.os,h.tape,h.output,h.size,fun j hj=>h.block j (by omega) (fun e=>by simp at e;omega)⟩
theorem Turn.same {g:Nat} {w w':World} (k:Same w w'):Turn g w w':=Turn.ofBelow k.below
theorem Sc.set {W:World} {g:Nat} {s:ByteArray} {a:Nat} (h:Sc W g s a) (b:Nat):Sc (W.setCell ⟨g,1,none⟩ (.int .i64 b)) g s b :=
  ⟨by rw [World.cell?_setCell_other _ _ _ _ (fun e=>by injection e with _ e2;cases e2)];exact h.c0,World.cell?_setCell_same _ _ _ h.c1,by simp [h.fr]⟩
/-- Digits with single low lines between them, as the reference counts. -/
def hdk (b:Nat):List UInt8→Bool
  | []=>false
  | c :: _=>okd b c
open Go.RowKit
open Adr Lx
theorem Sc.below {W W':World} {g:Nat} {s:ByteArray} {a:Nat} (h:Sc W g s a) (k:Below W.heap.size W W'):Sc W' g s a:=by
  have hg:g < W.heap.size:=by
    rcases Nat.lt_or_ge g W.heap.size with q | q
    · exact q
    · have:=h.c0;simp [World.cell?,Array.getElem?_eq_none q] at this
  exact ⟨(k.cell (p:=⟨g,0,none⟩) hg).trans h.c0,(k.cell (p:=⟨g,1,none⟩) hg).trans h.c1,(k.frozen (p:=⟨g,1,none⟩) hg).trans h.fr⟩
open Go.RowKit
open Adr Lx
/-- Which unit stands at two signs; 5: none. -/
def unC (c d:UInt8):Nat:=if c=100 then 0 else if c=104 then 1 else if c=109 then (if d=115 then 4 else 2) else if c=115 then 3 else 5
theorem un_cons (c d:UInt8) (l:List UInt8):un (c :: d :: l)=unC c d:=by
  unfold unC
  split
  · rename_i h;subst h;rfl
  · split
    · rename_i h;subst h;rfl
    · split
      · rename_i h;subst h
        split
        · rename_i h;subst h;rfl
        · unfold un;split <;> simp_all
      · split
        · rename_i h;subst h;rfl
        · unfold un;split <;> simp_all
theorem un_one (c:UInt8):un [c]=unC c 0:=by
  unfold unC
  split
  · rename_i h;subst h;rfl
  · split
    · rename_i h;subst h;rfl
    · split
      · rename_i h;subst h;rfl
      · split
        · rename_i h;subst h;rfl
        · unfold un;split <;> simp_all
/-- A unit's number, from 1 on; 0: none. -/
def u1 (r:List UInt8):Nat:=if un r=5 then 0 else un r+1
end Go.Proofs.YtapcpjidgemggaaGreatDoor
namespace Go.Proofs.YtapcpjidgemggaaGreatDoor
open Go.RowKit
open Adr Lx
theorem rdl_cons (b:Nat) (c:UInt8) (l:List UInt8) (n z i:Nat):rdl b (c :: l) n z i=if decide (c.toNat=95) && (decide (0 < i) && decide (i=z)) then rdl b l n z (i+1) else if okd b c then rdl b l (min (n * b+(dv c).toNat) 8589934592) (i+1) (i+1) else (n,z):=rfl
theorem rdl_big (b:Nat):∀ (l:List UInt8) (n z i:Nat),z≤i→rdl b l n z i=(n,z) ∨ i < (rdl b l n z i).2
  | [],n,z,i,_=>Or.inl rfl
  | c :: l,n,z,i,h=>by
    rw [rdl_cons]
    split
    · rcases rdl_big b l n z (i+1) (by omega) with e | e
      · exact Or.inl e
      · exact Or.inr (by omega)
    · split
      · rcases rdl_big b l (min (n * b+(dv c).toNat) 8589934592) (i+1) (i+1) (Nat.le_refl _) with e | e
        · rw [e];exact Or.inr (Nat.lt_succ_self i)
        · exact Or.inr (by omega)
      · exact Or.inl rfl
theorem rdl_take (b:Nat):∀ (l:List UInt8) (n z i k:Nat),z≤i→(rdl b l n z i).2≤i+k→rdl b (l.take k) n z i=rdl b l n z i
  | [],n,z,i,k,_,_=>by simp
  | c :: l,n,z,i,0,hz,h=>by
    rw [List.take_zero]
    rcases rdl_big b (c :: l) n z i hz with e | e
    · rw [e];rfl
    · omega
  | c :: l,n,z,i,k+1,hz,h=>by
    rw [List.take_succ_cons,rdl_cons,rdl_cons]
    rw [rdl_cons] at h
    split
    · rename_i q;rw [if_pos q] at h;exact rdl_take b l n z (i+1) k (by omega) (by omega)
    · rename_i q;rw [if_neg q] at h
      split
      · rename_i q2;rw [if_pos q2] at h;exact rdl_take b l _ (i+1) (i+1) k (Nat.le_refl _) (by omega)
      · rfl
theorem rd_take {b:Nat} {l:List UInt8} {k:Nat} (h:(rd b l).2≤k):rd b (l.take k)=rd b l:=rdl_take b l 0 0 0 k (Nat.le_refl _) (by rw [Nat.zero_add];exact h)
theorem rdl_app (b:Nat) (c:UInt8) (m:List UInt8) (h1:okd b c=false) (h2:¬ c.toNat=95):∀ (l:List UInt8) (n z i:Nat),rdl b (l ++ c :: m) n z i=rdl b l n z i
  | [],n,z,i=>by rw [List.nil_append,rdl_cons,decide_eq_false h2,h1];rfl
  | d :: l,n,z,i=>by rw [List.cons_append,rdl_cons,rdl_cons,rdl_app b c m h1 h2 l,rdl_app b c m h1 h2 l]
theorem rd_app {b:Nat} {c:UInt8} {m l:List UInt8} (h1:okd b c=false) (h2:¬ c.toNat=95):rd b (l ++ c :: m)=rd b l:=rdl_app b c m h1 h2 l 0 0 0
theorem rd_cons {b:Nat} {c:UInt8} {l:List UInt8}:rd b (c :: l)=if okd b c then rdl b l (min (0 * b+(dv c).toNat) 8589934592) 1 1 else (0,0):=by
  unfold rd
  rw [rdl_cons,if_neg (by simp)]
theorem hdk_rd (b:Nat) (l:List UInt8):hdk b l=decide (0 < (rd b l).2):=by
  cases l with
  | nil=>rfl
  | cons c l =>
    rw [rd_cons]
    show okd b c=_
    cases h:okd b c with
    | false=>rfl
    | true =>
      rw [if_pos rfl]
      rcases rdl_big b l (min (0 * b+(dv c).toNat) 8589934592) 1 1 (Nat.le_refl _) with e | e
      · rw [e];rfl
      · exact (decide_eq_true (by omega)).symm
theorem cz_cons (p:UInt8→Bool) (c:UInt8) (l:List UInt8):cz p (c :: l)=if p c then cz p l+1 else 0:=by
  unfold cz
  rw [List.takeWhile_cons]
  split <;> simp
theorem cz_take {p:UInt8→Bool}:∀ {l:List UInt8} {k:Nat},cz p l≤k→cz p (l.take k)=cz p l
  | [],k,_=>by simp
  | c :: l,0,h=>by rw [List.take_zero,show cz p (c :: l)=0 by omega];rfl
  | c :: l,k+1,h=>by
    rw [List.take_succ_cons,cz_cons,cz_cons]
    rw [cz_cons] at h
    split
    · rename_i q;rw [if_pos q] at h;rw [cz_take (by omega)]
    · rfl
theorem cz_app {p:UInt8→Bool} {c:UInt8} (m:List UInt8) (h:p c=false):∀ (l:List UInt8),cz p (l ++ c :: m)=cz p l
  | []=>by rw [List.nil_append,cz_cons,h];rfl
  | d :: l=>by rw [List.cons_append,cz_cons,cz_cons,cz_app m h l]
theorem hp_iff {l p:List UInt8}:hp l p=true ↔ p <+: l:=by
  unfold hp Lib.hasPrefix
  exact List.isPrefixOf_iff_prefix
theorem hp_take {l p:List UInt8} {k:Nat} (hk:p.length≤k):hp (l.take k) p=hp l p:=by
  rw [Bool.eq_iff_iff,hp_iff,hp_iff,List.prefix_take_iff]
  exact ⟨fun h=>h.1,fun h=>⟨h,hk⟩⟩
theorem hp_of_take {l p:List UInt8} {k:Nat} (h:hp l p=false):hp (l.take k) p=false:=by
  cases e:hp (l.take k) p with
  | false=>rfl
  | true =>
    rw [hp_iff,List.prefix_take_iff] at e
    rw [hp_iff.2 e.1] at h
    exact h
theorem hp_app {c:UInt8} (m:List UInt8):∀ (p l:List UInt8),c ∉ p→hp (l ++ c :: m) p=hp l p
  | [],l,_=>by simp [hp,Lib.hasPrefix]
  | a :: p,[],h=>by
    have:(a == c)=false:=by rw [beq_eq_false_iff_ne];exact fun e=>h (by rw [e];exact List.mem_cons_self)
    simp [hp,Lib.hasPrefix,List.isPrefixOf,this]
  | a :: p,d :: l,h=>by
    have ih:=hp_app m p l (fun q=>h (List.mem_cons_of_mem _ q))
    unfold hp Lib.hasPrefix at *
    rw [List.cons_append,List.isPrefixOf,List.isPrefixOf,ih]
theorem uz_le (u:Nat):uz u≤2:=by unfold uz;split <;> decide
theorem unC_4 {c d:UInt8} (h:¬ unC c d=4):unC c d=unC c 0:=by
  unfold unC at *
  split
  · rfl
  · split
    · rfl
    · split
      · split
        · simp_all
        · simp
      · rfl
theorem un_take {l:List UInt8} {k:Nat} (h5:¬ un l=5) (hk:uz (un l)≤k):un (l.take k)=un l:=by
  have hl:=un_lt l
  have h1:1≤uz (un l)∧(uz (un l)≤1→¬ un l=4):=by
    generalize un l=u at *
    have hc:u=0 ∨ u=1 ∨ u=2 ∨ u=3 ∨ u=4:=by omega
    rcases hc with rfl | rfl | rfl | rfl | rfl <;> decide
  match l,k with
  | [],k=>simp
  | c :: l,0=>omega
  | [c],k+1=>simp
  | c :: d :: l,1 =>
    have h4:=h1.2 hk
    rw [un_cons] at *
    show un [c]=_
    rw [un_one,unC_4 h4]
  | c :: d :: l,k+2 =>
    rw [List.take_succ_cons,List.take_succ_cons,un_cons,un_cons]
theorem un_le {l:List UInt8} (h5:¬ un l=5):uz (un l)≤l.length:=by
  match l with
  | []=>exact absurd rfl h5
  | [c] =>
    rw [un_one,show [c].length=1 from rfl]
    unfold unC
    split
    · decide
    · split
      · decide
      · split
        · decide
        · split <;> decide
  | c :: d :: l=>have:=uz_le (un (c :: d :: l));rw [List.length_cons,List.length_cons];omega
theorem un_app {c:UInt8} (m:List UInt8) (h0:∀ d,unC c d=5) (h1:¬ c=115):∀ (l:List UInt8),un (l ++ c :: m)=un l
  | []=>by
    cases m with
    | nil=>rw [List.nil_append,un_one,h0];rfl
    | cons d m=>rw [List.nil_append,un_cons,h0];rfl
  | [a]=>by
    rw [show [a] ++ c :: m=a :: c :: m from rfl,un_cons,un_one]
    unfold unC
    rw [if_neg h1,if_neg (show ¬ (0:UInt8)=115 by decide)]
  | a :: b :: l=>by rw [List.cons_append,List.cons_append,un_cons,un_cons]
theorem byB_take {j k:Nat} {l:List UInt8} (h0:¬ (byB j l).2=0) (hk:(byB j l).2≤k):(bn j).data.toList.length≤k∧byB j (l.take k)=byB j l:=by
  unfold byB at *
  by_cases h:(rd (bo j) (l.drop (bn j).data.toList.length)).2=0
  · rw [if_pos h] at h0;exact absurd rfl h0
  · rw [if_neg h] at hk h0 ⊢
    replace hk:(bn j).data.toList.length+(rd (bo j) (l.drop (bn j).data.toList.length)).2≤k:=hk
    have e:rd (bo j) ((l.take k).drop (bn j).data.toList.length)=rd (bo j) (l.drop (bn j).data.toList.length):=by
      rw [List.drop_take]
      exact rd_take (by omega)
    rw [e,if_neg h]
    exact ⟨by omega,rfl⟩
theorem num_take {k:Nat} {l:List UInt8} (h0:¬ (num l).2=0) (hk:(num l).2≤k):num (l.take k)=num l:=by
  unfold num at *
  cases p0:hp l (bn 0).data.toList with
  | true =>
    rw [p0,if_pos rfl] at h0 hk
    obtain ⟨a1,a2⟩:=byB_take h0 hk
    rw [hp_take a1,p0,if_pos rfl,if_pos rfl]
    exact a2
  | false =>
    rw [p0,if_neg Bool.false_ne_true] at h0 hk
    rw [hp_of_take p0,if_neg Bool.false_ne_true,if_neg Bool.false_ne_true]
    cases p1:hp l (bn 1).data.toList with
    | true =>
      rw [p1,if_pos rfl] at h0 hk
      obtain ⟨a1,a2⟩:=byB_take h0 hk
      rw [hp_take a1,p1,if_pos rfl,if_pos rfl]
      exact a2
    | false =>
      rw [p1,if_neg Bool.false_ne_true] at h0 hk
      rw [hp_of_take p1,if_neg Bool.false_ne_true,if_neg Bool.false_ne_true]
      cases p2:hp l (bn 2).data.toList with
      | true =>
        rw [p2,if_pos rfl] at h0 hk
        obtain ⟨a1,a2⟩:=byB_take h0 hk
        rw [hp_take a1,p2,if_pos rfl,if_pos rfl]
        exact a2
      | false =>
        rw [p2,if_neg Bool.false_ne_true] at h0 hk
        rw [hp_of_take p2,if_neg Bool.false_ne_true,if_neg Bool.false_ne_true]
        exact rd_take hk
/-- A sign that stands in no token but alone: a blank, a line feed, a tab, an open bracket, a return. -/
def Stp (c:UInt8):Prop:=c=32 ∨ c=10 ∨ c=9 ∨ c=40 ∨ c=13
theorem Stp.okd {c:UInt8} (h:Stp c) (b:Nat):okd b c=false:=by
  have e:dv c=-1:=by rcases h with rfl | rfl | rfl | rfl | rfl <;> decide
  unfold Lx.okd
  rw [e]
  rfl
theorem Stp.low {c:UInt8} (h:Stp c):¬ c.toNat=95:=by rcases h with rfl | rfl | rfl | rfl | rfl <;> decide
theorem Stp.inW {c:UInt8} (h:Stp c):Lx.inW c=false:=by rcases h with rfl | rfl | rfl | rfl | rfl <;> decide
theorem Stp.inA {c:UInt8} (h:Stp c):Lx.inA c=false:=by rcases h with rfl | rfl | rfl | rfl | rfl <;> decide
theorem Stp.un {c:UInt8} (h:Stp c):(∀ d,unC c d=5)∧¬ c=115:=by
  rcases h with rfl | rfl | rfl | rfl | rfl <;> exact ⟨fun d=>rfl,by decide⟩
theorem Stp.rd {c:UInt8} (h:Stp c) (b:Nat) (l m:List UInt8):Lx.rd b (l ++ c :: m)=Lx.rd b l:=rd_app (h.okd b) h.low
theorem Stp.hp {c:UInt8} (h:Stp c) (l m p:List UInt8) (hp:∀ d,Stp d→d ∉ p):Lx.hp (l ++ c :: m) p=Lx.hp l p:=hp_app m p l (hp c h)
theorem stp_bn (k:Nat):∀ d,Stp d→d ∉ (bn k).data.toList:=by
  intro d hd
  unfold bn
  split <;> (rcases hd with rfl | rfl | rfl | rfl | rfl <;> decide)
theorem stp_mem {p:List UInt8} (h:(p.contains 32 || p.contains 10 || p.contains 9 || p.contains 40 || p.contains 13)=false):∀ d,Stp d→d ∉ p:=by
  intro d hd
  simp at h
  rcases hd with rfl | rfl | rfl | rfl | rfl <;> simp_all
theorem byB_app {c:UInt8} (h:Stp c) (k:Nat) (l m:List UInt8) (hl:(bn k).data.toList.length≤l.length):byB k (l ++ c :: m)=byB k l:=by
  unfold byB
  rw [List.drop_append_of_le_length hl,h.rd]
theorem num_app {c:UInt8} (h:Stp c) (l m:List UInt8):num (l ++ c :: m)=num l:=by
  unfold num
  rw [h.hp l m _ (stp_bn 0),h.hp l m _ (stp_bn 1),h.hp l m _ (stp_bn 2),h.rd]
  split
  · rename_i q;exact byB_app h 0 l m (hp_le q)
  · split
    · rename_i q;exact byB_app h 1 l m (hp_le q)
    · split
      · rename_i q;exact byB_app h 2 l m (hp_le q)
      · rfl
open Go.RowKit
open Adr Lx
/-- What stands behind the digits; how many signs a part has; what stands behind it. -/
def yt (l:List UInt8):List UInt8:=l.drop (rd 10 l).2
def pz (l:List UInt8):Nat:=(rd 10 l).2+uz (un (yt l))
/-- A time's parts, each of a later unit than the one ahead: the sum, how many signs. -/
def ptl:Nat→List UInt8→Nat→Nat × Nat
  | 0,_,_=>(0,0)
  | f+1,l,lp=>if hdk 10 l && decide (lp < u1 (yt l)) then ((rd 10 l).1 * uM (un (yt l))+(ptl f (l.drop (pz l)) (u1 (yt l))).1,pz l+(ptl f (l.drop (pz l)) (u1 (yt l))).2) else (0,0)
theorem ptl_succ (f:Nat) (l:List UInt8) (lp:Nat):ptl (f+1) l lp=if hdk 10 l && decide (lp < u1 (yt l)) then ((rd 10 l).1 * uM (un (yt l))+(ptl f (l.drop (pz l)) (u1 (yt l))).1,pz l+(ptl f (l.drop (pz l)) (u1 (yt l))).2) else (0,0):=rfl
theorem u1_le (l:List UInt8):u1 l≤5:=by
  have h:=un_lt l
  unfold u1
  split <;> omega
theorem u1_un {l:List UInt8} {lp:Nat} (h:lp < u1 l):¬ un l=5∧u1 l=un l+1:=by
  unfold u1 at *
  split at h
  · omega
  · rename_i q;rw [if_neg q];exact ⟨q,rfl⟩
def spanF (l:List UInt8):Nat→Nat × Nat→Nat × Nat
  | 0,s=>s
  | d+1,s=>spanF l d (prt l (4 - d) s)
theorem span_F (l:List UInt8):span l=spanF l 5 (0,0):=rfl
theorem ptl_skip {f:Nat} {l:List UInt8} {k:Nat} (h:¬ (hdk 10 l=true∧u1 (yt l)=k+1)):ptl f l k=ptl f l (k+1):=by
  cases f with
  | zero=>rfl
  | succ f =>
    rw [ptl_succ,ptl_succ]
    cases hd:hdk 10 l with
    | false=>rfl
    | true =>
      have h2:¬ u1 (yt l)=k+1:=fun e=>h ⟨hd,e⟩
      rw [show decide (k < u1 (yt l))=decide (k+1 < u1 (yt l)) from decide_eq_decide.2 (by omega)]
theorem spanF_ptl (l:List UInt8):∀ (d:Nat),d≤5→∀ (n p f:Nat),(l.drop p).length < f→spanF l d (n,p)=(n+(ptl f (l.drop p) (5 - d)).1,p+(ptl f (l.drop p) (5 - d)).2)
  | 0,_,n,p,f,hf=>by
    obtain ⟨f,rfl⟩:∃ f',f=f'+1:=⟨f - 1,by omega⟩
    have h:=u1_le (yt (l.drop p))
    rw [ptl_succ,decide_eq_false (show ¬ 5 - 0 < u1 (yt (l.drop p)) by omega),Bool.and_false]
    rfl
  | d+1,hd,n,p,f,hf=>by
    show spanF l d (prt l (4 - d) (n,p))=_
    rw [show 5 - (d+1)=4 - d by omega]
    have hr:=hdk_rd 10 (l.drop p)
    have hy:yt (l.drop p)=l.drop (p+(rd 10 (l.drop p)).2):=by unfold yt;rw [List.drop_drop]
    by_cases hc:hdk 10 (l.drop p)=true∧u1 (yt (l.drop p))=(4 - d)+1
    · obtain ⟨h1,h2⟩:=hc
      obtain ⟨q1,q2⟩:=u1_un (lp:=0) (l:=yt (l.drop p)) (by omega)
      have hu:un (yt (l.drop p))=4 - d:=by omega
      rw [h1] at hr
      have hr2:=decide_eq_true_iff.1 hr.symm
      have hle:=(rd_le 10 (l.drop p)).1
      obtain ⟨f,rfl⟩:∃ f',f=f'+1:=⟨f - 1,by omega⟩
      have e:prt l (4 - d) (n,p)=(n+(rd 10 (l.drop p)).1 * uM (4 - d),p+pz (l.drop p)):=by
        unfold prt
        rw [decide_eq_true hr2,decide_eq_true (show un (l.drop ((n,p).2+(rd 10 (l.drop (n,p).2)).2))=4 - d by rw [← hu,hy])]
        rw [uN_size _ (by omega)]
        unfold pz
        rw [hu]
        rfl
      have hz:1≤pz (l.drop p):=by unfold pz;omega
      rw [e,spanF_ptl l d (by omega) _ _ f (by rw [List.length_drop] at *;omega),ptl_succ,h1,decide_eq_true (show 4 - d < u1 (yt (l.drop p)) by omega),Bool.and_true,if_pos rfl,hu,h2,List.drop_drop,show 4 - d+1=5 - d by omega,Nat.add_assoc,Nat.add_assoc]
    · have e:prt l (4 - d) (n,p)=(n,p):=by
        unfold prt
        rw [if_neg]
        rw [Bool.and_eq_true,decide_eq_true_eq,decide_eq_true_eq]
        rintro ⟨a1,a2⟩
        refine hc ⟨by rw [hr];exact decide_eq_true a1,?_⟩
        rw [hy]
        unfold u1
        have a3:un (l.drop (p+(rd 10 (l.drop p)).2))=4 - d:=a2
        rw [a3,if_neg (by omega)]
      rw [e,spanF_ptl l d (by omega) n p f hf,ptl_skip hc,show 4 - d+1=5 - d by omega]
theorem span_ptl (l:List UInt8) (f:Nat) (hf:l.length < f):span l=ptl f l 0:=by
  rw [span_F,spanF_ptl l 5 (Nat.le_refl _) 0 0 f (by simpa using hf)]
  simp
theorem pz_le {l:List UInt8} {lp:Nat} (h:lp < u1 (yt l)):pz l≤l.length:=by
  have h1:=un_le (u1_un h).1
  have h2:=(rd_le 10 l).1
  unfold pz
  rw [show (yt l).length=l.length - (rd 10 l).2 by unfold yt;rw [List.length_drop]] at h1
  omega
theorem hdk_take {b:Nat} {l:List UInt8} {k:Nat} (h:1≤k):hdk b (l.take k)=hdk b l:=by
  cases l with
  | nil=>simp
  | cons c l =>
    obtain ⟨k,rfl⟩:∃ k',k=k'+1:=⟨k - 1,by omega⟩
    rfl
theorem ptl_app {c:UInt8} (h:Stp c) (m:List UInt8):∀ (f:Nat) (l:List UInt8) (lp:Nat),ptl f (l ++ c :: m) lp=ptl f l lp
  | 0,l,lp=>rfl
  | f+1,l,lp=>by
    have hr:rd 10 (l ++ c :: m)=rd 10 l:=h.rd 10 l m
    have hh:hdk 10 (l ++ c :: m)=hdk 10 l:=by rw [hdk_rd,hdk_rd,hr]
    have hy:yt (l ++ c :: m)=yt l ++ c :: m:=by unfold yt;rw [hr,List.drop_append_of_le_length (rd_le 10 l).1]
    have hu:un (yt (l ++ c :: m))=un (yt l):=by rw [hy];exact un_app m h.un.1 h.un.2 _
    have hu1:u1 (yt (l ++ c :: m))=u1 (yt l):=by unfold u1;rw [hu]
    have hp:pz (l ++ c :: m)=pz l:=by unfold pz;rw [hr,hu]
    rw [ptl_succ,ptl_succ,hh,hu1,hp,hu,hr]
    split
    · rename_i q
      rw [Bool.and_eq_true,decide_eq_true_eq] at q
      rw [List.drop_append_of_le_length (pz_le q.2),ptl_app h m f]
    · rfl
theorem span_app {c:UInt8} (h:Stp c) (l m:List UInt8):span (l ++ c :: m)=span l:=by
  rw [span_ptl (l ++ c :: m) ((l ++ c :: m).length+1) (by omega),span_ptl l ((l ++ c :: m).length+1) (by rw [List.length_append];omega),ptl_app h m]
theorem unC_stop {c d:UInt8} (h:¬ unC c d=5):c=100 ∨ c=104 ∨ c=109 ∨ c=115:=by
  unfold unC at h
  split at h
  · rename_i q;exact Or.inl q
  · split at h
    · rename_i q;exact Or.inr (Or.inl q)
    · split at h
      · rename_i q;exact Or.inr (Or.inr (Or.inl q))
      · split at h
        · rename_i q;exact Or.inr (Or.inr (Or.inr q))
        · exact absurd rfl h
theorem unit_stop {c:UInt8} (h:c=100 ∨ c=104 ∨ c=109 ∨ c=115):okd 10 c=false∧¬ c.toNat=95:=by
  rcases h with rfl | rfl | rfl | rfl <;> decide
theorem un_head {l:List UInt8} (h:¬ un l=5):∃ c r,l=c :: r∧(c=100 ∨ c=104 ∨ c=109 ∨ c=115):=by
  match l with
  | []=>exact absurd rfl h
  | [c]=>rw [un_one] at h;exact ⟨c,[],rfl,unC_stop h⟩
  | c :: d :: r=>rw [un_cons] at h;exact ⟨c,d :: r,rfl,unC_stop h⟩
open Go.RowKit
open Adr Lx
def tyQ (y:List UInt8) (a k:Nat):R :=
  if decide (k=1) && hp y [84,82,85,69] then ⟨tru 1,a+4,0⟩
  else if decide (k=1) && hp y [70,65,76,83,69] then ⟨tru 0,a+5,0⟩
  else if hp y [45] && decide (klo k < 0) then ltR 3 k (-((rd 10 (y.drop 1)).1:Int)) (a+1) (rd 10 (y.drop 1)).2
  else ltR 3 k (num y).1 a (num y).2
def tmQ (y:List UInt8) (a:Nat):R :=
  if hp y [45] then ltR 4 11 (-((span (y.drop 1)).1:Int)) (a+1) (span (y.drop 1)).2
  else ltR 4 11 (span y).1 a (span y).2
theorem tyR_Q (l:List UInt8) (a k:Nat):tyR l a k=tyQ (l.drop a) a k:=rfl
theorem tmR_Q (l:List UInt8) (a:Nat):tmR l a=tmQ (l.drop a) a:=rfl
theorem tmQ_app {c:UInt8} (h:Stp c) (y m:List UInt8) (a:Nat):tmQ (y ++ c :: m) a=tmQ y a:=by
  unfold tmQ
  rw [h.hp y m [45] (stp_mem (by decide))]
  split
  · rename_i q;rw [List.drop_append_of_le_length (show 1≤y.length from hp_le q),span_app h]
  · rw [span_app h]
theorem tyQ_app {c:UInt8} (h:Stp c) (y m:List UInt8) (a k:Nat):tyQ (y ++ c :: m) a k=tyQ y a k:=by
  unfold tyQ
  rw [h.hp y m [84,82,85,69] (stp_mem (by decide)),h.hp y m [70,65,76,83,69] (stp_mem (by decide)),h.hp y m [45] (stp_mem (by decide)),num_app h]
  split
  · rfl
  · split
    · rfl
    · split
      · rename_i q
        rw [Bool.and_eq_true] at q
        rw [List.drop_append_of_le_length (show 1≤y.length from hp_le q.1),h.rd]
      · rfl
theorem hp_room {l:List UInt8} {k:Nat} (h:hp (l.drop k) [35]=true):k+1≤l.length:=by
  have h1:=hp_le h
  rw [List.length_drop] at h1
  have h2:1≤l.length - k:=h1
  omega
theorem wdR_app {c:UInt8} (h:Stp c) (l m:List UInt8):wdR (l ++ c :: m)=wdR l:=by
  have hz:=cz_le inW l
  have ez:cz inW (l ++ c :: m)=cz inW l:=cz_app m h.inW l
  have et:(l ++ c :: m).take (cz inW l)=l.take (cz inW l):=List.take_append_of_le_length hz
  have ed:(l ++ c :: m).drop (cz inW l)=l.drop (cz inW l) ++ c :: m:=List.drop_append_of_le_length hz
  unfold wdR
  rw [ez,et,ed,h.hp _ m [35] (stp_mem (by decide))]
  simp only [tmR_Q,tyR_Q]
  cases hh:hp (l.drop (cz inW l)) [35] with
  | false=>simp only [Bool.false_and,Bool.false_eq_true,if_false]
  | true=>rw [List.drop_append_of_le_length (hp_room hh),tmQ_app h,tyQ_app h]
theorem unR_app {c:UInt8} (h:Stp c) (l m:List UInt8):unR (l ++ c :: m)=unR l:=by
  unfold unR
  rw [num_app h]
theorem adR_app {c:UInt8} (h:Stp c) (d:UInt8) (l m:List UInt8):adR (d :: l ++ c :: m)=adR (d :: l):=by
  have e:adz (d :: l ++ c :: m)=adz (d :: l):=by
    unfold adz
    rw [List.cons_append,List.drop_succ_cons,List.drop_zero,List.drop_succ_cons,List.drop_zero,cz_app m h.inA]
  have hz:adz (d :: l)≤(d :: l).length:=(adz_le (l:=d :: l) (by simp)).1
  unfold adR
  rw [e,List.take_append_of_le_length hz]
theorem two_stop {c x:UInt8} (h:Stp c):two.contains [x,c]=false:=by
  have:¬ [x,c] ∈ two:=by rcases h with rfl | rfl | rfl | rfl | rfl <;> simp [two]
  simpa using this
theorem sgR_app {c:UInt8} (h:Stp c) (d:UInt8) (l m:List UInt8):sgR (d :: l ++ c :: m)=sgR (d :: l):=by
  have e:sgz (d :: l ++ c :: m)=sgz (d :: l):=by
    unfold sgz
    cases l with
    | nil =>
      rw [show ([d] ++ c :: m).take 2=[d,c] from rfl,two_stop h,Bool.and_false,if_neg Bool.false_ne_true,if_neg (show ¬ (decide (1 < [d].length) && two.contains ([d].take 2))=true by simp)]
      rfl
    | cons x l =>
      rw [show (d :: x :: l ++ c :: m).take 2=[d,x] from rfl,show (d :: x :: l).take 2=[d,x] from rfl,decide_eq_true (show 1 < (d :: x :: l ++ c :: m).length by simp),decide_eq_true (show 1 < (d :: x :: l).length by simp)]
      rfl
  have hz:sgz (d :: l)≤(d :: l).length:=(sgz_le (l:=d :: l) (by simp)).1
  unfold sgR
  rw [e,List.take_append_of_le_length hz]
/-- What stands behind such a sign says nothing of the token ahead. -/
theorem nx_app {c:UInt8} (h:Stp c) (d:UInt8) (l m:List UInt8):nx (d :: l ++ c :: m)=nx (d :: l):=by
  rw [show nx (d :: l ++ c :: m)=nx (d :: (l ++ c :: m)) from rfl,nx_cons,nx_cons,← List.cons_append,wdR_app h,unR_app h,adR_app h,sgR_app h]
theorem ltR_z {tok k:Nat} {n:Int} {a z:Nat} (h:(ltR tok k n a z).e=0):(ltR tok k n a z).z=a+z∧1≤z∧klo k≤n∧n≤khi k∧(ltR tok k n a z).t=⟨tok,k,n,[]⟩:=by
  unfold ltR at *
  by_cases h0:z=0
  · rw [if_pos h0] at h;cases h
  · rw [if_neg h0] at h ⊢
    split at h
    · cases h
    · rename_i h1
      rw [if_neg h1]
      rw [Bool.or_eq_true,decide_eq_true_eq,decide_eq_true_eq] at h1
      exact ⟨rfl,by omega,by omega,by omega,rfl⟩
/-- A word's token: what is behind the word, by whether a literal begins there. -/
theorem wdR_time {l:List UInt8} (q:(hp (l.drop (cz inW l)) [35] && (decide (kf (l.take (cz inW l))=11) || (l.take (cz inW l) == [84])))=true):wdR l=tmQ (l.drop (cz inW l+1)) (cz inW l+1):=by
  unfold wdR;rw [q,if_pos rfl,tmR_Q]
theorem wdR_typed {l:List UInt8} (q:(hp (l.drop (cz inW l)) [35] && (decide (kf (l.take (cz inW l))=11) || (l.take (cz inW l) == [84])))=false) (q2:(hp (l.drop (cz inW l)) [35] && !decide (kf (l.take (cz inW l))=0))=true):wdR l=tyQ (l.drop (cz inW l+1)) (cz inW l+1) (kf (l.take (cz inW l))):=by
  unfold wdR;rw [q,q2,if_neg Bool.false_ne_true,if_pos rfl,tyR_Q]
theorem wdR_plain {l:List UInt8} (q:(hp (l.drop (cz inW l)) [35] && (decide (kf (l.take (cz inW l))=11) || (l.take (cz inW l) == [84])))=false) (q2:(hp (l.drop (cz inW l)) [35] && !decide (kf (l.take (cz inW l))=0))=false):wdR l=plainW (l.take (cz inW l)):=by
  unfold wdR;rw [q,q2];repeat (first | rw [if_pos rfl] | rw [if_neg Bool.false_ne_true])
theorem wd_cut {l:List UInt8} {K:Nat} (hK:cz inW l+1≤K):cz inW (l.take K)=cz inW l∧(l.take K).take (cz inW l)=l.take (cz inW l)∧hp ((l.take K).drop (cz inW l)) [35]=hp (l.drop (cz inW l)) [35]∧(l.take K).drop (cz inW l+1)=(l.drop (cz inW l+1)).take (K - (cz inW l+1)):=by
  refine ⟨cz_take (by omega),?_,?_,List.drop_take⟩
  · rw [List.take_take,Nat.min_eq_left (by omega)]
  · rw [List.drop_take,hp_take (by show 1≤_;omega)]
open Go.RowKit
open Adr Lx
def rlt (tok k:Nat) (n:Int) (z:Nat):Option (Tk × Nat):=if decide (n < klo k) || decide (khi k < n) then none else some (⟨tok,k,n,[]⟩,z)
def hL:List UInt8→Bool
  | []=>false
  | c :: _=>isL c
end Go.Proofs.YtapcpjidgemggaaGreatDoor
