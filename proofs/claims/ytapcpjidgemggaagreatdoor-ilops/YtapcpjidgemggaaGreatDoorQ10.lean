/- What Structured Text is, in plain mathematics: a text's tokens read as an expression, as a program (stage 13). · An expression in brackets is itself: the reader's plain mathematics (stage 13). -/
import Derived.Test.YtapcpjidgemggaaGreatDoorQ1
namespace Go.Proofs.YtapcpjidgemggaaGreatDoor
open Go.RowKit
open Adr Lx
namespace Sx
/-- Tokens in a row. -/
abbrev TL:=List (Tk × Nat)
/-- The token at a place; behind the last: an end. -/
def cu (T:TL) (i:Nat):Tk × Nat:=T.getD i (nul,0)
def ct (T:TL) (i:Nat):List UInt8:=(cu T i).1.text
def ck (T:TL) (i:Nat):Nat:=(cu T i).1.tok
def ca (T:TL) (i:Nat):Nat:=(cu T i).2
/-- What reading comes to: what was read and which token is the next; or nothing, the token at which it ends and the error's number. -/
structure Re (α:Type) where
  v:Option α
  k:Nat
  e:Nat
def ok {α:Type} (a:α) (k:Nat):Re α:=⟨some a,k,0⟩
def no {α:Type} (e k:Nat):Re α:=⟨none,k,e⟩
/-- One behind the other. -/
def th {α β:Type} (p:Re α) (f:α→Nat→Re β):Re β :=
  match p.v with
  | some a=>f a p.k
  | none=>⟨none,p.k,p.e⟩
/-- The next token is this word, or sign. -/
def isT (T:TL) (s:List UInt8) (i:Nat):Bool:=ct T i == s
/-- This word, or sign, must be there. -/
def xp (T:TL) (s:List UInt8) (i:Nat):Re Unit:=if isT T s i then ok () (i+1) else no 130 i
/-- A token of this sort must be there. -/
def tof (T:TL) (t i:Nat):Re (Tk × Nat):=if ck T i=t then ok (cu T i) (i+1) else no 130 i
/-- As long as g holds, b; f: how often at most. -/
def rp {α:Type} (g:Nat→Bool) (b:α→Nat→Re α):Nat→α→Nat→Re α
  | 0,_,k=>no 130 k
  | f+1,a,k=>if g k then th (b a k) (rp g b f) else ok a k
/-- A tree's node; how many operands it has. -/
structure Nd where
  op:Nat
  kind:Nat
  n:Int
  name:List UInt8
  field:List UInt8
  pl:Nat
  ar:Nat
/-- A tree: what stands at each way from its root. -/
abbrev Tr:=List Nat→Option Nd
def mkT (d:Nd) (ts:List Tr):Tr
  | []=>some d
  | i :: p=>match ts[i]? with
    | some t=>t p
    | none=>none
/-- Operators, and their levels; 0, 0: none. -/
def opr (s:List UInt8):Nat × Nat :=
  if s == [79,82] then (18,0) else if s == [88,79,82] then (17,1) else if s == [65,78,68] then (16,2)
  else if s == [61] then (14,3) else if s == [60,62] then (15,3) else if s == [60] then (10,3) else if s == [62] then (11,3) else if s == [60,61] then (12,3) else if s == [62,61] then (13,3)
  else if s == [43] then (8,4) else if s == [45] then (9,4) else if s == [42] then (5,5) else if s == [47] then (6,5) else if s == [77,79,68] then (7,5) else (0,0)
def bin2 (op pl:Nat) (l r:Tr):Tr:=mkT ⟨op,0,0,[],[],pl,2⟩ [l,r]
/-- Operands of a level's operators, behind the first. -/
def bl (T:TL) (lv:Nat) (b:Nat→Re Tr):Nat→Tr→Nat→Re Tr
  | 0,_,k=>no 130 k
  | f+1,t,k =>
    if (decide ((opr (ct T k)).1=0) || !decide ((opr (ct T k)).2=lv))=true then ok t k
    else th (b (k+1)) fun r m=>if lv=3 then ok (bin2 (opr (ct T k)).1 (ca T k) t r) m else bl T lv b f (bin2 (opr (ct T k)).1 (ca T k) t r) m
/-- Levels from 6 - c on. -/
def bi (T:TL) (u:Nat→Re Tr):Nat→Nat→Re Tr
  | 0,i=>u i
  | c+1,i=>th (bi T u c i) fun t k=>bl T (5 - c) (bi T u c) (T.length+1) t k
def beg (T:TL) (i:Nat):Bool:=decide (ck T i=2) || decide (ck T i=3) || decide (ck T i=4) || isT T [45] i || isT T [78,79,84] i || isT T [40] i
def litOf (t:Tk × Nat):Tr:=mkT ⟨1,t.1.kind,t.1.n,[],[],t.2,0⟩ []
def litT (T:TL) (i:Nat):Re Tr:=if ck T i=4 then ok (litOf (cu T i)) (i+1) else th (tof T 3 i) fun t k=>ok (litOf t) k
def plainV (t:Tk × Nat):Tr:=mkT ⟨2,0,0,t.1.text,[],t.2,0⟩ []
/-- A variable behind its name. -/
def vr (T:TL) (x:Nat→Re Tr) (t:Tk × Nat) (i:Nat):Re Tr :=
  if isT T [46] i then th (tof T 2 (i+1)) fun f k=>ok (mkT ⟨2,0,0,t.1.text,f.1.text,t.2,0⟩ []) k
  else if isT T [91] i then th (x (i+1)) fun a k=>th (xp T [93] k) fun _ m=>ok (mkT ⟨2,0,0,t.1.text,[],t.2,1⟩ [a]) m
  else ok (plainV t) i
/-- A call behind its name and bracket. -/
def cal (T:TL) (x:Nat→Re Tr) (t:Tk × Nat) (i:Nat):Re Tr :=
  th (x i) fun a k=>th (rp (isT T [44]) (fun l m=>th (x (m+1)) fun a z=>ok (l ++ [a]) z) (T.length+1) [a] k) fun l m =>
    th (xp T [41] m) fun _ z=>ok (mkT ⟨19,0,0,t.1.text,[],t.2,l.length⟩ l) z
def pri (T:TL) (x:Nat→Re Tr) (i:Nat):Re Tr :=
  if isT T [40] i then th (x (i+1)) fun a k=>th (xp T [41] k) fun _ m=>ok a m
  else if ck T i=2 then (if isT T [40] (i+1) then cal T x (cu T i) (i+2) else vr T x (cu T i) (i+1))
  else litT T i
def un1 (op pl:Nat) (p:Re Tr):Re Tr:=th p fun a k=>ok (mkT ⟨op,0,0,[],[],pl,1⟩ [a]) k
/-- An operand; d: how much deeper it may become. -/
def una (T:TL):Nat→Nat→Re Tr
  | 0,i=>if beg T i then no 131 i else no 130 i
  | d+1,i =>
    if !beg T i then no 130 i
    else if isT T [45] i then un1 3 (ca T i) (una T d (i+1))
    else if isT T [78,79,84] i then un1 4 (ca T i) (una T d (i+1))
    else pri T (bi T (una T d) 6) i
/-- An expression. -/
def xpr (T:TL) (d i:Nat):Re Tr:=bi T (una T d) 6 i
def endT (T:TL) (i:Nat):Re Unit:=if ck T i=0 then ok () i else no 130 i
/-- A whole text's expression. -/
def onl (T:TL):Re Tr:=th (xpr T 32 0) fun a k=>th (endT T k) fun _ m=>ok a m
/-- A literal that may have a sign. -/
def slt (T:TL) (i:Nat):Re Unit:=if isT T [45] i then th (tof T 3 (i+1)) fun _ k=>ok () k else th (litT T i) fun _ k=>ok () k
/-- Statements. -/
def bgs (T:TL) (i:Nat):Bool:=isT T [59] i || isT T [73,70] i || isT T [67,65,83,69] i || isT T [70,79,82] i || isT T [87,72,73,76,69] i || isT T [82,69,80,69,65,84] i || isT T [69,88,73,84] i || isT T [82,69,84,85,82,78] i || decide (ck T i=2)
def xps (T:TL) (i:Nat):Re Unit:=th (xpr T 32 i) fun _ k=>ok () k
def arm (T:TL) (s:Nat→Re (List Nat)) (i:Nat):Re Unit:=th (xps T i) fun _ k=>th (xp T [84,72,69,78] k) fun _ m=>th (s m) fun _ z=>ok () z
def els (T:TL) (s:Nat→Re (List Nat)) (i:Nat):Re Unit:=if isT T [69,76,83,69] i then th (s (i+1)) fun _ k=>ok () k else ok () i
def ifS (T:TL) (s:Nat→Re (List Nat)) (i:Nat):Re Nat :=
  th (arm T s i) fun _ k=>th (rp (isT T [69,76,83,73,70]) (fun _ m=>arm T s (m+1)) (T.length+1) () k) fun _ m=>th (els T s m) fun _ z=>th (xp T [69,78,68,95,73,70] z) fun _ y=>ok 2 y
def lab (T:TL) (i:Nat):Re Unit:=th (slt T i) fun _ k=>if isT T [46,46] k then slt T (k+1) else ok () k
def carm (T:TL) (s:Nat→Re (List Nat)) (i:Nat):Re Unit :=
  th (lab T i) fun _ k=>th (rp (isT T [44]) (fun _ m=>lab T (m+1)) (T.length+1) () k) fun _ m=>th (xp T [58] m) fun _ z=>th (s z) fun _ y=>ok () y
def casS (T:TL) (s:Nat→Re (List Nat)) (i:Nat):Re Nat :=
  th (xps T i) fun _ k=>th (xp T [79,70] k) fun _ m=>th (carm T s m) fun _ z=>th (rp (fun j=>decide (ck T j=3) || isT T [45] j) (fun _ j=>carm T s j) (T.length+1) () z) fun _ y=>th (els T s y) fun _ a=>th (xp T [69,78,68,95,67,65,83,69] a) fun _ b=>ok 3 b
def forS (T:TL) (s:Nat→Re (List Nat)) (i:Nat):Re Nat :=
  th (tof T 2 i) fun _ a=>th (xp T [58,61] a) fun _ b=>th (xps T b) fun _ c=>th (xp T [84,79] c) fun _ d=>th (xps T d) fun _ e =>
    th (if isT T [66,89] e then xps T (e+1) else ok () e) fun _ f=>th (xp T [68,79] f) fun _ g=>th (s g) fun _ h=>th (xp T [69,78,68,95,70,79,82] h) fun _ j=>ok 4 j
def whiS (T:TL) (s:Nat→Re (List Nat)) (i:Nat):Re Nat :=
  th (xps T i) fun _ a=>th (xp T [68,79] a) fun _ b=>th (s b) fun _ c=>th (xp T [69,78,68,95,87,72,73,76,69] c) fun _ d=>ok 5 d
def repS (T:TL) (s:Nat→Re (List Nat)) (i:Nat):Re Nat :=
  th (s i) fun _ a=>th (xp T [85,78,84,73,76] a) fun _ b=>th (xps T b) fun _ c=>th (xp T [69,78,68,95,82,69,80,69,65,84] c) fun _ d=>ok 6 d
def arg (T:TL) (i:Nat):Re Unit:=th (tof T 2 i) fun _ a=>th (xp T [58,61] a) fun _ b=>xps T b
def blkS (T:TL) (i:Nat):Re Nat :=
  th (if isT T [41] i then ok () i else th (arg T i) fun _ k=>rp (isT T [44]) (fun _ m=>arg T (m+1)) (T.length+1) () k) fun _ a=>th (xp T [41] a) fun _ b=>ok 9 b
def asgS (T:TL) (t:Tk × Nat) (i:Nat):Re Nat:=th (vr T (xpr T 31) t i) fun _ a=>th (xp T [58,61] a) fun _ b=>th (xps T b) fun _ c=>ok 1 c
/-- A statement behind its first token. -/
def sbe (T:TL) (s:Nat→Re (List Nat)) (t:Tk × Nat) (i:Nat):Re Nat :=
  if t.1.text == [73,70] then ifS T s i else if t.1.text == [67,65,83,69] then casS T s i else if t.1.text == [70,79,82] then forS T s i else if t.1.text == [87,72,73,76,69] then whiS T s i
  else if t.1.text == [82,69,80,69,65,84] then repS T s i else if t.1.text == [69,88,73,84] then ok 7 i else if t.1.text == [82,69,84,85,82,78] then ok 8 i
  else if isT T [40] i then blkS T (i+1) else asgS T t i
def sm1 (T:TL) (s:Nat→Re (List Nat)) (i:Nat):Re Nat:=th (sbe T s (cu T i) (i+1)) fun o k=>th (xp T [59] k) fun _ m=>ok o m
/-- Statements; d: how much deeper they may become. -/
def sms (T:TL):Nat→Nat→Re (List Nat)
  | 0,i=>if bgs T i then no 131 i else ok [] i
  | d+1,i=>rp (bgs T) (fun l k=>if isT T [59] k then ok l (k+1) else th (sm1 T (sms T d) k) fun o m=>ok (l ++ [o]) m) (T.length+1) [] i
/-- Declarations. -/
def knd (T:TL) (i:Nat):Re Unit:=if kf (ct T i)=0 then no 130 i else ok () (i+1)
def fst1 (T:TL) (i:Nat):Re Unit:=if isT T [58,61] i then slt T (i+1) else ok () i
def fld (T:TL) (i:Nat):Re Unit:=th (tof T 2 i) fun _ a=>th (xp T [58] a) fun _ b=>th (knd T b) fun _ c=>th (fst1 T c) fun _ d=>xp T [59] d
/-- Up to this word, and past it. -/
def upT {α:Type} (T:TL) (s:List UInt8) (b:α→Nat→Re α) (a:α) (i:Nat):Re α:=th (rp (fun k=>!isT T s k) b (T.length+1) a i) fun a k=>ok a (k+1)
def stru (T:TL) (i:Nat):Re Unit:=th (tof T 2 i) fun _ a=>th (xp T [58] a) fun _ b=>th (xp T [83,84,82,85,67,84] b) fun _ c=>th (upT T [69,78,68,95,83,84,82,85,67,84] (fun _ k=>fld T k) () c) fun _ d=>xp T [59] d
def bnd (T:TL) (i:Nat):Re Unit:=th (if isT T [45] i then ok () (i+1) else ok () i) fun _ a=>if (cu T a).1.kind=0 then th (tof T 3 a) fun _ b=>ok () b else no 130 a
def arr (T:TL) (i:Nat):Re Unit:=th (xp T [91] i) fun _ a=>th (bnd T a) fun _ b=>th (xp T [46,46] b) fun _ c=>th (bnd T c) fun _ d=>th (xp T [93] d) fun _ e=>th (xp T [79,70] e) fun _ f=>knd T f
def vty (T:TL) (i:Nat):Re Unit:=if isT T [65,82,82,65,89] i then arr T (i+1) else if ck T i=2 then ok () (i+1) else knd T i
def dcl (T:TL) (i:Nat):Re Unit :=
  th (tof T 2 i) fun _ a=>th (if isT T [65,84] a then th (tof T 5 (a+1)) fun _ k=>ok () k else ok () a) fun _ b=>th (xp T [58] b) fun _ c=>th (vty T c) fun _ d=>th (fst1 T d) fun _ e=>xp T [59] e
def rtn (T:TL) (i:Nat):Nat:=if isT T [82,69,84,65,73,78] i then i+1 else i
/-- A program: its name, how many variables, which statements. -/
def prg (T:TL):Re (List UInt8 × Nat × List Nat) :=
  th (rp (isT T [84,89,80,69]) (fun _ k=>upT T [69,78,68,95,84,89,80,69] (fun _ m=>stru T m) () (k+1)) (T.length+1) () 0) fun _ a=>th (xp T [80,82,79,71,82,65,77] a) fun _ b=>th (tof T 2 b) fun t c =>
    th (rp (isT T [86,65,82]) (fun n k=>upT T [69,78,68,95,86,65,82] (fun n m=>th (dcl T m) fun _ z=>ok (n+1) z) n (rtn T (k+1))) (T.length+1) 0 c) fun n d =>
      th (sms T 32 d) fun l e=>th (xp T [69,78,68,95,80,82,79,71,82,65,77] e) fun _ f=>th (endT T f) fun _ g=>ok (t.1.text,n,l) g
end Sx
end Go.Proofs.YtapcpjidgemggaaGreatDoor
namespace Go.Proofs.YtapcpjidgemggaaGreatDoor
open Go.RowKit
open Adr Lx Sx
/-- A node without its place. -/
def sp (d:Nd):Nd:=⟨d.op,d.kind,d.n,d.name,d.field,0,d.ar⟩
/-- A tree without places. -/
def br (t:Tr):Tr:=fun p=>(t p).map sp
theorem th_some {α β:Type} {p:Re α} {f:α→Nat→Re β} {a:α} (h:p.v=some a):th p f=f a p.k:=by unfold th;rw [h]
theorem th_none {α β:Type} {p:Re α} {f:α→Nat→Re β} (h:p.v=none):th p f=⟨none,p.k,p.e⟩:=by unfold th;rw [h]
theorem br_mkT {d d':Nd} {ts ts':List Tr} (h:sp d=sp d') (hs:ts.map br=ts'.map br):br (mkT d ts)=br (mkT d' ts'):=by
  funext p
  cases p with
  | nil=>show some (sp d)=some (sp d');rw [h]
  | cons i p =>
    have e:(ts.map br)[i]?=(ts'.map br)[i]?:=by rw [hs]
    rw [List.getElem?_map,List.getElem?_map] at e
    show Option.map sp (mkT d ts (i :: p))=Option.map sp (mkT d' ts' (i :: p))
    cases h1:ts[i]? with
    | none =>
      cases h2:ts'[i]? with
      | none=>simp only [mkT,h1,h2]
      | some t'=>rw [h1,h2] at e;cases e
    | some t =>
      cases h2:ts'[i]? with
      | none=>rw [h1,h2] at e;cases e
      | some t' =>
        rw [h1,h2] at e
        have e2:br t=br t':=Option.some.inj e
        simp only [mkT,h1,h2]
        exact congrFun e2 p
/-- Where p reads something, q reads what goes with it, one token further; or is too deep. -/
def Sm {α β:Type} (R:α→β→Prop) (p:Re α) (q:Re β):Prop :=
  ∀ a,p.v=some a→(q.v=none∧q.e=131) ∨ ∃ b,R a b∧q.v=some b∧q.k=p.k+1
theorem Sm.bind {α β γ δ:Type} {R:α→β→Prop} {R':γ→δ→Prop} {p:Re α} {q:Re β} {f:α→Nat→Re γ} {g:β→Nat→Re δ} (h:Sm R p q) (k:∀ a b m,R a b→Sm R' (f a m) (g b (m+1))):Sm R' (th p f) (th q g):=by
  intro c hc
  cases hp:p.v with
  | none=>rw [th_none hp] at hc;cases hc
  | some a =>
    rw [th_some hp] at hc ⊢
    rcases h a hp with ⟨h1,h2⟩ | ⟨b,h1,h2,h3⟩
    · left;rw [th_none h1];exact ⟨rfl,h2⟩
    · rw [th_some h2,h3];exact k a b p.k h1 c hc
theorem Sm.yes {α β:Type} {R:α→β→Prop} {a:α} {b:β} {k:Nat} (h:R a b):Sm R (ok a k) (ok b (k+1)):=fun c hc=>by
  cases hc;exact Or.inr ⟨b,h,rfl,rfl⟩
theorem Sm.nay {α β:Type} {R:α→β→Prop} {e k:Nat} {q:Re β}:Sm R (no e k) q:=fun c hc=>by cases hc
/-- The sign that shuts a bracket. -/
def shut:Tk:=⟨6,0,0,[41]⟩
/-- The tokens of T lie in T', one further; where T ends a bracket is shut. -/
def Lk (T T':TL):Prop:=∀ i,(cu T' (i+1)).1=(cu T i).1 ∨ ((cu T i).1=nul∧(cu T' (i+1)).1=shut)
theorem Lk.is {T T':TL} (h:Lk T T') {s:List UInt8} (h0:s ≠ []) (h1:s ≠ [41]) (i:Nat):isT T' s (i+1)=isT T s i:=by
  unfold isT ct
  rcases h i with e | ⟨e1,e2⟩
  · rw [e]
  · rw [e1,e2]
    show ([41] == s)=([] == s)
    rw [beq_eq_false_iff_ne.2 (Ne.symm h1),beq_eq_false_iff_ne.2 (Ne.symm h0)]
theorem Lk.fits {T T':TL} (h:Lk T T') {s:List UInt8} (h0:s ≠ []) {i:Nat} (hi:isT T s i=true):isT T' s (i+1)=true:=by
  unfold isT ct at *
  rcases h i with e | ⟨e1,e2⟩
  · rw [e];exact hi
  · rw [e1] at hi
    have:s=[]:=(eq_of_beq hi).symm
    exact absurd this h0
theorem Lk.ck {T T':TL} (h:Lk T T') {t:Nat} (h0:t ≠ 0) (h1:t ≠ 6) (i:Nat):(ck T' (i+1)=t)=(ck T i=t):=by
  unfold Sx.ck
  rcases h i with e | ⟨e1,e2⟩
  · rw [e]
  · rw [e1,e2]
    show (6=t)=(0=t)
    exact propext ⟨fun q=>absurd q.symm h1,fun q=>absurd q.symm h0⟩
theorem Lk.op {T T':TL} (h:Lk T T') (i:Nat):opr (ct T' (i+1))=opr (ct T i):=by
  unfold ct
  rcases h i with e | ⟨e1,e2⟩
  · rw [e]
  · rw [e1,e2];rfl
theorem Lk.at {T T':TL} (h:Lk T T') {i t:Nat} (hi:Sx.ck T i=t) (h0:t ≠ 0):(cu T' (i+1)).1=(cu T i).1:=by
  rcases h i with e | ⟨e1,e2⟩
  · exact e
  · unfold Sx.ck at hi;rw [e1] at hi;exact absurd hi.symm h0
def Al (t t':Tr):Prop:=br t=br t'
theorem Lk.xp {T T':TL} (h:Lk T T') {s:List UInt8} (h0:s ≠ []) (i:Nat):Sm (fun _ _=>True) (xp T s i) (xp T' s (i+1)):=by
  unfold Sx.xp
  by_cases q:isT T s i=true
  · rw [if_pos q,if_pos (h.fits h0 q)];exact Sm.yes trivial
  · rw [if_neg q];exact Sm.nay
theorem Lk.tof {T T':TL} (h:Lk T T') {t:Nat} (h0:t ≠ 0) (h1:t ≠ 6) (i:Nat):Sm (fun a b=>a.1=b.1) (tof T t i) (tof T' t (i+1)):=by
  unfold Sx.tof
  by_cases q:Sx.ck T i=t
  · rw [if_pos q,if_pos (by rw [h.ck h0 h1];exact q)];exact Sm.yes (h.at q h0).symm
  · rw [if_neg q];exact Sm.nay
theorem al_bin {op pl pl':Nat} {t t' r r':Tr} (h:Al t t') (k:Al r r'):Al (bin2 op pl t r) (bin2 op pl' t' r'):=by
  have h:br t=br t':=h
  have k:br r=br r':=k
  exact br_mkT rfl (by rw [List.map_cons,List.map_cons,List.map_cons,List.map_cons,h,k])
theorem rp_sim {α β:Type} {R:α→β→Prop} {g g':Nat→Bool} {b:α→Nat→Re α} {b':β→Nat→Re β} (hg:∀ i,g' (i+1)=g i) (hb:∀ a a' i,R a a'→Sm R (b a i) (b' a' (i+1))):∀ (f f':Nat) (a:α) (a':β) (k:Nat),f≤f'→R a a'→Sm R (rp g b f a k) (rp g' b' f' a' (k+1))
  | 0,_,_,_,_,_,_=>Sm.nay
  | f+1,0,_,_,_,hf,_=>by omega
  | f+1,f'+1,a,a',k,hf,ha=>by
    unfold rp
    rw [hg k]
    split
    · exact Sm.bind (hb a a' k ha) fun c c' m hc=>rp_sim hg hb f f' c c' m (by omega) hc
    · exact Sm.yes ha
theorem Lk.beg {T T':TL} (h:Lk T T') (i:Nat):beg T' (i+1)=beg T i:=by
  unfold Sx.beg
  simp only [h.ck (t:=2) (by decide) (by decide) i,h.ck (t:=3) (by decide) (by decide) i,h.ck (t:=4) (by decide) (by decide) i]
  rw [h.is (by decide) (by decide),h.is (by decide) (by decide),h.is (by decide) (by decide)]
theorem Lk.litT {T T':TL} (h:Lk T T') (i:Nat):Sm Al (litT T i) (litT T' (i+1)):=by
  have e:∀ a b:Tk × Nat,a.1=b.1→Al (litOf a) (litOf b):=fun a b q=>by
    unfold litOf
    refine br_mkT ?_ rfl
    unfold sp
    rw [q]
  unfold Sx.litT
  simp only [h.ck (t:=4) (by decide) (by decide) i]
  split
  · rename_i q
    exact Sm.yes (e _ _ (h.at q (by decide)).symm)
  · exact Sm.bind (h.tof (by decide) (by decide) i) fun a b k q=>Sm.yes (e _ _ q)
theorem Lk.vr {T T':TL} (h:Lk T T') {x x':Nat→Re Tr} (hx:∀ i,Sm Al (x i) (x' (i+1))) (t t':Tk × Nat) (ht:t.1=t'.1) (i:Nat):Sm Al (vr T x t i) (vr T' x' t' (i+1)):=by
  unfold Sx.vr
  rw [h.is (by decide) (by decide),h.is (by decide) (by decide)]
  split
  · refine Sm.bind (h.tof (by decide) (by decide) (i+1)) fun a b k q=>Sm.yes ?_
    refine br_mkT ?_ rfl
    unfold sp
    rw [q,ht]
  · split
    · refine Sm.bind (hx (i+1)) fun a b k q=>Sm.bind (h.xp (by decide) k) fun _ _ m _=>Sm.yes ?_
      refine br_mkT ?_ ?_
      · unfold sp
        rw [ht]
      · have q:br a=br b:=q
        rw [List.map_cons,List.map_cons,q,List.map_nil]
    · refine Sm.yes ?_
      unfold plainV
      refine br_mkT ?_ rfl
      unfold sp
      rw [ht]
theorem Lk.cal {T T':TL} (h:Lk T T') (hl:T.length≤T'.length) {x x':Nat→Re Tr} (hx:∀ i,Sm Al (x i) (x' (i+1))) (t t':Tk × Nat) (ht:t.1=t'.1) (i:Nat):Sm Al (cal T x t i) (cal T' x' t' (i+1)):=by
  unfold Sx.cal
  refine Sm.bind (hx i) fun a b k q=>?_
  have q:br a=br b:=q
  refine Sm.bind (R:=fun (l l':List Tr)=>l.map br=l'.map br) (rp_sim (fun j=>h.is (by decide) (by decide) j) (fun l l' j hl2=>?_) _ _ _ _ k (by omega) (by rw [List.map_cons,List.map_cons,q])) fun l l' m hll=>?_
  · refine Sm.bind (hx (j+1)) fun c d z hc=>Sm.yes ?_
    have hc:br c=br d:=hc
    rw [List.map_append,List.map_append,hl2,List.map_cons,List.map_cons,hc]
  · refine Sm.bind (h.xp (by decide) m) fun _ _ z _=>Sm.yes ?_
    refine br_mkT ?_ hll
    unfold sp
    rw [ht,show l.length=l'.length by rw [← List.length_map (f:=br),hll,List.length_map]]
end Go.Proofs.YtapcpjidgemggaaGreatDoor
