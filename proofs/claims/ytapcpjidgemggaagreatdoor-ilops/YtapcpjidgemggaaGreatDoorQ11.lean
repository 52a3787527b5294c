/- What Instruction List is, in plain mathematics: a text's tokens read as declarations and instructions (stage 14). · Readings don't hang on places: two rows of tokens that are alike but for their places are read alike (stage 14). -/
import Derived.Test.YtapcpjidgemggaaGreatDoorQ9
import Derived.Test.YtapcpjidgemggaaGreatDoorQ10
namespace Go.Proofs.YtapcpjidgemggaaGreatDoor
open Go.RowKit
open Adr Lx Sx
namespace Ilx
/-- The reader: which tokens are left, the first error. -/
structure Ps where
  L:TL
  e:Option (Nat × Nat)
def hd (L:TL):Tk × Nat:=L.headD (nul,0)
def lst (L:TL):TL:=L.drop (L.length - 1)
def rf (s:Ps) (a n:Nat):Ps:=⟨lst s.L,some (s.e.getD (a,n))⟩
def tk (s:Ps):Ps:=if (hd s.L).1.tok=0 then s else ⟨s.L.tail,s.e⟩
def iz (s:Ps) (x:List UInt8):Bool:=(hd s.L).1.text == x
def ac (s:Ps) (x:List UInt8):Ps:=if iz s x then tk s else s
def xq (s:Ps) (x:List UInt8):Ps:=if iz s x then tk s else rf s (hd s.L).2 130
def tq (s:Ps) (ks:List Nat):Ps:=if ks.contains (hd s.L).1.tok then s else rf s (hd s.L).2 130
/-- Past lines' ends; past the next token that is that word. -/
def pl:TL→TL
  | []=>[]
  | t :: L=>if t.1.text == [10] then pl L else t :: L
def pt (x:List UInt8):TL→TL
  | []=>[]
  | t :: L=>if t.1.tok=0 then t :: L else if t.1.text == x then L else pt x L
/-- Past the bracket that belongs to the first token. -/
def op1 (x:List UInt8) (o:Int):Int:=if x == [91] then o+1 else if x == [93] then o - 1 else o
def pix:Int→TL→TL
  | _,[]=>[]
  | o,t :: L=>if t.1.tok=0 then t :: L else if t.1.text == [10] then t :: L else if op1 t.1.text o=0 then L else pix (op1 t.1.text o) L
def pv (s:Ps):Ps:=if iz (tk s) [46] then tk (tq (tk (tk s)) [2]) else if iz (tk s) [91] then ⟨pix 0 (tk s).L,(tk s).e⟩ else tk s
def vs (s:Ps):Ps:=if iz s [45] then tk (tq (tk s) [3]) else if (hd s.L).1.tok=2 then pv s else tk (tq s [3,4])
/-- The piece of a text between two tokens, as tokens of Structured Text. -/
def pcT (L M:TL):TL:=((L.take (L.length - M.length)).filter nl).map (fun t=>(t.1,t.2 - (hd L).2)) ++ [(nul,(hd M).2 - (hd L).2)]
def zT:Tr:=mkT ⟨0,0,0,[],[],0,0⟩ []
def xfS (L:TL) (s:Ps):Ps:=if (onl (pcT L s.L)).v.isSome then s else rf s ((hd L).2+ca (pcT L s.L) (onl (pcT L s.L)).k) (onl (pcT L s.L)).e
def xfT (L:TL) (s:Ps):Tr:=(onl (pcT L s.L)).v.getD zT
def vlS (s:Ps):Ps:=xfS s.L (vs s)
def vlT (s:Ps):Tr:=xfT s.L (vs s)
def nmS (s:Ps):Ps:=tk (tq s [2])
def nmT (s:Ps):Tk × Nat:=hd (tq s [2]).L
/-- An argument. -/
structure Ag where
  name:List UInt8
  t:Tr
def agS (s:Ps):Ps:=vlS (xq (nmS s) [58,61])
def agV (s:Ps):Ag:=⟨(nmT s).1.text,vlT (xq (nmS s) [58,61])⟩
def agr:Nat→Ps→List Ag→Ps × List Ag
  | 0,s,l=>(s,l)
  | f+1,s,l=>if iz s [44] then agr f (agS (tk s)) (l ++ [agV (tk s)]) else (s,l)
def ars (s:Ps):Ps × List Ag:=if iz (xq s [40]) [41] then (tk (xq s [40]),[]) else (xq (agr (s.L.length+1) (agS (xq s [40])) [agV (xq s [40])]).1 [41],(agr (s.L.length+1) (agS (xq s [40])) [agV (xq s [40])]).2)
/-- An instruction. -/
structure Is where
  lab:List UInt8
  op:List UInt8
  es:List Tr
  args:List Ag
  pl:Nat
def cll (o:List UInt8):Bool:=o == [67,65,76] || (o == [67,65,76,67] || o == [67,65,76,67,78])
def jmp (o:List UInt8):Bool:=o == [74,77,80] || (o == [74,77,80,67] || o == [74,77,80,67,78])
/-- The operator, with its bracket; what is left behind it. -/
def opB (s:Ps):Bool:=!cll (hd s.L).1.text && iz (tk s) [40]
def opO (s:Ps):List UInt8:=if opB s then (hd s.L).1.text ++ [40] else (hd s.L).1.text
def opS (s:Ps):Ps:=if opB s then tk (tk s) else tk s
def opn (s:Ps) (lab:List UInt8) (p:Nat):Ps × Is :=
  if iz (opS s) [10] then (opS s,⟨lab,opO s,[],[],p⟩)
  else if cll (hd s.L).1.text then ((ars (nmS (opS s))).1,⟨lab,opO s,[plainV (nmT (opS s))],(ars (nmS (opS s))).2,p⟩)
  else if jmp (opO s) then (nmS (opS s),⟨lab,opO s,[plainV (nmT (opS s))],[],p⟩)
  else (vlS (opS s),⟨lab,opO s,[vlT (opS s)],[],p⟩)
def bLab (s:Ps):Bool:=decide ((hd s.L).1.tok=2) && (hd s.L.tail).1.text == [58]
def bOp (s:Ps):Bool:=decide ((hd s.L).1.tok=2) || (iz s [65,78,68] || (iz s [79,82] || (iz s [88,79,82] || (iz s [78,79,84] || iz s [77,79,68]))))
/-- A line behind its label. -/
def lnb (s:Ps) (lab:List UInt8) (p:Nat):Ps × Is :=
  if bOp s then opn s lab p else if lab == [] && iz s [41] then (tk s,⟨lab,[41],[],[],p⟩) else (s,⟨lab,[],[],[],p⟩)
def lnl (s:Ps):List UInt8:=if bLab s then (hd s.L).1.text else []
def lns (s:Ps):Ps:=if bLab s then xq (tk s) [58] else s
def lin (s:Ps):Ps × Is:=(xq (lnb (lns s) (lnl s) (hd s.L).2).1 [10],(lnb (lns s) (lnl s) (hd s.L).2).2)
def ful (i:Is):Bool:=!(i.lab == []) || !(i.op == [])
def cds:Nat→Ps→List Is→Ps × List Is
  | 0,s,l=>(s,l)
  | f+1,s,l=>if s.e.isSome then (s,l) else if iz s [69,78,68,95,80,82,79,71,82,65,77] then (tk s,l) else cds f (lin s).1 (if ful (lin s).2 then l ++ [(lin s).2] else l)
def cdr (s:Ps):Ps × List Is:=cds (s.L.length+1) (xq s [10]) []
def cod (s:Ps):Ps × List Is:=(tk (tq ⟨pl (cdr s).1.L,(cdr s).1.e⟩ [0]),(cdr s).2)
/-- What stands ahead of the instructions. -/
def tys:Nat→TL→TL
  | 0,L=>L
  | f+1,L=>if (hd L).1.text == [84,89,80,69] then tys f (pl (pt [69,78,68,95,84,89,80,69] L)) else L
def vrs:Nat→TL→TL
  | 0,L=>L
  | f+1,L=>if (hd (pl L)).1.text == [86,65,82] then vrs f (pt [69,78,68,95,86,65,82] (pl L)) else L
def phT (T:TL):TL:=tys (T.length+1) (pl T)
def phd (T:TL):Bool × TL :=
  if !((hd (phT T)).1.text == [80,82,79,71,82,65,77]) then (false,phT T)
  else if !decide ((hd (phT T).tail).1.tok=2) then (false,(phT T).tail)
  else (true,vrs (T.length+1) (phT T).tail.tail)
def hdT (T L:TL):TL:=(T.take (T.length - L.length)).filter nl ++ [(nul,(hd L).2)]
def endW:Tk:=⟨1,0,0,[69,78,68,95,80,82,79,71,82,65,77]⟩
def hdE (T L:TL):TL:=(T.take (T.length - L.length)).filter nl ++ [(endW,(hd L).2+1),(nul,(hd L).2+12)]
def hed (T:TL):Ps :=
  if (prg (hdT T (phd T).2)).v.isNone && (!(phd T).1 || decide (ca (hdT T (phd T).2) (prg (hdT T (phd T).2)).k < (hd (phd T).2).2)) then rf ⟨(phd T).2,none⟩ (ca (hdT T (phd T).2) (prg (hdT T (phd T).2)).k) (prg (hdT T (phd T).2)).e
  else ⟨(phd T).2,none⟩
/-- The error of the whole; none: the program. -/
def err (T:TL):Option (Nat × Nat) :=
  match (cod (hed T)).1.e with
  | some x=>some x
  | none=>if (prg (hdE T (phd T).2)).v.isNone then some (ca (hdE T (phd T).2) (prg (hdE T (phd T).2)).k,(prg (hdE T (phd T).2)).e) else none
def code (T:TL):List Is:=(cod (hed T)).2
def prog (T:TL):Option (List UInt8 × Nat × List Nat):=(prg (hdE T (phd T).2)).v
/-- Tokens in a row, the last alone an end. -/
def Wl (L:TL):Prop:=∃ Q p,L=Q ++ [(nul,p)]∧∀ t ∈ Q,¬ t.1.tok=0
theorem Wl.ne {L:TL} (h:Wl L):L ≠ []:=by obtain ⟨Q,p,rfl,_⟩:=h;simp
theorem Wl.hd {L:TL} (h:Wl L):((hd L).1.tok=0∧(hd L).1=nul∧∃ p,L=[(nul,p)]) ∨ (¬ (hd L).1.tok=0∧Wl L.tail∧L=hd L :: L.tail):=by
  obtain ⟨Q,p,rfl,hQ⟩:=h
  cases Q with
  | nil=>left;exact ⟨rfl,rfl,p,rfl⟩
  | cons t Q=>right;exact ⟨hQ t (by simp),⟨Q,p,rfl,fun u hu=>hQ u (by simp [hu])⟩,rfl⟩
theorem Wl.lst {L:TL} (h:Wl L):∃ p,lst L=[(nul,p)]:=by
  obtain ⟨Q,p,rfl,_⟩:=h
  exact ⟨p,by unfold Ilx.lst;rw [List.length_append,List.length_singleton,Nat.add_sub_cancel,List.drop_left]⟩
theorem Wl.sfx {L M:TL} (h:Wl L) (hs:M <:+ L) (h0:M ≠ []):Wl M:=by
  obtain ⟨C,rfl⟩:=hs
  obtain ⟨Q,p,e,hQ⟩:=h
  rcases List.eq_nil_or_concat M with rfl | ⟨M',x,rfl⟩
  · exact absurd rfl h0
  · rw [List.concat_eq_append,← List.append_assoc] at e
    obtain ⟨e1,e2⟩:=List.append_inj' e rfl
    refine ⟨M',p,by rw [List.concat_eq_append,e2],fun t ht=>hQ t ?_⟩
    rw [← e1]
    exact List.mem_append_right _ ht
/-- No reading goes back, and it never goes past the end. -/
def Sf (s' s:Ps):Prop:=s'.L <:+ s.L∧Wl s'.L
theorem Sf.trans {a b c:Ps} (h:Sf a b) (k:Sf b c):Sf a c:=⟨h.1.trans k.1,h.2⟩
theorem Sf.refl {s:Ps} (h:Wl s.L):Sf s s:=⟨List.suffix_refl _,h⟩
theorem sf_rf {s:Ps} (h:Wl s.L) (a n:Nat):Sf (rf s a n) s:=by
  obtain ⟨p,e⟩:=h.lst
  exact ⟨List.drop_suffix _ _,by show Wl (lst s.L);rw [e];exact ⟨[],p,rfl,by simp⟩⟩
theorem sf_tk {s:Ps} (h:Wl s.L):Sf (tk s) s:=by
  unfold tk
  split
  · exact Sf.refl h
  · rename_i q
    rcases h.hd with ⟨h1,_⟩ | ⟨_,h2,h3⟩
    · exact absurd h1 q
    · exact ⟨List.tail_suffix _,h2⟩
theorem sf_xq {s:Ps} (h:Wl s.L) (x:List UInt8):Sf (xq s x) s:=by
  unfold xq
  split
  · exact sf_tk h
  · exact sf_rf h _ _
theorem sf_tq {s:Ps} (h:Wl s.L) (ks:List Nat):Sf (tq s ks) s:=by
  unfold tq
  split
  · exact Sf.refl h
  · exact sf_rf h _ _
theorem sf_to {s:Ps} (h:Wl s.L) (ks:List Nat):Sf (tk (tq s ks)) s:=(sf_tk (sf_tq h ks).2).trans (sf_tq h ks)
theorem wl_pl:∀ {L:TL},Wl L→pl L <:+ L∧Wl (pl L)
  | [],h=>absurd rfl h.ne
  | t :: L,h=>by
    unfold pl
    split
    · rename_i q
      rcases h.hd with ⟨_,h1,_⟩ | ⟨_,h2,_⟩
      · exfalso
        have h1:t.1=nul:=h1
        rw [h1] at q
        exact absurd q (by decide)
      · have ih:=wl_pl (L:=L) h2
        exact ⟨ih.1.trans (List.suffix_cons _ _),ih.2⟩
    · exact ⟨List.suffix_refl _,h⟩
theorem wl_pt (x:List UInt8):∀ {L:TL},Wl L→pt x L <:+ L∧Wl (pt x L)
  | [],h=>absurd rfl h.ne
  | t :: L,h=>by
    unfold pt
    split
    · exact ⟨List.suffix_refl _,h⟩
    · rename_i q
      rcases h.hd with ⟨h1,_⟩ | ⟨_,h2,_⟩
      · exact absurd h1 q
      · split
        · exact ⟨List.suffix_cons _ _,h2⟩
        · have ih:=wl_pt x (L:=L) h2
          exact ⟨ih.1.trans (List.suffix_cons _ _),ih.2⟩
theorem wl_pix:∀ {L:TL} (o:Int),Wl L→pix o L <:+ L∧Wl (pix o L)
  | [],o,h=>absurd rfl h.ne
  | t :: L,o,h=>by
    unfold pix
    split
    · exact ⟨List.suffix_refl _,h⟩
    · rename_i q
      split
      · exact ⟨List.suffix_refl _,h⟩
      · rcases h.hd with ⟨h1,_⟩ | ⟨_,h2,_⟩
        · exact absurd h1 q
        · split
          · exact ⟨List.suffix_cons _ _,h2⟩
          · have ih:=wl_pix (L:=L) (op1 t.1.text o) h2
            exact ⟨ih.1.trans (List.suffix_cons _ _),ih.2⟩
theorem sf_pv {s:Ps} (h:Wl s.L):Sf (pv s) s:=by
  have h1:=sf_tk h
  unfold pv
  split
  · have h2:=sf_tk h1.2
    exact ((sf_to h2.2 [2]).trans h2).trans h1
  · split
    · have h2:=wl_pix (L:=(tk s).L) 0 h1.2
      exact ⟨h2.1.trans h1.1,h2.2⟩
    · exact h1
theorem sf_vs {s:Ps} (h:Wl s.L):Sf (vs s) s:=by
  unfold vs
  split
  · exact (sf_to (sf_tk h).2 [3]).trans (sf_tk h)
  · split
    · exact sf_pv h
    · exact sf_to h [3,4]
theorem sf_xf {L:TL} {s:Ps} (h:Wl s.L):Sf (xfS L s) s:=by
  unfold xfS
  split
  · exact Sf.refl h
  · exact sf_rf h _ _
theorem sf_vl {s:Ps} (h:Wl s.L):Sf (vlS s) s:=(sf_xf (sf_vs h).2).trans (sf_vs h)
theorem sf_nm {s:Ps} (h:Wl s.L):Sf (nmS s) s:=sf_to h [2]
theorem sf_ag {s:Ps} (h:Wl s.L):Sf (agS s) s :=
  have h1:=sf_nm h
  have h2:=sf_xq h1.2 [58,61]
  ((sf_vl h2.2).trans h2).trans h1
theorem sf_agr:∀ (f:Nat) {s:Ps} (l:List Ag),Wl s.L→Sf (agr f s l).1 s
  | 0,s,l,h=>Sf.refl h
  | f+1,s,l,h=>by
    unfold agr
    split
    · have h1:=sf_tk h
      have h2:=sf_ag h1.2
      exact ((sf_agr f _ h2.2).trans h2).trans h1
    · exact Sf.refl h
theorem sf_ars {s:Ps} (h:Wl s.L):Sf (ars s).1 s:=by
  have h1:=sf_xq h [40]
  have h2:=sf_ag h1.2
  have h3:=sf_agr (s.L.length+1) [agV (xq s [40])] h2.2
  have h4:=(((sf_xq h3.2 [41]).trans h3).trans h2).trans h1
  have h5:=(sf_tk h1.2).trans h1
  unfold ars
  generalize agr (s.L.length+1) (agS (xq s [40])) [agV (xq s [40])]=r at *
  by_cases q:iz (xq s [40]) [41]=true
  · rw [if_pos q];exact h5
  · rw [if_neg q];exact h4
theorem sf_opS {s:Ps} (h:Wl s.L):Sf (opS s) s:=by
  unfold opS
  split
  · exact (sf_tk (sf_tk h).2).trans (sf_tk h)
  · exact sf_tk h
theorem sf_opn {s:Ps} (h:Wl s.L) (lab:List UInt8) (p:Nat):Sf (opn s lab p).1 s:=by
  have h1:=sf_opS h
  have h2:=sf_nm h1.2
  have h3:=((sf_ars h2.2).trans h2).trans h1
  have h4:=(sf_vl h1.2).trans h1
  have h5:=h2.trans h1
  unfold opn
  by_cases q1:iz (opS s) [10]=true
  · rw [if_pos q1];exact h1
  · rw [if_neg q1]
    by_cases q2:cll (hd s.L).1.text=true
    · rw [if_pos q2];exact h3
    · rw [if_neg q2]
      by_cases q3:jmp (opO s)=true
      · rw [if_pos q3];exact h5
      · rw [if_neg q3];exact h4
theorem sf_lnb {s:Ps} (h:Wl s.L) (lab:List UInt8) (p:Nat):Sf (lnb s lab p).1 s:=by
  unfold lnb
  split
  · exact sf_opn h lab p
  · split
    · exact sf_tk h
    · exact Sf.refl h
theorem sf_lns {s:Ps} (h:Wl s.L):Sf (lns s) s:=by
  unfold lns
  split
  · exact (sf_xq (sf_tk h).2 _).trans (sf_tk h)
  · exact Sf.refl h
theorem sf_lin {s:Ps} (h:Wl s.L):Sf (lin s).1 s:=by
  have h1:=sf_lns h
  have h2:=sf_lnb h1.2 (lnl s) (hd s.L).2
  exact ((sf_xq h2.2 [10]).trans h2).trans h1
theorem wl_tys:∀ (f:Nat) {L:TL},Wl L→tys f L <:+ L∧Wl (tys f L)
  | 0,L,h=>⟨List.suffix_refl _,h⟩
  | f+1,L,h=>by
    unfold tys
    split
    · have h1:=wl_pt [69,78,68,95,84,89,80,69] h
      have h2:=wl_pl h1.2
      have ih:=wl_tys f h2.2
      exact ⟨(ih.1.trans h2.1).trans h1.1,ih.2⟩
    · exact ⟨List.suffix_refl _,h⟩
theorem wl_vrs:∀ (f:Nat) {L:TL},Wl L→vrs f L <:+ L∧Wl (vrs f L)
  | 0,L,h=>⟨List.suffix_refl _,h⟩
  | f+1,L,h=>by
    unfold vrs
    split
    · have h1:=wl_pl h
      have h2:=wl_pt [69,78,68,95,86,65,82] h1.2
      have ih:=wl_vrs f h2.2
      exact ⟨(ih.1.trans h2.1).trans h1.1,ih.2⟩
    · exact ⟨List.suffix_refl _,h⟩
theorem wl_phT {T:TL} (h:Wl T):phT T <:+ T∧Wl (phT T):=by
  have h1:=wl_pl h
  have h2:=wl_tys (T.length+1) h1.2
  exact ⟨h2.1.trans h1.1,h2.2⟩
theorem Wl.word {L:TL} {x:List UInt8} (h:Wl L) (hx:((Ilx.hd L).1.text == x)=true) (h0:x ≠ []):¬ (Ilx.hd L).1.tok=0∧Wl L.tail:=by
  rcases h.hd with ⟨_,h1,_⟩ | ⟨h1,h2,_⟩
  · exfalso
    rw [h1] at hx
    exact h0 (eq_of_beq hx).symm
  · exact ⟨h1,h2⟩
theorem Wl.sort {L:TL} (h:Wl L) (hx:¬ (Ilx.hd L).1.tok=0):Wl L.tail:=by
  rcases h.hd with ⟨h1,_⟩ | ⟨_,h2,_⟩
  · exact absurd h1 hx
  · exact h2
theorem wl_phd {T:TL} (h:Wl T):(phd T).2 <:+ T∧Wl (phd T).2:=by
  have h1:=wl_phT h
  unfold phd
  split
  · exact h1
  · rename_i q
    have q:((hd (phT T)).1.text == [80,82,79,71,82,65,77])=true:=by simpa using q
    have h2:=h1.2.word q (x:=[80,82,79,71,82,65,77]) (by decide)
    have s2:=(List.tail_suffix (phT T)).trans h1.1
    split
    · exact ⟨s2,h2.2⟩
    · rename_i q2
      have q2:(hd (phT T).tail).1.tok=2:=by simpa using q2
      have h3:=h2.2.sort (by rw [q2];decide)
      have h4:=wl_vrs (T.length+1) h3
      exact ⟨(h4.1.trans (List.tail_suffix _)).trans s2,h4.2⟩
end Ilx
end Go.Proofs.YtapcpjidgemggaaGreatDoor
namespace Go.Proofs.YtapcpjidgemggaaGreatDoor
open Go.RowKit
open Adr Lx Sx
/-- The same tokens, whatever their places. -/
def Pz (T T':TL):Prop:=T.map Prod.fst=T'.map Prod.fst
theorem Pz.len {T T':TL} (h:Pz T T'):T.length=T'.length:=by
  have:=congrArg List.length h
  simpa using this
theorem Pz.cu {T T':TL} (h:Pz T T') (i:Nat):(cu T i).1=(cu T' i).1:=by
  have q:(T.map Prod.fst)[i]?=(T'.map Prod.fst)[i]?:=by rw [show T.map Prod.fst=T'.map Prod.fst from h]
  rw [List.getElem?_map,List.getElem?_map] at q
  unfold Sx.cu
  rw [List.getD_eq_getElem?_getD,List.getD_eq_getElem?_getD]
  cases h1:T[i]? with
  | none =>
    cases h2:T'[i]? with
    | none=>rfl
    | some b=>rw [h1,h2] at q;cases q
  | some a =>
    cases h2:T'[i]? with
    | none=>rw [h1,h2] at q;cases q
    | some b=>rw [h1,h2] at q;exact Option.some.inj q
theorem Pz.ct {T T':TL} (h:Pz T T') (i:Nat):Sx.ct T i=Sx.ct T' i:=by unfold Sx.ct;rw [h.cu i]
theorem Pz.ck {T T':TL} (h:Pz T T') (i:Nat):Sx.ck T i=Sx.ck T' i:=by unfold Sx.ck;rw [h.cu i]
theorem Pz.kd {T T':TL} (h:Pz T T') (i:Nat):(Sx.cu T i).1.kind=(Sx.cu T' i).1.kind:=by rw [h.cu i]
theorem Pz.is {T T':TL} (h:Pz T T') (s:List UInt8):Sx.isT T s=Sx.isT T' s:=by funext i;unfold Sx.isT;rw [h.ct i]
theorem Pz.xp {T T':TL} (h:Pz T T') (s:List UInt8) (i:Nat):Sx.xp T s i=Sx.xp T' s i:=by unfold Sx.xp;rw [h.is]
theorem Pz.symm {T T':TL} (h:Pz T T'):Pz T' T:=Eq.symm h
/-- The same way through the tokens, and what was read goes together. -/
def Sq {α β:Type} (R:α→β→Prop) (p:Re α) (q:Re β):Prop:=p.k=q.k∧p.e=q.e∧((p.v=none∧q.v=none) ∨ ∃ a b,p.v=some a∧q.v=some b∧R a b)
theorem Sq.bind {α β γ δ:Type} {R:α→β→Prop} {R':γ→δ→Prop} {p:Re α} {q:Re β} {f:α→Nat→Re γ} {g:β→Nat→Re δ} (h:Sq R p q) (k:∀ a b m,R a b→Sq R' (f a m) (g b m)):Sq R' (th p f) (th q g):=by
  obtain ⟨h1,h2,⟨h3,h4⟩ | ⟨a,b,h3,h4,h5⟩⟩:=h
  · rw [th_none h3,th_none h4]
    exact ⟨h1,h2,Or.inl ⟨rfl,rfl⟩⟩
  · rw [th_some h3,th_some h4,h1]
    exact k a b _ h5
theorem Sq.yes {α β:Type} {R:α→β→Prop} {a:α} {b:β} {k:Nat} (h:R a b):Sq R (ok a k) (ok b k):=⟨rfl,rfl,Or.inr ⟨a,b,rfl,rfl,h⟩⟩
theorem Sq.nay {α β:Type} {R:α→β→Prop} {e k:Nat}:Sq R (no e k:Re α) (no e k:Re β):=⟨rfl,rfl,Or.inl ⟨rfl,rfl⟩⟩
theorem Sq.refl {α:Type} {R:α→α→Prop} (hR:∀ a,R a a) (p:Re α):Sq R p p:=by
  refine ⟨rfl,rfl,?_⟩
  cases h:p.v with
  | none=>exact Or.inl ⟨rfl,rfl⟩
  | some a=>exact Or.inr ⟨a,a,rfl,rfl,hR a⟩
theorem th_sq {α β γ:Type} {R:α→β→Prop} {p:Re α} {q:Re β} {f:α→Nat→Re γ} {g:β→Nat→Re γ} (h:Sq R p q) (k:∀ a b m,R a b→f a m=g b m):th p f=th q g:=by
  obtain ⟨h1,h2,⟨h3,h4⟩ | ⟨a,b,h3,h4,h5⟩⟩:=h
  · rw [th_none h3,th_none h4,h1,h2]
  · rw [th_some h3,th_some h4,h1]
    exact k a b _ h5
theorem Pz.tof {T T':TL} (h:Pz T T') (t i:Nat):Sq (fun a b=>a.1=b.1) (Sx.tof T t i) (Sx.tof T' t i):=by
  unfold Sx.tof
  rw [h.ck i]
  split
  · exact Sq.yes (h.cu i)
  · exact Sq.nay
theorem Pz.bl {T T':TL} (h:Pz T T') (lv:Nat) {b b':Nat→Re Tr} (hb:∀ i,Sq Al (b i) (b' i)):∀ (f:Nat) (t t':Tr) (k:Nat),Al t t'→Sq Al (Sx.bl T lv b f t k) (Sx.bl T' lv b' f t' k)
  | 0,_,_,_,_=>Sq.nay
  | f+1,t,t',k,ht=>by
    unfold Sx.bl
    rw [h.ct k]
    split
    · exact Sq.yes ht
    · refine Sq.bind (hb (k+1)) fun r r' m hr=>?_
      split
      · exact Sq.yes (al_bin ht hr)
      · exact Pz.bl h lv hb f _ _ m (al_bin ht hr)
theorem Pz.bi {T T':TL} (h:Pz T T') {u u':Nat→Re Tr} (hu:∀ i,Sq Al (u i) (u' i)):∀ (c i:Nat),Sq Al (Sx.bi T u c i) (Sx.bi T' u' c i)
  | 0,i=>hu i
  | c+1,i=>by
    unfold Sx.bi
    rw [h.len]
    exact Sq.bind (Pz.bi h hu c i) fun t t' k ht=>h.bl _ (Pz.bi h hu c) _ t t' k ht
theorem Pz.rp {α β:Type} {R:α→β→Prop} {g:Nat→Bool} {b:α→Nat→Re α} {b':β→Nat→Re β} (hb:∀ a a' i,R a a'→Sq R (b a i) (b' a' i)):∀ (f:Nat) (a:α) (a':β) (k:Nat),R a a'→Sq R (Sx.rp g b f a k) (Sx.rp g b' f a' k)
  | 0,_,_,_,_=>Sq.nay
  | f+1,a,a',k,ha=>by
    unfold Sx.rp
    split
    · exact Sq.bind (hb a a' k ha) fun c c' m hc=>Pz.rp hb f c c' m hc
    · exact Sq.yes ha
theorem al_lit {a b:Tk × Nat} (q:a.1=b.1):Al (litOf a) (litOf b):=by
  unfold litOf
  refine br_mkT ?_ rfl
  unfold sp
  rw [q]
theorem al_plain {a b:Tk × Nat} (q:a.1=b.1):Al (plainV a) (plainV b):=by
  unfold plainV
  refine br_mkT ?_ rfl
  unfold sp
  rw [q]
theorem Pz.litT {T T':TL} (h:Pz T T') (i:Nat):Sq Al (Sx.litT T i) (Sx.litT T' i):=by
  unfold Sx.litT
  rw [h.ck i]
  split
  · exact Sq.yes (al_lit (h.cu i))
  · exact Sq.bind (h.tof 3 i) fun a b k q=>Sq.yes (al_lit q)
theorem Pz.vr {T T':TL} (h:Pz T T') {x x':Nat→Re Tr} (hx:∀ i,Sq Al (x i) (x' i)) {t t':Tk × Nat} (ht:t.1=t'.1) (i:Nat):Sq Al (Sx.vr T x t i) (Sx.vr T' x' t' i):=by
  unfold Sx.vr
  rw [h.is,h.is]
  split
  · refine Sq.bind (h.tof 2 (i+1)) fun a b k q=>Sq.yes ?_
    refine br_mkT ?_ rfl
    unfold sp
    rw [q,ht]
  · split
    · refine Sq.bind (hx (i+1)) fun a b k q=>?_
      rw [h.xp]
      refine Sq.bind (Sq.refl (R:=fun _ _=>True) (fun _=>trivial) _) fun _ _ m _=>Sq.yes ?_
      refine br_mkT ?_ ?_
      · unfold sp
        rw [ht]
      · have q:br a=br b:=q
        rw [List.map_cons,List.map_cons,q,List.map_nil]
    · exact Sq.yes (al_plain ht)
theorem Pz.cal {T T':TL} (h:Pz T T') {x x':Nat→Re Tr} (hx:∀ i,Sq Al (x i) (x' i)) {t t':Tk × Nat} (ht:t.1=t'.1) (i:Nat):Sq Al (Sx.cal T x t i) (Sx.cal T' x' t' i):=by
  unfold Sx.cal
  rw [h.is,h.len]
  refine Sq.bind (hx i) fun a b k q=>?_
  have q:br a=br b:=q
  refine Sq.bind (R:=fun (l l':List Tr)=>l.map br=l'.map br) (Pz.rp (fun l l' j hl2=>?_) _ _ _ k (by rw [List.map_cons,List.map_cons,q])) fun l l' m hll=>?_
  · refine Sq.bind (hx (j+1)) fun c d z hc=>Sq.yes ?_
    have hc:br c=br d:=hc
    rw [List.map_append,List.map_append,hl2,List.map_cons,List.map_cons,hc]
  · rw [h.xp]
    refine Sq.bind (Sq.refl (R:=fun _ _=>True) (fun _=>trivial) _) fun _ _ z _=>Sq.yes ?_
    refine br_mkT ?_ hll
    unfold sp
    rw [ht,show l.length=l'.length by rw [← List.length_map (f:=br),hll,List.length_map]]
theorem Pz.beg {T T':TL} (h:Pz T T') (i:Nat):Sx.beg T i=Sx.beg T' i:=by
  unfold Sx.beg
  rw [h.ck i,h.is,h.is,h.is]
theorem Pz.una {T T':TL} (h:Pz T T'):∀ (d i:Nat),Sq Al (Sx.una T d i) (Sx.una T' d i)
  | 0,i=>by
    unfold Sx.una
    rw [h.beg i]
    split <;> exact Sq.nay
  | d+1,i=>by
    unfold Sx.una
    rw [h.beg i,h.is,h.is]
    have u1:∀ op,Sq Al (un1 op (ca T i) (Sx.una T d (i+1))) (un1 op (ca T' i) (Sx.una T' d (i+1))):=fun op=>by
      unfold un1
      refine Sq.bind (Pz.una h d (i+1)) fun a b k q=>Sq.yes ?_
      have q:br a=br b:=q
      exact br_mkT rfl (by rw [List.map_cons,List.map_cons,q,List.map_nil])
    split
    · exact Sq.nay
    · split
      · exact u1 3
      · split
        · exact u1 4
        · have hx:=h.bi (Pz.una h d) 6
          unfold pri
          rw [h.is,h.ck i]
          split
          · refine Sq.bind (hx (i+1)) fun a b k q=>?_
            rw [h.xp]
            exact Sq.bind (Sq.refl (R:=fun _ _=>True) (fun _=>trivial) _) fun _ _ m _=>Sq.yes q
          · split
            · split
              · exact h.cal hx (h.cu i) (i+2)
              · exact h.vr hx (h.cu i) (i+1)
            · exact h.litT i
theorem Pz.xpr {T T':TL} (h:Pz T T') (d i:Nat):Sq Al (Sx.xpr T d i) (Sx.xpr T' d i):=h.bi (Pz.una h d) 6 i
theorem Pz.endT {T T':TL} (h:Pz T T') (i:Nat):Sx.endT T i=Sx.endT T' i:=by unfold Sx.endT;rw [h.ck i]
/-- A whole text's expression. -/
theorem Pz.onl {T T':TL} (h:Pz T T'):Sq Al (Sx.onl T) (Sx.onl T'):=by
  unfold Sx.onl
  refine Sq.bind (h.xpr 32 0) fun a b k q=>?_
  rw [h.endT]
  exact Sq.bind (Sq.refl (R:=fun _ _=>True) (fun _=>trivial) _) fun _ _ m _=>Sq.yes q
theorem Pz.tofU {T T':TL} (h:Pz T T') (t i:Nat) {β:Type} (F:Nat→Re β):th (Sx.tof T t i) (fun _ a=>F a)=th (Sx.tof T' t i) (fun _ a=>F a):=th_sq (h.tof t i) fun _ _ _ _=>rfl
theorem Pz.xps {T T':TL} (h:Pz T T') (i:Nat):Sx.xps T i=Sx.xps T' i:=th_sq (h.xpr 32 i) fun _ _ _ _=>rfl
theorem Pz.slt {T T':TL} (h:Pz T T') (i:Nat):Sx.slt T i=Sx.slt T' i:=by
  unfold Sx.slt
  rw [h.is,h.tofU]
  split
  · rfl
  · exact th_sq (h.litT i) fun _ _ _ _=>rfl
theorem Pz.arm {T T':TL} (h:Pz T T') (s:Nat→Re (List Nat)) (i:Nat):Sx.arm T s i=Sx.arm T' s i:=by simp only [Sx.arm,h.xps,h.xp]
theorem Pz.els {T T':TL} (h:Pz T T') (s:Nat→Re (List Nat)) (i:Nat):Sx.els T s i=Sx.els T' s i:=by simp only [Sx.els,h.is]
theorem Pz.ifS {T T':TL} (h:Pz T T') (s:Nat→Re (List Nat)) (i:Nat):Sx.ifS T s i=Sx.ifS T' s i:=by simp only [Sx.ifS,h.is,h.arm,h.els,h.xp,h.len]
theorem Pz.lab {T T':TL} (h:Pz T T') (i:Nat):Sx.lab T i=Sx.lab T' i:=by simp only [Sx.lab,h.is,h.slt]
theorem Pz.carm {T T':TL} (h:Pz T T') (s:Nat→Re (List Nat)) (i:Nat):Sx.carm T s i=Sx.carm T' s i:=by simp only [Sx.carm,h.is,h.lab,h.xp,h.len]
theorem Pz.casS {T T':TL} (h:Pz T T') (s:Nat→Re (List Nat)) (i:Nat):Sx.casS T s i=Sx.casS T' s i:=by simp only [Sx.casS,h.is,h.ck,h.xps,h.carm,h.els,h.xp,h.len]
theorem Pz.forS {T T':TL} (h:Pz T T') (s:Nat→Re (List Nat)) (i:Nat):Sx.forS T s i=Sx.forS T' s i:=by
  unfold Sx.forS
  rw [h.tofU]
  simp only [h.is,h.xps,h.xp]
theorem Pz.whiS {T T':TL} (h:Pz T T') (s:Nat→Re (List Nat)) (i:Nat):Sx.whiS T s i=Sx.whiS T' s i:=by simp only [Sx.whiS,h.xps,h.xp]
theorem Pz.repS {T T':TL} (h:Pz T T') (s:Nat→Re (List Nat)) (i:Nat):Sx.repS T s i=Sx.repS T' s i:=by simp only [Sx.repS,h.xps,h.xp]
theorem Pz.arg {T T':TL} (h:Pz T T') (i:Nat):Sx.arg T i=Sx.arg T' i:=by
  unfold Sx.arg
  rw [h.tofU]
  simp only [h.xps,h.xp]
theorem Pz.blkS {T T':TL} (h:Pz T T') (i:Nat):Sx.blkS T i=Sx.blkS T' i:=by simp only [Sx.blkS,h.is,h.arg,h.xp,h.len]
theorem Pz.asgS {T T':TL} (h:Pz T T') {t t':Tk × Nat} (ht:t.1=t'.1) (i:Nat):Sx.asgS T t i=Sx.asgS T' t' i:=by
  unfold Sx.asgS
  refine th_sq (h.vr (h.xpr 31) ht i) fun _ _ m _=>?_
  simp only [h.xps,h.xp]
theorem Pz.sbe {T T':TL} (h:Pz T T') (s:Nat→Re (List Nat)) {t t':Tk × Nat} (ht:t.1=t'.1) (i:Nat):Sx.sbe T s t i=Sx.sbe T' s t' i:=by
  unfold Sx.sbe
  rw [ht,h.asgS ht]
  simp only [h.is,h.ifS,h.casS,h.forS,h.whiS,h.repS,h.blkS]
theorem Pz.sm1 {T T':TL} (h:Pz T T') (s:Nat→Re (List Nat)) (i:Nat):Sx.sm1 T s i=Sx.sm1 T' s i:=by
  unfold Sx.sm1
  rw [h.sbe s (h.cu i)]
  simp only [h.xp]
theorem Pz.bgs {T T':TL} (h:Pz T T'):Sx.bgs T=Sx.bgs T':=by
  funext i
  unfold Sx.bgs
  rw [h.ck i]
  simp only [h.is]
theorem Pz.sms {T T':TL} (h:Pz T T'):∀ (d:Nat),Sx.sms T d=Sx.sms T' d
  | 0=>by
    funext i
    unfold Sx.sms
    rw [h.bgs]
  | d+1=>by
    funext i
    unfold Sx.sms
    simp only [h.bgs,h.is,h.sm1,h.len,Pz.sms h d]
theorem Pz.knd {T T':TL} (h:Pz T T') (i:Nat):Sx.knd T i=Sx.knd T' i:=by unfold Sx.knd;rw [h.ct i]
theorem Pz.fst1 {T T':TL} (h:Pz T T') (i:Nat):Sx.fst1 T i=Sx.fst1 T' i:=by simp only [Sx.fst1,h.is,h.slt]
theorem Pz.fld {T T':TL} (h:Pz T T') (i:Nat):Sx.fld T i=Sx.fld T' i:=by
  unfold Sx.fld
  rw [h.tofU]
  simp only [h.xp,h.knd,h.fst1]
theorem Pz.upT {T T':TL} (h:Pz T T') {α:Type} (s:List UInt8) (b:α→Nat→Re α) (a:α) (i:Nat):Sx.upT T s b a i=Sx.upT T' s b a i:=by simp only [Sx.upT,h.is,h.len]
theorem Pz.stru {T T':TL} (h:Pz T T') (i:Nat):Sx.stru T i=Sx.stru T' i:=by
  unfold Sx.stru
  rw [h.tofU]
  simp only [h.xp,h.fld,h.upT]
theorem Pz.bnd {T T':TL} (h:Pz T T') (i:Nat):Sx.bnd T i=Sx.bnd T' i:=by
  unfold Sx.bnd
  simp only [h.is,h.kd,h.tofU]
theorem Pz.arr {T T':TL} (h:Pz T T') (i:Nat):Sx.arr T i=Sx.arr T' i:=by simp only [Sx.arr,h.xp,h.bnd,h.knd]
theorem Pz.vty {T T':TL} (h:Pz T T') (i:Nat):Sx.vty T i=Sx.vty T' i:=by simp only [Sx.vty,h.is,h.ck,h.arr,h.knd]
theorem Pz.dcl {T T':TL} (h:Pz T T') (i:Nat):Sx.dcl T i=Sx.dcl T' i:=by
  unfold Sx.dcl
  rw [h.tofU]
  simp only [h.is,h.xp,h.vty,h.fst1,h.tofU]
theorem Pz.rtn {T T':TL} (h:Pz T T') (i:Nat):Sx.rtn T i=Sx.rtn T' i:=by simp only [Sx.rtn,h.is]
/-- A program. -/
theorem Pz.prg {T T':TL} (h:Pz T T'):Sx.prg T=Sx.prg T':=by
  unfold Sx.prg
  have e:∀ b:Nat,(th (Sx.tof T 2 b) fun t c=>th (Sx.rp (Sx.isT T [86,65,82]) (fun n k=>Sx.upT T [69,78,68,95,86,65,82] (fun n m=>th (Sx.dcl T m) fun _ z=>ok (n+1) z) n (Sx.rtn T (k+1))) (T.length+1) 0 c) fun n d=>th (Sx.sms T 32 d) fun l e=>th (Sx.xp T [69,78,68,95,80,82,79,71,82,65,77] e) fun _ f=>th (Sx.endT T f) fun _ g=>ok (t.1.text,n,l) g)=(th (Sx.tof T' 2 b) fun t c=>th (Sx.rp (Sx.isT T' [86,65,82]) (fun n k=>Sx.upT T' [69,78,68,95,86,65,82] (fun n m=>th (Sx.dcl T' m) fun _ z=>ok (n+1) z) n (Sx.rtn T' (k+1))) (T'.length+1) 0 c) fun n d=>th (Sx.sms T' 32 d) fun l e=>th (Sx.xp T' [69,78,68,95,80,82,79,71,82,65,77] e) fun _ f=>th (Sx.endT T' f) fun _ g=>ok (t.1.text,n,l) g):=fun b=>by
    refine th_sq (h.tof 2 b) fun t t' c ht=>?_
    simp only [ht,h.is,h.upT,h.dcl,h.rtn,h.sms,h.xp,h.endT,h.len]
  simp only [e]
  simp only [h.is,h.upT,h.stru,h.xp,h.len]
end Go.Proofs.YtapcpjidgemggaaGreatDoor
