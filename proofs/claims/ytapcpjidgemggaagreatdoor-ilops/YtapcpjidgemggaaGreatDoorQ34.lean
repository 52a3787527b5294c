/- Empty lines say nothing: two rows of tokens, one with more lines' ends where lines end, are read alike (stage 14). -/
import Derived.Test.YtapcpjidgemggaaGreatDoorQ11
namespace Go.Proofs.YtapcpjidgemggaaGreatDoor
open Go.RowKit
open Adr Lx Sx
namespace Ilx
def lnQ:Tk:=⟨7,0,0,[10]⟩
def lnk (t:Tk × Nat):Bool:=t.1.text == [10]
/-- The tokens of L, at each line's end one or more of them. -/
def Rl:TL→TL→Prop
  | [],L'=>L'=[]
  | t :: L,L'=>if lnk t then ∃ u M D,L'=u :: (M ++ D)∧u.1=t.1∧(∀ u ∈ M,u.1=lnQ)∧Rl L D else ∃ p D,L'=(t.1,p) :: D∧Rl L D
/-- The same with more of them ahead. -/
def Rp (L L':TL):Prop:=∃ M D,L'=M ++ D∧(∀ u ∈ M,u.1=lnQ)∧Rl L D
/-- What looks like a line's end is one. -/
def Wk (L:TL):Prop:=∀ t ∈ L,lnk t=true→t.1=lnQ
theorem Wk.sfx {L M:TL} (h:Wk L) (hs:M <:+ L):Wk M:=fun t ht=>h t (hs.subset ht)
theorem Wk.tail {L:TL} (h:Wk L):Wk L.tail:=h.sfx (List.tail_suffix L)
theorem Rl.rp {L L':TL} (h:Rl L L'):Rp L L':=⟨[],L',rfl,by simp,h⟩
theorem Rl.hd {L L':TL} (h:Rl L L'):(hd L).1=(hd L').1:=by
  cases L with
  | nil=>rw [show L'=[] from h]
  | cons t L =>
    unfold Rl at h
    split at h
    · obtain ⟨u,M,D,rfl,h1,_⟩:=h;exact h1.symm
    · obtain ⟨p,D,rfl,_⟩:=h;rfl
theorem Rl.step {L L':TL} (h:Rl L L') (hn:¬ lnk (Ilx.hd L)=true):Rl L.tail L'.tail:=by
  cases L with
  | nil=>rw [show L'=[] from h];rfl
  | cons t L =>
    unfold Rl at h
    rw [if_neg (show ¬ lnk t=true from hn)] at h
    obtain ⟨p,D,rfl,h⟩:=h
    exact h
theorem Rl.line {L L':TL} (h:Rl L L') (hn:lnk (Ilx.hd L)=true):Rp L.tail L'.tail:=by
  cases L with
  | nil=>exact absurd hn (by decide)
  | cons t L =>
    unfold Rl at h
    rw [if_pos (show lnk t=true from hn)] at h
    obtain ⟨u,M,D,rfl,h1,h2,h⟩:=h
    exact ⟨M,D,rfl,h2,h⟩
theorem Rl.tails {L L':TL} (h:Rl L L'):Rp L.tail L'.tail:=by
  by_cases hn:lnk (Ilx.hd L)=true
  · exact h.line hn
  · exact (h.step hn).rp
theorem rl_nl:∀ {L L':TL},Wk L→Rl L L'→(L.filter nl).map Prod.fst=(L'.filter nl).map Prod.fst
  | [],L',_,h=>by rw [show L'=[] from h]
  | t :: L,L',hw,h=>by
    have ln:∀ u:Tk × Nat,u.1=lnQ→nl u=false:=fun u hu=>by unfold nl;rw [hu];rfl
    unfold Rl at h
    split at h
    · rename_i q
      obtain ⟨u,M,D,rfl,h1,h2,h⟩:=h
      have e1:=hw t (by simp) q
      have ih:=rl_nl (hw.sfx (List.suffix_cons _ _)) h
      rw [List.filter_cons_of_neg (by rw [ln t e1];exact Bool.false_ne_true),List.filter_cons_of_neg (by rw [ln u (h1.trans e1)];exact Bool.false_ne_true),List.filter_append,show M.filter nl=[] from List.filter_eq_nil_iff.2 (fun v hv=>by rw [ln v (h2 v hv)];exact Bool.false_ne_true),List.nil_append]
      exact ih
    · obtain ⟨p,D,rfl,h⟩:=h
      have ih:=rl_nl (hw.sfx (List.suffix_cons _ _)) h
      have e:nl (t.1,p)=nl t:=rfl
      cases q:nl t with
      | true=>rw [List.filter_cons_of_pos q,List.filter_cons_of_pos (e.trans q),List.map_cons,List.map_cons,ih]
      | false=>rw [List.filter_cons_of_neg (by rw [q];exact Bool.false_ne_true),List.filter_cons_of_neg (by rw [e,q];exact Bool.false_ne_true),ih]
/-- What was passed has the same tokens, less lines' ends. -/
theorem rl_passed {L L' M M':TL} (hw:Wk L) (h:Rl L L') (k:Rl M M') (hM:M <:+ L) (hM':M' <:+ L'):((L.take (L.length - M.length)).filter nl).map Prod.fst=((L'.take (L'.length - M'.length)).filter nl).map Prod.fst:=by
  have h1:=rl_nl hw h
  have h2:=rl_nl (hw.sfx hM) k
  obtain ⟨P,rfl⟩:=hM
  obtain ⟨P',rfl⟩:=hM'
  rw [List.length_append,Nat.add_sub_cancel,List.take_left,List.length_append,Nat.add_sub_cancel,List.take_left]
  rw [List.filter_append,List.map_append,List.filter_append,List.map_append,h2] at h1
  exact List.append_cancel_right h1
theorem pz_pcT {L L' M M':TL} (hw:Wk L) (h:Rl L L') (k:Rl M M') (hM:M <:+ L) (hM':M' <:+ L'):Pz (pcT L M) (pcT L' M'):=by
  have e:=rl_passed hw h k hM hM'
  unfold Pz pcT
  rw [List.map_append,List.map_append,List.map_map,List.map_map]
  show List.map Prod.fst _ ++ _=List.map Prod.fst _ ++ _
  rw [e]
  rfl
/-- Two readers side by side, without an error. -/
structure Rs (s s':Ps):Prop where
  e:s.e=none
  e':s'.e=none
  r:Rl s.L s'.L
  k:Wk s.L
  w:Wl s.L
  w':Wl s'.L
theorem Rs.iz {s s':Ps} (h:Rs s s') (x:List UInt8):iz s x=iz s' x:=by unfold Ilx.iz;rw [h.r.hd]
theorem en_tk (s:Ps):(tk s).e=s.e:=by unfold tk;split <;> rfl
theorem en_rf {s:Ps} {a n:Nat} (h:(rf s a n).e=none):False:=by cases h
theorem en_xq {s:Ps} {x:List UInt8} (h:(xq s x).e=none):s.e=none∧iz s x=true∧xq s x=tk s:=by
  unfold xq at h ⊢
  split at h
  · rename_i q
    rw [en_tk] at h
    exact ⟨h,q,if_pos q⟩
  · exact (en_rf h).elim
theorem en_tq {s:Ps} {ks:List Nat} (h:(tq s ks).e=none):s.e=none∧ks.contains (hd s.L).1.tok=true∧tq s ks=s:=by
  unfold tq at h ⊢
  split at h
  · rename_i q;exact ⟨h,q,if_pos q⟩
  · exact (en_rf h).elim
theorem nol {s:Ps} {x:List UInt8} (h:iz s x=true) (hx:x ≠ [10]):¬ lnk (hd s.L)=true:=fun q=>by
  unfold iz at h
  unfold lnk at q
  exact hx ((eq_of_beq h).symm.trans (eq_of_beq q))
theorem mem_hd {L:TL} (h:L ≠ []):hd L ∈ L:=by
  cases L with
  | nil=>exact absurd rfl h
  | cons t L=>exact List.mem_cons_self
theorem Rs.sort {s s':Ps} (h:Rs s s') {n:Nat} (hn:(hd s.L).1.tok=n) (h7:n ≠ 7):¬ lnk (hd s.L)=true:=fun q=>by
  have e:=h.k _ (mem_hd h.w.ne) q
  rw [e] at hn
  exact h7 hn.symm
theorem Rs.tk {s s':Ps} (h:Rs s s') (hn:¬ lnk (hd s.L)=true):Rs (tk s) (tk s'):=by
  refine ⟨(en_tk s).trans h.e,(en_tk s').trans h.e',?_,h.k.sfx (sf_tk h.w).1,(sf_tk h.w).2,(sf_tk h.w').2⟩
  unfold Ilx.tk
  rw [← h.r.hd]
  split
  · exact h.r
  · exact h.r.step hn
theorem Rs.xq {s s':Ps} (h:Rs s s') {x:List UInt8} (hx:x ≠ [10]) (he:(xq s x).e=none):Rs (xq s x) (xq s' x):=by
  obtain ⟨_,h1,h2⟩:=en_xq he
  have e:Ilx.xq s' x=Ilx.tk s':=by unfold Ilx.xq;rw [← h.iz x,if_pos h1]
  rw [h2,e]
  exact h.tk (nol h1 hx)
theorem Rs.tq {s s':Ps} (h:Rs s s') {ks:List Nat} (he:(tq s ks).e=none):Ilx.tq s ks=s∧Ilx.tq s' ks=s'∧ks.contains (hd s.L).1.tok=true:=by
  obtain ⟨_,h1,h2⟩:=en_tq he
  refine ⟨h2,?_,h1⟩
  unfold Ilx.tq
  rw [← h.r.hd,if_pos h1]
theorem Rs.to {s s':Ps} (h:Rs s s') {ks:List Nat} (hk:ks.contains 7=false) (he:(Ilx.tk (Ilx.tq s ks)).e=none):Rs (Ilx.tk (Ilx.tq s ks)) (Ilx.tk (Ilx.tq s' ks)):=by
  rw [en_tk] at he
  obtain ⟨h1,h2,h3⟩:=h.tq he
  rw [h1,h2]
  refine h.tk (h.sort rfl fun e=>?_)
  rw [e,hk] at h3
  cases h3
theorem Rl.pix:∀ {L L':TL} (o:Int),Rl L L'→Rl (pix o L) (pix o L')
  | [],L',o,h=>by rw [show L'=[] from h];exact (show Rl [] [] from rfl)
  | t :: L,L',o,h=>by
    have key:=h
    unfold Rl at h
    split at h
    · rename_i q
      obtain ⟨u,M,D,rfl,h1,h2,h⟩:=h
      have q:(t.1.text == [10])=true:=q
      unfold Ilx.pix
      rw [h1]
      split
      · exact key
      · first | exact key | (rw [if_pos q];exact key) | (rw [if_pos q,if_pos q];exact key)
    · rename_i q
      obtain ⟨p,D,rfl,h⟩:=h
      have q:¬ (t.1.text == [10])=true:=q
      unfold Ilx.pix
      show Rl (if t.1.tok=0 then _ else _) (if t.1.tok=0 then _ else if t.1.text == [10] then _ else if op1 t.1.text o=0 then _ else Ilx.pix (op1 t.1.text o) D)
      split
      · exact key
      · repeat rw [if_neg q]
        split
        · exact h
        · exact Rl.pix _ h
theorem Rs.pv {s s':Ps} (h:Rs s s') (h2:(hd s.L).1.tok=2) (he:(pv s).e=none):Rs (pv s) (pv s'):=by
  have h1:=h.tk (h.sort h2 (by decide))
  unfold Ilx.pv at he ⊢
  rw [← h1.iz,← h1.iz]
  split at he
  · rename_i q
    repeat rw [if_pos q]
    exact (h1.tk (nol q (by decide))).to (by decide) he
  · rename_i q
    repeat rw [if_neg q]
    split at he
    · rename_i q2
      repeat rw [if_pos q2]
      have hw:=wl_pix (L:=(Ilx.tk s).L) 0 h1.w
      exact ⟨h1.e,h1.e',h1.r.pix 0,h1.k.sfx hw.1,hw.2,(wl_pix (L:=(Ilx.tk s').L) 0 h1.w').2⟩
    · rename_i q2
      repeat rw [if_neg q2]
      exact h1
theorem Rs.vs {s s':Ps} (h:Rs s s') (he:(vs s).e=none):Rs (vs s) (vs s'):=by
  unfold Ilx.vs at he ⊢
  rw [← h.iz,← h.r.hd]
  split at he
  · rename_i q
    repeat rw [if_pos q]
    exact (h.tk (nol q (by decide))).to (by decide) he
  · rename_i q
    repeat rw [if_neg q]
    split at he
    · rename_i q2
      repeat rw [if_pos q2]
      exact h.pv q2 he
    · rename_i q2
      repeat rw [if_neg q2]
      exact h.to (by decide) he
/-- An operand. -/
theorem Rs.vl {s s':Ps} (h:Rs s s') (he:(vlS s).e=none):Rs (vlS s) (vlS s')∧Al (vlT s) (vlT s'):=by
  unfold vlS xfS at he
  split at he
  · rename_i q
    have h1:=h.vs he
    have p:=(pz_pcT h.k h.r h1.r (sf_vs h.w).1 (sf_vs h.w').1).onl
    obtain ⟨_,_,⟨h3,_⟩ | ⟨a,b,h3,h4,h5⟩⟩:=p
    · rw [h3] at q;cases q
    · unfold vlS vlT xfS xfT
      rw [if_pos q,h3,h4]
      exact ⟨h1,h5⟩
  · exact (en_rf he).elim
theorem Rs.nm {s s':Ps} (h:Rs s s') (he:(nmS s).e=none):Rs (nmS s) (nmS s')∧(nmT s).1=(nmT s').1:=by
  have h1:Rs (nmS s) (nmS s'):=h.to (ks:=[2]) (by decide) he
  unfold nmS at he
  rw [en_tk] at he
  obtain ⟨h2,h3,_⟩:=h.tq he
  refine ⟨h1,?_⟩
  unfold nmT
  rw [h2,h3]
  exact h.r.hd
/-- Arguments alike but for their places. -/
def Ae (a b:Ag):Prop:=a.name=b.name∧Al a.t b.t
def All2 {α:Type} (R:α→α→Prop) (l m:List α):Prop:=l.length=m.length∧∀ (i:Nat) (a b:α),l[i]?=some a→m[i]?=some b→R a b
theorem All2.nil {α:Type} {R:α→α→Prop}:All2 R [] []:=⟨rfl,fun i a b h=>by cases h⟩
theorem All2.snoc {α:Type} {R:α→α→Prop} {l m:List α} {a b:α} (h:All2 R l m) (k:R a b):All2 R (l ++ [a]) (m ++ [b]):=by
  refine ⟨by simp [h.1],fun i x y hx hy=>?_⟩
  by_cases hi:i < l.length
  · rw [List.getElem?_append_left hi] at hx
    rw [List.getElem?_append_left (by rw [← h.1];exact hi)] at hy
    exact h.2 i x y hx hy
  · rw [List.getElem?_append_right (by omega)] at hx
    rw [List.getElem?_append_right (by rw [← h.1];omega),← h.1] at hy
    generalize i - l.length=j at *
    cases j with
    | zero=>cases hx;cases hy;exact k
    | succ j=>cases hx
theorem All2.one {α:Type} {R:α→α→Prop} {a b:α} (k:R a b):All2 R [a] [b]:=All2.nil.snoc k
theorem en_vl {s:Ps} (h:(vlS s).e=none):s.e=none:=by
  unfold vlS xfS at h
  have hv:(vs s).e=none:=by
    split at h
    · exact h
    · exact (en_rf h).elim
  unfold vs at hv
  split at hv
  · rw [en_tk] at hv
    have:=(en_tq hv).1
    rwa [en_tk] at this
  · split at hv
    · unfold pv at hv
      split at hv
      · rw [en_tk] at hv
        have:=(en_tq hv).1
        rwa [en_tk,en_tk] at this
      · split at hv
        · have hv:(tk s).e=none:=hv
          rwa [en_tk] at hv
        · rwa [en_tk] at hv
    · rw [en_tk] at hv
      exact (en_tq hv).1
theorem en_nm {s:Ps} (h:(nmS s).e=none):s.e=none:=by
  unfold nmS at h
  rw [en_tk] at h
  exact (en_tq h).1
theorem agS_def (s:Ps):agS s=vlS (xq (nmS s) [58,61]):=rfl
theorem agV_def (s:Ps):agV s=⟨(nmT s).1.text,vlT (xq (nmS s) [58,61])⟩:=by unfold agV;exact rfl
theorem Rs.ag {s s':Ps} (h:Rs s s') (he:(agS s).e=none):Rs (agS s) (agS s')∧Ae (agV s) (agV s'):=by
  rw [agS_def] at he
  have e1:=en_vl he
  have e2:=(en_xq e1).1
  obtain ⟨h1,h2⟩:=h.nm e2
  have h3:=h1.xq (by decide) e1
  obtain ⟨h4,h5⟩:=h3.vl he
  rw [agS_def,agS_def,agV_def,agV_def,h2]
  generalize vlT _=a at *
  generalize vlT _=b at *
  exact ⟨h4,rfl,h5⟩
theorem en_ag {s:Ps} (h:(agS s).e=none):s.e=none:=by
  rw [agS_def] at h
  exact en_nm (en_xq (en_vl h)).1
theorem en_agr:∀ (f:Nat) {s:Ps} {l:List Ag},(agr f s l).1.e=none→s.e=none
  | 0,s,l,h=>h
  | f+1,s,l,h=>by
    unfold agr at h
    split at h
    · have:=en_ag (en_agr f h)
      rwa [en_tk] at this
    · exact h
theorem tk_less {s:Ps} {x:List UInt8} (hw:Wl s.L) (h:iz s x=true) (h0:x ≠ []):(tk s).L.length < s.L.length:=by
  have q:=(hw.word (x:=x) h h0).1
  have:=List.length_pos_iff.2 hw.ne
  unfold tk
  rw [if_neg q]
  show s.L.tail.length < s.L.length
  rw [List.length_tail]
  omega
theorem Rs.agr:∀ (f f':Nat) {s s':Ps} {l l':List Ag},s.L.length < f→s'.L.length < f'→Rs s s'→(Ilx.agr f s l).1.e=none→All2 Ae l l'→Rs (Ilx.agr f s l).1 (Ilx.agr f' s' l').1∧All2 Ae (Ilx.agr f s l).2 (Ilx.agr f' s' l').2
  | 0,_,_,_,_,_,h,_,_,_,_=>by omega
  | _+1,0,_,_,_,_,_,h,_,_,_=>by omega
  | f+1,f'+1,s,s',l,l',hf,hf',h,he,hl=>by
    unfold Ilx.agr at he ⊢
    rw [← h.iz]
    split at he
    · rename_i q
      repeat rw [if_pos q]
      have h1:=h.tk (nol q (by decide))
      obtain ⟨h2,h3⟩:=h1.ag (en_agr f he)
      have q':Ilx.iz s' [44]=true:=by rw [← h.iz];exact q
      have l1:=tk_less h.w q (by decide)
      have l2:=tk_less h.w' q' (by decide)
      have l3:=(sf_ag h1.w).1.length_le
      have l4:=(sf_ag h1.w').1.length_le
      exact Rs.agr f f' (by omega) (by omega) h2 he (hl.snoc h3)
    · rename_i q
      repeat rw [if_neg q]
      exact ⟨h,hl⟩
theorem ars_1 {s:Ps} (q:iz (xq s [40]) [41]=true):ars s=(tk (xq s [40]),[]):=by unfold ars;rw [if_pos q]
theorem ars_2 {s:Ps} (q:¬ iz (xq s [40]) [41]=true) {r:Ps × List Ag} (hr:agr (s.L.length+1) (agS (xq s [40])) [agV (xq s [40])]=r):ars s=(xq r.1 [41],r.2):=by unfold ars;rw [if_neg q,hr]
theorem en_ars {s:Ps} (h:(ars s).1.e=none):s.e=none:=by
  by_cases q:iz (xq s [40]) [41]=true
  · rw [ars_1 q] at h
    have h:(tk (xq s [40])).e=none:=h
    rw [en_tk] at h
    exact (en_xq h).1
  · obtain ⟨r,hr⟩:∃ r,agr (s.L.length+1) (agS (xq s [40])) [agV (xq s [40])]=r:=⟨_,rfl⟩
    rw [ars_2 q hr] at h
    have h:=(en_xq (show (xq r.1 [41]).e=none from h)).1
    rw [← hr] at h
    exact (en_xq (en_ag (en_agr _ h))).1
theorem Rs.ars {s s':Ps} (h:Rs s s') (he:(Ilx.ars s).1.e=none):Rs (Ilx.ars s).1 (Ilx.ars s').1∧All2 Ae (Ilx.ars s).2 (Ilx.ars s').2:=by
  by_cases q:Ilx.iz (Ilx.xq s [40]) [41]=true
  · rw [ars_1 q] at he
    have he:(Ilx.tk (Ilx.xq s [40])).e=none:=he
    rw [en_tk] at he
    have h1:=h.xq (by decide) he
    rw [ars_1 q,ars_1 (by rw [← h1.iz];exact q)]
    exact ⟨h1.tk (nol q (by decide)),All2.nil⟩
  · obtain ⟨r,hr⟩:∃ r,Ilx.agr (s.L.length+1) (agS (Ilx.xq s [40])) [agV (Ilx.xq s [40])]=r:=⟨_,rfl⟩
    obtain ⟨r',hr'⟩:∃ r,Ilx.agr (s'.L.length+1) (agS (Ilx.xq s' [40])) [agV (Ilx.xq s' [40])]=r:=⟨_,rfl⟩
    rw [ars_2 q hr] at he
    have he:(Ilx.xq r.1 [41]).e=none:=he
    have e1:=(en_xq he).1
    rw [← hr] at e1
    have e2:=en_agr _ e1
    have h1:=h.xq (by decide) (en_ag e2)
    obtain ⟨h2,h3⟩:=h1.ag e2
    have l1:=(sf_ag h1.w).1.length_le
    have l2:=(sf_ag h1.w').1.length_le
    have l3:=(sf_xq h.w [40]).1.length_le
    have l4:=(sf_xq h.w' [40]).1.length_le
    have hh:=Rs.agr (s.L.length+1) (s'.L.length+1) (by omega) (by omega) h2 e1 (All2.one h3)
    rw [hr,hr'] at hh
    rw [ars_2 q hr,ars_2 (by rw [← h1.iz];exact q) hr']
    exact ⟨hh.1.xq (by decide) he,hh.2⟩
/-- Instructions alike but for their places. -/
structure Ie (i j:Is):Prop where
  lab:i.lab=j.lab
  op:i.op=j.op
  es:All2 Al i.es j.es
  args:All2 Ae i.args j.args
theorem opn_1 {s:Ps} {lab:List UInt8} {p:Nat} (q:iz (opS s) [10]=true):opn s lab p=(opS s,⟨lab,opO s,[],[],p⟩):=by unfold opn;rw [if_pos q]
theorem opn_2 {s:Ps} {lab:List UInt8} {p:Nat} (q:¬ iz (opS s) [10]=true) (q2:cll (hd s.L).1.text=true):opn s lab p=((ars (nmS (opS s))).1,⟨lab,opO s,[plainV (nmT (opS s))],(ars (nmS (opS s))).2,p⟩):=by unfold opn;rw [if_neg q,if_pos q2]
theorem opn_3 {s:Ps} {lab:List UInt8} {p:Nat} (q:¬ iz (opS s) [10]=true) (q2:¬ cll (hd s.L).1.text=true) (q3:jmp (opO s)=true):opn s lab p=(nmS (opS s),⟨lab,opO s,[plainV (nmT (opS s))],[],p⟩):=by unfold opn;rw [if_neg q,if_neg q2,if_pos q3]
theorem opn_4 {s:Ps} {lab:List UInt8} {p:Nat} (q:¬ iz (opS s) [10]=true) (q2:¬ cll (hd s.L).1.text=true) (q3:¬ jmp (opO s)=true):opn s lab p=(vlS (opS s),⟨lab,opO s,[vlT (opS s)],[],p⟩):=by unfold opn;rw [if_neg q,if_neg q2,if_neg q3]
theorem Rs.opn {s s':Ps} (h:Rs s s') (hb:bOp s=true) (lab:List UInt8) (p p':Nat) (he:(Ilx.opn s lab p).1.e=none):Rs (Ilx.opn s lab p).1 (Ilx.opn s' lab p').1∧Ie (Ilx.opn s lab p).2 (Ilx.opn s' lab p').2:=by
  have hn:¬ lnk (hd s.L)=true:=by
    unfold bOp at hb
    rw [Bool.or_eq_true,decide_eq_true_eq] at hb
    rcases hb with hb | hb
    · exact h.sort hb (by decide)
    · rw [Bool.or_eq_true,Bool.or_eq_true,Bool.or_eq_true,Bool.or_eq_true] at hb
      rcases hb with hb | hb | hb | hb | hb
      all_goals exact nol hb (by decide)
  have h1:=h.tk hn
  have eB:opB s'=opB s:=by unfold opB;rw [← h1.iz,h.r.hd]
  have eO:opO s'=opO s:=by unfold opO;rw [eB,h.r.hd]
  have h2:Rs (opS s) (opS s'):=by
    unfold opS
    rw [eB]
    split
    · rename_i q
      have q:(!cll (hd s.L).1.text && Ilx.iz (Ilx.tk s) [40])=true:=q
      rw [Bool.and_eq_true] at q
      exact h1.tk (nol q.2 (by decide))
    · exact h1
  have iz':=h2.iz [10]
  by_cases q:Ilx.iz (opS s) [10]=true
  · rw [opn_1 q,opn_1 (by rw [← iz'];exact q),eO]
    exact ⟨h2,rfl,rfl,All2.nil,All2.nil⟩
  · have q':¬ Ilx.iz (opS s') [10]=true:=by rw [← iz'];exact q
    by_cases q2:cll (hd s.L).1.text=true
    · have q2':cll (hd s'.L).1.text=true:=by rw [← h.r.hd];exact q2
      rw [opn_2 q q2] at he
      rw [opn_2 q q2,opn_2 q' q2',eO]
      generalize opS s=a at *
      generalize opS s'=a' at *
      have he:(Ilx.ars (nmS a)).1.e=none:=he
      obtain ⟨h3,h4⟩:=h2.nm (en_ars he)
      obtain ⟨h5,h6⟩:=h3.ars he
      exact ⟨h5,rfl,rfl,All2.one (al_plain h4),h6⟩
    · have q2':¬ cll (hd s'.L).1.text=true:=by rw [← h.r.hd];exact q2
      by_cases q3:jmp (opO s)=true
      · rw [opn_3 q q2 q3] at he
        rw [opn_3 q q2 q3,opn_3 q' q2' (by rw [eO];exact q3),eO]
        generalize opS s=a at *
        generalize opS s'=a' at *
        obtain ⟨h3,h4⟩:=h2.nm he
        exact ⟨h3,rfl,rfl,All2.one (al_plain h4),All2.nil⟩
      · rw [opn_4 q q2 q3] at he
        rw [opn_4 q q2 q3,opn_4 q' q2' (by rw [eO];exact q3),eO]
        generalize opS s=a at *
        generalize opS s'=a' at *
        obtain ⟨h3,h4⟩:=h2.vl he
        exact ⟨h3,rfl,rfl,All2.one h4,All2.nil⟩
theorem Rs.bOp {s s':Ps} (h:Rs s s'):bOp s'=bOp s:=by
  unfold Ilx.bOp
  rw [← h.r.hd,← h.iz,← h.iz,← h.iz,← h.iz,← h.iz]
theorem Rs.bLab {s s':Ps} (h:Rs s s'):bLab s'=bLab s:=by
  unfold Ilx.bLab
  rw [← h.r.hd]
  by_cases q:(hd s.L).1.tok=2
  · have h1:=(h.r.step (h.sort q (by decide))).hd
    rw [h1]
  · rw [decide_eq_false q,Bool.false_and,Bool.false_and]
theorem lnb_1 {s:Ps} {lab:List UInt8} {p:Nat} (q:bOp s=true):lnb s lab p=opn s lab p:=by unfold lnb;rw [if_pos q]
theorem lnb_2 {s:Ps} {lab:List UInt8} {p:Nat} (q:¬ bOp s=true) (q2:(lab == [] && iz s [41])=true):lnb s lab p=(tk s,⟨lab,[41],[],[],p⟩):=by unfold lnb;rw [if_neg q,if_pos q2]
theorem lnb_3 {s:Ps} {lab:List UInt8} {p:Nat} (q:¬ bOp s=true) (q2:¬ (lab == [] && iz s [41])=true):lnb s lab p=(s,⟨lab,[],[],[],p⟩):=by unfold lnb;rw [if_neg q,if_neg q2]
theorem Rs.lnb {s s':Ps} (h:Rs s s') (lab:List UInt8) (p p':Nat) (he:(Ilx.lnb s lab p).1.e=none):Rs (Ilx.lnb s lab p).1 (Ilx.lnb s' lab p').1∧Ie (Ilx.lnb s lab p).2 (Ilx.lnb s' lab p').2:=by
  by_cases q:Ilx.bOp s=true
  · rw [lnb_1 q] at he
    rw [lnb_1 q,lnb_1 (by rw [h.bOp];exact q)]
    exact h.opn q lab p p' he
  · have q':¬ Ilx.bOp s'=true:=by rw [h.bOp];exact q
    by_cases q2:(lab == [] && Ilx.iz s [41])=true
    · rw [lnb_2 q q2,lnb_2 q' (by rw [← h.iz];exact q2)]
      rw [Bool.and_eq_true] at q2
      exact ⟨h.tk (nol q2.2 (by decide)),rfl,rfl,All2.nil,All2.nil⟩
    · rw [lnb_3 q q2,lnb_3 q' (by rw [← h.iz];exact q2)]
      exact ⟨h,rfl,rfl,All2.nil,All2.nil⟩
/-- Two readers side by side, lines' ends ahead of the second. -/
structure Rq (s s':Ps):Prop where
  e:s.e=none
  e':s'.e=none
  r:Rp s.L s'.L
  k:Wk s.L
  w:Wl s.L
  w':Wl s'.L
theorem Rs.past {s s':Ps} (h:Rs s s') (he:(Ilx.xq s [10]).e=none):Rq (Ilx.xq s [10]) (Ilx.xq s' [10])∧(Ilx.xq s [10]).L.length < s.L.length∧(Ilx.xq s' [10]).L.length < s'.L.length:=by
  obtain ⟨_,h1,h2⟩:=en_xq he
  have h1':Ilx.iz s' [10]=true:=by rw [← h.iz];exact h1
  have e:Ilx.xq s' [10]=Ilx.tk s':=by unfold Ilx.xq;rw [if_pos h1']
  have l1:=tk_less h.w h1 (by decide)
  have l2:=tk_less h.w' h1' (by decide)
  have q:=(h.w.word (x:=[10]) h1 (by decide)).1
  have q':=(h.w'.word (x:=[10]) h1' (by decide)).1
  rw [h2,e]
  refine ⟨⟨(en_tk s).trans h.e,(en_tk s').trans h.e',?_,h.k.sfx (sf_tk h.w).1,(sf_tk h.w).2,(sf_tk h.w').2⟩,l1,l2⟩
  unfold Ilx.tk
  rw [if_neg q,if_neg q']
  exact h.r.tails
theorem Rs.lin {s s':Ps} (h:Rs s s') (he:(Ilx.lin s).1.e=none):Rq (Ilx.lin s).1 (Ilx.lin s').1∧Ie (Ilx.lin s).2 (Ilx.lin s').2∧(Ilx.lin s).1.L.length < s.L.length∧(Ilx.lin s').1.L.length < s'.L.length:=by
  unfold Ilx.lin at he
  have he:(Ilx.xq (Ilx.lnb (lns s) (lnl s) (hd s.L).2).1 [10]).e=none:=he
  have e1:=(en_xq he).1
  have eL:lnl s'=lnl s:=by unfold lnl;rw [h.bLab,h.r.hd]
  have hS:Rs (lns s) (lns s'):=by
    have e2:(lns s).e=none:=by
      have e3:(Ilx.lnb (lns s) (lnl s) (hd s.L).2).1.e=none:=e1
      unfold lns at e3 ⊢
      split
      · rename_i q
        rw [if_pos q] at e3
        by_cases q2:Ilx.iz (Ilx.tk s) [58]=true
        · unfold Ilx.xq
          rw [if_pos q2,en_tk,en_tk]
          exact h.e
        · exfalso
          unfold Ilx.bLab at q
          rw [Bool.and_eq_true,decide_eq_true_eq] at q
          apply q2
          unfold Ilx.iz Ilx.tk
          rw [if_neg (by rw [q.1];decide)]
          exact q.2
      · exact h.e
    unfold lns at e2 ⊢
    rw [h.bLab]
    split at e2
    · rename_i q
      repeat rw [if_pos q]
      unfold Ilx.bLab at q
      rw [Bool.and_eq_true,decide_eq_true_eq] at q
      exact (h.tk (h.sort q.1 (by decide))).xq (by decide) e2
    · rename_i q
      repeat rw [if_neg q]
      exact h
  obtain ⟨h2,h3⟩:=hS.lnb (lnl s) (hd s.L).2 (hd s'.L).2 e1
  obtain ⟨h4,l1,l2⟩:=h2.past he
  have l3:=(sf_lnb hS.w (lnl s) (hd s.L).2).1.length_le
  have l4:=(sf_lnb hS.w' (lnl s) (hd s'.L).2).1.length_le
  have l5:=(sf_lns h.w).1.length_le
  have l6:=(sf_lns h.w').1.length_le
  unfold Ilx.lin
  rw [eL]
  exact ⟨h4,h3,Nat.lt_of_lt_of_le l1 (Nat.le_trans l3 l5),Nat.lt_of_lt_of_le l2 (Nat.le_trans l4 l6)⟩
/-- An empty line. -/
theorem lin_empty {s:Ps} (h:(hd s.L).1=lnQ):lin s=(⟨s.L.tail,s.e⟩,⟨[],[],[],[],(hd s.L).2⟩):=by
  have b1:bLab s=false:=by unfold bLab;rw [h];rfl
  have b2:bOp s=false:=by unfold bOp iz;rw [h];rfl
  have b3:iz s [41]=false:=by unfold iz;rw [h];rfl
  have b4:iz s [10]=true:=by unfold iz;rw [h];rfl
  have e1:lns s=s:=by unfold lns;rw [b1];rfl
  have e2:lnl s=[]:=by unfold lnl;rw [b1];rfl
  have e3:lnb s [] (hd s.L).2=(s,⟨[],[],[],[],(hd s.L).2⟩):=by unfold lnb;rw [b2,b3];rfl
  have e4:tk s=⟨s.L.tail,s.e⟩:=by unfold tk;rw [h];rfl
  unfold lin
  rw [e1,e2,e3]
  show (xq s [10],_)=_
  unfold xq
  rw [b4,if_pos rfl,e4]
theorem cds_err {f:Nat} {s:Ps} {l:List Is} (h:s.e.isSome=true):cds (f+1) s l=(s,l):=by unfold cds;rw [if_pos h]
theorem cds_end {f:Nat} {s:Ps} {l:List Is} (h:s.e=none) (q:iz s [69,78,68,95,80,82,79,71,82,65,77]=true):cds (f+1) s l=(tk s,l):=by unfold cds;rw [h,if_neg (by decide),if_pos q]
theorem cds_go {f:Nat} {s:Ps} {l:List Is} (h:s.e=none) (q:¬ iz s [69,78,68,95,80,82,79,71,82,65,77]=true):cds (f+1) s l=cds f (lin s).1 (if ful (lin s).2 then l ++ [(lin s).2] else l):=by
  rw [cds,h,if_neg (by decide),if_neg q]
theorem en_cds:∀ (f:Nat) {s:Ps} {l:List Is},(cds f s l).1.e=none→s.e=none
  | 0,s,l,h=>h
  | f+1,s,l,h=>by
    cases hs:s.e with
    | none=>rfl
    | some x =>
      rw [cds_err (by rw [hs];rfl)] at h
      rw [← hs]
      exact h
theorem Rq.cds:∀ (f' f:Nat) {s s':Ps} {l l':List Is},s.L.length < f→s'.L.length < f'→Rq s s'→(Ilx.cds f s l).1.e=none→All2 Ie l l'→Rs (Ilx.cds f s l).1 (Ilx.cds f' s' l').1∧All2 Ie (Ilx.cds f s l).2 (Ilx.cds f' s' l').2
  | 0,_,_,_,_,_,_,h,_,_,_=>by omega
  | f'+1,f,s,s',l,l',hf,hf',h,he,hl=>by
    obtain ⟨M,D,hM,h2,hr⟩:=h.r
    cases M with
    | cons u M =>
      have hu:(hd s'.L).1=lnQ:=by rw [hM];exact h2 u (by simp)
      have eL:=lin_empty hu
      have hiz:¬ iz s' [69,78,68,95,80,82,79,71,82,65,77]=true:=by unfold iz;rw [hu];decide
      have hu2:¬ (hd s'.L).1.tok=0:=by rw [hu];decide
      have hlen:=List.length_pos_iff.2 h.w'.ne
      have hn:Rq s ⟨s'.L.tail,s'.e⟩:=⟨h.e,h.e',⟨M,D,by rw [hM];rfl,fun v hv=>h2 v (by simp [hv]),hr⟩,h.k,h.w,h.w'.sort hu2⟩
      have ih:=Rq.cds f' f hf (by show s'.L.tail.length < f';rw [List.length_tail];omega) hn he hl
      rw [cds_go h.e' hiz,eL]
      exact ih
    | nil =>
      have h0:Rs s s':=⟨h.e,h.e',by rw [hM];exact hr,h.k,h.w,h.w'⟩
      cases f with
      | zero=>omega
      | succ f =>
        by_cases q:iz s [69,78,68,95,80,82,79,71,82,65,77]=true
        · rw [cds_end h.e q,cds_end h.e' (by rw [← h0.iz];exact q)]
          exact ⟨h0.tk (nol q (by decide)),hl⟩
        · rw [cds_go h.e q] at he
          rw [cds_go h.e q,cds_go h.e' (by rw [← h0.iz];exact q)]
          obtain ⟨h3,h4,l1,l2⟩:=h0.lin (en_cds f he)
          have eF:ful (lin s').2=ful (lin s).2:=by unfold ful;rw [h4.lab,h4.op]
          rw [eF]
          refine Rq.cds f' f (by omega) (by omega) h3 he ?_
          split
          · exact hl.snoc h4
          · exact hl
theorem pt_less {x y:List UInt8} {L:TL} (hw:Wl L) (h:((hd L).1.text == y)=true) (h0:y ≠ []):(pt x L).length < L.length:=by
  obtain ⟨h1,h2⟩:=hw.word h h0
  cases L with
  | nil=>exact absurd rfl hw.ne
  | cons t L =>
    have e:pt x (t :: L)=if t.1.text == x then L else pt x L:=if_neg h1
    rw [e,List.length_cons]
    split
    · omega
    · have:=(wl_pt x (L:=L) h2).1.length_le
      omega
/-- Each token lies behind those ahead of it. -/
def Inc (T:TL):Prop:=∀ P t D,T=P ++ t :: D→∀ u ∈ P,u.2 < t.2
theorem cod_of {s:Ps} {r:Ps × List Is} (h:cdr s=r):cod s=(tk (tq ⟨pl r.1.L,r.1.e⟩ [0]),r.2):=by unfold cod;rw [h]
end Ilx
end Go.Proofs.YtapcpjidgemggaaGreatDoor
