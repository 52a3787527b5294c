/- A scan in memory; its stack; the small methods (stage 21). · Store, choose, abs, pins (stage 21). · verified, Runs, wrapAll (stage 21). -/
import Derived.Test.YthjclogkcmomkaaGreatDoorQ11
import Derived.Test.YthjclogkcmomkaaGreatDoorQ29
import Derived.Test.YthjclogkcmomkaaGreatDoorQ28
namespace Go.Proofs.YthjclogkcmomkaaGreatDoor
open Go.RowKit
open Fb Cod Nm Vmx
/-- The cells of a scan: the code, the cells, the clock, the steps, the place, the stack, its depth. -/
def scv (kv lv cv:Value) (now most st pc:Int) (A:List Int) (d:Int):List Value :=
  [kv,lv,cv,.int .i64 now,.int .i64 most,.int .i64 st,.int .i64 pc] ++ (i64s A ++ [.int .i64 d])
theorem scv_stk {kv lv cv:Value} {now most st pc d:Int} {A:List Int} {j:Nat} (h:j < A.length):(scv kv lv cv now most st pc A d)[7+j]?=some (.int .i64 (A.getD j 0)):=by
  unfold scv
  rw [List.getElem?_append_right (by simp)]
  simp only [List.length_cons,List.length_nil]
  rw [show 7+j - (0+1+1+1+1+1+1+1)=j by omega,List.getElem?_append_left (by simp [i64s];exact h)]
  exact i64s_at A j h
theorem scv_dep {kv lv cv:Value} {now most st pc d:Int} {A:List Int} (h:A.length=256):(scv kv lv cv now most st pc A d)[263]?=some (.int .i64 d):=by
  unfold scv
  rw [List.getElem?_append_right (by simp),List.getElem?_append_right (by simp [i64s,h])]
  simp [i64s,h]
theorem scv_setA {kv lv cv:Value} {now most st pc d:Int} {A:List Int} {j:Nat} (h:j < A.length) (v:Int):(scv kv lv cv now most st pc A d).set (7+j) (.int .i64 v)=scv kv lv cv now most st pc (A.set j v) d:=by
  unfold scv
  rw [List.set_append_right _ _ (by simp)]
  simp only [List.length_cons,List.length_nil]
  rw [show 7+j - (0+1+1+1+1+1+1+1)=j by omega,List.set_append_left _ _ (by simp [i64s];exact h),i64s_set]
theorem scv_setD {kv lv cv:Value} {now most st pc d:Int} {A:List Int} (h:A.length=256) (v:Int):(scv kv lv cv now most st pc A d).set 263 (.int .i64 v)=scv kv lv cv now most st pc A v:=by
  unfold scv
  rw [List.set_append_right _ _ (by simp)]
  simp only [List.length_cons,List.length_nil]
  rw [List.set_append_right _ _ (by simp [i64s,h])]
  simp [i64s,h]
/-- The array holds this stack. -/
structure Sk (A:List Int) (sk:List Int):Prop where
  len:A.length=256
  le:sk.length≤256
  at_:∀ j x,sk[j]?=some x→A.getD (sk.length - 1 - j) 0=x
theorem Sk.push {A sk:List Int} (h:Sk A sk) (hl:sk.length < 256) (n:Int):Sk (A.set sk.length n) (n :: sk):=by
  refine ⟨by rw [List.length_set];exact h.len,by rw [List.length_cons];omega,fun j x hx=>?_⟩
  have hA:=h.len
  match j,hx with
  | 0,hx =>
    simp at hx
    subst hx
    rw [List.length_cons,Nat.add_sub_cancel,Nat.sub_zero,List.getD_eq_getElem?_getD,List.getElem?_set_self (by omega)]
    rfl
  | j+1,hx =>
    have hx':sk[j]?=some x:=by simpa using hx
    have hj:j < sk.length:=(List.getElem?_eq_some_iff.1 hx').1
    rw [List.length_cons,show sk.length+1 - 1 - (j+1)=sk.length - 1 - j by omega,List.getD_eq_getElem?_getD,List.getElem?_set_ne (by omega),← List.getD_eq_getElem?_getD]
    exact h.at_ j x hx'
theorem Sk.pop {A r:List Int} {x:Int} (h:Sk A (x :: r)):Sk A r:=by
  refine ⟨h.len,by have:=h.le;rw [List.length_cons] at this;omega,fun j y hy=>?_⟩
  have:=h.at_ (j+1) y (by simpa using hy)
  rw [List.length_cons,show r.length+1 - 1 - (j+1)=r.length - 1 - j by omega] at this
  exact this
theorem Sk.top {A r:List Int} {x:Int} (h:Sk A (x :: r)):A.getD r.length 0=x:=by
  have:=h.at_ 0 x rfl
  rwa [List.length_cons,Nat.add_sub_cancel,Nat.sub_zero] at this
theorem Sk.under {A sk:List Int} {k:Nat} {x:Int} (h:Sk A sk) (hx:sk[k]?=some x):A.getD (sk.length - 1 - k) 0=x:=h.at_ k x hx
/-- A scan in memory, in block g, its cells in block cb. -/
structure Sc (B:Nat) (w:World) (g cb:Nat) (kv lv:Value) (now most:Int) (A:List Int) (s:St):Prop where
  row:w.heap[g]?=some (.cells (scv kv lv (.slice (some ⟨cb,0,none⟩) s.cs.length s.cs.length) now most s.st s.pc A s.sk.length).toArray 101 (0,0))
  cel:Row64 w cb s.cs
  sk:Sk A s.sk
  ne:g ≠ cb
  gB:B≤g
  cB:B≤cb
theorem Sc.lt {B:Nat} {w:World} {g cb:Nat} {kv lv:Value} {now most:Int} {A:List Int} {s:St} (h:Sc B w g cb kv lv now most A s):g < w.heap.size:=row_lt h.row
theorem Sc.wB {B:Nat} {w:World} {g cb:Nat} {kv lv:Value} {now most:Int} {A:List Int} {s:St} (h:Sc B w g cb kv lv now most A s):B≤w.heap.size:=Nat.le_of_lt (Nat.lt_of_le_of_lt h.gB h.lt)
theorem Sc.below {B:Nat} {w u:World} {g cb:Nat} {kv lv:Value} {now most:Int} {A:List Int} {s:St} (h:Sc B w g cb kv lv now most A s) (k:Below w.heap.size w u):Sc B u g cb kv lv now most A s :=
  ⟨(k.block g (row_lt h.row)).trans h.row,(k.block cb (row_lt h.cel)).trans h.cel,h.sk,h.ne,h.gB,h.cB⟩
/-- One of the scan's own cells is turned. -/
theorem Sc.set {B:Nat} {w:World} {g cb:Nat} {kv lv:Value} {now most:Int} {A A':List Int} {s:St} (h:Sc B w g cb kv lv now most A s) (i:Nat) (v:Value) (t:St) (hc:t.cs=s.cs) (hs:Sk A' t.sk)
    (e:(scv kv lv (.slice (some ⟨cb,0,none⟩) s.cs.length s.cs.length) now most s.st s.pc A s.sk.length).set i v=scv kv lv (.slice (some ⟨cb,0,none⟩) s.cs.length s.cs.length) now most t.st t.pc A' t.sk.length) :
    Sc B (w.setCell ⟨g,i,none⟩ v) g cb kv lv now most A' t∧Below B w (w.setCell ⟨g,i,none⟩ v):=by
  have t1:Turn g w (w.setCell ⟨g,i,none⟩ v):=(Turn.refl g w).set i v
  refine ⟨⟨?_,?_,hs,h.ne,h.gB,h.cB⟩,t1.below h.gB h.wB⟩
  · rw [hc,← e];exact set_row h.row v
  · rw [hc];exact (t1.block cb (row_lt h.cel) (fun e=>h.ne (by simpa using e.symm))).trans h.cel
theorem Sc.drew {B:Nat} {w:World} {g cb:Nat} {kv lv:Value} {now most:Int} {A:List Int} {s:St} (h:Sc B w g cb kv lv now most A s) (n:Nat):Sc B (w.drewN n) g cb kv lv now most A s:=⟨h.row,h.cel,h.sk,h.ne,h.gB,h.cB⟩
theorem below_dn {B:Nat} {a w:World} {g cb:Nat} {kv lv:Value} {now most:Int} {A:List Int} {s:St} (h:Below B a w) (k:Sc B w g cb kv lv now most A s) (n:Nat):Below B a (w.drewN n) :=
  h.trans ((Same.drewN w n).below.mono k.wB)
set_option maxHeartbeats 800000 in
set_option maxRecDepth 100000 in
/-- The last number is taken off. -/
theorem pop_c {B:Nat} {w:World} {g cb:Nat} {kv lv:Value} {now most:Int} {A:List Int} {pc st:Nat} {cs r:List Int} {x:Int} (h:Sc B w g cb kv lv now most A ⟨pc,cs,x :: r,st⟩) :
    Calls Tryz.prog 59 #[.pointer (some ⟨g,0,none⟩)] w fun e w'=>e=.returned (.int .i64 x)∧Sc B w' g cb kv lv now most A ⟨pc,cs,r,st⟩∧Below B w w':=by
  obtain ⟨n,hn⟩:∃ n,n=r.length:=⟨_,rfl⟩
  have hn2:n < 256:=by have:=h.sk.le;simp only [List.length_cons] at this;omega
  have c0:w.cell? ⟨g,263,none⟩=some (.int .i64 ((n:Int)+1)):=by
    have:=cell_row (k:=263) h.row (scv_dep h.sk.len)
    rw [this,hn];simp
  have S:=hid_as (h.set 263 (.int .i64 (n:Int)) ⟨pc,cs,r,st⟩ rfl h.sk.pop (by rw [hn];exact scv_setD h.sk.len _))
  have c1:(w.setCell ⟨g,263,none⟩ (.int .i64 (n:Int))).cell? ⟨g,263,none⟩=some (.int .i64 (n:Int)):=by
    have:=cell_row (k:=263) S.out.1.row (scv_dep h.sk.len)
    rw [this,hn]
  have c2:(w.setCell ⟨g,263,none⟩ (.int .i64 (n:Int))).cell? ⟨g,7+n,none⟩=some (.int .i64 x):=by
    have:=cell_row S.out.1.row (scv_stk (j:=n) (by rw [h.sk.len];exact hn2))
    rw [this,hn,h.sk.top]
  have f0:w.frozen? ⟨g,263,none⟩=false:=frozen_row h.row
  clear h hn
  go_enter Tryz.func59,Tryz.ntmps59
  go_wp2
  generalize (w.setCell ⟨g,263,none⟩ (.int .i64 (n:Int)))=W1 at *
  go_quiet (fail)
  go_wp2
  go_ret
  exact ⟨rfl,S.out.1.drew _,below_dn S.out.2 S.out.1 _⟩
theorem Sk.over {A sk:List Int} (h:Sk A sk) (n:Int):Sk (A.set sk.length n) sk:=by
  refine ⟨by rw [List.length_set];exact h.len,h.le,fun j x hx=>?_⟩
  have hj:j < sk.length:=(List.getElem?_eq_some_iff.1 hx).1
  rw [List.getD_eq_getElem?_getD,List.getElem?_set_ne (by omega),← List.getD_eq_getElem?_getD]
  exact h.at_ j x hx
theorem Sk.up {A sk:List Int} (h:Sk A sk) (hl:sk.length < 256):Sk A (A.getD sk.length 0 :: sk):=by
  refine ⟨h.len,by rw [List.length_cons];omega,fun j x hx=>?_⟩
  match j,hx with
  | 0,hx =>
    simp at hx
    rw [List.length_cons,Nat.add_sub_cancel,Nat.sub_zero,List.getD_eq_getElem?_getD]
    exact hx
  | j+1,hx =>
    have hx':sk[j]?=some x:=by simpa using hx
    rw [List.length_cons,show sk.length+1 - 1 - (j+1)=sk.length - 1 - j by omega]
    exact h.at_ j x hx'
/-- The depth's cell and a stack's. -/
theorem Sc.dep {B:Nat} {w:World} {g cb:Nat} {kv lv:Value} {now most:Int} {A:List Int} {s:St} (h:Sc B w g cb kv lv now most A s):w.cell? ⟨g,263,none⟩=some (.int .i64 (s.sk.length:Int)):=cell_row (k:=263) h.row (scv_dep h.sk.len)
theorem Sc.stk {B:Nat} {w:World} {g cb:Nat} {kv lv:Value} {now most:Int} {A:List Int} {s:St} (h:Sc B w g cb kv lv now most A s) (n:Nat) (hn:n < 256):w.cell? ⟨g,7+n,none⟩=some (.int .i64 (A.getD n 0)):=cell_row h.row (scv_stk (by rw [h.sk.len];exact hn))
theorem Sc.fr {B:Nat} {w:World} {g cb:Nat} {kv lv:Value} {now most:Int} {A:List Int} {s:St} (h:Sc B w g cb kv lv now most A s) (n:Nat):w.frozen? ⟨g,n,none⟩=false:=frozen_row h.row
theorem Sc.heap {B:Nat} {w W:World} {g cb:Nat} {kv lv:Value} {now most:Int} {A:List Int} {s:St} (h:Sc B w g cb kv lv now most A s) (e:W.heap=w.heap):Sc B W g cb kv lv now most A s :=
  ⟨by rw [e];exact h.row,by show W.heap[cb]?=_;rw [e];exact h.cel,h.sk,h.ne,h.gB,h.cB⟩
set_option maxHeartbeats 800000 in
set_option maxRecDepth 100000 in
/-- A number is put on. -/
theorem push_c {B:Nat} {w:World} {g cb:Nat} {kv lv:Value} {now most:Int} {A:List Int} {pc st:Nat} {cs r:List Int} (x:Int) (h:Sc B w g cb kv lv now most A ⟨pc,cs,r,st⟩) (hl:r.length < 256) :
    Calls Tryz.prog 74 #[.pointer (some ⟨g,0,none⟩),.int .i64 x] w fun e w'=>e=.returned (.tuple #[])∧(∃ A',Sc B w' g cb kv lv now most A' ⟨pc,cs,x :: r,st⟩)∧Below B w w':=by
  obtain ⟨n,hn⟩:∃ n,n=r.length:=⟨_,rfl⟩
  have hn2:n < 256:=by omega
  have c0:w.cell? ⟨g,263,none⟩=some (.int .i64 (n:Int)):=by rw [hn];exact h.dep
  have c1:=h.stk n hn2
  have f1:=h.fr (7+n)
  have S:Hid (Sc B (w.setCell ⟨g,7+n,none⟩ (.int .i64 x)).drew g cb kv lv now most (A.set n x) ⟨pc,cs,r,st⟩∧Below B w (w.setCell ⟨g,7+n,none⟩ (.int .i64 x)).drew):=by
    have q:=h.set (7+n) (.int .i64 x) ⟨pc,cs,r,st⟩ rfl (A':=A.set n x) (by rw [hn];exact h.sk.over x) (scv_setA (by rw [h.sk.len];exact hn2) x)
    exact ⟨q.1.heap rfl,below_dn q.2 q.1 1⟩
  have D1:Hid ((w.setCell ⟨g,7+n,none⟩ (.int .i64 x)).drew.cell? ⟨g,263,none⟩=some (.int .i64 (n:Int))):=by
    have q:=S.out.1.dep
    rw [← hn] at q
    exact q
  have hn3:(n:Int) < 256:=by omega
  have hn4:(0:Int)≤(n:Int):=by omega
  have HK:Hid (Sk (A.set n x) (x :: r)):=by rw [hn];exact h.sk.push hl x
  have HN:=hid_as hn
  clear h hn hl
  go_enter Tryz.func74,Tryz.ntmps74
  go_wp2
  go_region_held3 (fun W=>W.cell? ⟨g,263,none⟩=some (.int .i64 (n:Int))) (first | exact c0 | exact D1.out) (fail)
  have f2:=S.out.1.fr 263
  clear D1
  generalize (w.setCell ⟨g,7+n,none⟩ (.int .i64 x)).drew=W1 at *
  have Z:Hid (Sc B (W1.setCell ⟨g,263,none⟩ (.int .i64 ((n:Int)+1))) g cb kv lv now most (A.set n x) ⟨pc,cs,x :: r,st⟩∧Below B w (W1.setCell ⟨g,263,none⟩ (.int .i64 ((n:Int)+1)))):=by
    have q:=S.out.1.set 263 (.int .i64 ((n:Int)+1)) ⟨pc,cs,x :: r,st⟩ rfl HK.out (by rw [scv_setD S.out.1.sk.len,HN.out];simp)
    exact ⟨q.1,S.out.2.trans q.2⟩
  clear S c0 c1 f1
  go_wp2
  go_end0
  exact ⟨rfl,⟨_,Z.out.1⟩,Z.out.2⟩
set_option maxHeartbeats 800000 in
set_option maxRecDepth 100000 in
/-- The number that has so many above it. -/
theorem under_c {B:Nat} {w:World} {g cb:Nat} {kv lv:Value} {now most:Int} {A:List Int} {s:St} (k:Nat) (h:Sc B w g cb kv lv now most A s) (hk:k < s.sk.length) :
    Calls Tryz.prog 76 #[.pointer (some ⟨g,0,none⟩),.int .i64 (k:Int)] w fun e w'=>e=.returned (.int .i64 (s.sk.getD k 0))∧Same w w':=by
  obtain ⟨n,hn⟩:∃ n,n=s.sk.length - 1 - k:=⟨_,rfl⟩
  have hle:=h.sk.le
  have hn2:n < 256:=by omega
  have c0:w.cell? ⟨g,263,none⟩=some (.int .i64 (((n:Int)+k)+1)):=by
    rw [h.dep,show ((n:Int)+k)+1=(s.sk.length:Int) by omega]
  have c1:=h.stk n hn2
  have e1:A.getD n 0=s.sk.getD k 0:=by
    rw [hn]
    refine h.sk.under ?_
    rw [List.getD_eq_getElem?_getD,List.getElem?_eq_getElem hk];rfl
  rw [e1] at c1
  obtain ⟨x,hx⟩:∃ x,x=s.sk.getD k 0:=⟨_,rfl⟩
  rw [← hx] at c1 ⊢
  have hn3:(n:Int) < 256:=by omega
  have hn4:(0:Int)≤(n:Int):=by omega
  have hk3:(k:Int) < 256:=by omega
  have hk4:(0:Int)≤(k:Int):=by omega
  have q1:IntKind.i64.wrap ((n:Int)+k+1 - 1)=(n:Int)+k:=by rw [IntKind.wrap_i64];omega
  have q2:IntKind.i64.wrap ((n:Int)+k - k)=(n:Int):=by rw [IntKind.wrap_i64];omega
  clear h hn hle e1 hx hk
  go_enter Tryz.func76,Tryz.ntmps76
  go_wp2
  go_quiet (fail)
  go_wp2
  go_ret
  exact ⟨rfl,Same.drewN _ _⟩
end Go.Proofs.YthjclogkcmomkaaGreatDoor
namespace Go.Proofs.YthjclogkcmomkaaGreatDoor
open Go.RowKit
open Fb Cod Nm Vmx
/-- The code that a machine holds: kinds and instructions, below B. -/
structure Mc (B:Nat) (w:World) (va:Option Addr) (kn kc:Nat) (la:Option Addr) (n lc:Nat) (K:List Int) (L:List Ins):Prop where
  ks:Sl w (.slice va kn kc) (i64s K)
  kl:kn=K.length
  kB:∀ p,va=some p→0 < kn→p.block < B
  il:Il w la L
  nl:n=L.length
  lB:∀ p,la=some p→0 < n→p.block < B
theorem Mc.below {B:Nat} {w u:World} {va:Option Addr} {kn kc:Nat} {la:Option Addr} {n lc:Nat} {K:List Int} {L:List Ins} (h:Mc B w va kn kc la n lc K L) (k:Below B w u):Mc B u va kn kc la n lc K L:=by
  refine ⟨?_,h.kl,h.kB,h.il.belowB (fun p hp hl=>h.lB p hp (by rw [h.nl];exact hl)) k,h.nl,h.lB⟩
  have hk:=h.kl
  rcases h.ks with ⟨h1,ao,cap,h2,h3⟩ | ⟨b,off,cap,h2,h3,h4⟩
  · exact Or.inl ⟨h1,ao,cap,h2,h3⟩
  · by_cases h0:0 < kn
    · refine Or.inr ⟨b,off,cap,h2,h3,h4.kept (k.block b ?_)⟩
      simp only [Value.slice.injEq] at h2
      exact h.kB _ h2.1 h0
    · refine Or.inr ⟨b,off,cap,h2,h3,fun j x hj=>?_⟩
      have hl:(i64s K).length=0:=by rw [i64s_len];omega
      rw [List.length_eq_zero_iff.1 hl] at hj
      simp at hj
/-- The kind of a cell. -/
theorem Mc.kind {B:Nat} {w:World} {va:Option Addr} {kn kc:Nat} {la:Option Addr} {n lc:Nat} {K:List Int} {L:List Ins} (h:Mc B w va kn kc la n lc K L) {i:Nat} (hi:i < K.length):∃ b o,va=some ⟨b,o,none⟩∧kn≤kc∧w.cell? ⟨b,o+i,none⟩=some (.int .i64 (K.getD i 0)):=by
  have hk:=h.kl
  rcases h.ks with ⟨h1,_⟩ | ⟨b,off,cap,h2,h3,h4⟩
  · have e:(i64s K).length=0:=by rw [h1];rfl
    rw [i64s_len] at e
    omega
  · simp only [Value.slice.injEq] at h2
    obtain ⟨rfl,h5,rfl⟩:=h2
    exact ⟨b,off,rfl,by rw [h5];exact h3,h4 i _ (i64s_at K i hi)⟩
theorem Sc.c0 {B:Nat} {w:World} {g cb:Nat} {kv lv:Value} {now most:Int} {A:List Int} {s:St} (h:Sc B w g cb kv lv now most A s):w.cell? ⟨g,0,none⟩=some kv:=cell_row (k:=0) h.row rfl
theorem Sc.c1 {B:Nat} {w:World} {g cb:Nat} {kv lv:Value} {now most:Int} {A:List Int} {s:St} (h:Sc B w g cb kv lv now most A s):w.cell? ⟨g,1,none⟩=some lv:=cell_row (k:=1) h.row rfl
theorem Sc.c2 {B:Nat} {w:World} {g cb:Nat} {kv lv:Value} {now most:Int} {A:List Int} {s:St} (h:Sc B w g cb kv lv now most A s):w.cell? ⟨g,2,none⟩=some (.slice (some ⟨cb,0,none⟩) s.cs.length s.cs.length):=cell_row (k:=2) h.row rfl
theorem Sc.c3 {B:Nat} {w:World} {g cb:Nat} {kv lv:Value} {now most:Int} {A:List Int} {s:St} (h:Sc B w g cb kv lv now most A s):w.cell? ⟨g,3,none⟩=some (.int .i64 now):=cell_row (k:=3) h.row rfl
theorem Sc.c4 {B:Nat} {w:World} {g cb:Nat} {kv lv:Value} {now most:Int} {A:List Int} {s:St} (h:Sc B w g cb kv lv now most A s):w.cell? ⟨g,4,none⟩=some (.int .i64 most):=cell_row (k:=4) h.row rfl
theorem Sc.c5 {B:Nat} {w:World} {g cb:Nat} {kv lv:Value} {now most:Int} {A:List Int} {s:St} (h:Sc B w g cb kv lv now most A s):w.cell? ⟨g,5,none⟩=some (.int .i64 (s.st:Int)):=cell_row (k:=5) h.row rfl
theorem Sc.c6 {B:Nat} {w:World} {g cb:Nat} {kv lv:Value} {now most:Int} {A:List Int} {s:St} (h:Sc B w g cb kv lv now most A s):w.cell? ⟨g,6,none⟩=some (.int .i64 (s.pc:Int)):=cell_row (k:=6) h.row rfl
theorem Sc.cel_at {B:Nat} {w:World} {g cb:Nat} {kv lv:Value} {now most:Int} {A:List Int} {s:St} (h:Sc B w g cb kv lv now most A s) {i:Nat} (hi:i < s.cs.length):w.cell? ⟨cb,i,none⟩=some (.int .i64 (s.cs.getD i 0)):=cell_row h.cel (i64s_at s.cs i hi)
theorem row64_put {w:World} {b:Nat} {l:List Int} (h:Row64 w b l) (i:Nat) (v:Int):Row64 (w.setCell ⟨b,i,none⟩ (.int .i64 v)) b (l.set i v):=by
  show _=_
  rw [i64s_set]
  exact set_row h _
/-- A cell is turned. -/
theorem Sc.put {B:Nat} {w:World} {g cb:Nat} {kv lv:Value} {now most:Int} {A:List Int} {s:St} (h:Sc B w g cb kv lv now most A s) (i:Nat) (v:Int):Sc B (w.setCell ⟨cb,i,none⟩ (.int .i64 v)) g cb kv lv now most A ⟨s.pc,s.cs.set i v,s.sk,s.st⟩∧Below B w (w.setCell ⟨cb,i,none⟩ (.int .i64 v)):=by
  have t1:Turn cb w (w.setCell ⟨cb,i,none⟩ (.int .i64 v)):=(Turn.refl cb w).set i _
  refine ⟨⟨?_,row64_put h.cel i v,h.sk,h.ne,h.gB,h.cB⟩,t1.below h.cB h.wB⟩
  have:=(t1.block g (row_lt h.row) (fun e=>h.ne (by simpa using e))).trans h.row
  simpa only [List.length_set] using this
set_option maxHeartbeats 800000 in
set_option maxRecDepth 100000 in
/-- A cell is stored, wrapped by its kind. -/
theorem store_c {B:Nat} {w:World} {g cb:Nat} {va:Option Addr} {kn kc:Nat} {la:Option Addr} {n lc:Nat} {K:List Int} {L:List Ins} {now most:Int} {A:List Int} {s:St} (i:Nat) (x:Int) (M:Mc B w va kn kc la n lc K L) (h:Sc B w g cb (.slice va kn kc) (.slice la n lc) now most A s) (hi:i < K.length) (hc:s.cs.length=K.length) (k9:K.length≤4096) :
    Calls Tryz.prog 75 #[.pointer (some ⟨g,0,none⟩),.int .i64 (i:Int),.int .i64 x] w fun e w'=>e=.returned (.tuple #[])∧Sc B w' g cb (.slice va kn kc) (.slice la n lc) now most A ⟨s.pc,s.cs.set i (wr (K.getD i 0) x),s.sk,s.st⟩∧Below B w w':=by
  obtain ⟨b,o,rfl,hkc,ck⟩:=M.kind hi
  have c0:=h.c0
  have c2:=h.c2
  have hi2:i < s.cs.length:=by omega
  have cc:=h.cel_at hi2
  obtain ⟨m,hm⟩:∃ m,m=s.cs.length:=⟨_,rfl⟩
  have kl:=M.kl
  rw [← hm] at c2
  have hi3:(i:Int) < (m:Int):=by omega
  have hi4:(0:Int)≤(i:Int):=by omega
  have hi5:(i:Int) < (kn:Int):=by omega
  have WN:=hid_as (fun W:World=>wrap_n (K.getD i 0) x W)
  have f0:w.frozen? ⟨cb,i,none⟩=false:=frozen_row h.cel
  have Z:Hid (Sc B (w.setCell ⟨cb,i,none⟩ (.int .i64 (wr (K.getD i 0) x))).drew g cb (.slice (some ⟨b,o,none⟩) kn kc) (.slice la n lc) now most A ⟨s.pc,s.cs.set i (wr (K.getD i 0) x),s.sk,s.st⟩∧Below B w (w.setCell ⟨cb,i,none⟩ (.int .i64 (wr (K.getD i 0) x))).drew):=by
    have q:=h.put i (wr (K.getD i 0) x)
    exact ⟨q.1.heap rfl,below_dn q.2 q.1 1⟩
  have hbB:b < B:=M.kB _ rfl (by omega)
  have D:Hid ((w.setCell ⟨cb,i,none⟩ (.int .i64 (wr (K.getD i 0) x))).drew.cell? ⟨g,0,none⟩=some (.slice (some ⟨b,o,none⟩) kn kc)∧(w.setCell ⟨cb,i,none⟩ (.int .i64 (wr (K.getD i 0) x))).drew.cell? ⟨g,2,none⟩=some (.slice (some ⟨cb,0,none⟩) m m)∧(w.setCell ⟨cb,i,none⟩ (.int .i64 (wr (K.getD i 0) x))).drew.cell? ⟨b,o+i,none⟩=some (.int .i64 (K.getD i 0))):=by
    have q:=Z.out.1.c2
    simp only [List.length_set] at q
    rw [← hm] at q
    exact ⟨Z.out.1.c0,q,(Z.out.2.cell (p:=⟨b,o+i,none⟩) hbB).trans ck⟩
  generalize wr (K.getD i 0) x=v at *
  generalize K.getD i 0=kk at *
  generalize s.cs.getD i 0=ov at *
  clear h M hm hc hi hi2 kl
  go_enter Tryz.func75,Tryz.ntmps75
  go_wp2
  go_region_held3 (fun W=>W.cell? ⟨g,0,none⟩=some (.slice (some ⟨b,o,none⟩) kn kc)∧W.cell? ⟨g,2,none⟩=some (.slice (some ⟨cb,0,none⟩) m m)∧W.cell? ⟨b,o+i,none⟩=some (.int .i64 kk)) (first | exact ⟨c0,c2,ck⟩ | exact D.out | go_keep) ((go_at_call 58;(with_reducible refine (WN.out _).mono ?_);rintro e w' ⟨rfl,hw⟩;subst w'))
  clear D
  go_end0
  exact ⟨rfl,Z.out.1,Z.out.2⟩
set_option maxHeartbeats 800000 in
/-- OpSel's two. -/
theorem choose_c {B:Nat} {w:World} {g cb:Nat} {kv lv:Value} {now most:Int} {A:List Int} {pc st:Nat} {cs r:List Int} {y z:Int} (x:Int) (h:Sc B w g cb kv lv now most A ⟨pc,cs,y :: z :: r,st⟩) :
    Calls Tryz.prog 96 #[.pointer (some ⟨g,0,none⟩),.int .i64 x] w fun e w'=>e=.returned (.int .i64 (if z=0 then y else x))∧Sc B w' g cb kv lv now most A ⟨pc,cs,r,st⟩∧Below B w w':=by
  have P1:=hid_as (pop_c h)
  clear h
  by_cases h0:z=0
  · subst h0
    rw [if_pos rfl]
    go_enter Tryz.func96,Tryz.ntmps96
    go_wp2_with fail
    refine P1.out.mono ?_
    rintro e w1 ⟨rfl,s1,b1⟩
    have B1:=hid_as b1
    have P2:=hid_as (pop_c s1)
    clear s1 b1
    go_wp2_with fail
    refine P2.out.mono ?_
    rintro e w2 ⟨rfl,s2,b2⟩
    have S2:=hid_as s2
    have B2:=hid_as (B1.out.trans b2)
    clear s2 b2
    go_wp2
    go_ret
    exact ⟨rfl,S2.out,B2.out⟩
  · rw [if_neg h0]
    have h1:(z == 0)=false:=beq_eq_false_iff_ne.2 h0
    go_enter Tryz.func96,Tryz.ntmps96
    go_wp2_with fail
    refine P1.out.mono ?_
    rintro e w1 ⟨rfl,s1,b1⟩
    have B1:=hid_as b1
    have P2:=hid_as (pop_c s1)
    clear s1 b1
    go_wp2_with fail
    refine P2.out.mono ?_
    rintro e w2 ⟨rfl,s2,b2⟩
    have S2:=hid_as s2
    have B2:=hid_as (B1.out.trans b2)
    clear s2 b2
    go_wp2
    go_ret
    exact ⟨rfl,S2.out,B2.out⟩
theorem abs_c (k a:Int) (w:World):Calls Tryz.prog 92 #[.int .i64 k,.int .i64 a] w fun e w'=>e=.returned (.int .i64 (absv k a))∧w'=w:=by
  have WN:=hid_as (wrap_n k a w)
  have NN:=hid_as (neg_n k (wr k a) w)
  have HA:=hid_as (show absv k a=if wr k a < 0 then ngv k (wr k a) else wr k a from rfl)
  obtain ⟨r,hr⟩:∃ r,r=absv k a:=⟨_,rfl⟩
  rw [← hr] at HA ⊢
  clear hr
  generalize wr k a=x at *
  generalize ngv k x=y at *
  by_cases h:x < 0
  · have E:Hid (y=r):=by have:=HA.out;rw [if_pos h] at this;exact this.symm
    clear HA
    go_enter Tryz.func92,Tryz.ntmps92
    go_wp2_with (first | (go_at_call 58;refine WN.out.mono ?_;rintro e w' ⟨rfl,hw⟩;subst w') | (go_at_call 90;refine NN.out.mono ?_;rintro e w' ⟨rfl,hw⟩;subst w'))
    go_ret
    exact ⟨ret_int E.out,rfl⟩
  · have E:Hid (x=r):=by have:=HA.out;rw [if_neg h] at this;exact this.symm
    clear HA
    go_enter Tryz.func92,Tryz.ntmps92
    go_wp2_with (first | (go_at_call 58;refine WN.out.mono ?_;rintro e w' ⟨rfl,hw⟩;subst w') | (go_at_call 90;refine NN.out.mono ?_;rintro e w' ⟨rfl,hw⟩;subst w'))
    go_ret
    exact ⟨ret_int E.out,rfl⟩
theorem vpins_c (k:Nat) (hk:k < 10) (w:World):Calls Tryz.prog 88 #[.string (nm k)] w fun e w'=>e=.returned (.tuple #[.int .i64 (nI k:Nat),.int .i64 (nO k:Nat)])∧w'=w:=by
  match k,hk with
  | 0,_ =>
    unfold nm nml tx
    go_enter Tryz.func88,Tryz.ntmps88
    go_wp2
    go_ret2
    exact ⟨rfl,rfl⟩
  | 1,_ =>
    unfold nm nml tx
    go_enter Tryz.func88,Tryz.ntmps88
    go_wp2
    go_ret2
    exact ⟨rfl,rfl⟩
  | 2,_ =>
    unfold nm nml tx
    go_enter Tryz.func88,Tryz.ntmps88
    go_wp2
    go_ret2
    exact ⟨rfl,rfl⟩
  | 3,_ =>
    unfold nm nml tx
    go_enter Tryz.func88,Tryz.ntmps88
    go_wp2
    go_ret2
    exact ⟨rfl,rfl⟩
  | 4,_ =>
    unfold nm nml tx
    go_enter Tryz.func88,Tryz.ntmps88
    go_wp2
    go_ret2
    exact ⟨rfl,rfl⟩
  | 5,_ =>
    unfold nm nml tx
    go_enter Tryz.func88,Tryz.ntmps88
    go_wp2
    go_ret2
    exact ⟨rfl,rfl⟩
  | 6,_ =>
    unfold nm nml tx
    go_enter Tryz.func88,Tryz.ntmps88
    go_wp2
    go_ret2
    exact ⟨rfl,rfl⟩
  | 7,_ =>
    unfold nm nml tx
    go_enter Tryz.func88,Tryz.ntmps88
    go_wp2
    go_ret2
    exact ⟨rfl,rfl⟩
  | 8,_ =>
    unfold nm nml tx
    go_enter Tryz.func88,Tryz.ntmps88
    go_wp2
    go_ret2
    exact ⟨rfl,rfl⟩
  | 9,_ =>
    unfold nm nml tx
    go_enter Tryz.func88,Tryz.ntmps88
    go_wp2
    go_ret2
    exact ⟨rfl,rfl⟩
end Go.Proofs.YthjclogkcmomkaaGreatDoor
namespace Go.Proofs.YthjclogkcmomkaaGreatDoor
open Go.RowKit
open Fb Cod Nm Vmx
theorem Mc.cd {B:Nat} {w:World} {va:Option Addr} {kn kc:Nat} {la:Option Addr} {n lc:Nat} {K:List Int} {L:List Ins} (h:Mc B w va kn kc la n lc K L) (k9:K.length≤1000000) (n9:L.length≤1000000):Cd w va kn kc la n lc K L :=
  ⟨h.ks,h.kl,by rw [h.kl];exact k9,h.il,h.nl,by rw [h.nl];exact n9⟩
set_option maxRecDepth 100000 in
set_option maxHeartbeats 800000 in
/-- The code is verified: the first time. -/
theorem verified_1 {w:World} {g:Nat} {va:Option Addr} {kn kc:Nat} {la:Option Addr} {n lc:Nat} {K:List Int} {L:List Ins} {wv:Value} {rn:Int} (h:VmAt w g (.slice va kn kc) (.slice la n lc) 0 0 wv rn) (M:Mc g w va kn kc la n lc K L) (k9:K.length≤1000000) (n9:L.length≤1000000) (hT:Tabs w) (hg2:2≤g) :
    Calls Tryz.prog 25 #[.pointer (some ⟨g,0,none⟩)] w fun e w'=>∃ r v,e=.returned v∧Ver K L r∧Err w r v w'∧VmAt w' g (.slice va kn kc) (.slice la n lc) 1 0 v rn∧Turn g w w':=by
  have hgl:=row_lt h
  have kA:=below_new1 w (.cells #[.pointer (some ⟨g,0,none⟩)] 29)
  have r0:VmAt (w.alloc (.cells #[.pointer (some ⟨g,0,none⟩)] 29)) g (.slice va kn kc) (.slice la n lc) 0 0 wv rn:=(kA.block g hgl).trans h
  have hb:(w.alloc (.cells #[.pointer (some ⟨g,0,none⟩)] 29)).cell? ⟨w.heap.size,0,none⟩=some (.pointer (some ⟨g,0,none⟩)):=by simp
  have DO:=hid_as (do_first r0 hb (by omega) (fun u t=>((M.below (kA.mono (Nat.le_of_lt hgl))).below (t.below (Nat.le_refl _) (by simp;omega))).cd k9 n9) (hT.below kA) hg2)
  have KA:=hid_as (Turn.ofBelow (g:=g) kA)
  have HG:=hid_as hgl
  generalize hW:w.alloc (.cells #[.pointer (some ⟨g,0,none⟩)] 29)=W0 at *
  have HB:=hid_as hb
  have HS:Hid (W0.heap.size=w.heap.size+1):=by rw [← hW];exact World.size_alloc ..
  have KB:=hid_as kA
  subst hW
  clear h M hT r0 kA hgl
  go_enter Tryz.func25,Tryz.ntmps25
  go_wp2_with fail
  refine DO.out.mono ?_
  rintro e w2 ⟨rfl,r,v,hV,hE,hR,hTn⟩
  have b2:w2.cell? ⟨w.heap.size,0,none⟩=some (.pointer (some ⟨g,0,none⟩)):=(World.cell?_of_block (a:=⟨w.heap.size,0,none⟩) (hTn.block w.heap.size (by rw [HS.out];omega) (fun e=>by have:=HG.out;simp at e;omega))).trans HB.out
  have d5:w2.cell? ⟨g,5,none⟩=some v:=cell_row (k:=5) hR rfl
  have FIN:Hid (Ver K L r∧Err w r v w2∧VmAt w2 g (.slice va kn kc) (.slice la n lc) 1 0 v rn∧Turn g w w2):=⟨hV,hE.mono (by rw [HS.out];omega),hR,KA.out.trans hTn⟩
  clear hV hE hR hTn hb DO HB
  go_wp2
  go_ret
  exact ⟨r,v,rfl,FIN.out⟩
set_option maxHeartbeats 800000 in
/-- Later. -/
theorem verified_2 {w:World} {g:Nat} {kv lv v:Value} {rn:Int} (h:VmAt w g kv lv 1 0 v rn) :
    Calls Tryz.prog 25 #[.pointer (some ⟨g,0,none⟩)] w fun e w'=>e=.returned v∧Below w.heap.size w w':=by
  have hgl:=row_lt h
  have kA:=below_new1 w (.cells #[.pointer (some ⟨g,0,none⟩)] 29)
  have r0:VmAt (w.alloc (.cells #[.pointer (some ⟨g,0,none⟩)] 29)) g kv lv 1 0 v rn:=(kA.block g hgl).trans h
  have hb:(w.alloc (.cells #[.pointer (some ⟨g,0,none⟩)] 29)).cell? ⟨w.heap.size,0,none⟩=some (.pointer (some ⟨g,0,none⟩)):=by simp
  have d5:(w.alloc (.cells #[.pointer (some ⟨g,0,none⟩)] 29)).cell? ⟨g,5,none⟩=some v:=cell_row (k:=5) r0 rfl
  have DO:=hid_as (fun fv:Value=>do_done ⟨g,2,none⟩ fv (w.alloc (.cells #[.pointer (some ⟨g,0,none⟩)] 29)) (cell_row (k:=2) r0 rfl))
  have KA:=hid_as kA
  clear h r0 kA hgl
  go_enter Tryz.func25,Tryz.ntmps25
  go_wp2_with fail
  refine (DO.out _).mono ?_
  rintro e w2 ⟨rfl,hw⟩
  subst w2
  go_wp2
  go_ret
  exact ⟨rfl,KA.out⟩
namespace Vmx
/-- The cells that are handed in: as many as there are kinds. -/
def pdc (cs:List Int) (n:Nat):List Int:=(List.range n).map fun i=>cs.getD i 0
/-- The first k of them wrapped by their kinds. -/
def wrk (K cs:List Int) (k:Nat):List Int:=(List.range K.length).map fun i=>if i < k then wr (K.getD i 0) (cs.getD i 0) else cs.getD i 0
def wrs (K cs:List Int):List Int:=(List.range K.length).map fun i=>wr (K.getD i 0) (cs.getD i 0)
theorem wrk_len (K cs:List Int) (k:Nat):(wrk K cs k).length=K.length:=by simp [wrk]
theorem wrs_len (K cs:List Int):(wrs K cs).length=K.length:=by simp [wrs]
theorem wrk_zero (K cs:List Int):wrk K cs 0=pdc cs K.length:=by simp [wrk,pdc]
theorem wrk_all (K cs:List Int):wrk K cs K.length=wrs K cs:=by
  unfold wrk wrs
  apply List.map_congr_left
  intro i hi
  rw [if_pos (by simpa using hi)]
theorem wrk_at (K cs:List Int) (k:Nat) (h:k < K.length):(wrk K cs k).getD k 0=cs.getD k 0:=by
  simp [wrk,List.getD_eq_getElem?_getD,h]
theorem wrk_next (K cs:List Int) (k:Nat) (h:k < K.length):(wrk K cs k).set k (wr (K.getD k 0) (cs.getD k 0))=wrk K cs (k+1):=by
  apply List.ext_getElem?
  intro j
  rw [List.getElem?_set,wrk_len]
  by_cases e:k=j
  · subst e
    rw [if_pos rfl,if_pos h]
    simp [wrk,h]
  · rw [if_neg e]
    by_cases hj:j < K.length
    · by_cases hk:j < k
      · simp [wrk,hj,hk,Nat.lt_succ_of_lt hk]
      · simp [wrk,hj,hk,show ¬ j < k+1 by omega]
    · simp [wrk,hj]
theorem pdc_splice (cs:List Int) (n:Nat):splice (i64s (List.replicate n 0)) 0 (i64s (cs.take n))=i64s (pdc cs n):=by
  have e:splice (i64s (List.replicate n 0)) 0 (i64s (cs.take n))=i64s (cs.take n ++ List.replicate (n - (cs.take n).length) 0):=by
    unfold splice
    simp [i64s]
  rw [e]
  congr 1
  apply List.ext_getElem?
  intro j
  rw [List.getElem?_append,List.length_take]
  by_cases hj:j < n
  · by_cases hc:j < cs.length
    · rw [if_pos (by omega),List.getElem?_take,if_pos hj]
      simp [pdc,hj,hc,List.getD_eq_getElem?_getD]
    · rw [if_neg (by omega)]
      simp [pdc,hj,hc,List.getD_eq_getElem?_getD,List.getElem?_replicate]
      omega
  · by_cases hc:j < min n cs.length
    · omega
    · rw [if_neg hc]
      simp [pdc,hj,List.getElem?_replicate]
      omega
end Vmx
/-- While cells are wrapped. -/
structure Wq (w wr:World) (h:Nat) (K cs:List Int) (k:Nat):Prop where
  ro:Row64 wr h (wrk K cs k)
  bw:Below w.heap.size w wr
set_option maxRecDepth 100000 in
set_option maxHeartbeats 1600000 in
theorem wrapAll_c {B:Nat} {w:World} {va ca:Option Addr} {kn kc cn cc:Nat} {la:Option Addr} {ln lc:Nat} {K cs:List Int} {L:List Ins} (M:Mc B w va kn kc la ln lc K L) (hB:B≤w.heap.size) (k9:K.length≤1000000) (hs:Sl w (.slice ca cn cc) (i64s cs)) (hn:cn=cs.length) :
    Calls Tryz.prog 35 #[.slice va kn kc,.slice ca cn cc] w fun e w'=>e=.returned (.slice (some ⟨w.heap.size,0,none⟩) kn kn)∧Row64 w' w.heap.size (wrs K cs)∧Below w.heap.size w w':=by
  have kl:=M.kl
  obtain ⟨W1,h1,r1,b1,s1⟩:=mk_run w kn (by omega)
  have hs1:=hs.below b1
  obtain ⟨W2,h2,r2,t2⟩:=run_copy_turn (P:=Tryz.prog) (w:=W1) 26 26 3 2 Tryz.underlying26 (by kernel_rfl) (some ⟨w.heap.size,0,none⟩) ca kn kn cn cc w.heap.size 0 (i64s (List.replicate kn 0)) 2 r1 (i64s (cs.take kn)) (by rw [i64s_len,List.length_take,hn];exact Nat.min_comm _ _)
    (fun h0=>by
      refine ⟨rfl,?_⟩
      have:=src_cells hs1 kn
      rw [show (i64s cs).take kn=i64s (cs.take kn) by simp [i64s,List.map_take]] at this
      exact this h0) (by rw [i64s_len,i64s_len,List.length_take,List.length_replicate];omega) (one_nums _)
  rw [pdc_splice] at r2
  have Q0:Hid (Wq w W2 w.heap.size K cs 0):=⟨by rw [wrk_zero,← kl];exact r2,b1.trans (t2.below (Nat.le_refl _) (by omega))⟩
  generalize (i64s (cs.take kn)).length=cnn at h2
  have MM:=hid_as M
  have KL:=hid_as kl
  have HB:=hid_as hB
  obtain ⟨hb,hhb⟩:∃ hb,hb=w.heap.size:=⟨_,rfl⟩
  rw [← hhb] at h1 h2 Q0 ⊢
  have HH:=hid_as hhb
  clear M hs hn r1 b1 s1 hs1 r2 t2 hB hhb kl
  go_enter Tryz.func35,Tryz.ntmps35
  go_wp2
  go_loopw [16] (fun i wr=>∃ k:Nat,k≤kn∧i=.int .i64 k∧Wq w wr hb K cs k) (fun i _=>kn - (intOf i).toNat)
  case atStart=>exact ⟨0,by omega,rfl,Q0.out⟩
  case round =>
    obtain ⟨k,hk,rfl,hq⟩:=hrel
    have Q:=hid_as hq
    clear hq Q0
    by_cases hkn:k < kn
    · have hk2:(k:Int) < (kn:Int):=by omega
      have hk0:(0:Int)≤(k:Int):=by omega
      have hkK:k < K.length:=by rw [← KL.out];exact hkn
      obtain ⟨b,o,hva,hkc,ck⟩:=(MM.out.below (Q.out.bw.mono HB.out)).kind hkK
      have ch:wr.cell? ⟨hb,k,none⟩=some (.int .i64 (cs.getD k 0)):=by
        rw [← wrk_at K cs k hkK]
        exact cell_row Q.out.ro (i64s_at _ k (by rw [wrk_len];exact hkK))
      have fh:wr.frozen? ⟨hb,k,none⟩=false:=frozen_row Q.out.ro
      have WN:=hid_as (fun W:World=>wrap_n (K.getD k 0) (cs.getD k 0) W)
      have NX:Hid (Wq w (wr.setCell ⟨hb,k,none⟩ (.int .i64 (Nm.wr (K.getD k 0) (cs.getD k 0)))) hb K cs (k+1)):=by
        have hb2:=HH.out
        refine ⟨?_,Q.out.bw.trans (((Turn.refl hb wr).set k _).below (by omega) Q.out.bw.size)⟩
        rw [← wrk_next K cs k hkK]
        exact row_set Q.out.ro _
      generalize Nm.wr (K.getD k 0) (cs.getD k 0)=v at *
      generalize K.getD k 0=kk at *
      generalize cs.getD k 0=cv at *
      subst hva
      go_wp2_with fail
      refine (WN.out _).mono ?_
      rintro e w' ⟨rfl,hw⟩
      subst w'
      go_wp2
      go_roundw
      case rel=>exact ⟨k+1,by omega,by go_num,NX.out⟩
      case measure=>simp [intOf];omega
    · obtain rfl:k=kn:=by omega
      go_wp2
      go_ret
      have r:=Q.out.ro
      rw [KL.out,wrk_all] at r
      exact ⟨rfl,r,by rw [HH.out];exact Q.out.bw⟩
set_option maxHeartbeats 800000 in
theorem runs_c {w:World} {g:Nat} {kv lv v:Value} {d:Int} {rn:Int} (h:VmAt w g kv lv d 0 v rn):Calls Tryz.prog 17 #[.pointer (some ⟨g,0,none⟩)] w fun e w'=>e=.returned (.int .u64 rn)∧w'=w:=by
  have c6:w.cell? ⟨g,6,none⟩=some (.int .u64 rn):=cell_row (k:=6) h rfl
  have hl:=run_call_load (P:=Tryz.prog) Tryz.func61 (by kernel_rfl) (by kernel_rfl) (by kernel_rfl) .u64 (by kernel_rfl) (w:=w) (a:=⟨g,6,none⟩) (x:=rn) c6
  clear h
  go_enter Tryz.func17,Tryz.ntmps17
  go_wp2
  go_ret
  exact ⟨rfl,rfl⟩
end Go.Proofs.YthjclogkcmomkaaGreatDoor
