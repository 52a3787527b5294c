/- A scan in memory; its stack; the small methods (stage 21). -/
import Derived.Test.YthjclogkcmomkaaGreatDoorQ19
namespace Go.Proofs.YthjclogkcmomkaaGreatDoor
open Go.RowKit
open Fb Cod Nm Vmx
/-- The cells of a scan: the code, the cells, the clock, the steps, the place, the stack, its depth. -/
def scv (kv lv cv:Value) (now most st pc:Int) (A:List Int) (d:Int):List Value :=
  [kv,lv,cv,.int .i64 now,.int .i64 most,.int .i64 st,.int .i64 pc] ++ (i64s A ++ [.int .i64 d])
theorem scv_stk {kv lv cv:Value} {now most st pc d:Int} {A:List Int} {j:Nat} (h:j < A.length):(scv kv lv cv now most st pc A d)[7+j]?=some (.int .i64 (A.getD j 0)):=by
  unfold scv
  rw [List.getElem?_append_right (by simp)]
  simp only [List.length_cons,List.length_nil]
  rw [show 7+j - (0+1+1+1+1+1+1+1)=j by omega,List.getElem?_append_left (by simp [i64s];exact h)]
  exact i64s_at A j h
theorem scv_dep {kv lv cv:Value} {now most st pc d:Int} {A:List Int} (h:A.length=256):(scv kv lv cv now most st pc A d)[263]?=some (.int .i64 d):=by
  unfold scv
  rw [List.getElem?_append_right (by simp),List.getElem?_append_right (by simp [i64s,h])]
  simp [i64s,h]
theorem scv_setA {kv lv cv:Value} {now most st pc d:Int} {A:List Int} {j:Nat} (h:j < A.length) (v:Int):(scv kv lv cv now most st pc A d).set (7+j) (.int .i64 v)=scv kv lv cv now most st pc (A.set j v) d:=by
  unfold scv
  rw [List.set_append_right _ _ (by simp)]
  simp only [List.length_cons,List.length_nil]
  rw [show 7+j - (0+1+1+1+1+1+1+1)=j by omega,List.set_append_left _ _ (by simp [i64s];exact h),i64s_set]
theorem scv_setD {kv lv cv:Value} {now most st pc d:Int} {A:List Int} (h:A.length=256) (v:Int):(scv kv lv cv now most st pc A d).set 263 (.int .i64 v)=scv kv lv cv now most st pc A v:=by
  unfold scv
  rw [List.set_append_right _ _ (by simp)]
  simp only [List.length_cons,List.length_nil]
  rw [List.set_append_right _ _ (by simp [i64s,h])]
  simp [i64s,h]
/-- The array holds this stack. -/
structure Sk (A:List Int) (sk:List Int):Prop where
  len:A.length=256
  le:sk.length≤256
  at_:∀ j x,sk[j]?=some x→A.getD (sk.length - 1 - j) 0=x
theorem Sk.push {A sk:List Int} (h:Sk A sk) (hl:sk.length < 256) (n:Int):Sk (A.set sk.length n) (n :: sk):=by
  refine ⟨by rw [List.length_set];exact h.len,by rw [List.length_cons];omega,fun j x hx=>?_⟩
  have hA:=h.len
  match j,hx with
  | 0,hx =>
    simp at hx
    subst hx
    rw [List.length_cons,Nat.add_sub_cancel,Nat.sub_zero,List.getD_eq_getElem?_getD,List.getElem?_set_self (by omega)]
    rfl
  | j+1,hx =>
    have hx':sk[j]?=some x:=by simpa using hx
    have hj:j < sk.length:=(List.getElem?_eq_some_iff.1 hx').1
    rw [List.length_cons,show sk.length+1 - 1 - (j+1)=sk.length - 1 - j by omega,List.getD_eq_getElem?_getD,List.getElem?_set_ne (by omega),← List.getD_eq_getElem?_getD]
    exact h.at_ j x hx'
theorem Sk.pop {A r:List Int} {x:Int} (h:Sk A (x :: r)):Sk A r:=by
  refine ⟨h.len,by have:=h.le;rw [List.length_cons] at this;omega,fun j y hy=>?_⟩
  have:=h.at_ (j+1) y (by simpa using hy)
  rw [List.length_cons,show r.length+1 - 1 - (j+1)=r.length - 1 - j by omega] at this
  exact this
theorem Sk.top {A r:List Int} {x:Int} (h:Sk A (x :: r)):A.getD r.length 0=x:=by
  have:=h.at_ 0 x rfl
  rwa [List.length_cons,Nat.add_sub_cancel,Nat.sub_zero] at this
theorem Sk.under {A sk:List Int} {k:Nat} {x:Int} (h:Sk A sk) (hx:sk[k]?=some x):A.getD (sk.length - 1 - k) 0=x:=h.at_ k x hx
/-- A scan in memory, in block g, its cells in block cb. -/
structure Sc (B:Nat) (w:World) (g cb:Nat) (kv lv:Value) (now most:Int) (A:List Int) (s:St):Prop where
  row:w.heap[g]?=some (.cells (scv kv lv (.slice (some ⟨cb,0,none⟩) s.cs.length s.cs.length) now most s.st s.pc A s.sk.length).toArray 101 (0,0))
  cel:Row64 w cb s.cs
  sk:Sk A s.sk
  ne:g ≠ cb
  gB:B≤g
  cB:B≤cb
theorem Sc.lt {B:Nat} {w:World} {g cb:Nat} {kv lv:Value} {now most:Int} {A:List Int} {s:St} (h:Sc B w g cb kv lv now most A s):g < w.heap.size:=row_lt h.row
theorem Sc.wB {B:Nat} {w:World} {g cb:Nat} {kv lv:Value} {now most:Int} {A:List Int} {s:St} (h:Sc B w g cb kv lv now most A s):B≤w.heap.size:=Nat.le_of_lt (Nat.lt_of_le_of_lt h.gB h.lt)
theorem Sc.below {B:Nat} {w u:World} {g cb:Nat} {kv lv:Value} {now most:Int} {A:List Int} {s:St} (h:Sc B w g cb kv lv now most A s) (k:Below w.heap.size w u):Sc B u g cb kv lv now most A s :=
  ⟨(k.block g (row_lt h.row)).trans h.row,(k.block cb (row_lt h.cel)).trans h.cel,h.sk,h.ne,h.gB,h.cB⟩
/-- One of the scan's own cells is turned. -/
theorem Sc.set {B:Nat} {w:World} {g cb:Nat} {kv lv:Value} {now most:Int} {A A':List Int} {s:St} (h:Sc B w g cb kv lv now most A s) (i:Nat) (v:Value) (t:St) (hc:t.cs=s.cs) (hs:Sk A' t.sk)
    (e:(scv kv lv (.slice (some ⟨cb,0,none⟩) s.cs.length s.cs.length) now most s.st s.pc A s.sk.length).set i v=scv kv lv (.slice (some ⟨cb,0,none⟩) s.cs.length s.cs.length) now most t.st t.pc A' t.sk.length) :
    Sc B (w.setCell ⟨g,i,none⟩ v) g cb kv lv now most A' t∧Below B w (w.setCell ⟨g,i,none⟩ v):=by
  have t1:Turn g w (w.setCell ⟨g,i,none⟩ v):=(Turn.refl g w).set i v
  refine ⟨⟨?_,?_,hs,h.ne,h.gB,h.cB⟩,t1.below h.gB h.wB⟩
  · rw [hc,← e];exact set_row h.row v
  · rw [hc];exact (t1.block cb (row_lt h.cel) (fun e=>h.ne (by simpa using e.symm))).trans h.cel
theorem Sc.drew {B:Nat} {w:World} {g cb:Nat} {kv lv:Value} {now most:Int} {A:List Int} {s:St} (h:Sc B w g cb kv lv now most A s) (n:Nat):Sc B (w.drewN n) g cb kv lv now most A s:=⟨h.row,h.cel,h.sk,h.ne,h.gB,h.cB⟩
theorem below_dn {B:Nat} {a w:World} {g cb:Nat} {kv lv:Value} {now most:Int} {A:List Int} {s:St} (h:Below B a w) (k:Sc B w g cb kv lv now most A s) (n:Nat):Below B a (w.drewN n) :=
  h.trans ((Same.drewN w n).below.mono k.wB)
set_option maxHeartbeats 800000 in
set_option maxRecDepth 100000 in
/-- The last number is taken off. -/
theorem pop_c {B:Nat} {w:World} {g cb:Nat} {kv lv:Value} {now most:Int} {A:List Int} {pc st:Nat} {cs r:List Int} {x:Int} (h:Sc B w g cb kv lv now most A ⟨pc,cs,x :: r,st⟩) :
    Calls Tryz.prog 59 #[.pointer (some ⟨g,0,none⟩)] w fun e w'=>e=.returned (.int .i64 x)∧Sc B w' g cb kv lv now most A ⟨pc,cs,r,st⟩∧Below B w w':=by
  obtain ⟨n,hn⟩:∃ n,n=r.length:=⟨_,rfl⟩
  have hn2:n < 256:=by have:=h.sk.le;simp only [List.length_cons] at this;omega
  have c0:w.cell? ⟨g,263,none⟩=some (.int .i64 ((n:Int)+1)):=by
    have:=cell_row (k:=263) h.row (scv_dep h.sk.len)
    rw [this,hn];simp
  have S:=hid_as (h.set 263 (.int .i64 (n:Int)) ⟨pc,cs,r,st⟩ rfl h.sk.pop (by rw [hn];exact scv_setD h.sk.len _))
  have c1:(w.setCell ⟨g,263,none⟩ (.int .i64 (n:Int))).cell? ⟨g,263,none⟩=some (.int .i64 (n:Int)):=by
    have:=cell_row (k:=263) S.out.1.row (scv_dep h.sk.len)
    rw [this,hn]
  have c2:(w.setCell ⟨g,263,none⟩ (.int .i64 (n:Int))).cell? ⟨g,7+n,none⟩=some (.int .i64 x):=by
    have:=cell_row S.out.1.row (scv_stk (j:=n) (by rw [h.sk.len];exact hn2))
    rw [this,hn,h.sk.top]
  have f0:w.frozen? ⟨g,263,none⟩=false:=frozen_row h.row
  clear h hn
  go_enter Tryz.func59,Tryz.ntmps59
  go_wp2
  generalize (w.setCell ⟨g,263,none⟩ (.int .i64 (n:Int)))=W1 at *
  go_quiet (fail)
  go_wp2
  go_ret
  exact ⟨rfl,S.out.1.drew _,below_dn S.out.2 S.out.1 _⟩
theorem Sk.over {A sk:List Int} (h:Sk A sk) (n:Int):Sk (A.set sk.length n) sk:=by
  refine ⟨by rw [List.length_set];exact h.len,h.le,fun j x hx=>?_⟩
  have hj:j < sk.length:=(List.getElem?_eq_some_iff.1 hx).1
  rw [List.getD_eq_getElem?_getD,List.getElem?_set_ne (by omega),← List.getD_eq_getElem?_getD]
  exact h.at_ j x hx
theorem Sk.up {A sk:List Int} (h:Sk A sk) (hl:sk.length < 256):Sk A (A.getD sk.length 0 :: sk):=by
  refine ⟨h.len,by rw [List.length_cons];omega,fun j x hx=>?_⟩
  match j,hx with
  | 0,hx =>
    simp at hx
    rw [List.length_cons,Nat.add_sub_cancel,Nat.sub_zero,List.getD_eq_getElem?_getD]
    exact hx
  | j+1,hx =>
    have hx':sk[j]?=some x:=by simpa using hx
    rw [List.length_cons,show sk.length+1 - 1 - (j+1)=sk.length - 1 - j by omega]
    exact h.at_ j x hx'
/-- The depth's cell and a stack's. -/
theorem Sc.dep {B:Nat} {w:World} {g cb:Nat} {kv lv:Value} {now most:Int} {A:List Int} {s:St} (h:Sc B w g cb kv lv now most A s):w.cell? ⟨g,263,none⟩=some (.int .i64 (s.sk.length:Int)):=cell_row (k:=263) h.row (scv_dep h.sk.len)
theorem Sc.stk {B:Nat} {w:World} {g cb:Nat} {kv lv:Value} {now most:Int} {A:List Int} {s:St} (h:Sc B w g cb kv lv now most A s) (n:Nat) (hn:n < 256):w.cell? ⟨g,7+n,none⟩=some (.int .i64 (A.getD n 0)):=cell_row h.row (scv_stk (by rw [h.sk.len];exact hn))
theorem Sc.fr {B:Nat} {w:World} {g cb:Nat} {kv lv:Value} {now most:Int} {A:List Int} {s:St} (h:Sc B w g cb kv lv now most A s) (n:Nat):w.frozen? ⟨g,n,none⟩=false:=frozen_row h.row
theorem Sc.heap {B:Nat} {w W:World} {g cb:Nat} {kv lv:Value} {now most:Int} {A:List Int} {s:St} (h:Sc B w g cb kv lv now most A s) (e:W.heap=w.heap):Sc B W g cb kv lv now most A s :=
  ⟨by rw [e];exact h.row,by show W.heap[cb]?=_;rw [e];exact h.cel,h.sk,h.ne,h.gB,h.cB⟩
set_option maxHeartbeats 800000 in
set_option maxRecDepth 100000 in
/-- A number is put on. -/
theorem push_c {B:Nat} {w:World} {g cb:Nat} {kv lv:Value} {now most:Int} {A:List Int} {pc st:Nat} {cs r:List Int} (x:Int) (h:Sc B w g cb kv lv now most A ⟨pc,cs,r,st⟩) (hl:r.length < 256) :
    Calls Tryz.prog 74 #[.pointer (some ⟨g,0,none⟩),.int .i64 x] w fun e w'=>e=.returned (.tuple #[])∧(∃ A',Sc B w' g cb kv lv now most A' ⟨pc,cs,x :: r,st⟩)∧Below B w w':=by
  obtain ⟨n,hn⟩:∃ n,n=r.length:=⟨_,rfl⟩
  have hn2:n < 256:=by omega
  have c0:w.cell? ⟨g,263,none⟩=some (.int .i64 (n:Int)):=by rw [hn];exact h.dep
  have c1:=h.stk n hn2
  have f1:=h.fr (7+n)
  have S:Hid (Sc B (w.setCell ⟨g,7+n,none⟩ (.int .i64 x)).drew g cb kv lv now most (A.set n x) ⟨pc,cs,r,st⟩∧Below B w (w.setCell ⟨g,7+n,none⟩ (.int .i64 x)).drew):=by
    have q:=h.set (7+n) (.int .i64 x) ⟨pc,cs,r,st⟩ rfl (A':=A.set n x) (by rw [hn];exact h.sk.over x) (scv_setA (by rw [h.sk.len];exact hn2) x)
    exact ⟨q.1.heap rfl,below_dn q.2 q.1 1⟩
  have D1:Hid ((w.setCell ⟨g,7+n,none⟩ (.int .i64 x)).drew.cell? ⟨g,263,none⟩=some (.int .i64 (n:Int))):=by
    have q:=S.out.1.dep
    rw [← hn] at q
    exact q
  have hn3:(n:Int) < 256:=by omega
  have hn4:(0:Int)≤(n:Int):=by omega
  have HK:Hid (Sk (A.set n x) (x :: r)):=by rw [hn];exact h.sk.push hl x
  have HN:=hid_as hn
  clear h hn hl
  go_enter Tryz.func74,Tryz.ntmps74
  go_wp2
  go_region_held3 (fun W=>W.cell? ⟨g,263,none⟩=some (.int .i64 (n:Int))) (first | exact c0 | exact D1.out) (fail)
  have f2:=S.out.1.fr 263
  clear D1
  generalize (w.setCell ⟨g,7+n,none⟩ (.int .i64 x)).drew=W1 at *
  have Z:Hid (Sc B (W1.setCell ⟨g,263,none⟩ (.int .i64 ((n:Int)+1))) g cb kv lv now most (A.set n x) ⟨pc,cs,x :: r,st⟩∧Below B w (W1.setCell ⟨g,263,none⟩ (.int .i64 ((n:Int)+1)))):=by
    have q:=S.out.1.set 263 (.int .i64 ((n:Int)+1)) ⟨pc,cs,x :: r,st⟩ rfl HK.out (by rw [scv_setD S.out.1.sk.len,HN.out];simp)
    exact ⟨q.1,S.out.2.trans q.2⟩
  clear S c0 c1 f1
  go_wp2
  go_end0
  exact ⟨rfl,⟨_,Z.out.1⟩,Z.out.2⟩
set_option maxHeartbeats 800000 in
set_option maxRecDepth 100000 in
/-- The number that has so many above it. -/
theorem under_c {B:Nat} {w:World} {g cb:Nat} {kv lv:Value} {now most:Int} {A:List Int} {s:St} (k:Nat) (h:Sc B w g cb kv lv now most A s) (hk:k < s.sk.length) :
    Calls Tryz.prog 76 #[.pointer (some ⟨g,0,none⟩),.int .i64 (k:Int)] w fun e w'=>e=.returned (.int .i64 (s.sk.getD k 0))∧Same w w':=by
  obtain ⟨n,hn⟩:∃ n,n=s.sk.length - 1 - k:=⟨_,rfl⟩
  have hle:=h.sk.le
  have hn2:n < 256:=by omega
  have c0:w.cell? ⟨g,263,none⟩=some (.int .i64 (((n:Int)+k)+1)):=by
    rw [h.dep,show ((n:Int)+k)+1=(s.sk.length:Int) by omega]
  have c1:=h.stk n hn2
  have e1:A.getD n 0=s.sk.getD k 0:=by
    rw [hn]
    refine h.sk.under ?_
    rw [List.getD_eq_getElem?_getD,List.getElem?_eq_getElem hk];rfl
  rw [e1] at c1
  obtain ⟨x,hx⟩:∃ x,x=s.sk.getD k 0:=⟨_,rfl⟩
  rw [← hx] at c1 ⊢
  have hn3:(n:Int) < 256:=by omega
  have hn4:(0:Int)≤(n:Int):=by omega
  have hk3:(k:Int) < 256:=by omega
  have hk4:(0:Int)≤(k:Int):=by omega
  have q1:IntKind.i64.wrap ((n:Int)+k+1 - 1)=(n:Int)+k:=by rw [IntKind.wrap_i64];omega
  have q2:IntKind.i64.wrap ((n:Int)+k - k)=(n:Int):=by rw [IntKind.wrap_i64];omega
  clear h hn hle e1 hx hk
  go_enter Tryz.func76,Tryz.ntmps76
  go_wp2
  go_quiet (fail)
  go_wp2
  go_ret
  exact ⟨rfl,Same.drewN _ _⟩
end Go.Proofs.YthjclogkcmomkaaGreatDoor
