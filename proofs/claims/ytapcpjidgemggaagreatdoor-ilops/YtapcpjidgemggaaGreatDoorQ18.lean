/- Rows that grow; trees in a row (stage 13). · A call's operands (stage 13). -/
import Derived.Maps.AppendAt
import Derived.WalkMore
import Derived.Deep.CutRange
import Derived.Deep.CutBlock
import Derived.Test.YtapcpjidgemggaaGreatDoorQ17
namespace Go.Proofs.YtapcpjidgemggaaGreatDoor
open Go.RowKit
open Adr Lx Sx
theorem Kp.grown {rb:Nat} {a W w:World} {row:Option Nat} (h:Kp rb a W) (hg:W.grownBy w row) (hr:∀ k,row=some k→a.heap.size≤k):Kp rb a w :=
  ⟨hg.os.trans h.os,hg.tape.trans h.tape,hg.output.trans h.output,Nat.le_trans h.size hg.size,fun j h1 h2=>(hg.block j (Nat.lt_of_lt_of_le h1 h.size) (fun e=>by have:=hr j e.symm;omega)).trans (h.block j h1 h2)⟩
theorem Bk.grown {W w:World} {row:Option Nat} {g:Nat} {cs:Array Value} (h:Bk W g cs) (hg:W.grownBy w row) (hr:row ≠ some g):Bk w g cs:=by
  have hl:=h.lt
  obtain ⟨t,h⟩:=h
  exact ⟨t,(hg.block g hl (Ne.symm hr)).trans h⟩
theorem Rd.grown {W w:World} {row:Option Nat} {rb tb cap:Nat} {T:TL} {i:Nat} (h:Rd W rb tb cap T i) (hg:W.grownBy w row) (h1:row ≠ some rb) (h2:row ≠ some tb):Rd w rb tb cap T i :=
  ⟨h.own.grown hg h1,fun a u hu=>(World.cell?_of_block (w:=W) (hg.block tb h.lt (Ne.symm h2))).trans (h.laid a u hu),Nat.lt_of_lt_of_le h.lt hg.size,h.ne,h.wf,h.ir⟩
theorem Et.grown {S:Nat→Prop} {W w:World} {row:Option Nat} {v:Value} {t:Tr} (h:Et S W v t) (hg:W.grownBy w row) (hr:∀ k,row=some k→¬ S k):Et S w v t:=by
  obtain ⟨d,h⟩:=h
  exact ⟨d,h.keep hg.size (fun x hx hl=>hg.block x hl (fun e=>hr x e.symm hx))⟩
/-- One thing more at the end of a row. -/
theorem push_at {base te e n b:Nat} {z:Value} {W:World} {v:Value} {m:Nat} {xs:List Value} {cs:Array Value} (hu:Tryz.prog.underlying te=some (.slice e)) (hi:(Tryz.prog.info? e).map (fun i=>(i.zero,i.size,i.bytes))=some (some z,n,b)) (hz:z.cells.size=n) (hn:0 < n) (hb:b≤1000)
    (o:W.ownsRow base e n v m xs) (hm:m≤1000001) (hbase:base≤W.heap.size) (hc:cs.toList.length=n) (h1:∀ u ∈ cs.toList,u.oneCell'=true) :
    ∃ v' w',(Builtin.append_ #[te,te] te #[v,.slice (some ⟨W.heap.size,0,none⟩) 1 1]).run Tryz.prog (W.alloc (.cells cs e))=.ok v' w'∧w'.ownsRow base e n v' (m+1) (xs ++ cs.toList)∧(W.alloc (.cells cs e)).grownBy w' v.ownBlock∧(v'.ownBlock=v.ownBlock ∨ v'.ownBlock=some (W.heap.size+1)):=by
  obtain ⟨i0,hi,hz0,hz1,hz2⟩:=info_parts hi
  have oA:(W.alloc (.cells cs e)).ownsRow base e n v m xs:=by
    refine ⟨o.1,?_⟩
    rcases o.2 with h' | ⟨g,cap,cur,rfl,hb,hg,r⟩
    · exact Or.inl h'
    · exact Or.inr ⟨g,cap,cur,rfl,hb,((below_new1 W (.cells cs e)).block g (World.ownsRow.lt o g rfl).2).trans hg,r⟩
  have hF:=Bk.fresh W cs e
  obtain ⟨v',w',hr,hown,hg,_,hw⟩:=run_append_own_at (P:=Tryz.prog) (W.alloc (.cells cs e)) base te te e i0 z n b hu hi hz0 hz1 hz2 hz hn v m xs oA ⟨W.heap.size,0,none⟩ 1 1 cs.toList (by rw [hc,Nat.one_mul])
    (fun j u hj=>by rw [show (⟨W.heap.size,0,none⟩:Addr).add j=⟨W.heap.size,j,none⟩ by (simp [Addr.add];omega),hF.cell j,← Array.getElem?_toList];exact hj) h1 (by simp only [maxLen];omega) (Nat.le_trans (Nat.mul_le_mul (show m+1≤1000002 by omega) hb) (by decide)) (by simp;omega)
  exact ⟨v',w',hr,hown,hg,by rw [World.size_alloc] at hw;exact hw⟩
theorem info7:(Tryz.prog.info? 53).map (fun i=>(i.zero,i.size,i.bytes))=some (some (.agg #[.int .i64 0,.int .i64 0,.int .i64 0,.string ⟨#[]⟩,.string ⟨#[]⟩,.slice none 0 0,.int .i64 0]),7,88):=by kernel_rfl
/-- These cells are these trees, one behind the other. -/
def Us (S:Nat→Prop) (w:World) (xs:List Value) (ts:List Tr):Prop:=xs.length=ts.length * 7∧∀ j t,ts[j]?=some t→∃ o k n nm fl L p,
  (xs[j * 7]?=some (.int .i64 o)∧xs[j * 7+1]?=some (.int .i64 k)∧xs[j * 7+2]?=some (.int .i64 n)∧xs[j * 7+3]?=some (.string nm)∧xs[j * 7+4]?=some (.string fl)∧xs[j * 7+5]?=some L∧xs[j * 7+6]?=some (.int .i64 p))∧Et S w (.agg #[.int .i64 o,.int .i64 k,.int .i64 n,.string nm,.string fl,L,.int .i64 p]) t
theorem Us.all {S S':Nat→Prop} {w w':World} {xs:List Value} {ts:List Tr} (h:Us S w xs ts) (f:∀ v t,Et S w v t→Et S' w' v t):Us S' w' xs ts:=by
  refine ⟨h.1,fun j t ht=>?_⟩
  obtain ⟨o,k,n,nm,fl,L,p,a,b⟩:=h.2 j t ht
  exact ⟨o,k,n,nm,fl,L,p,a,f _ _ b⟩
theorem Us.one {S:Nat→Prop} {w:World} {o k n:Int} {nm fl:ByteArray} {L:Value} {p:Int} {t:Tr} (h:Et S w (.agg #[.int .i64 o,.int .i64 k,.int .i64 n,.string nm,.string fl,L,.int .i64 p]) t):Us S w [.int .i64 o,.int .i64 k,.int .i64 n,.string nm,.string fl,L,.int .i64 p] [t]:=by
  refine ⟨rfl,fun j t ht=>?_⟩
  cases j with
  | zero=>obtain rfl:=Option.some.inj ht;exact ⟨o,k,n,nm,fl,L,p,⟨rfl,rfl,rfl,rfl,rfl,rfl,rfl⟩,h⟩
  | succ j=>simp at ht
theorem Us.push {S:Nat→Prop} {w:World} {xs:List Value} {ts:List Tr} (h:Us S w xs ts) {o k n:Int} {nm fl:ByteArray} {L:Value} {p:Int} {t:Tr} (ht:Et S w (.agg #[.int .i64 o,.int .i64 k,.int .i64 n,.string nm,.string fl,L,.int .i64 p]) t):Us S w (xs ++ [.int .i64 o,.int .i64 k,.int .i64 n,.string nm,.string fl,L,.int .i64 p]) (ts ++ [t]):=by
  refine ⟨by simp [h.1];omega,fun j u hu=>?_⟩
  by_cases hj:j < ts.length
  · rw [List.getElem?_append_left hj] at hu
    obtain ⟨o,k,n,nm,fl,L,p,⟨a0,a1,a2,a3,a4,a5,a6⟩,b⟩:=h.2 j u hu
    have hl:∀ c,c < 7→j * 7+c < xs.length:=fun c hc=>by rw [h.1];omega
    refine ⟨o,k,n,nm,fl,L,p,⟨?_,?_,?_,?_,?_,?_,?_⟩,b⟩
    · rw [List.getElem?_append_left (show j * 7 < _ from hl 0 (by omega))];exact a0
    · rw [List.getElem?_append_left (hl 1 (by omega))];exact a1
    · rw [List.getElem?_append_left (hl 2 (by omega))];exact a2
    · rw [List.getElem?_append_left (hl 3 (by omega))];exact a3
    · rw [List.getElem?_append_left (hl 4 (by omega))];exact a4
    · rw [List.getElem?_append_left (hl 5 (by omega))];exact a5
    · rw [List.getElem?_append_left (hl 6 (by omega))];exact a6
  · rw [List.getElem?_append_right (by omega)] at hu
    obtain rfl:j=ts.length:=by
      by_cases hz:j - ts.length=0
      · omega
      · obtain ⟨q,hq⟩:∃ q,j - ts.length=q+1:=⟨j - ts.length - 1,by omega⟩
        rw [hq] at hu
        simp at hu
    rw [Nat.sub_self] at hu
    obtain rfl:=Option.some.inj hu
    refine ⟨o,k,n,nm,fl,L,p,⟨?_,?_,?_,?_,?_,?_,?_⟩,ht⟩
    all_goals rw [← h.1,List.getElem?_append_right (by omega)]
    all_goals first | rw [Nat.sub_self] | rw [Nat.add_sub_cancel_left]
    all_goals rfl
theorem Et.nodeN {S:Nat→Prop} {w:World} {d:Nd} {g cap:Nat} {ts:List Tr} {xs:List Value} (ha:d.ar=ts.length) (h0:0 < ts.length) (hc:ts.length≤cap) (hS:S g) (hg:g < w.heap.size) (hf:∀ i,w.frozen? ⟨g,i,none⟩=false) (hr:∀ j u,xs[j]?=some u→w.cell? ⟨g,j,none⟩=some u) (us:Us S w xs ts) :
    Et S w (ev d.op d.kind d.n (tx d.name) (tx d.field) (.slice (some ⟨g,0,none⟩) ts.length cap) d.pl) (mkT d ts):=by
  have key:∀ m,m≤ts.length→∃ D,∀ j t,j < m→ts[j]?=some t→∃ o k n nm fl L p,RowE w g j o k n nm fl L p∧EA S D w (ev o k n nm fl L p) t:=by
    intro m
    induction m with
    | zero=>exact fun _=>⟨0,fun j t hj=>by omega⟩
    | succ m ih =>
      intro hm
      obtain ⟨D,hD⟩:=ih (by omega)
      obtain ⟨o,k,n,nm,fl,L,p,⟨a0,a1,a2,a3,a4,a5,a6⟩,⟨D',hb⟩⟩:=us.2 m _ (List.getElem?_eq_getElem (show m < ts.length by omega))
      refine ⟨max D D',fun j t hj ht=>?_⟩
      by_cases e:j=m
      · subst e
        rw [List.getElem?_eq_getElem (show j < ts.length by omega)] at ht
        obtain rfl:=Option.some.inj ht
        exact ⟨o,k,n,nm,fl,L,p,⟨hr _ _ a0,hr _ _ a1,hr _ _ a2,hr _ _ a3,hr _ _ a4,hr _ _ a5,hr _ _ a6⟩,hb.deeper (Nat.le_max_right _ _)⟩
      · obtain ⟨o,k,n,nm,fl,L,p,x,y⟩:=hD j t (by omega) ht
        exact ⟨o,k,n,nm,fl,L,p,x,y.deeper (Nat.le_max_left _ _)⟩
  obtain ⟨D,hD⟩:=key ts.length (Nat.le_refl _)
  refine ⟨D+1,d,_,rfl,rfl,Or.inr ⟨g,cap,by rw [ha],by omega,by omega,hS,hg,hf,fun j hj=>?_⟩⟩
  have hj':j < ts.length:=by omega
  obtain ⟨o,k,n,nm,fl,L,p,x,y⟩:=hD j _ hj' (List.getElem?_eq_getElem hj')
  exact ⟨o,k,n,nm,fl,L,p,x,by rw [mkT_at (List.getElem?_eq_getElem hj')];exact y⟩
theorem Et.one {S:Nat→Prop} {w:World} {a b c d e L f:Value} {t:Tr} (h:Et S w (.agg #[a,b,c,d,e,L,f]) t):L.oneCell'=true:=by
  obtain ⟨m,h⟩:=h
  cases m with
  | zero=>exact h.elim
  | succ m =>
    obtain ⟨nd,M,_,hv,hL⟩:=h
    unfold ev at hv
    simp only [Value.agg.injEq,Array.mk.injEq,List.cons.injEq] at hv
    obtain ⟨_,_,_,_,_,rfl,_⟩:=hv
    rcases hL with ⟨_,rfl⟩ | ⟨g,cap,rfl,_⟩ <;> rfl
theorem us_step {base rb g s:Nat} {wr w3 w5:World} {ob:Obj} {xs:List Value} {ts:List Tr} {o k n:Int} {nm fl:ByteArray} {L:Value} {p:Int} {t:Tr} {v5:Value} (hU:Us (fun x=>base≤x∧x ≠ g) wr xs ts) (hk:Kp rb wr w3) (hrb:rb < base) (hb:base≤s) (hgs:g < s)
    (E3:Et (fun x=>s≤x) w3 (.agg #[.int .i64 o,.int .i64 k,.int .i64 n,.string nm,.string fl,L,.int .i64 p]) t) (hg5:(w3.alloc ob).grownBy w5 (some g)) (hw5:v5.ownBlock=some g ∨ v5.ownBlock=some (w3.heap.size+1)) :
    ∃ g',v5.ownBlock=some g'∧Us (fun x=>base≤x∧x ≠ g') w5 (xs ++ [.int .i64 o,.int .i64 k,.int .i64 n,.string nm,.string fl,L,.int .i64 p]) (ts ++ [t]):=by
  have hs:=hk.size
  have U3:Us (fun x=>base≤x∧x ≠ g∧x ≠ w3.heap.size+1) w3 xs ts:=hU.all fun v t e=>(e.kp hk (fun h=>by have:base≤rb:=h.1;omega)).into (fun x hx hl=>⟨hx.1,hx.2,by omega⟩)
  have T3:Et (fun x=>base≤x∧x ≠ g∧x ≠ w3.heap.size+1) w3 (.agg #[.int .i64 o,.int .i64 k,.int .i64 n,.string nm,.string fl,L,.int .i64 p]) t:=E3.into (fun x (hx:s≤x) hl=>⟨by omega,by omega,by omega⟩)
  have U5:=(U3.push T3).all (S':=fun x=>base≤x∧x ≠ g∧x ≠ w3.heap.size+1) (w':=w5) fun v t e=>(e.alloc ob).grown hg5 (fun k hk h=>by obtain rfl:=Option.some.inj hk;exact h.2.1 rfl)
  rcases hw5 with h | h
  · exact ⟨g,h,U5.all fun v t e=>e.into (fun x hx _=>⟨hx.1,hx.2.1⟩)⟩
  · exact ⟨w3.heap.size+1,h,U5.all fun v t e=>e.into (fun x hx _=>⟨hx.1,hx.2.2⟩)⟩
end Go.Proofs.YtapcpjidgemggaaGreatDoor
namespace Go.Proofs.YtapcpjidgemggaaGreatDoor
open Go.RowKit
open Adr Lx Sx
/-- Where the reader is, in memory. -/
def rdn (rb:Nat) (w:World):Nat:=(((w.cell? ⟨rb,1,none⟩).map intOf).getD 0).toNat
theorem Rd.rdn {w:World} {rb tb cap:Nat} {T:TL} {i:Nat} (h:Rd w rb tb cap T i):rdn rb w=i:=by
  have q:=h.own.cell 1
  unfold Go.Proofs.YtapcpjidgemggaaGreatDoor.rdn
  rw [q]
  rfl
theorem own_kp {base e n:Nat} {rb:Nat} {W w:World} {v:Value} {m:Nat} {xs:List Value} (o:W.ownsRow base e n v m xs) (k:Kp rb W w) (hb:rb < base):w.ownsRow base e n v m xs:=by
  refine ⟨o.1,?_⟩
  rcases o.2 with h' | ⟨g,cap,cur,rfl,hb',hg,r⟩
  · exact Or.inl h'
  · exact Or.inr ⟨g,cap,cur,rfl,hb',(k.block g (World.ownsRow.lt o g rfl).2 (by omega)).trans hg,r⟩
theorem own_one {base e n:Nat} {W:World} {cs:Array Value} (hb:base≤W.heap.size) (hc:cs.size=n):(W.alloc (.cells cs e)).ownsRow base e n (.slice (some ⟨W.heap.size,0,none⟩) 1 1) 1 cs.toList :=
  ⟨by rw [Array.length_toList,hc,Nat.one_mul],Or.inr ⟨W.heap.size,1,cs,rfl,hb,(MapKept.heap_alloc W (.cells cs e)).1,Nat.le_refl _,by decide,by rw [hc,Nat.one_mul],by rw [Nat.one_mul,← hc,← Array.length_toList,List.take_length]⟩⟩
set_option maxHeartbeats 4000000 in
set_option maxRecDepth 100000 in
theorem p_call {w:World} {rb tb cap:Nat} {T:TL} {i:Nat} (h:Rd w rb tb cap T i) (ta tk:Nat) (tn:Int) (tt:List UInt8) (pl:Nat) (dp:Nat) (hd:dp≤40) (x:Nat→Re Tr)(X:Hid (∀ W i,Rd W rb tb cap T i→Calls Tryz.prog 186 #[.pointer (some ⟨rb,0,none⟩),.int .i64 ((dp:Int)+1)] W fun e w'=>Outc rb tb cap T i W (x i) (qE W) e w')):Calls Tryz.prog 199 #[.pointer (some ⟨rb,0,none⟩),.agg #[.int .i64 ta,.int .i64 tk,.int .i64 tn,.string (tx tt),.int .i64 pl],.int .i64 dp] w fun e w'=>Outc rb tb cap T i w (cal T x (⟨ta,tk,tn,tt⟩,pl) i) (qE w) e w':=by
  have hrl:=h.rlt
  have htl:=h.lt
  have hwf:=h.wf.1
  have B0:Hid (Bk ((w.alloc (.cells #[.int .i64 ta,.int .i64 tk,.int .i64 tn,.string (tx tt),.int .i64 pl] 42)).alloc (.cells #[.int .i64 0,.int .i64 0,.int .i64 0,.string ⟨#[]⟩,.string ⟨#[]⟩,.slice none 0 0,.int .i64 0] 53)) (w.heap.size+1) #[.int .i64 0,.int .i64 0,.int .i64 0,.string ⟨#[]⟩,.string ⟨#[]⟩,.slice none 0 0,.int .i64 0]):=by
    have q:=Bk.fresh (w.alloc (.cells #[.int .i64 ta,.int .i64 tk,.int .i64 tn,.string (tx tt),.int .i64 pl] 42)) #[.int .i64 0,.int .i64 0,.int .i64 0,.string ⟨#[]⟩,.string ⟨#[]⟩,.slice none 0 0,.int .i64 0] 53
    rw [World.size_alloc] at q
    exact hid_as q
  have A0:Hid (Bk ((w.alloc (.cells #[.int .i64 ta,.int .i64 tk,.int .i64 tn,.string (tx tt),.int .i64 pl] 42)).alloc (.cells #[.int .i64 0,.int .i64 0,.int .i64 0,.string ⟨#[]⟩,.string ⟨#[]⟩,.slice none 0 0,.int .i64 0] 53)) w.heap.size #[.int .i64 ta,.int .i64 tk,.int .i64 tn,.string (tx tt),.int .i64 pl]):=hid_as ((Bk.fresh w #[.int .i64 ta,.int .i64 tk,.int .i64 tn,.string (tx tt),.int .i64 pl] 42).alloc _)
  have K0:=hid_as (((Kp.refl rb w).alloc (.cells #[.int .i64 ta,.int .i64 tk,.int .i64 tn,.string (tx tt),.int .i64 pl] 42)).alloc (.cells #[.int .i64 0,.int .i64 0,.int .i64 0,.string ⟨#[]⟩,.string ⟨#[]⟩,.slice none 0 0,.int .i64 0] 53))
  have H:=hid_as ((h.alloc (.cells #[.int .i64 ta,.int .i64 tk,.int .i64 tn,.string (tx tt),.int .i64 pl] 42)).alloc (.cells #[.int .i64 0,.int .i64 0,.int .i64 0,.string ⟨#[]⟩,.string ⟨#[]⟩,.slice none 0 0,.int .i64 0] 53))
  have em:cal T x (⟨ta,tk,tn,tt⟩,pl) i=th (x i) fun a k=>th (rp (isT T [44]) (fun l m=>th (x (m+1)) fun a z=>ok (l ++ [a]) z) (T.length+1) [a] k) (fun l m=>th (xp T [41] m) fun _ z=>ok (mkT ⟨19,0,0,tt,[],pl,l.length⟩ l) z):=rfl
  generalize cal T x (⟨ta,tk,tn,tt⟩,pl) i=M at *
  have M0:=hid_as em
  have C:Hid (∀ W i,Rd W rb tb cap T i→Calls Tryz.prog 87 #[.pointer (some ⟨rb,0,none⟩),.string ⟨#[41]⟩] W fun e w'=>Outc rb tb cap T i W (xp T [41] i) (qU W) e w'):=expect_c ⟨#[41]⟩ (by decide)
  clear h em
  go_enter Tryz.func199,Tryz.ntmps199
  go_wp2_with (first
    | (go_at_call 186;(with_reducible refine (X.out _ i H.out).mono ?_);rintro e w1 ⟨k1,⟨t1,i1,_,m1,rfl,⟨o1,kd1,v1,nm1,fl1,lp1,ln1,lc1,p1,rfl,E1'⟩,r1,l1⟩ | ⟨n1,i1,m1,rfl⟩⟩;rotate_left;exact And.intro rfl (Outc.stop M0.out m1 ((K0.out).trans k1));have R1:=hid_as r1;have K1:=hid_as ((K0.out).trans k1);have M1:=hid_as (th_go M0.out m1);have B1:=hid_as (B0.out.kp k1 (by omega));have A1:=hid_as (A0.out.kp k1 (by omega));have z1:=K1.out.size;have q1:=k1.size;(try rw [World.size_alloc] at q1);have J1:=hid_as k1;clear k1 r1 m1;have E1:=hid_as E1';clear E1';have y1:=B1.out.lt))
  go_loopw [7] (fun v wr=>∃ (k f:Nat) (ts:List Tr) (xs:List Value) (g:Nat),T.length < k+f∧i≤k∧ts.length≤k+1∧0 < ts.length∧v.ownBlock=some g∧Hid (Rd wr rb tb cap T k)∧Hid (Kp rb w wr)∧Hid (Bk wr (w.heap.size+1) #[.int .i64 0,.int .i64 0,.int .i64 0,.string ⟨#[]⟩,.string ⟨#[]⟩,.slice none 0 0,.int .i64 0])∧Hid (Bk wr w.heap.size #[.int .i64 ta,.int .i64 tk,.int .i64 tn,.string (tx tt),.int .i64 pl])∧Hid (wr.ownsRow (w.heap.size+2) 53 7 v ts.length xs)∧Hid (Us (fun x=>w.heap.size+2≤x∧x ≠ g) wr xs ts)∧Hid (M=th (rp (isT T [44]) (fun l m=>th (x (m+1)) fun a z=>ok (l ++ [a]) z) f ts k) (fun l m=>th (xp T [41] m) fun _ z=>ok (mkT ⟨19,0,0,tt,[],pl,l.length⟩ l) z))) (fun _ wr=>T.length - rdn rb wr)
  case atStart =>
    refine ⟨i1,T.length+1,[t1],_,w1.heap.size,by omega,l1,by simp,by simp,rfl,hid_as (R1.out.alloc _),hid_as (K1.out.alloc _),hid_as (B1.out.alloc _),hid_as (A1.out.alloc _),hid_as (own_one (by omega) rfl),hid_as ((Us.one E1.out).all (fun v t e=>(e.into (S':=fun x=>w.heap.size+2≤x∧x ≠ w1.heap.size) (fun x hx hl=>⟨?_,by omega⟩)).alloc _)),M1⟩
    have hx':((w.alloc (.cells #[.int .i64 ta,.int .i64 tk,.int .i64 tn,.string (tx tt),.int .i64 pl] 42)).alloc (.cells #[.int .i64 0,.int .i64 0,.int .i64 0,.string ⟨#[]⟩,.string ⟨#[]⟩,.slice none 0 0,.int .i64 0] 53)).heap.size≤x:=hx
    rw [World.size_alloc,World.size_alloc] at hx'
    omega
  case round =>
    obtain ⟨k,f,ts,xs,g,hf,hik,htk,ht0,hg,hR,hK,hB,hA,hO,hU,hM⟩:=hrel
    have hat:=hid_as hR.out.rdn
    have hkl:=hR.out.ir
    have hgl:=World.ownsRow.lt hO.out g hg
    have z0:=hK.out.size
    obtain ⟨f,rfl⟩:∃ f',f=f'+1:=⟨f - 1,by omega⟩
    cases hc:isT T [44] k with
    | true =>
      have A2:Hid (∀ W,Rd W rb tb cap T (k)→Calls Tryz.prog 85 #[.pointer (some ⟨rb,0,none⟩),.string ⟨#[44]⟩] W fun e w'=>e=.returned (.bool true)∧Kp rb W w'∧Rd w' rb tb cap T (k+1)):=fun W H=>accept_y H ⟨#[44]⟩ hc (by decide)
      have Mr:Hid (M=th (x (k+1)) fun a z=>th (rp (isT T [44]) (fun l m=>th (x (m+1)) fun a z=>ok (l ++ [a]) z) f (ts ++ [a]) z) (fun l m=>th (xp T [41] m) fun _ z=>ok (mkT ⟨19,0,0,tt,[],pl,l.length⟩ l) z)):=by
        rw [rp_yes hM.out hc,th_th]
        exact hid_as rfl
      clear hM hc
      go_wp2_with (first
        | (go_at_call 85;(with_reducible refine (A2.out _ hR.out).mono ?_);rintro e w2 ⟨rfl,k2,r2⟩;have R2:=hid_as r2;have K2:=hid_as ((hK.out).trans k2);have B2:=hid_as (hB.out.kp k2 (by omega));have A3:=hid_as (hA.out.kp k2 (by omega));have z2:=K2.out.size;have q2:=k2.size;(try rw [World.size_alloc] at q2);have J2:=hid_as k2;clear k2 r2)
        | (go_at_call 186;(with_reducible refine (X.out _ (k+1) R2.out).mono ?_);rintro e w3 ⟨k3,⟨t3,i3,_,m3,rfl,⟨o3,kd3,v3,nm3,fl3,lp3,ln3,lc3,p3,rfl,E3'⟩,r3,l3⟩ | ⟨n3,i3,m3,rfl⟩⟩;rotate_left;exact And.intro rfl (Outc.stop Mr.out m3 ((K2.out).trans k3));have R3:=hid_as r3;have K3:=hid_as ((K2.out).trans k3);have M3:=hid_as (th_go Mr.out m3);have B3:=hid_as (B2.out.kp k3 (by omega));have A4:=hid_as (A3.out.kp k3 (by omega));have z3:=K3.out.size;have q3:=k3.size;(try rw [World.size_alloc] at q3);have J3:=hid_as k3;clear k3 r3 m3;have E3:=hid_as E3';clear E3';have y3:=B3.out.lt;have O3:=hid_as (own_kp hO.out (J2.out.trans J3.out) (by omega));obtain ⟨v5,w5,hr5,ho5,hg5,hw5⟩:=push_at (cs:=#[.int .i64 o3,.int .i64 kd3,.int .i64 v3,.string nm3,.string fl3,.slice lp3 ln3 lc3,.int .i64 p3]) Tryz.underlying48 info7 rfl (by decide) (by decide) O3.out (by omega) (by omega) rfl (by intro u hu;simp at hu;rcases hu with rfl | rfl | rfl | rfl | rfl | rfl | rfl <;> rfl);rw [hg] at hg5 hw5;have S5:=hid_as (us_step hU.out (J2.out.trans J3.out) (by omega) (by omega) (by omega) E3.out hg5 hw5);have K5:=hid_as ((K3.out.alloc _).grown hg5 (fun k hk=>by obtain rfl:=Option.some.inj hk;omega));have R5:=hid_as ((R3.out.alloc _).grown hg5 (fun e=>by have:=Option.some.inj e;omega) (fun e=>by have:=Option.some.inj e;omega));have B5:=hid_as ((B3.out.alloc _).grown hg5 (fun e=>by have:=Option.some.inj e;omega));have A5:=hid_as ((A4.out.alloc _).grown hg5 (fun e=>by have:=Option.some.inj e;omega));replace hr5:=hid_as hr5;replace ho5:=hid_as ho5;clear hg5 hw5 O3)
        | (at_builtin;refine Lib.wpList_append_run _ rfl _ _ _ _ rfl _ _ rfl rfl _ _ hr5.out ?_))
      go_roundw
      case rel =>
        obtain ⟨g',hg',U5⟩:=S5.out
        exact ⟨i3,f,ts ++ [t3],_,g',by omega,by omega,by simp;omega,by simp,hg',R5,K5,B5,A5,hid_as (by rw [List.length_append];exact ho5.out),hid_as U5,M3⟩
      case measure=>rw [R5.out.rdn,hat.out];omega
    | false =>
      have A2:Hid (∀ W,Rd W rb tb cap T (k)→Calls Tryz.prog 85 #[.pointer (some ⟨rb,0,none⟩),.string ⟨#[44]⟩] W fun e w'=>e=.returned (.bool false)∧Below W.heap.size W w'):=fun W H=>accept_n H ⟨#[44]⟩ hc
      have Mr:=hid_as (rp_not hM.out hc)
      clear hM hc
      obtain ⟨hxl,⟨_,h0⟩ | ⟨g',cp,cur,rfl,hgb,hgh,hgc,_,_,htake⟩⟩:=hO.out
      · omega
      obtain rfl:g'=g:=Option.some.inj hg
      have hcl:=hid_as (World.ownsRow.cells hO.out (g:=g') rfl)
      go_wp2_with (first
        | (go_at_call 85;(with_reducible refine (A2.out _ hR.out).mono ?_);rintro e w2 ⟨rfl,b2⟩;have R2:=hid_as ((hR.out).below b2);have K2:=hid_as ((hK.out).below b2);have B2:=hid_as (hB.out.below b2);have A3:=hid_as (hA.out.below b2);have z2:=K2.out.size;have q2:=b2.size;(try rw [World.size_alloc] at q2);have J2:=hid_as (kp_of_below (rb:=rb) b2);clear b2)
        | (go_at_call 87;(with_reducible refine (C.out _ k R2.out).mono ?_);rintro e w3 ⟨k3,⟨_,i3,_,m3,rfl,rfl,r3,l3⟩ | ⟨n3,i3,m3,rfl⟩⟩;rotate_left;exact And.intro rfl (Outc.stop Mr.out m3 ((K2.out).trans k3));have R3:=hid_as r3;have K3:=hid_as ((K2.out).trans k3);have M3:=hid_as (th_go Mr.out m3);have B3:=hid_as (B2.out.kp k3 (by omega));have A4:=hid_as (A3.out.kp k3 (by omega));have z3:=K3.out.size;have q3:=k3.size;(try rw [World.size_alloc] at q3);have J3:=hid_as k3;clear k3 r3 m3;obtain ⟨s0,s1,s2,s3,s4,s5,s6⟩:=bk7 B3.out;have sf:=B3.out.fr;obtain ⟨u0,u1,u2,u3,u4⟩:=bk5 A4.out;have uf:=A4.out.fr))
      have U3:=hU.out.all (S':=fun x=>w.heap.size+2≤x) (w':=w3) fun v t e=>((e.kp (J2.out.trans J3.out) (fun h=>by have:w.heap.size+2≤rb:=h.1;omega))).into (fun x hx _=>hx.1)
      have hcl3:∀ j u,xs[j]?=some u→w3.cell? ⟨g',j,none⟩=some u:=fun j u hj=>by
        have q:=hcl.out j u hj
        rw [show (⟨g',0,none⟩:Addr).add j=⟨g',j,none⟩ by (simp [Addr.add];omega)] at q
        exact (World.cell?_of_block (w:=wr) (a:=⟨g',j,none⟩) ((J2.out.trans J3.out).block g' hgl.2 (by omega))).trans q
      exact bodyPost_ret (v:=.agg #[.int .i64 19,.int .i64 0,.int .i64 0,.string (tx tt),.string ⟨#[]⟩,.slice (some ⟨g',0,none⟩) ts.length cp,.int .i64 pl]) (by simp [results,Tryz.results199,go_sem,s0,s1,s2,s3,s4,s5,s6]) rfl ⟨K3.out.put7 (by omega) _ _ _ _ _ _ _,Or.inl ⟨_,_,_,M3.out,rfl,⟨_,_,_,_,_,_,_,_,_,rfl,(((Et.nodeN (d:=⟨19,0,0,tt,[],pl,ts.length⟩) rfl ht0 hgc (show w.heap.size+2≤_ from hgb) (Nat.lt_of_lt_of_le hgl.2 (J2.out.trans J3.out).size) (Bk.fr (cs:=cur) ⟨_,((J2.out.trans J3.out).block g' hgl.2 (by omega)).trans hgh⟩) hcl3 U3)).set7 (by show ¬ (_≤_);omega) _ _ _ _ _ _ _).into (fun x (hx:w.heap.size+2≤x) _=>(by show w.heap.size≤x;omega))⟩,R3.out.put7 (by omega) (by omega) _ _ _ _ _ _ _,(by omega)⟩⟩
end Go.Proofs.YtapcpjidgemggaaGreatDoor
