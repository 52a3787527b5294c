/- The reader's small methods (stage 13). · Trees in memory (stage 13). · Operators, and what begins an expression; variables and literals of a token (stage 13). -/
import Derived.Deep.QuietTactic
import Derived.Test.YtapcpjidgemggaaGreatDoorQ12
namespace Go.Proofs.YtapcpjidgemggaaGreatDoor
open Go.RowKit
open Adr Lx Sx
theorem fd0 (a b c d e:Value) (w:World):(Instr.field 42 (.agg #[a,b,c,d,e]) 0).run Tryz.prog w=.ok a w:=by kernel_rfl
theorem fd1 (a b c d e:Value) (w:World):(Instr.field 42 (.agg #[a,b,c,d,e]) 1).run Tryz.prog w=.ok b w:=by kernel_rfl
theorem fd2 (a b c d e:Value) (w:World):(Instr.field 42 (.agg #[a,b,c,d,e]) 2).run Tryz.prog w=.ok c w:=by kernel_rfl
theorem fd3 (a b c d e:Value) (w:World):(Instr.field 42 (.agg #[a,b,c,d,e]) 3).run Tryz.prog w=.ok d w:=by kernel_rfl
theorem fd4 (a b c d e:Value) (w:World):(Instr.field 42 (.agg #[a,b,c,d,e]) 4).run Tryz.prog w=.ok e w:=by kernel_rfl
set_option maxHeartbeats 2000000 in
theorem now_c {w:World} {rb tb cap:Nat} {T:TL} {i:Nat} (h:Rd w rb tb cap T i):Calls Tryz.prog 136 #[.pointer (some ⟨rb,0,none⟩)] w fun e w'=>e=.returned (tv (cu T i).1 (cu T i).2)∧Below w.heap.size w w':=by
  have h1:=hid_as (h.alloc (.cells #[.int .i64 0,.int .i64 0,.int .i64 0,.string ⟨#[]⟩,.int .i64 0] 42))
  obtain ⟨k0,k1,k2,k3,k4⟩:=cell_tk h1.out.laid h.ir
  have r0:=h1.out.own.cell 0
  have r1:=h1.out.own.cell 1
  simp only [List.getElem?_toArray,List.getElem?_cons_zero,List.getElem?_cons_succ] at r0 r1
  have q1:(0:Int)≤i:=by omega
  have q2:(i:Int) < T.length:=by have:=h.ir;omega
  generalize (cu T i).2=pl at *
  generalize (cu T i).1=tk at *
  obtain ⟨ta,tk,tn,tt⟩:=tk
  simp only at k0 k1 k2 k3 k4
  go_enter Tryz.func136,Tryz.ntmps136
  go_wp2
  go_region
  go_wp2
  exact bodyPost_ret (v:=tv ⟨ta,tk,tn,tt⟩ pl) (by simp [results,Tryz.results136,go_sem,tv]) rfl ⟨rfl,(below_new1 w _).drew⟩
set_option maxRecDepth 100000 in
theorem is_c {w:World} {rb tb cap:Nat} {T:TL} {i:Nat} (h:Rd w rb tb cap T i) (s:ByteArray):Calls Tryz.prog 127 #[.pointer (some ⟨rb,0,none⟩),.string s] w fun e w'=>e=.returned (.bool (isT T s.data.toList i))∧Below w.heap.size w w':=by
  have C:=hid_as (fun W (H:Rd W rb tb cap T i)=>now_c H)
  have e1:isT T s.data.toList i=((tx (cu T i).1.text).toList == s.toList):=by rw [tx_toList,Lib.toList_data];rfl
  rw [e1]
  clear e1
  unfold tv at C
  generalize (cu T i).2=pl at *
  generalize (cu T i).1=tk at *
  obtain ⟨ta,tk,tn,tt⟩:=tk
  simp only at C ⊢
  have F3:=fd3
  go_enter Tryz.func127,Tryz.ntmps127
  go_wp2_with (go_at_call 136;(with_reducible refine (C.out _ h).mono ?_);rintro e w1 ⟨rfl,b1⟩)
  go_ret
  exact ⟨rfl,b1⟩
set_option maxRecDepth 100000 in
theorem refuse_c {w:World} {rb tb cap:Nat} {T:TL} {i:Nat} (h:Rd w rb tb cap T i) (n:Nat):Calls Tryz.prog 130 #[.pointer (some ⟨rb,0,none⟩),.int .i64 n] w fun e w'=>e=.panicked (pan T n i)∧Below w.heap.size w w':=by
  have C:=hid_as (fun W (H:Rd W rb tb cap T i)=>now_c H)
  unfold tv at C
  unfold pan ca
  generalize (cu T i).2=pl at *
  generalize (cu T i).1=tk at *
  obtain ⟨ta,tk,tn,tt⟩:=tk
  simp only at C
  have F4:=fd4
  go_enter Tryz.func130,Tryz.ntmps130
  go_wp2_with (go_at_call 136;(with_reducible refine (C.out _ h).mono ?_);rintro e w1 ⟨rfl,b1⟩)
  exact ⟨rfl,rfl,b1⟩
theorem refuse_130 {w:World} {rb tb cap:Nat} {T:TL} {i:Nat} (h:Rd w rb tb cap T i):Calls Tryz.prog 130 #[.pointer (some ⟨rb,0,none⟩),.int .i64 130] w fun e w'=>e=.panicked (pan T 130 i)∧Below w.heap.size w w':=refuse_c h 130
theorem refuse_131 {w:World} {rb tb cap:Nat} {T:TL} {i:Nat} (h:Rd w rb tb cap T i):Calls Tryz.prog 130 #[.pointer (some ⟨rb,0,none⟩),.int .i64 131] w fun e w'=>e=.panicked (pan T 131 i)∧Below w.heap.size w w':=refuse_c h 131
theorem Wf.more {T:TL} {i:Nat} (h:Wf T) (hi:i < T.length) (hn:¬ (cu T i).1=nul):i+1 < T.length:=(h.2 i hi).resolve_right hn
theorem ct_more {T:TL} {s:List UInt8} {i:Nat} (h:isT T s i=true) (hs:s ≠ []):¬ (cu T i).1=nul:=by
  intro e
  unfold isT ct at h
  rw [e] at h
  exact hs (eq_of_beq h).symm
theorem ck_more {T:TL} {t i:Nat} (h:ck T i=t) (hs:t ≠ 0):¬ (cu T i).1=nul:=by
  intro e
  unfold ck at h
  rw [e] at h
  exact hs h.symm
set_option maxHeartbeats 2000000 in
theorem take_c {w:World} {rb tb cap:Nat} {T:TL} {i:Nat} (h:Rd w rb tb cap T i) (hn:¬ (cu T i).1=nul):Calls Tryz.prog 128 #[.pointer (some ⟨rb,0,none⟩)] w fun e w'=>e=.returned (tv (cu T i).1 (cu T i).2)∧Kp rb w w'∧Rd w' rb tb cap T (i+1):=by
  have hi:=h.wf.more h.ir hn
  have h1:=hid_as (h.alloc (.cells #[.int .i64 0,.int .i64 0,.int .i64 0,.string ⟨#[]⟩,.int .i64 0] 42))
  have B1:=hid_as (Bk.fresh w #[.int .i64 0,.int .i64 0,.int .i64 0,.string ⟨#[]⟩,.int .i64 0] 42)
  have C:=hid_as (fun W (H:Rd W rb tb cap T i)=>now_c H)
  have hrl:=h.rlt
  have q5:i≤1000000:=by have:=h.wf.1;omega
  unfold tv at C
  generalize (cu T i).2=pl at *
  generalize (cu T i).1=tk at *
  obtain ⟨ta,tk,tn,tt⟩:=tk
  simp only at C
  go_enter Tryz.func128,Tryz.ntmps128
  go_wp2_with (go_at_call 136;(with_reducible refine (C.out _ h1.out).mono ?_);rintro e w1 ⟨rfl,b1⟩;have R1:=hid_as (h1.out.below b1);have R2:=hid_as (B1.out.below b1);have r1:=R1.out.own.cell 1;simp only [List.getElem?_toArray,List.getElem?_cons_zero,List.getElem?_cons_succ] at r1;have f1:=R1.out.own.fr 1;have s0:=R2.out.cell 0;have s1:=R2.out.cell 1;have s2:=R2.out.cell 2;have s3:=R2.out.cell 3;have s4:=R2.out.cell 4;simp only [List.getElem?_toArray,List.getElem?_cons_zero,List.getElem?_cons_succ] at s0 s1 s2 s3 s4;have sf:=R2.out.fr;have rl:=R1.out.rlt;have gl:=R2.out.lt)
  have z1:=b1.size
  rw [World.size_alloc] at z1
  have FB:=((R2.out.other (b:=rb) 1 (.int .i64 ((i:Int)+1)) (by omega)).put5 (.int .i64 ta) (.int .i64 tk) (.int .i64 tn) (.string (tx tt)) (.int .i64 pl)).alloc (.cells #[.int .i64 ta,.int .i64 tk,.int .i64 tn,.string (tx tt),.int .i64 pl] 42)
  have c0:=FB.cell 0
  have c1:=FB.cell 1
  have c2:=FB.cell 2
  have c3:=FB.cell 3
  have c4:=FB.cell 4
  simp only [List.getElem?_toArray,List.getElem?_cons_zero,List.getElem?_cons_succ] at c0 c1 c2 c3 c4
  refine bodyPost_ret (v:=tv ⟨ta,tk,tn,tt⟩ pl) (by simp [results,Tryz.results128,go_sem,tv,c0,c1,c2,c3,c4]) rfl ⟨rfl,?_,?_⟩
  · exact (((((Kp.refl rb w).alloc _).below b1).put _ _).put5 (Nat.le_refl _) _ _ _ _ _).alloc _
  · exact ((R1.out.step1 hi).put5 (by omega) (by have:=h.lt;omega) _ _ _ _ _).alloc _
/-- What a function of the reader's does, whatever the world, wherever the reader is. -/
def Cn {α:Type} (f:FuncId) (rest:Array Value) (rb tb cap:Nat) (T:TL) (m:Nat→Re α) (Q:World→α→Value→World→Prop):Prop :=
  ∀ W i,Rd W rb tb cap T i→Calls Tryz.prog f (#[.pointer (some ⟨rb,0,none⟩)] ++ rest) W fun e w'=>Outc rb tb cap T i W (m i) (Q W) e w'
def qU:World→Unit→Value→World→Prop:=fun _ _ v _=>v=.tuple #[]
def qT:World→Tk × Nat→Value→World→Prop:=fun _ a v _=>v=tv a.1 a.2
theorem th_go {α β:Type} {M:Re β} {p:Re α} {f:α→Nat→Re β} {a:α} {k:Nat} (hM:M=th p f) (hp:p=ok a k):M=f a k:=by rw [hM,hp];rfl
theorem th_no {α β:Type} {M:Re β} {p:Re α} {f:α→Nat→Re β} {n k:Nat} (hM:M=th p f) (hp:p=no n k):M=no n k:=by rw [hM,hp];rfl
theorem th_th {α β γ:Type} (p:Re α) (f:α→Nat→Re β) (g:β→Nat→Re γ):th (th p f) g=th p fun a k=>th (f a k) g:=by
  obtain ⟨v,k,e⟩:=p
  cases v <;> rfl
theorem rp_yes {α β:Type} {M:Re β} {g:Nat→Bool} {b:α→Nat→Re α} {f:Nat} {a:α} {k:Nat} {r:α→Nat→Re β} (hM:M=th (rp g b (f+1) a k) r) (hg:g k=true):M=th (b a k) fun a m=>th (rp g b f a m) r:=by
  rw [hM,rp,if_pos hg,th_th]
theorem rp_not {α β:Type} {M:Re β} {g:Nat→Bool} {b:α→Nat→Re α} {f:Nat} {a:α} {k:Nat} {r:α→Nat→Re β} (hM:M=th (rp g b (f+1) a k) r) (hg:g k=false):M=r a k:=by
  rw [hM,rp,hg];rfl
theorem Outc.stop0 {α:Type} {rb tb cap:Nat} {T:TL} {i:Nat} {w w1:World} {M p:Re α} {Q:α→Value→World→Prop} {n k:Nat} (hM:M=p) (hp:p=no n k) (hk:Kp rb w w1):Outc rb tb cap T i w M Q (.panicked (pan T n k)) w1:=⟨hk,Or.inr ⟨n,k,hM.trans hp,rfl⟩⟩
theorem Outc.stop {α β:Type} {rb tb cap:Nat} {T:TL} {i:Nat} {w w1:World} {M:Re β} {p:Re α} {f:α→Nat→Re β} {Q:β→Value→World→Prop} {n k:Nat} (hM:M=th p f) (hp:p=no n k) (hk:Kp rb w w1):Outc rb tb cap T i w M Q (.panicked (pan T n k)) w1:=⟨hk,Or.inr ⟨n,k,th_no hM hp,rfl⟩⟩
theorem bodyPost_panic {P:Program} {fn:Func} {R:Ending→World→Prop} {ch:List PanicEntry} {a:Act} {w:World} (hd:a.defers=[]) (h:R (.panicked ch) w):bodyPost P fn R (.panic ch) a w:=⟨hd,h⟩
theorem kp_of_below {rb:Nat} {w w':World} (h:Below w.heap.size w w'):Kp rb w w':=(Kp.refl rb w).below h
theorem Kp.of {rb:Nat} {w w':World} (h:Below w.heap.size w w'):Kp rb w w':=(Kp.refl rb w).below h
set_option maxHeartbeats 2000000 in
set_option maxRecDepth 100000 in
theorem accept_y {w:World} {rb tb cap:Nat} {T:TL} {i:Nat} (h:Rd w rb tb cap T i) (s:ByteArray) (hs:isT T s.data.toList i=true) (h0:s.data.toList ≠ []):Calls Tryz.prog 85 #[.pointer (some ⟨rb,0,none⟩),.string s] w fun e w'=>e=.returned (.bool true)∧Kp rb w w'∧Rd w' rb tb cap T (i+1):=by
  have C:=hid_as (fun W (H:Rd W rb tb cap T i)=>is_c H s)
  rw [hs] at C
  have D:=hid_as (fun W (H:Rd W rb tb cap T i)=>take_c H (ct_more hs h0))
  unfold tv at D
  have H:=hid_as h
  clear hs h h0
  go_enter Tryz.func85,Tryz.ntmps85
  go_wp2_with (first
    | (go_at_call 127;(with_reducible refine (C.out _ H.out).mono ?_);rintro e w1 ⟨rfl,b1⟩;have R1:=hid_as (H.out.below b1);have K1:=hid_as (Kp.of (rb:=rb) b1);clear b1)
    | (go_at_call 128;(with_reducible refine (D.out _ R1.out).mono ?_);rintro e w2 ⟨rfl,k2,R2⟩))
  go_ret
  exact ⟨rfl,K1.out.trans k2,R2⟩
set_option maxRecDepth 100000 in
theorem accept_n {w:World} {rb tb cap:Nat} {T:TL} {i:Nat} (h:Rd w rb tb cap T i) (s:ByteArray) (hs:isT T s.data.toList i=false):Calls Tryz.prog 85 #[.pointer (some ⟨rb,0,none⟩),.string s] w fun e w'=>e=.returned (.bool false)∧Below w.heap.size w w':=by
  have C:=hid_as (fun W (H:Rd W rb tb cap T i)=>is_c H s)
  rw [hs] at C
  have H:=hid_as h
  clear hs h
  go_enter Tryz.func85,Tryz.ntmps85
  go_wp2_with (go_at_call 127;(with_reducible refine (C.out _ H.out).mono ?_);rintro e w1 ⟨rfl,b1⟩;have B1:=hid_as b1;clear b1)
  go_ret
  exact ⟨rfl,B1.out⟩
set_option maxRecDepth 100000 in
theorem expect_c {rb tb cap:Nat} {T:TL} (s:ByteArray) (h0:s.data.toList ≠ []):Cn 87 #[.string s] rb tb cap T (xp T s.data.toList) qU:=by
  intro w i h
  show Calls Tryz.prog 87 #[.pointer (some ⟨rb,0,none⟩),.string s] w _
  cases hs:isT T s.data.toList i with
  | true =>
    have em:xp T s.data.toList i=ok () (i+1):=by unfold xp;rw [if_pos hs]
    have C:=hid_as (fun W (H:Rd W rb tb cap T i)=>accept_y H s hs h0)
    have H:=hid_as h
    rw [em]
    clear hs h em h0
    go_enter Tryz.func87,Tryz.ntmps87
    go_wp2_with (go_at_call 85;(with_reducible refine (C.out _ H.out).mono ?_);rintro e w1 ⟨rfl,k1,R1⟩)
    go_end0
    exact ⟨k1,Or.inl ⟨(),i+1,_,rfl,rfl,rfl,R1,Nat.le_succ _⟩⟩
  | false =>
    have em:xp T s.data.toList i=no 130 i:=by unfold xp;rw [hs];rfl
    have C:=hid_as (fun W (H:Rd W rb tb cap T i)=>accept_n H s hs)
    have D:=hid_as (fun W (H:Rd W rb tb cap T i)=>refuse_130 H)
    have H:=hid_as h
    rw [em]
    clear hs h em h0
    go_enter Tryz.func87,Tryz.ntmps87
    go_wp2_with (first
      | (go_at_call 85;(with_reducible refine (C.out _ H.out).mono ?_);rintro e w1 ⟨rfl,b1⟩;have R1:=hid_as (H.out.below b1);have K1:=hid_as (Kp.of (rb:=rb) b1);clear b1)
      | (go_at_call 130;(with_reducible refine (D.out _ R1.out).mono ?_);rintro e w2 ⟨rfl,b2⟩))
    exact ⟨rfl,K1.out.below b2,Or.inr ⟨130,i,rfl,rfl⟩⟩
set_option maxHeartbeats 2000000 in
set_option maxRecDepth 100000 in
theorem takeOf_c {rb tb cap:Nat} {T:TL} (t:Nat) (h0:t ≠ 0):Cn 131 #[.int .i64 t] rb tb cap T (tof T t) qT:=by
  intro w i h
  show Calls Tryz.prog 131 #[.pointer (some ⟨rb,0,none⟩),.int .i64 t] w _
  have N0:=hid_as (fun W (H:Rd W rb tb cap T i)=>now_c H)
  have F0:=fd0
  have B1:=hid_as (Bk.fresh w #[.int .i64 0,.int .i64 0,.int .i64 0,.string ⟨#[]⟩,.int .i64 0] 42)
  have K0:=hid_as ((Kp.refl rb w).alloc (.cells #[.int .i64 0,.int .i64 0,.int .i64 0,.string ⟨#[]⟩,.int .i64 0] 42))
  have H:=hid_as (h.alloc (.cells #[.int .i64 0,.int .i64 0,.int .i64 0,.string ⟨#[]⟩,.int .i64 0] 42))
  have hrl:=h.rlt
  have htl:=h.lt
  by_cases hs:ck T i=t
  · have em:tof T t i=ok (cu T i) (i+1):=by unfold tof;rw [if_pos hs]
    have D:=hid_as (fun W (H:Rd W rb tb cap T i)=>take_c H (ck_more hs h0))
    have hs':((cu T i).1.tok:Int)=t:=by unfold ck at hs;omega
    rw [em]
    unfold tv at D N0
    clear em h hs h0
    generalize hcu:cu T i=c at *
    obtain ⟨⟨ta,tk,tn,tt⟩,pl⟩:=c
    simp only at D N0 hs'
    obtain rfl:ta=t:=by omega
    clear hs'
    go_enter Tryz.func131,Tryz.ntmps131
    go_wp2_with (first
      | (go_at_call 136;(with_reducible refine (N0.out _ H.out).mono ?_);rintro e w1 ⟨rfl,b1⟩;have R1:=hid_as (H.out.below b1);have K1:=hid_as (K0.out.below b1);have B2:=hid_as (B1.out.below b1);clear b1)
      | (go_at_call 128;(with_reducible refine (D.out _ R1.out).mono ?_);rintro e w2 ⟨rfl,k2,R2⟩;have K2:=hid_as (K1.out.trans k2);have B3:=hid_as (B2.out.kp k2 (by omega));have s0:=B3.out.cell 0;have s1:=B3.out.cell 1;have s2:=B3.out.cell 2;have s3:=B3.out.cell 3;have s4:=B3.out.cell 4;simp only [List.getElem?_toArray,List.getElem?_cons_zero,List.getElem?_cons_succ] at s0 s1 s2 s3 s4;have sf:=B3.out.fr))
    exact bodyPost_ret (v:=tv ⟨ta,tk,tn,tt⟩ pl) (by simp [results,Tryz.results131,go_sem,tv,s0,s1,s2,s3,s4]) rfl ⟨K2.out.put5 (Nat.le_refl _) _ _ _ _ _,Or.inl ⟨_,_,_,rfl,rfl,rfl,R2.put5 (by omega) (by omega) _ _ _ _ _,Nat.le_succ _⟩⟩
  · have em:tof T t i=no 130 i:=by unfold tof;rw [if_neg hs]
    have D:=hid_as (fun W (H:Rd W rb tb cap T i)=>refuse_130 H)
    have hs':¬ ((cu T i).1.tok:Int)=t:=by unfold ck at hs;omega
    rw [em]
    unfold tv at N0
    clear em h hs h0
    generalize cu T i=c at *
    obtain ⟨⟨ta,tk,tn,tt⟩,pl⟩:=c
    simp only at N0 hs'
    go_enter Tryz.func131,Tryz.ntmps131
    go_wp2_with (first
      | (go_at_call 136;(with_reducible refine (N0.out _ H.out).mono ?_);rintro e w1 ⟨rfl,b1⟩;have R1:=hid_as (H.out.below b1);have K1:=hid_as (K0.out.below b1);clear b1)
      | (go_at_call 130;(with_reducible refine (D.out _ R1.out).mono ?_);rintro e w2 ⟨rfl,b2⟩))
    exact ⟨rfl,K1.out.below b2,Or.inr ⟨130,i,rfl,rfl⟩⟩
set_option maxHeartbeats 2000000 in
set_option maxRecDepth 100000 in
theorem name_c {rb tb cap:Nat} {T:TL}:Cn 88 #[] rb tb cap T (tof T 2) qT:=by
  intro w i h
  show Calls Tryz.prog 88 #[.pointer (some ⟨rb,0,none⟩)] w _
  have C:Hid (∀ W i,Rd W rb tb cap T i→Calls Tryz.prog 131 #[.pointer (some ⟨rb,0,none⟩),.int .i64 2] W fun e w'=>Outc rb tb cap T i W (tof T 2 i) (qT W) e w'):=takeOf_c 2 (by decide)
  have B1:=hid_as (Bk.fresh w #[.int .i64 0,.int .i64 0,.int .i64 0,.string ⟨#[]⟩,.int .i64 0] 42)
  have K0:=hid_as ((Kp.refl rb w).alloc (.cells #[.int .i64 0,.int .i64 0,.int .i64 0,.string ⟨#[]⟩,.int .i64 0] 42))
  have H:=hid_as (h.alloc (.cells #[.int .i64 0,.int .i64 0,.int .i64 0,.string ⟨#[]⟩,.int .i64 0] 42))
  have hrl:=h.rlt
  have htl:=h.lt
  clear h
  generalize hM:tof T 2 i=M at *
  have M0:=hid_as hM.symm
  clear hM
  go_enter Tryz.func88,Tryz.ntmps88
  go_wp2_with (go_at_call 131;(with_reducible refine (C.out _ _ H.out).mono ?_);rintro e w1 ⟨k1,⟨⟨⟨ta,tk,tn,tt⟩,pl⟩,i1,_,m1,rfl,rfl,R1,l1⟩ | ⟨n1,i1,m1,rfl⟩⟩;rotate_left;exact bodyPost_panic rfl (Outc.stop0 M0.out m1 (K0.out.trans k1));have K1:=hid_as (K0.out.trans k1);have B2:=hid_as (B1.out.kp k1 (by omega));clear k1;have s0:=B2.out.cell 0;have s1:=B2.out.cell 1;have s2:=B2.out.cell 2;have s3:=B2.out.cell 3;have s4:=B2.out.cell 4;simp only [List.getElem?_toArray,List.getElem?_cons_zero,List.getElem?_cons_succ] at s0 s1 s2 s3 s4;have sf:=B2.out.fr;unfold tv)
  exact bodyPost_ret (v:=tv ⟨ta,tk,tn,tt⟩ pl) (by simp [results,Tryz.results88,go_sem,tv,s0,s1,s2,s3,s4]) rfl ⟨K1.out.put5 (Nat.le_refl _) _ _ _ _ _,Or.inl ⟨_,_,_,M0.out.trans m1,rfl,rfl,R1.put5 (by omega) (by omega) _ _ _ _ _,l1⟩⟩
end Go.Proofs.YtapcpjidgemggaaGreatDoor
namespace Go.Proofs.YtapcpjidgemggaaGreatDoor
open Go.RowKit
open Adr Lx Sx
/-- An expression's seven parts. -/
def ev (o k n:Int) (nm fl:ByteArray) (L:Value) (p:Int):Value:=.agg #[.int .i64 o,.int .i64 k,.int .i64 n,.string nm,.string fl,L,.int .i64 p]
/-- Row j of a block of expressions is this. -/
def RowE (w:World) (g j:Nat) (o k n:Int) (nm fl:ByteArray) (L:Value) (p:Int):Prop :=
  w.cell? ⟨g,j * 7,none⟩=some (.int .i64 o)∧w.cell? ⟨g,j * 7+1,none⟩=some (.int .i64 k)∧w.cell? ⟨g,j * 7+2,none⟩=some (.int .i64 n)∧w.cell? ⟨g,j * 7+3,none⟩=some (.string nm) ∧
  w.cell? ⟨g,j * 7+4,none⟩=some (.string fl)∧w.cell? ⟨g,j * 7+5,none⟩=some L∧w.cell? ⟨g,j * 7+6,none⟩=some (.int .i64 p)
/-- This value is this tree, its operands lying in blocks of S; d: more than its depth. -/
def EA (S:Nat→Prop):Nat→World→Value→Tr→Prop
  | 0,_,_,_=>False
  | d+1,w,v,t=>∃ nd L,t []=some nd∧v=ev nd.op nd.kind nd.n (tx nd.name) (tx nd.field) L nd.pl ∧
    ((nd.ar=0∧L=.slice none 0 0) ∨ ∃ g cap,L=.slice (some ⟨g,0,none⟩) nd.ar cap∧0 < nd.ar∧nd.ar≤cap∧S g∧g < w.heap.size∧(∀ i,w.frozen? ⟨g,i,none⟩=false) ∧
      ∀ j,j < nd.ar→∃ o k n nm fl M p,RowE w g j o k n nm fl M p∧EA S d w (ev o k n nm fl M p) (fun q=>t (j :: q)))
def Et (S:Nat→Prop) (w:World) (v:Value) (t:Tr):Prop:=∃ d,EA S d w v t
theorem EA.deeper {S:Nat→Prop} {w:World}:∀ {d d':Nat} {v:Value} {t:Tr},EA S d w v t→d≤d'→EA S d' w v t
  | 0,_,_,_,h,_=>h.elim
  | d+1,0,_,_,_,hd=>by omega
  | d+1,d'+1,v,t,⟨nd,L,h1,h2,h3⟩,hd=>by
    refine ⟨nd,L,h1,h2,?_⟩
    rcases h3 with h3 | ⟨g,cap,a,b,b2,c,e,fz,f⟩
    · exact Or.inl h3
    · refine Or.inr ⟨g,cap,a,b,b2,c,e,fz,fun j hj=>?_⟩
      obtain ⟨o,k,n,nm,fl,M,p,x,y⟩:=f j hj
      exact ⟨o,k,n,nm,fl,M,p,x,EA.deeper y (by omega)⟩
theorem RowE.keep {w w':World} {g j:Nat} {o k n:Int} {nm fl:ByteArray} {L:Value} {p:Int} (h:RowE w g j o k n nm fl L p) (hb:w'.heap[g]?=w.heap[g]?):RowE w' g j o k n nm fl L p:=by
  have q:∀ m,w'.cell? ⟨g,m,none⟩=w.cell? ⟨g,m,none⟩:=fun m=>World.cell?_of_block (w:=w) hb
  obtain ⟨h0,h1,h2,h3,h4,h5,h6⟩:=h
  exact ⟨(q _).trans h0,(q _).trans h1,(q _).trans h2,(q _).trans h3,(q _).trans h4,(q _).trans h5,(q _).trans h6⟩
theorem EA.keep {S:Nat→Prop} {w w':World} (hs:w.heap.size≤w'.heap.size) (hb:∀ x,S x→x < w.heap.size→w'.heap[x]?=w.heap[x]?):∀ {d:Nat} {v:Value} {t:Tr},EA S d w v t→EA S d w' v t
  | 0,_,_,h=>h.elim
  | d+1,v,t,⟨nd,L,h1,h2,h3⟩=>by
    refine ⟨nd,L,h1,h2,?_⟩
    rcases h3 with h3 | ⟨g,cap,a,b,b2,c,e,fz,f⟩
    · exact Or.inl h3
    · refine Or.inr ⟨g,cap,a,b,b2,c,by omega,fun i=>(World.frozen?_of_block (a:=⟨g,i,none⟩) (hb g c e)).trans (fz i),fun j hj=>?_⟩
      obtain ⟨o,k,n,nm,fl,M,p,x,y⟩:=f j hj
      exact ⟨o,k,n,nm,fl,M,p,x.keep (hb g c e),EA.keep hs hb y⟩
theorem EA.into {S S':Nat→Prop} {w:World} (hb:∀ x,S x→x < w.heap.size→S' x):∀ {d:Nat} {v:Value} {t:Tr},EA S d w v t→EA S' d w v t
  | 0,_,_,h=>h.elim
  | d+1,v,t,⟨nd,L,h1,h2,h3⟩=>by
    refine ⟨nd,L,h1,h2,?_⟩
    rcases h3 with h3 | ⟨g,cap,a,b,b2,c,e,fz,f⟩
    · exact Or.inl h3
    · refine Or.inr ⟨g,cap,a,b,b2,hb g c e,e,fz,fun j hj=>?_⟩
      obtain ⟨o,k,n,nm,fl,M,p,x,y⟩:=f j hj
      exact ⟨o,k,n,nm,fl,M,p,x,EA.into hb y⟩
theorem Et.into {S S':Nat→Prop} {w:World} {v:Value} {t:Tr} (h:Et S w v t) (hb:∀ x,S x→x < w.heap.size→S' x):Et S' w v t:=by
  obtain ⟨d,h⟩:=h
  exact ⟨d,h.into hb⟩
theorem Et.kp {S:Nat→Prop} {rb:Nat} {w w':World} {v:Value} {t:Tr} (h:Et S w v t) (k:Kp rb w w') (hr:¬ S rb):Et S w' v t:=by
  obtain ⟨d,h⟩:=h
  exact ⟨d,h.keep k.size (fun x hx hl=>k.block x hl (fun e=>hr (e ▸ hx)))⟩
theorem Et.below {S:Nat→Prop} {w w':World} {v:Value} {t:Tr} (h:Et S w v t) (k:Below w.heap.size w w'):Et S w' v t:=by
  obtain ⟨d,h⟩:=h
  exact ⟨d,h.keep k.size (fun x _ hl=>k.block x hl)⟩
theorem Et.alloc {S:Nat→Prop} {w:World} {v:Value} {t:Tr} (h:Et S w v t) (o:Obj):Et S (w.alloc o) v t:=h.below (below_new1 w o)
theorem Et.drew {S:Nat→Prop} {w:World} {v:Value} {t:Tr} (h:Et S w v t):Et S w.drew v t:=by
  obtain ⟨d,h⟩:=h
  exact ⟨d,EA.keep (w:=w) (w':=w.drew) (Nat.le_refl _) (fun _ _ _=>rfl) h⟩
theorem Et.set {S:Nat→Prop} {w:World} {v:Value} {t:Tr} {g:Nat} (h:Et S w v t) (hg:¬ S g) (j:Nat) (x:Value):Et S (w.setCell ⟨g,j,none⟩ x) v t:=by
  obtain ⟨d,h⟩:=h
  exact ⟨d,h.keep (by simp [World.setCell]) (fun y hy _=>Below.heap_setCell w ⟨g,j,none⟩ x y (fun (e:y=g)=>hg (e ▸ hy)))⟩
theorem Et.set7 {S:Nat→Prop} {w:World} {v:Value} {t:Tr} {g:Nat} (h:Et S w v t) (hg:¬ S g) (a b c d e f x:Value):Et S (((((((w.setCell ⟨g,0,none⟩ a).setCell ⟨g,1,none⟩ b).setCell ⟨g,2,none⟩ c).setCell ⟨g,3,none⟩ d).setCell ⟨g,4,none⟩ e).setCell ⟨g,5,none⟩ f).setCell ⟨g,6,none⟩ x) v t :=
  ((((((h.set hg 0 a).set hg 1 b).set hg 2 c).set hg 3 d).set hg 4 e).set hg 5 f).set hg 6 x
theorem mkT_at {d:Nd} {ts:List Tr} {j:Nat} {t:Tr} (h:ts[j]?=some t):(fun q=>mkT d ts (j :: q))=t:=by
  funext q
  simp only [mkT,h]
theorem Et.leaf (S:Nat→Prop) (w:World) (d:Nd) (ha:d.ar=0):Et S w (ev d.op d.kind d.n (tx d.name) (tx d.field) (.slice none 0 0) d.pl) (mkT d []):=⟨1,d,_,rfl,rfl,Or.inl ⟨ha,rfl⟩⟩
/-- A node of one operand, which lies in block g. -/
theorem Et.node1 {S:Nat→Prop} {w:World} {d:Nd} {g cap:Nat} {o k n:Int} {nm fl:ByteArray} {M:Value} {p:Int} {t:Tr} (ha:d.ar=1) (hc:1≤cap) (hS:S g) (hg:g < w.heap.size) (hf:∀ i,w.frozen? ⟨g,i,none⟩=false) (hr:RowE w g 0 o k n nm fl M p) (ht:Et S w (ev o k n nm fl M p) t) :
    Et S w (ev d.op d.kind d.n (tx d.name) (tx d.field) (.slice (some ⟨g,0,none⟩) 1 cap) d.pl) (mkT d [t]):=by
  obtain ⟨m,ht⟩:=ht
  refine ⟨m+1,d,_,rfl,rfl,Or.inr ⟨g,cap,by rw [ha],by omega,by omega,hS,hg,hf,fun j hj=>?_⟩⟩
  obtain rfl:j=0:=by omega
  exact ⟨o,k,n,nm,fl,M,p,hr,by rw [mkT_at (t:=t) rfl];exact ht⟩
theorem Et.node2 {S:Nat→Prop} {w:World} {d:Nd} {g cap:Nat} {o k n:Int} {nm fl:ByteArray} {M:Value} {p:Int} {t:Tr} {o' k' n':Int} {nm' fl':ByteArray} {M':Value} {p':Int} {t':Tr} (ha:d.ar=2) (hc:2≤cap) (hS:S g) (hg:g < w.heap.size) (hf:∀ i,w.frozen? ⟨g,i,none⟩=false)
    (hr:RowE w g 0 o k n nm fl M p) (ht:Et S w (ev o k n nm fl M p) t) (hr':RowE w g 1 o' k' n' nm' fl' M' p') (ht':Et S w (ev o' k' n' nm' fl' M' p') t') :
    Et S w (ev d.op d.kind d.n (tx d.name) (tx d.field) (.slice (some ⟨g,0,none⟩) 2 cap) d.pl) (mkT d [t,t']):=by
  obtain ⟨m,ht⟩:=ht
  obtain ⟨m',ht'⟩:=ht'
  refine ⟨max m m'+1,d,_,rfl,rfl,Or.inr ⟨g,cap,by rw [ha],by omega,by omega,hS,hg,hf,fun j hj=>?_⟩⟩
  rcases (by omega:j=0 ∨ j=1) with rfl | rfl
  · exact ⟨o,k,n,nm,fl,M,p,hr,by rw [mkT_at (t:=t) rfl];exact ht.deeper (Nat.le_max_left _ _)⟩
  · exact ⟨o',k',n',nm',fl',M',p',hr',by rw [mkT_at (t:=t') rfl];exact ht'.deeper (Nat.le_max_right _ _)⟩
/-- What a function hands back that reads an expression. -/
def qE:World→Tr→Value→World→Prop:=fun W t v w'=>∃ o k n nm fl lp ln lc p,v=.agg #[.int .i64 o,.int .i64 k,.int .i64 n,.string nm,.string fl,.slice lp ln lc,.int .i64 p]∧Et (fun x=>W.heap.size≤x) w' (.agg #[.int .i64 o,.int .i64 k,.int .i64 n,.string nm,.string fl,.slice lp ln lc,.int .i64 p]) t
theorem bk7 {w:World} {g:Nat} {a b c d e f x:Value} (h:Bk w g #[a,b,c,d,e,f,x]):w.cell? ⟨g,0,none⟩=some a∧w.cell? ⟨g,1,none⟩=some b∧w.cell? ⟨g,2,none⟩=some c∧w.cell? ⟨g,3,none⟩=some d∧w.cell? ⟨g,4,none⟩=some e∧w.cell? ⟨g,5,none⟩=some f∧w.cell? ⟨g,6,none⟩=some x :=
  ⟨h.cell 0,h.cell 1,h.cell 2,h.cell 3,h.cell 4,h.cell 5,h.cell 6⟩
theorem RowE.of_bk {w:World} {g:Nat} {o k n:Int} {nm fl:ByteArray} {L:Value} {p:Int} (h:Bk w g #[.int .i64 o,.int .i64 k,.int .i64 n,.string nm,.string fl,L,.int .i64 p]):RowE w g 0 o k n nm fl L p:=bk7 h
theorem Bk.freshS (w:World) (a:Addr) (x:Value) (cs:Array Value) (t:TypeId):Bk ((w.setCell a x).alloc (.cells cs t)) w.heap.size cs:=by
  have q:=Bk.fresh (w.setCell a x) cs t
  rw [show (w.setCell a x).heap.size=w.heap.size by simp [World.setCell]] at q
  exact q
theorem bk5 {w:World} {g:Nat} {a b c d e:Value} (h:Bk w g #[a,b,c,d,e]):w.cell? ⟨g,0,none⟩=some a∧w.cell? ⟨g,1,none⟩=some b∧w.cell? ⟨g,2,none⟩=some c∧w.cell? ⟨g,3,none⟩=some d∧w.cell? ⟨g,4,none⟩=some e :=
  ⟨h.cell 0,h.cell 1,h.cell 2,h.cell 3,h.cell 4⟩
end Go.Proofs.YtapcpjidgemggaaGreatDoor
namespace Go.Proofs.YtapcpjidgemggaaGreatDoor
open Go.RowKit
open Adr Lx Sx
theorem opr_leaf {s:ByteArray} {l:List UInt8} {a b:Int} (e:(s.toList == l)=true) (h:opr l=(a.toNat,b.toNat)) (ha:0≤a) (hb:0≤b):Ending.returned (.tuple #[.int .i64 a,.int .i64 b])=.returned (.tuple #[.int .i64 ((opr s.data.toList).1:Int),.int .i64 ((opr s.data.toList).2:Int)]):=by
  have e1:s.data.toList=l:=by rw [← Lib.toList_data];exact eq_of_beq e
  rw [e1,h,Int.toNat_of_nonneg ha,Int.toNat_of_nonneg hb]
set_option maxHeartbeats 4000000 in
set_option maxRecDepth 100000 in
theorem operator_c (s:ByteArray) (w:World):Calls Tryz.prog 194 #[.string s] w fun e w'=>e=.returned (.tuple #[.int .i64 ((opr s.data.toList).1:Int),.int .i64 ((opr s.data.toList).2:Int)])∧w'=w:=by
  go_enter Tryz.func194,Tryz.ntmps194
  go_wp2
  all_goals go_ret2
  all_goals refine ⟨?_,rfl⟩
  all_goals first | (apply opr_leaf;assumption;decide;decide;decide) | skip
  unfold opr
  rw [← Lib.toList_data]
  simp only [*,Bool.false_eq_true,if_false]
  rfl
theorem byTok {T:TL} {i:Nat}:(cu T i).1.tok=ck T i:=rfl
set_option maxHeartbeats 4000000 in
set_option maxRecDepth 100000 in
theorem beginsExpr_c {w:World} {rb tb cap:Nat} {T:TL} {i:Nat} (h:Rd w rb tb cap T i):Calls Tryz.prog 196 #[.pointer (some ⟨rb,0,none⟩)] w fun e w'=>e=.returned (.bool (beg T i))∧Below w.heap.size w w':=by
  have N0:=hid_as (fun W (H:Rd W rb tb cap T i)=>now_c H)
  have I1:Hid (∀ W,Rd W rb tb cap T i→Calls Tryz.prog 127 #[.pointer (some ⟨rb,0,none⟩),.string ⟨#[45]⟩] W fun e w'=>e=.returned (.bool (isT T [45] i))∧Below W.heap.size W w'):=fun W H=>is_c H ⟨#[45]⟩
  have I2:Hid (∀ W,Rd W rb tb cap T i→Calls Tryz.prog 127 #[.pointer (some ⟨rb,0,none⟩),.string ⟨#[78,79,84]⟩] W fun e w'=>e=.returned (.bool (isT T [78,79,84] i))∧Below W.heap.size W w'):=fun W H=>is_c H ⟨#[78,79,84]⟩
  have I3:Hid (∀ W,Rd W rb tb cap T i→Calls Tryz.prog 127 #[.pointer (some ⟨rb,0,none⟩),.string ⟨#[40]⟩] W fun e w'=>e=.returned (.bool (isT T [40] i))∧Below W.heap.size W w'):=fun W H=>is_c H ⟨#[40]⟩
  have F0:=fd0
  have H:=hid_as h
  have hb:beg T i=(decide (ck T i=2) || decide (ck T i=3) || decide (ck T i=4) || isT T [45] i || isT T [78,79,84] i || isT T [40] i):=rfl
  rw [hb,← byTok]
  unfold tv at N0
  clear h hb
  generalize isT T [45] i=b1 at *
  generalize isT T [78,79,84] i=b2 at *
  generalize isT T [40] i=b3 at *
  generalize cu T i=c at *
  obtain ⟨⟨ta,tk,tn,tt⟩,pl⟩:=c
  simp only at N0 ⊢
  rw [show decide (ta=2)=decide ((ta:Int)=2) from decide_eq_decide.2 (by omega),show decide (ta=3)=decide ((ta:Int)=3) from decide_eq_decide.2 (by omega),show decide (ta=4)=decide ((ta:Int)=4) from decide_eq_decide.2 (by omega)]
  cases b1 <;> cases b2
  all_goals
    go_enter Tryz.func196,Tryz.ntmps196
    go_wp2_with (first
      | (go_at_call 136;(with_reducible refine (N0.out _ H.out).mono ?_);rintro e w1 ⟨rfl,b1⟩;have R1:=hid_as (H.out.below b1);have K1:=hid_as b1;clear b1)
      | (go_at_call 127;(with_reducible refine (I1.out _ R1.out).mono ?_);rintro e w2 ⟨rfl,b2⟩;have R2:=hid_as (R1.out.below b2);have K2:=hid_as (below_and K1.out b2);clear b2)
      | (go_at_call 127;(with_reducible refine (I2.out _ R2.out).mono ?_);rintro e w3 ⟨rfl,b3⟩;have R3:=hid_as (R2.out.below b3);have K3:=hid_as (below_and K2.out b3);clear b3)
      | (go_at_call 127;(with_reducible refine (I3.out _ R3.out).mono ?_);rintro e w4 ⟨rfl,b4⟩;have K4:=hid_as (below_and K3.out b4);clear b4))
    all_goals go_ret
    all_goals refine ⟨ret_bool ?_,by first | exact K4.out | exact K3.out | exact K2.out | exact K1.out⟩
    all_goals grind
set_option maxRecDepth 100000 in
theorem end_c {rb tb cap:Nat} {T:TL}:Cn 91 #[] rb tb cap T (endT T) qU:=by
  intro w i h
  show Calls Tryz.prog 91 #[.pointer (some ⟨rb,0,none⟩)] w _
  have N0:=hid_as (fun W (H:Rd W rb tb cap T i)=>now_c H)
  have D:=hid_as (fun W (H:Rd W rb tb cap T i)=>refuse_130 H)
  have F0:=fd0
  have H:=hid_as h
  by_cases hs:ck T i=0
  · have em:endT T i=ok () i:=by unfold endT;rw [if_pos hs]
    have hs':((cu T i).1.tok:Int)=0:=by unfold ck at hs;omega
    rw [em]
    unfold tv at N0
    clear em h hs
    generalize cu T i=c at *
    obtain ⟨⟨ta,tk,tn,tt⟩,pl⟩:=c
    simp only at N0 hs'
    obtain rfl:ta=0:=by omega
    clear hs'
    go_enter Tryz.func91,Tryz.ntmps91
    go_wp2_with (go_at_call 136;(with_reducible refine (N0.out _ H.out).mono ?_);rintro e w1 ⟨rfl,b1⟩;have R1:=hid_as (H.out.below b1);have K1:=hid_as (Kp.of (rb:=rb) b1);clear b1)
    go_end0
    exact ⟨K1.out,Or.inl ⟨(),i,_,rfl,rfl,rfl,R1.out,Nat.le_refl _⟩⟩
  · have em:endT T i=no 130 i:=by unfold endT;rw [if_neg hs]
    have hs':¬ ((cu T i).1.tok:Int)=0:=by unfold ck at hs;omega
    rw [em]
    unfold tv at N0
    clear em h hs
    generalize cu T i=c at *
    obtain ⟨⟨ta,tk,tn,tt⟩,pl⟩:=c
    simp only at N0 hs'
    go_enter Tryz.func91,Tryz.ntmps91
    go_wp2_with (first
      | (go_at_call 136;(with_reducible refine (N0.out _ H.out).mono ?_);rintro e w1 ⟨rfl,b1⟩;have R1:=hid_as (H.out.below b1);have K1:=hid_as (Kp.of (rb:=rb) b1);clear b1)
      | (go_at_call 130;(with_reducible refine (D.out _ R1.out).mono ?_);rintro e w2 ⟨rfl,b2⟩))
    exact ⟨rfl,K1.out.below b2,Or.inr ⟨130,i,rfl,rfl⟩⟩
theorem plainVar_c (tok kd:Int) (n:Int) (nm:ByteArray) (pl:Int) (w:World):Calls Tryz.prog 188 #[.agg #[.int .i64 tok,.int .i64 kd,.int .i64 n,.string nm,.int .i64 pl]] w fun e w'=>e=.returned (.agg #[.int .i64 2,.int .i64 0,.int .i64 0,.string nm,.string ⟨#[]⟩,.slice none 0 0,.int .i64 pl])∧Below w.heap.size w w':=by
  go_enter Tryz.func188,Tryz.ntmps188
  go_wp2
  exact bodyPost_ret (v:=.agg #[.int .i64 2,.int .i64 0,.int .i64 0,.string nm,.string ⟨#[]⟩,.slice none 0 0,.int .i64 pl]) (by simp [results,Tryz.results188,go_sem]) rfl ⟨rfl,Below.alloc (below_new1 w _) (by simp) _⟩
theorem literalOf_c (tok kd:Int) (n:Int) (nm:ByteArray) (pl:Int) (w:World):Calls Tryz.prog 174 #[.agg #[.int .i64 tok,.int .i64 kd,.int .i64 n,.string nm,.int .i64 pl]] w fun e w'=>e=.returned (.agg #[.int .i64 1,.int .i64 kd,.int .i64 n,.string ⟨#[]⟩,.string ⟨#[]⟩,.slice none 0 0,.int .i64 pl])∧Below w.heap.size w w':=by
  go_enter Tryz.func174,Tryz.ntmps174
  go_wp2
  exact bodyPost_ret (v:=.agg #[.int .i64 1,.int .i64 kd,.int .i64 n,.string ⟨#[]⟩,.string ⟨#[]⟩,.slice none 0 0,.int .i64 pl]) (by simp [results,Tryz.results174,go_sem]) rfl ⟨rfl,Below.alloc (below_new1 w _) (by simp) _⟩
end Go.Proofs.YtapcpjidgemggaaGreatDoor
