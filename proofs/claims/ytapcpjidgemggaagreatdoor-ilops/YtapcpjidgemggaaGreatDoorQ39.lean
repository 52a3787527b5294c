/- The reader of Instruction List: a line (stage 14). -/
import Derived.Test.YtapcpjidgemggaaGreatDoorQ38
namespace Go.Proofs.YtapcpjidgemggaaGreatDoor
open Go.RowKit
open Adr Lx Sx
open Ilx (Ps Wl)
theorem j_beginsLabel {v w:World} {rb tb cap:Nat} {X:ByteArray} {T:TL} {A:Nat→Prop} {s:Ps} (J:Jr v rb tb cap X T A s w) (b:Bool) (hb:Ilx.bLab s=b):Calls Tryz.prog 80 #[.pointer (some ⟨rb,0,none⟩)] w fun e w'=>e=.returned (.bool b)∧Kp rb w w'∧Jr v rb tb cap X T A s w' :=
  (ibeginsLabel_c J.r).mono fun _ _ ⟨a,c⟩=>⟨by rw [a,hb],Kp.of c,J.bl c⟩
theorem j_beginsOp {v w:World} {rb tb cap:Nat} {X:ByteArray} {T:TL} {A:Nat→Prop} {s:Ps} (J:Jr v rb tb cap X T A s w) (b:Bool) (hb:Ilx.bOp s=b):Calls Tryz.prog 81 #[.pointer (some ⟨rb,0,none⟩)] w fun e w'=>e=.returned (.bool b)∧Kp rb w w'∧Jr v rb tb cap X T A s w' :=
  (ibeginsOp_c J.r).mono fun _ _ ⟨a,c⟩=>⟨by rw [a,hb],Kp.of c,J.bl c⟩
/-- A name has a text. -/
theorem nx_named {c:UInt8} {l:List UInt8} (he:(nx (c :: l)).e=0) (h2:(nx (c :: l)).t.tok=2):(nx (c :: l)).t.text ≠ []:=by
  have hz:=(nx_ok (l:=c :: l) (by simp) he).1
  rw [nx_cons] at he h2 hz ⊢
  have lt:∀ {tok k:Nat} {n:Int} {a z:Nat},(ltR tok k n a z).e=0→(ltR tok k n a z).t.tok=tok:=fun h=>ltR_tok h
  split at he
  · rename_i q
    rw [if_pos q] at h2 hz ⊢
    unfold wdR at he h2 hz ⊢
    split at he
    · rename_i q2
      rw [if_pos q2] at h2
      unfold tmR at he h2
      split at he
      · rename_i q3;rw [if_pos q3,lt he] at h2;exact absurd h2 (by decide)
      · rename_i q3;rw [if_neg q3,lt he] at h2;exact absurd h2 (by decide)
    · rename_i q2
      rw [if_neg q2] at h2 hz ⊢
      split at he
      · rename_i q3
        rw [if_pos q3] at h2
        unfold tyR at he h2
        split at he
        · rename_i q4;rw [if_pos q4] at h2;exact absurd h2 (show ¬ (3:Nat)=2 by decide)
        · rename_i q4
          rw [if_neg q4] at h2
          split at he
          · rename_i q5;rw [if_pos q5] at h2;exact absurd h2 (show ¬ (3:Nat)=2 by decide)
          · rename_i q5
            rw [if_neg q5] at h2
            split at he
            · rename_i q6;rw [if_pos q6,lt he] at h2;exact absurd h2 (by decide)
            · rename_i q6;rw [if_neg q6,lt he] at h2;exact absurd h2 (by decide)
      · rename_i q3
        rw [if_neg q3] at h2 hz ⊢
        unfold plainW at he h2 hz ⊢
        split at he
        · rename_i q4;rw [if_pos q4] at h2;exact absurd h2 (show ¬ (3:Nat)=2 by decide)
        · rename_i q4
          rw [if_neg q4] at h2 hz ⊢
          split at he
          · rename_i q5;rw [if_pos q5] at h2;exact absurd h2 (show ¬ (3:Nat)=2 by decide)
          · rename_i q5
            rw [if_neg q5] at h2 hz ⊢
            split at he
            · rename_i q6;rw [if_pos q6] at h2;exact absurd h2 (show ¬ (1:Nat)=2 by decide)
            · rename_i q6
              rw [if_neg q6] at h2 hz ⊢
              split at he
              · cases he
              · rename_i q7
                rw [if_neg q7] at hz ⊢
                intro e
                have hz:1≤((c :: l).take (cz inW (c :: l))).length:=hz
                have e:(c :: l).take (cz inW (c :: l))=[]:=e
                rw [e] at hz
                exact absurd hz (by decide)
  · rename_i q
    rw [if_neg q] at h2
    exfalso
    split at he
    · rename_i q2
      rw [if_pos q2] at h2
      unfold unR at he h2
      split at he
      · cases he
      · rename_i q3
        rw [if_neg q3] at h2
        split at he
        · cases he
        · rename_i q4;rw [if_neg q4] at h2;exact absurd h2 (show ¬ (3:Nat)=2 by decide)
    · rename_i q2
      rw [if_neg q2] at h2
      split at he
      · rename_i q3
        rw [if_pos q3] at h2
        unfold adR at he h2
        split at he
        · rename_i q4;rw [if_pos q4] at h2;exact absurd h2 (show ¬ (5:Nat)=2 by decide)
        · rename_i q4;exact q4 he
      · rename_i q3
        rw [if_neg q3] at h2
        split at he
        · rename_i q4;rw [if_pos q4] at h2;exact absurd h2 (show ¬ (7:Nat)=2 by decide)
        · rename_i q4
          rw [if_neg q4] at h2
          unfold sgR at he h2
          split at he
          · cases he
          · rename_i q5;rw [if_neg q5] at h2;exact absurd h2 (show ¬ (6:Nat)=2 by decide)
theorem toks_named {l:List UInt8} {T:TL} (h:toks l true=(T,none)):∀ t ∈ T,t.1.tok=2→t.1.text ≠ []:=by
  unfold toks at h
  by_cases hb:65536 < l.length
  · rw [if_pos hb] at h;cases (Prod.mk.inj h).2
  · rw [if_neg hb] at h
    obtain ⟨h1,h2⟩:=Prod.mk.inj h
    have q:=scn_all true (P:=fun t=>t.tok=2→t.text ≠ []) (N:=65536) (fun c m _ he=>nx_named he) l.length l 0 [] (scn true l.length l 0 []).1 (by omega) (by simp) (by rw [← h2])
    intro t ht
    rw [← h1] at ht
    rcases List.mem_append.1 ht with ht | ht
    · exact q t ht
    · obtain rfl:=List.mem_singleton.1 ht
      intro e
      exact absurd (show (0:Nat)=2 from e) (by decide)
theorem opn_lab (s:Ps) (l:List UInt8) (m:Nat):(Ilx.opn s l m).2.lab=l:=by
  by_cases q:Ilx.iz (Ilx.opS s) [10]=true
  · rw [Ilx.opn_1 q]
  · by_cases q2:Ilx.cll (Ilx.hd s.L).1.text=true
    · rw [Ilx.opn_2 q q2]
    · by_cases q3:Ilx.jmp (Ilx.opO s)=true
      · rw [Ilx.opn_3 q q2 q3]
      · rw [Ilx.opn_4 q q2 q3]
set_option maxHeartbeats 4000000 in
set_option maxRecDepth 100000 in
theorem iline_1 {v w:World} {rb tb cap:Nat} {X:ByteArray} {T:TL} {A:Nat→Prop} {s:Ps} (J:Jr v rb tb cap X T A s w) (h1:Ilx.bLab s=false) (h2:Ilx.bOp (s)=true):Calls Tryz.prog 38 #[.pointer (some ⟨rb,0,none⟩)] w fun e w'=>∃ (ep:Option Addr) (en ec:Nat) (ap:Option Addr) (an ac:Nat) (q:Int),e=.returned (.agg #[.string (tx (Ilx.lin s).2.lab),.string (tx (Ilx.lin s).2.op),.slice ep en ec,.slice ap an ac,.int .i64 q])∧(Sl 7 Pe (fun x=>w.heap.size≤x) w' ep en ec (Ilx.lin s).2.es∧Sl 9 Pa (fun x=>w.heap.size≤x) w' ap an ac (Ilx.lin s).2.args)∧Kp rb w w'∧Jr v rb tb cap X T A (Ilx.lin s).1 w':=by
  have eS:Ilx.lns s=s:=by unfold Ilx.lns;rw [h1];rfl
  have eL:Ilx.lnl s=[]:=by unfold Ilx.lnl;rw [h1];rfl
  have RL:Hid (Ilx.lin s=(Ilx.xq (Ilx.opn (s) [] (Ilx.hd s.L).2).1 [10],(Ilx.opn (s) [] (Ilx.hd s.L).2).2)):=hid_as (by unfold Ilx.lin;rw [eS,eL,Ilx.lnb_1 h2])
  have OL:=hid_as (opn_lab (s) [] (Ilx.hd s.L).2)
  have OP:=hid_as (fun W (ib:Nat) (lab:ByteArray) (p:Int) (J:Jr w rb tb cap X T (fun x=>(A x∧x ≠ w.heap.size)∧x ≠ ib) (s) W) hv ht hi (hB:Bk W ib #[.string lab,.string ⟨#[]⟩,.slice none 0 0,.slice none 0 0,.int .i64 p]) hn=>j_operation J hv ht hi hB hn [] (Ilx.hd s.L).2)
  have J0:=hid_as (J.here.box (.cells #[.string ⟨#[]⟩,.string ⟨#[]⟩,.slice none 0 0,.slice none 0 0,.int .i64 0] 51))
  have B0:=hid_as (Bk.fresh w #[.string ⟨#[]⟩,.string ⟨#[]⟩,.slice none 0 0,.slice none 0 0,.int .i64 0] 51)
  have JJ:=hid_as J
  have hrl:=J.rlt
  have htl:=J.r.lt
  have hna:=hid_as J.r.na
  have NW:=hid_as (fun W (J:Jr w rb tb cap X T (fun x=>A x∧x ≠ w.heap.size) s W)=>j_now J)
  have BL:=hid_as (fun W ib (J:Jr w rb tb cap X T (fun x=>(A x∧x ≠ w.heap.size)∧x ≠ ib) (s) W)=>j_beginsLabel J _ h1)
  have BO:=hid_as (fun W ib (J:Jr w rb tb cap X T (fun x=>(A x∧x ≠ w.heap.size)∧x ≠ ib) (s) W)=>j_beginsOp J _ h2)
  have XL:Hid (∀ W ib so,Jr w rb tb cap X T (fun x=>(A x∧x ≠ w.heap.size)∧x ≠ ib) (so) W→Calls Tryz.prog 36 #[.pointer (some ⟨rb,0,none⟩),.string ⟨#[10]⟩] W fun e w'=>e=.returned (.tuple #[])∧Kp rb W w'∧Jr w rb tb cap X T (fun x=>(A x∧x ≠ w.heap.size)∧x ≠ ib) (Ilx.xq so [10]) w'):=hid_as fun W ib so J=>j_expect J ⟨#[10]⟩
  have F3:=fd3
  have F4:=fd4
  rw [RL.out]
  clear J eS eL RL h1 h2
  generalize Ilx.opn (s) [] (Ilx.hd s.L).2=xo at *
  obtain ⟨so,io⟩:=xo
  obtain ⟨iol,ioo,ioe,ioa,iop⟩:=io
  simp only at OP OL ⊢
  generalize Ilx.hd s.L=t0 at *
  obtain ⟨⟨ta,tk,tn,tt⟩,pl⟩:=t0
  have ol:=OL.out
  clear OL
  subst ol
  go_enter Tryz.func38,Tryz.ntmps38
  go_upto_region 2 with (first
    | (go_at_call 34;(with_reducible refine (NW.out _ J0.out).mono ?_);rintro e w1 ⟨_,rfl,⟨_,_,_,_,_,t1,rfl⟩,k1,j1⟩;cases t1;have J1:=hid_as j1;have B1:=hid_as (B0.out.kp k1 (by omega));have z1:=k1.size;(try rw [World.size_alloc] at z1);clear k1 j1))
  have J2:=hid_as (J1.out.box (.cells #[.string ⟨#[]⟩,.string ⟨#[]⟩,.slice none 0 0,.slice none 0 0,.int .i64 pl] 51))
  have BR:=hid_as (B1.out.alloc (.cells #[.string ⟨#[]⟩,.string ⟨#[]⟩,.slice none 0 0,.slice none 0 0,.int .i64 pl] 51))
  have BI:=hid_as (Bk.fresh w1 #[.string ⟨#[]⟩,.string ⟨#[]⟩,.slice none 0 0,.slice none 0 0,.int .i64 pl] 51)
  obtain ⟨ib,hib⟩:∃ ib,ib=w1.heap.size:=⟨_,rfl⟩
  rw [← hib] at J2 BI ⊢
  generalize w1.alloc (.cells #[.string ⟨#[]⟩,.string ⟨#[]⟩,.slice none 0 0,.slice none 0 0,.int .i64 pl] 51)=W2 at *
  clear J1 B1
  have hiw:w.heap.size < ib:=by omega
  have hnb:Hid (¬ ((A ib∧ib ≠ w.heap.size)∧ib ≠ ib)):=hid_as (fun q=>q.2 rfl)
  replace hib:=hid_as hib
  have hzi:=BI.out.lt
  go_wp2_with (first
    | (go_at_call 80;(with_reducible refine (BL.out _ _ J2.out).mono ?_);rintro e w3 ⟨rfl,k3,j3⟩;have J3:=hid_as j3;have BR3:=hid_as (BR.out.kp k3 (by omega));have BI3:=hid_as (BI.out.kp k3 (by omega));have z3:=k3.size;(try rw [World.size_alloc] at z3);have K3:=hid_as k3;clear k3 j3)
    | (go_at_call 81;(with_reducible refine (BO.out _ _ J3.out).mono ?_);rintro e w7 ⟨rfl,k7,j7⟩;have J7:=hid_as j7;have BR7:=hid_as (BR3.out.kp k7 (by omega));have BI7:=hid_as (BI3.out.kp k7 (by omega));have z7:=k7.size;(try rw [World.size_alloc] at z7);have K7:=hid_as k7;clear k7 j7;obtain ⟨s0,s1,s2,s3,s4⟩:=bk5 BI7.out;have sf:=BI7.out.fr)
    | (go_at_call 82;(with_reducible refine (OP.out _ _ ⟨#[]⟩ _ J7.out hrl htl (Nat.le_of_lt hiw) BI7.out hnb.out).mono ?_);rintro e w8 ⟨rfl,q8⟩;obtain ⟨ep,en,ec,ap,an,ac,bi,se,sa⟩:=q8.q;have J8:=hid_as q8.j;have BR8:=hid_as (q8.k.bk BR7.out (by omega) (by omega));have BI8:=hid_as bi;have SE:=hid_as se;have SA:=hid_as sa;have z8:=q8.k.size;clear q8 bi se sa)
    | (go_at_call 36;(with_reducible refine (XL.out _ _ _ J8.out).mono ?_);rintro e w9 ⟨rfl,k9,j9⟩;have J9:=hid_as j9;have BR9:=hid_as (BR8.out.kp k9 (by omega));have BI9:=hid_as (BI8.out.kp k9 (by omega));have z9:=k9.size;(try rw [World.size_alloc] at z9);have K9:=hid_as k9;clear k9 j9;clear s0 s1 s2 s3 s4 sf;obtain ⟨s0,s1,s2,s3,s4⟩:=bk5 BI9.out;have sf:=BI9.out.fr;obtain ⟨u0,u1,u2,u3,u4⟩:=bk5 BR9.out;have uf:=BR9.out.fr))
  obtain ⟨x0,x1,x2,x3,x4⟩:=bk5 (BR9.out.put5 (.string ⟨#[]⟩) (.string (tx ioo)) (.slice ep en ec) (.slice ap an ac) (.int .i64 pl))
  have KK:=J9.out.k.put5 (Nat.le_refl _) (.string ⟨#[]⟩) (.string (tx ioo)) (.slice ep en ec) (.slice ap an ac) (.int .i64 pl)
  refine bodyPost_ret (v:=.agg #[.string ⟨#[]⟩,.string (tx ioo),.slice ep en ec,.slice ap an ac,.int .i64 pl]) (by simp [results,Tryz.results38,go_sem,x0,x1,x2,x3,x4]) rfl ⟨_,_,_,_,_,_,_,rfl,⟨?_,?_⟩,KK,?_⟩
  · exact SE.out.keepK (P:=Pe) (fun _ _ _ _ o _ _=>Pe.ov o) (((Ov.kp K9.out (by show ¬ (_≤_);omega)).trans (Ov.into (S':=fun x=>w.heap.size≤x∧x ≠ w.heap.size) fun x (hx:w7.heap.size≤x) _=>⟨by omega,by omega⟩)).trans ((Ov.set5 _ (fun h=>h.2 rfl) _ _ _ _ _).trans (Ov.into fun x hx _=>hx.1)))
  · exact SA.out.keepK (P:=Pa) (fun _ _ _ _ o _ _=>Pa.ov o) (((Ov.kp K9.out (by show ¬ (_≤_);omega)).trans (Ov.into (S':=fun x=>w.heap.size≤x∧x ≠ w.heap.size) fun x (hx:w7.heap.size≤x) _=>⟨by omega,by omega⟩)).trans ((Ov.set5 _ (fun h=>h.2 rfl) _ _ _ _ _).trans (Ov.into fun x hx _=>hx.1)))
  · exact JJ.out.nx KK (((J9.out.r.put5 (by omega) (by omega) (fun q=>q.1.2 rfl) (.string ⟨#[]⟩) (.string (tx ioo)) (.slice ep en ec) (.slice ap an ac) (.int .i64 pl)).into (fun g hg _=>hg.1.1) hna.out))
set_option maxHeartbeats 4000000 in
set_option maxRecDepth 100000 in
theorem iline_2 {v w:World} {rb tb cap:Nat} {X:ByteArray} {T:TL} {A:Nat→Prop} {s:Ps} (J:Jr v rb tb cap X T A s w) (h1:Ilx.bLab s=false) (h2:Ilx.bOp (s)=false) (h3:Ilx.iz s [41]=true):Calls Tryz.prog 38 #[.pointer (some ⟨rb,0,none⟩)] w fun e w'=>∃ (ep:Option Addr) (en ec:Nat) (ap:Option Addr) (an ac:Nat) (q:Int),e=.returned (.agg #[.string (tx (Ilx.lin s).2.lab),.string (tx (Ilx.lin s).2.op),.slice ep en ec,.slice ap an ac,.int .i64 q])∧(Sl 7 Pe (fun x=>w.heap.size≤x) w' ep en ec (Ilx.lin s).2.es∧Sl 9 Pa (fun x=>w.heap.size≤x) w' ap an ac (Ilx.lin s).2.args)∧Kp rb w w'∧Jr v rb tb cap X T A (Ilx.lin s).1 w':=by
  have eS:Ilx.lns s=s:=by unfold Ilx.lns;rw [h1];rfl
  have eL:Ilx.lnl s=[]:=by unfold Ilx.lnl;rw [h1];rfl
  have RL:Hid (Ilx.lin s=(Ilx.xq (Ilx.tk s) [10],⟨[],[41],[],[],(Ilx.hd s.L).2⟩)):=hid_as (by unfold Ilx.lin;rw [eS,eL,Ilx.lnb_2 (by rw [h2];exact Bool.false_ne_true) (by rw [h3];rfl)])
  have J0:=hid_as (J.here.box (.cells #[.string ⟨#[]⟩,.string ⟨#[]⟩,.slice none 0 0,.slice none 0 0,.int .i64 0] 51))
  have B0:=hid_as (Bk.fresh w #[.string ⟨#[]⟩,.string ⟨#[]⟩,.slice none 0 0,.slice none 0 0,.int .i64 0] 51)
  have JJ:=hid_as J
  have hrl:=J.rlt
  have htl:=J.r.lt
  have hna:=hid_as J.r.na
  have NW:=hid_as (fun W (J:Jr w rb tb cap X T (fun x=>A x∧x ≠ w.heap.size) s W)=>j_now J)
  have BL:=hid_as (fun W ib (J:Jr w rb tb cap X T (fun x=>(A x∧x ≠ w.heap.size)∧x ≠ ib) (s) W)=>j_beginsLabel J _ h1)
  have BO:=hid_as (fun W ib (J:Jr w rb tb cap X T (fun x=>(A x∧x ≠ w.heap.size)∧x ≠ ib) (s) W)=>j_beginsOp J _ h2)
  have AC:Hid (∀ W ib,Jr w rb tb cap X T (fun x=>(A x∧x ≠ w.heap.size)∧x ≠ ib) (s) W→Calls Tryz.prog 37 #[.pointer (some ⟨rb,0,none⟩),.string ⟨#[41]⟩] W fun e w'=>e=.returned (.bool true)∧Kp rb W w'∧Jr w rb tb cap X T (fun x=>(A x∧x ≠ w.heap.size)∧x ≠ ib) (Ilx.tk s) w'):=hid_as fun W ib J=>j_accept_y J ⟨#[41]⟩ h3
  have XL:Hid (∀ W ib so,Jr w rb tb cap X T (fun x=>(A x∧x ≠ w.heap.size)∧x ≠ ib) (so) W→Calls Tryz.prog 36 #[.pointer (some ⟨rb,0,none⟩),.string ⟨#[10]⟩] W fun e w'=>e=.returned (.tuple #[])∧Kp rb W w'∧Jr w rb tb cap X T (fun x=>(A x∧x ≠ w.heap.size)∧x ≠ ib) (Ilx.xq so [10]) w'):=hid_as fun W ib so J=>j_expect J ⟨#[10]⟩
  have F3:=fd3
  have F4:=fd4
  rw [RL.out]
  clear J eS eL RL h1 h2 h3
  generalize Ilx.hd s.L=t0 at *
  obtain ⟨⟨ta,tk,tn,tt⟩,pl⟩:=t0
  go_enter Tryz.func38,Tryz.ntmps38
  go_upto_region 2 with (first
    | (go_at_call 34;(with_reducible refine (NW.out _ J0.out).mono ?_);rintro e w1 ⟨_,rfl,⟨_,_,_,_,_,t1,rfl⟩,k1,j1⟩;cases t1;have J1:=hid_as j1;have B1:=hid_as (B0.out.kp k1 (by omega));have z1:=k1.size;(try rw [World.size_alloc] at z1);clear k1 j1))
  have J2:=hid_as (J1.out.box (.cells #[.string ⟨#[]⟩,.string ⟨#[]⟩,.slice none 0 0,.slice none 0 0,.int .i64 pl] 51))
  have BR:=hid_as (B1.out.alloc (.cells #[.string ⟨#[]⟩,.string ⟨#[]⟩,.slice none 0 0,.slice none 0 0,.int .i64 pl] 51))
  have BI:=hid_as (Bk.fresh w1 #[.string ⟨#[]⟩,.string ⟨#[]⟩,.slice none 0 0,.slice none 0 0,.int .i64 pl] 51)
  obtain ⟨ib,hib⟩:∃ ib,ib=w1.heap.size:=⟨_,rfl⟩
  rw [← hib] at J2 BI ⊢
  generalize w1.alloc (.cells #[.string ⟨#[]⟩,.string ⟨#[]⟩,.slice none 0 0,.slice none 0 0,.int .i64 pl] 51)=W2 at *
  clear J1 B1
  have hiw:w.heap.size < ib:=by omega
  have hnb:Hid (¬ ((A ib∧ib ≠ w.heap.size)∧ib ≠ ib)):=hid_as (fun q=>q.2 rfl)
  replace hib:=hid_as hib
  have hzi:=BI.out.lt
  go_wp2_with (first
    | (go_at_call 80;(with_reducible refine (BL.out _ _ J2.out).mono ?_);rintro e w3 ⟨rfl,k3,j3⟩;have J3:=hid_as j3;have BR3:=hid_as (BR.out.kp k3 (by omega));have BI3:=hid_as (BI.out.kp k3 (by omega));have z3:=k3.size;(try rw [World.size_alloc] at z3);have K3:=hid_as k3;clear k3 j3)
    | (go_at_call 81;(with_reducible refine (BO.out _ _ J3.out).mono ?_);rintro e w7 ⟨rfl,k7,j7⟩;have J7:=hid_as j7;have BR7:=hid_as (BR3.out.kp k7 (by omega));have BI7:=hid_as (BI3.out.kp k7 (by omega));have z7:=k7.size;(try rw [World.size_alloc] at z7);have K7:=hid_as k7;clear k7 j7;obtain ⟨s0,s1,s2,s3,s4⟩:=bk5 BI7.out;have sf:=BI7.out.fr)
    | (go_at_call 37;(with_reducible refine (AC.out _ _ J7.out).mono ?_);rintro e w8 ⟨rfl,k8,j8⟩;have J8:=hid_as j8;have BR8:=hid_as (BR7.out.kp k8 (by omega));have BI8:=hid_as (BI7.out.kp k8 (by omega));have z8:=k8.size;(try rw [World.size_alloc] at z8);have K8:=hid_as k8;clear k8 j8;clear s0 s1 s2 s3 s4 sf;obtain ⟨s0,s1,s2,s3,s4⟩:=bk5 BI8.out;have sf:=BI8.out.fr;have JA:=hid_as (J8.out.set hrl htl (by omega) hnb.out 1 (.string ⟨#[41]⟩));have BIA:=hid_as (BI8.out.set1 (.string ⟨#[41]⟩));have BRA:=hid_as (BR8.out.other (b:=ib) 1 (.string ⟨#[41]⟩) (by omega));have y8:(w8.setCell ⟨ib,1,none⟩ (.string ⟨#[41]⟩)).heap.size=w8.heap.size:=(by simp [World.setCell]))
    | (go_at_call 36;(with_reducible refine (XL.out _ _ _ JA.out).mono ?_);rintro e w9 ⟨rfl,k9,j9⟩;have J9:=hid_as j9;have BR9:=hid_as (BRA.out.kp k9 (by omega));have BI9:=hid_as (BIA.out.kp k9 (by omega));have z9:=k9.size;(try rw [World.size_alloc] at z9);have K9:=hid_as k9;clear k9 j9;rw [y8] at z9;clear s0 s1 s2 s3 s4 sf;obtain ⟨s0,s1,s2,s3,s4⟩:=bk5 BI9.out;have sf:=BI9.out.fr;obtain ⟨u0,u1,u2,u3,u4⟩:=bk5 BR9.out;have uf:=BR9.out.fr))
  obtain ⟨x0,x1,x2,x3,x4⟩:=bk5 (BR9.out.put5 (.string ⟨#[]⟩) (.string ⟨#[41]⟩) (.slice none 0 0) (.slice none 0 0) (.int .i64 pl))
  have KK:=J9.out.k.put5 (Nat.le_refl _) (.string ⟨#[]⟩) (.string ⟨#[41]⟩) (.slice none 0 0) (.slice none 0 0) (.int .i64 pl)
  refine bodyPost_ret (v:=.agg #[.string ⟨#[]⟩,.string ⟨#[41]⟩,.slice none 0 0,.slice none 0 0,.int .i64 pl]) (by simp [results,Tryz.results38,go_sem,x0,x1,x2,x3,x4]) rfl ⟨_,_,_,_,_,_,_,rfl,⟨?_,?_⟩,KK,?_⟩
  · exact Sl.nil
  · exact Sl.nil
  · exact JJ.out.nx KK (((J9.out.r.put5 (by omega) (by omega) (fun q=>q.1.2 rfl) (.string ⟨#[]⟩) (.string ⟨#[41]⟩) (.slice none 0 0) (.slice none 0 0) (.int .i64 pl)).into (fun g hg _=>hg.1.1) hna.out))
set_option maxHeartbeats 4000000 in
set_option maxRecDepth 100000 in
theorem iline_3 {v w:World} {rb tb cap:Nat} {X:ByteArray} {T:TL} {A:Nat→Prop} {s:Ps} (J:Jr v rb tb cap X T A s w) (h1:Ilx.bLab s=false) (h2:Ilx.bOp (s)=false) (h3:Ilx.iz s [41]=false):Calls Tryz.prog 38 #[.pointer (some ⟨rb,0,none⟩)] w fun e w'=>∃ (ep:Option Addr) (en ec:Nat) (ap:Option Addr) (an ac:Nat) (q:Int),e=.returned (.agg #[.string (tx (Ilx.lin s).2.lab),.string (tx (Ilx.lin s).2.op),.slice ep en ec,.slice ap an ac,.int .i64 q])∧(Sl 7 Pe (fun x=>w.heap.size≤x) w' ep en ec (Ilx.lin s).2.es∧Sl 9 Pa (fun x=>w.heap.size≤x) w' ap an ac (Ilx.lin s).2.args)∧Kp rb w w'∧Jr v rb tb cap X T A (Ilx.lin s).1 w':=by
  have eS:Ilx.lns s=s:=by unfold Ilx.lns;rw [h1];rfl
  have eL:Ilx.lnl s=[]:=by unfold Ilx.lnl;rw [h1];rfl
  have RL:Hid (Ilx.lin s=(Ilx.xq (s) [10],⟨[],[],[],[],(Ilx.hd s.L).2⟩)):=hid_as (by unfold Ilx.lin;rw [eS,eL,Ilx.lnb_3 (by rw [h2];exact Bool.false_ne_true) (by rw [h3,Bool.and_false];exact Bool.false_ne_true)])
  have J0:=hid_as (J.here.box (.cells #[.string ⟨#[]⟩,.string ⟨#[]⟩,.slice none 0 0,.slice none 0 0,.int .i64 0] 51))
  have B0:=hid_as (Bk.fresh w #[.string ⟨#[]⟩,.string ⟨#[]⟩,.slice none 0 0,.slice none 0 0,.int .i64 0] 51)
  have JJ:=hid_as J
  have hrl:=J.rlt
  have htl:=J.r.lt
  have hna:=hid_as J.r.na
  have NW:=hid_as (fun W (J:Jr w rb tb cap X T (fun x=>A x∧x ≠ w.heap.size) s W)=>j_now J)
  have BL:=hid_as (fun W ib (J:Jr w rb tb cap X T (fun x=>(A x∧x ≠ w.heap.size)∧x ≠ ib) (s) W)=>j_beginsLabel J _ h1)
  have BO:=hid_as (fun W ib (J:Jr w rb tb cap X T (fun x=>(A x∧x ≠ w.heap.size)∧x ≠ ib) (s) W)=>j_beginsOp J _ h2)
  have AC:Hid (∀ W ib,Jr w rb tb cap X T (fun x=>(A x∧x ≠ w.heap.size)∧x ≠ ib) (s) W→Calls Tryz.prog 37 #[.pointer (some ⟨rb,0,none⟩),.string ⟨#[41]⟩] W fun e w'=>e=.returned (.bool false)∧Kp rb W w'∧Jr w rb tb cap X T (fun x=>(A x∧x ≠ w.heap.size)∧x ≠ ib) (s) w'):=hid_as fun W ib J=>j_accept_n J ⟨#[41]⟩ h3
  have XL:Hid (∀ W ib so,Jr w rb tb cap X T (fun x=>(A x∧x ≠ w.heap.size)∧x ≠ ib) (so) W→Calls Tryz.prog 36 #[.pointer (some ⟨rb,0,none⟩),.string ⟨#[10]⟩] W fun e w'=>e=.returned (.tuple #[])∧Kp rb W w'∧Jr w rb tb cap X T (fun x=>(A x∧x ≠ w.heap.size)∧x ≠ ib) (Ilx.xq so [10]) w'):=hid_as fun W ib so J=>j_expect J ⟨#[10]⟩
  have F3:=fd3
  have F4:=fd4
  rw [RL.out]
  clear J eS eL RL h1 h2 h3
  generalize Ilx.hd s.L=t0 at *
  obtain ⟨⟨ta,tk,tn,tt⟩,pl⟩:=t0
  go_enter Tryz.func38,Tryz.ntmps38
  go_upto_region 2 with (first
    | (go_at_call 34;(with_reducible refine (NW.out _ J0.out).mono ?_);rintro e w1 ⟨_,rfl,⟨_,_,_,_,_,t1,rfl⟩,k1,j1⟩;cases t1;have J1:=hid_as j1;have B1:=hid_as (B0.out.kp k1 (by omega));have z1:=k1.size;(try rw [World.size_alloc] at z1);clear k1 j1))
  have J2:=hid_as (J1.out.box (.cells #[.string ⟨#[]⟩,.string ⟨#[]⟩,.slice none 0 0,.slice none 0 0,.int .i64 pl] 51))
  have BR:=hid_as (B1.out.alloc (.cells #[.string ⟨#[]⟩,.string ⟨#[]⟩,.slice none 0 0,.slice none 0 0,.int .i64 pl] 51))
  have BI:=hid_as (Bk.fresh w1 #[.string ⟨#[]⟩,.string ⟨#[]⟩,.slice none 0 0,.slice none 0 0,.int .i64 pl] 51)
  obtain ⟨ib,hib⟩:∃ ib,ib=w1.heap.size:=⟨_,rfl⟩
  rw [← hib] at J2 BI ⊢
  generalize w1.alloc (.cells #[.string ⟨#[]⟩,.string ⟨#[]⟩,.slice none 0 0,.slice none 0 0,.int .i64 pl] 51)=W2 at *
  clear J1 B1
  have hiw:w.heap.size < ib:=by omega
  have hnb:Hid (¬ ((A ib∧ib ≠ w.heap.size)∧ib ≠ ib)):=hid_as (fun q=>q.2 rfl)
  replace hib:=hid_as hib
  have hzi:=BI.out.lt
  go_wp2_with (first
    | (go_at_call 80;(with_reducible refine (BL.out _ _ J2.out).mono ?_);rintro e w3 ⟨rfl,k3,j3⟩;have J3:=hid_as j3;have BR3:=hid_as (BR.out.kp k3 (by omega));have BI3:=hid_as (BI.out.kp k3 (by omega));have z3:=k3.size;(try rw [World.size_alloc] at z3);have K3:=hid_as k3;clear k3 j3)
    | (go_at_call 81;(with_reducible refine (BO.out _ _ J3.out).mono ?_);rintro e w7 ⟨rfl,k7,j7⟩;have J7:=hid_as j7;have BR7:=hid_as (BR3.out.kp k7 (by omega));have BI7:=hid_as (BI3.out.kp k7 (by omega));have z7:=k7.size;(try rw [World.size_alloc] at z7);have K7:=hid_as k7;clear k7 j7;obtain ⟨s0,s1,s2,s3,s4⟩:=bk5 BI7.out;have sf:=BI7.out.fr)
    | (go_at_call 37;(with_reducible refine (AC.out _ _ J7.out).mono ?_);rintro e w8 ⟨rfl,k8,j8⟩;have J8:=hid_as j8;have BR8:=hid_as (BR7.out.kp k8 (by omega));have BI8:=hid_as (BI7.out.kp k8 (by omega));have z8:=k8.size;(try rw [World.size_alloc] at z8);have K8:=hid_as k8;clear k8 j8)
    | (go_at_call 36;(with_reducible refine (XL.out _ _ _ J8.out).mono ?_);rintro e w9 ⟨rfl,k9,j9⟩;have J9:=hid_as j9;have BR9:=hid_as (BR8.out.kp k9 (by omega));have BI9:=hid_as (BI8.out.kp k9 (by omega));have z9:=k9.size;(try rw [World.size_alloc] at z9);have K9:=hid_as k9;clear k9 j9;clear s0 s1 s2 s3 s4 sf;obtain ⟨s0,s1,s2,s3,s4⟩:=bk5 BI9.out;have sf:=BI9.out.fr;obtain ⟨u0,u1,u2,u3,u4⟩:=bk5 BR9.out;have uf:=BR9.out.fr))
  obtain ⟨x0,x1,x2,x3,x4⟩:=bk5 (BR9.out.put5 (.string ⟨#[]⟩) (.string ⟨#[]⟩) (.slice none 0 0) (.slice none 0 0) (.int .i64 pl))
  have KK:=J9.out.k.put5 (Nat.le_refl _) (.string ⟨#[]⟩) (.string ⟨#[]⟩) (.slice none 0 0) (.slice none 0 0) (.int .i64 pl)
  refine bodyPost_ret (v:=.agg #[.string ⟨#[]⟩,.string ⟨#[]⟩,.slice none 0 0,.slice none 0 0,.int .i64 pl]) (by simp [results,Tryz.results38,go_sem,x0,x1,x2,x3,x4]) rfl ⟨_,_,_,_,_,_,_,rfl,⟨?_,?_⟩,KK,?_⟩
  · exact Sl.nil
  · exact Sl.nil
  · exact JJ.out.nx KK (((J9.out.r.put5 (by omega) (by omega) (fun q=>q.1.2 rfl) (.string ⟨#[]⟩) (.string ⟨#[]⟩) (.slice none 0 0) (.slice none 0 0) (.int .i64 pl)).into (fun g hg _=>hg.1.1) hna.out))
set_option maxHeartbeats 4000000 in
set_option maxRecDepth 100000 in
theorem iline_4 {v w:World} {rb tb cap:Nat} {X:ByteArray} {T:TL} {A:Nat→Prop} {s:Ps} (J:Jr v rb tb cap X T A s w) (h1:Ilx.bLab s=true) (h2:Ilx.bOp (Ilx.xq (Ilx.tk s) [58])=true):Calls Tryz.prog 38 #[.pointer (some ⟨rb,0,none⟩)] w fun e w'=>∃ (ep:Option Addr) (en ec:Nat) (ap:Option Addr) (an ac:Nat) (q:Int),e=.returned (.agg #[.string (tx (Ilx.lin s).2.lab),.string (tx (Ilx.lin s).2.op),.slice ep en ec,.slice ap an ac,.int .i64 q])∧(Sl 7 Pe (fun x=>w.heap.size≤x) w' ep en ec (Ilx.lin s).2.es∧Sl 9 Pa (fun x=>w.heap.size≤x) w' ap an ac (Ilx.lin s).2.args)∧Kp rb w w'∧Jr v rb tb cap X T A (Ilx.lin s).1 w':=by
  have eS:Ilx.lns s=Ilx.xq (Ilx.tk s) [58]:=by unfold Ilx.lns;rw [h1];rfl
  have eL:Ilx.lnl s=(Ilx.hd s.L).1.text:=by unfold Ilx.lnl;rw [h1];rfl
  have RL:Hid (Ilx.lin s=(Ilx.xq (Ilx.opn (Ilx.xq (Ilx.tk s) [58]) (Ilx.hd s.L).1.text (Ilx.hd s.L).2).1 [10],(Ilx.opn (Ilx.xq (Ilx.tk s) [58]) (Ilx.hd s.L).1.text (Ilx.hd s.L).2).2)):=hid_as (by unfold Ilx.lin;rw [eS,eL,Ilx.lnb_1 h2])
  have OL:=hid_as (opn_lab (Ilx.xq (Ilx.tk s) [58]) (Ilx.hd s.L).1.text (Ilx.hd s.L).2)
  have OP:=hid_as (fun W (ib:Nat) (lab:ByteArray) (p:Int) (J:Jr w rb tb cap X T (fun x=>(A x∧x ≠ w.heap.size)∧x ≠ ib) (Ilx.xq (Ilx.tk s) [58]) W) hv ht hi (hB:Bk W ib #[.string lab,.string ⟨#[]⟩,.slice none 0 0,.slice none 0 0,.int .i64 p]) hn=>j_operation J hv ht hi hB hn (Ilx.hd s.L).1.text (Ilx.hd s.L).2)
  have J0:=hid_as (J.here.box (.cells #[.string ⟨#[]⟩,.string ⟨#[]⟩,.slice none 0 0,.slice none 0 0,.int .i64 0] 51))
  have B0:=hid_as (Bk.fresh w #[.string ⟨#[]⟩,.string ⟨#[]⟩,.slice none 0 0,.slice none 0 0,.int .i64 0] 51)
  have JJ:=hid_as J
  have hrl:=J.rlt
  have htl:=J.r.lt
  have hna:=hid_as J.r.na
  have NW:=hid_as (fun W (J:Jr w rb tb cap X T (fun x=>A x∧x ≠ w.heap.size) s W)=>j_now J)
  have BL:=hid_as (fun W ib (J:Jr w rb tb cap X T (fun x=>(A x∧x ≠ w.heap.size)∧x ≠ ib) (s) W)=>j_beginsLabel J _ h1)
  have BO:=hid_as (fun W ib (J:Jr w rb tb cap X T (fun x=>(A x∧x ≠ w.heap.size)∧x ≠ ib) (Ilx.xq (Ilx.tk s) [58]) W)=>j_beginsOp J _ h2)
  have TK:=hid_as (fun W ib (J:Jr w rb tb cap X T (fun x=>(A x∧x ≠ w.heap.size)∧x ≠ ib) (s) W)=>j_take J)
  have XC:Hid (∀ W ib,Jr w rb tb cap X T (fun x=>(A x∧x ≠ w.heap.size)∧x ≠ ib) (Ilx.tk s) W→Calls Tryz.prog 36 #[.pointer (some ⟨rb,0,none⟩),.string ⟨#[58]⟩] W fun e w'=>e=.returned (.tuple #[])∧Kp rb W w'∧Jr w rb tb cap X T (fun x=>(A x∧x ≠ w.heap.size)∧x ≠ ib) (Ilx.xq (Ilx.tk s) [58]) w'):=hid_as fun W ib J=>j_expect J ⟨#[58]⟩
  have XL:Hid (∀ W ib so,Jr w rb tb cap X T (fun x=>(A x∧x ≠ w.heap.size)∧x ≠ ib) (so) W→Calls Tryz.prog 36 #[.pointer (some ⟨rb,0,none⟩),.string ⟨#[10]⟩] W fun e w'=>e=.returned (.tuple #[])∧Kp rb W w'∧Jr w rb tb cap X T (fun x=>(A x∧x ≠ w.heap.size)∧x ≠ ib) (Ilx.xq so [10]) w'):=hid_as fun W ib so J=>j_expect J ⟨#[10]⟩
  have F3:=fd3
  have F4:=fd4
  rw [RL.out]
  clear J eS eL RL h1 h2
  generalize Ilx.opn (Ilx.xq (Ilx.tk s) [58]) (Ilx.hd s.L).1.text (Ilx.hd s.L).2=xo at *
  obtain ⟨so,io⟩:=xo
  obtain ⟨iol,ioo,ioe,ioa,iop⟩:=io
  simp only at OP OL ⊢
  generalize Ilx.hd s.L=t0 at *
  obtain ⟨⟨ta,tk,tn,tt⟩,pl⟩:=t0
  simp only at OL
  have ol:=OL.out.symm
  clear OL
  subst ol
  go_enter Tryz.func38,Tryz.ntmps38
  go_upto_region 2 with (first
    | (go_at_call 34;(with_reducible refine (NW.out _ J0.out).mono ?_);rintro e w1 ⟨_,rfl,⟨_,_,_,_,_,t1,rfl⟩,k1,j1⟩;cases t1;have J1:=hid_as j1;have B1:=hid_as (B0.out.kp k1 (by omega));have z1:=k1.size;(try rw [World.size_alloc] at z1);clear k1 j1))
  have J2:=hid_as (J1.out.box (.cells #[.string ⟨#[]⟩,.string ⟨#[]⟩,.slice none 0 0,.slice none 0 0,.int .i64 pl] 51))
  have BR:=hid_as (B1.out.alloc (.cells #[.string ⟨#[]⟩,.string ⟨#[]⟩,.slice none 0 0,.slice none 0 0,.int .i64 pl] 51))
  have BI:=hid_as (Bk.fresh w1 #[.string ⟨#[]⟩,.string ⟨#[]⟩,.slice none 0 0,.slice none 0 0,.int .i64 pl] 51)
  obtain ⟨ib,hib⟩:∃ ib,ib=w1.heap.size:=⟨_,rfl⟩
  rw [← hib] at J2 BI ⊢
  generalize w1.alloc (.cells #[.string ⟨#[]⟩,.string ⟨#[]⟩,.slice none 0 0,.slice none 0 0,.int .i64 pl] 51)=W2 at *
  clear J1 B1
  have hiw:w.heap.size < ib:=by omega
  have hnb:Hid (¬ ((A ib∧ib ≠ w.heap.size)∧ib ≠ ib)):=hid_as (fun q=>q.2 rfl)
  replace hib:=hid_as hib
  have hzi:=BI.out.lt
  go_wp2_with (first
    | (go_at_call 80;(with_reducible refine (BL.out _ _ J2.out).mono ?_);rintro e w3 ⟨rfl,k3,j3⟩;have J3:=hid_as j3;have BR3:=hid_as (BR.out.kp k3 (by omega));have BI3:=hid_as (BI.out.kp k3 (by omega));have z3:=k3.size;(try rw [World.size_alloc] at z3);have K3:=hid_as k3;clear k3 j3)
    | (go_at_call 78;(with_reducible refine (TK.out _ _ J3.out).mono ?_);rintro e w4 ⟨_,rfl,⟨_,_,_,_,_,t1,rfl⟩,k4,j4⟩;cases t1;have J4:=hid_as j4;have BR4:=hid_as (BR3.out.kp k4 (by omega));have BI4:=hid_as (BI3.out.kp k4 (by omega));have z4:=k4.size;obtain ⟨s0,s1,s2,s3,s4⟩:=bk5 BI4.out;have sf:=BI4.out.fr;have J5:=hid_as (J4.out.set hrl htl (by omega) hnb.out 0 (.string (tx tt)));have BI5:=hid_as (BI4.out.set0 (.string (tx tt)));have BR5:=hid_as (BR4.out.other (b:=ib) 0 (.string (tx tt)) (by omega));have y4:(w4.setCell ⟨ib,0,none⟩ (.string (tx tt))).heap.size=w4.heap.size:=(by simp [World.setCell]);clear k4 j4)
    | (go_at_call 36;(with_reducible refine (XC.out _ _ J5.out).mono ?_);rintro e w6 ⟨rfl,k6,j6⟩;have J6:=hid_as j6;have BR6:=hid_as (BR5.out.kp k6 (by omega));have BI6:=hid_as (BI5.out.kp k6 (by omega));have z6:=k6.size;(try rw [World.size_alloc] at z6);have K6:=hid_as k6;clear k6 j6;clear s0 s1 s2 s3 s4 sf;rw [y4] at z6)
    | (go_at_call 81;(with_reducible refine (BO.out _ _ J6.out).mono ?_);rintro e w7 ⟨rfl,k7,j7⟩;have J7:=hid_as j7;have BR7:=hid_as (BR6.out.kp k7 (by omega));have BI7:=hid_as (BI6.out.kp k7 (by omega));have z7:=k7.size;(try rw [World.size_alloc] at z7);have K7:=hid_as k7;clear k7 j7;obtain ⟨s0,s1,s2,s3,s4⟩:=bk5 BI7.out;have sf:=BI7.out.fr)
    | (go_at_call 82;(with_reducible refine (OP.out _ _ (tx tt) _ J7.out hrl htl (Nat.le_of_lt hiw) BI7.out hnb.out).mono ?_);rintro e w8 ⟨rfl,q8⟩;obtain ⟨ep,en,ec,ap,an,ac,bi,se,sa⟩:=q8.q;have J8:=hid_as q8.j;have BR8:=hid_as (q8.k.bk BR7.out (by omega) (by omega));have BI8:=hid_as bi;have SE:=hid_as se;have SA:=hid_as sa;have z8:=q8.k.size;clear q8 bi se sa)
    | (go_at_call 36;(with_reducible refine (XL.out _ _ _ J8.out).mono ?_);rintro e w9 ⟨rfl,k9,j9⟩;have J9:=hid_as j9;have BR9:=hid_as (BR8.out.kp k9 (by omega));have BI9:=hid_as (BI8.out.kp k9 (by omega));have z9:=k9.size;(try rw [World.size_alloc] at z9);have K9:=hid_as k9;clear k9 j9;clear s0 s1 s2 s3 s4 sf;obtain ⟨s0,s1,s2,s3,s4⟩:=bk5 BI9.out;have sf:=BI9.out.fr;obtain ⟨u0,u1,u2,u3,u4⟩:=bk5 BR9.out;have uf:=BR9.out.fr))
  obtain ⟨x0,x1,x2,x3,x4⟩:=bk5 (BR9.out.put5 (.string (tx tt)) (.string (tx ioo)) (.slice ep en ec) (.slice ap an ac) (.int .i64 pl))
  have KK:=J9.out.k.put5 (Nat.le_refl _) (.string (tx tt)) (.string (tx ioo)) (.slice ep en ec) (.slice ap an ac) (.int .i64 pl)
  refine bodyPost_ret (v:=.agg #[.string (tx tt),.string (tx ioo),.slice ep en ec,.slice ap an ac,.int .i64 pl]) (by simp [results,Tryz.results38,go_sem,x0,x1,x2,x3,x4]) rfl ⟨_,_,_,_,_,_,_,rfl,⟨?_,?_⟩,KK,?_⟩
  · exact SE.out.keepK (P:=Pe) (fun _ _ _ _ o _ _=>Pe.ov o) (((Ov.kp K9.out (by show ¬ (_≤_);omega)).trans (Ov.into (S':=fun x=>w.heap.size≤x∧x ≠ w.heap.size) fun x (hx:w7.heap.size≤x) _=>⟨by omega,by omega⟩)).trans ((Ov.set5 _ (fun h=>h.2 rfl) _ _ _ _ _).trans (Ov.into fun x hx _=>hx.1)))
  · exact SA.out.keepK (P:=Pa) (fun _ _ _ _ o _ _=>Pa.ov o) (((Ov.kp K9.out (by show ¬ (_≤_);omega)).trans (Ov.into (S':=fun x=>w.heap.size≤x∧x ≠ w.heap.size) fun x (hx:w7.heap.size≤x) _=>⟨by omega,by omega⟩)).trans ((Ov.set5 _ (fun h=>h.2 rfl) _ _ _ _ _).trans (Ov.into fun x hx _=>hx.1)))
  · exact JJ.out.nx KK (((J9.out.r.put5 (by omega) (by omega) (fun q=>q.1.2 rfl) (.string (tx tt)) (.string (tx ioo)) (.slice ep en ec) (.slice ap an ac) (.int .i64 pl)).into (fun g hg _=>hg.1.1) hna.out))
set_option maxHeartbeats 4000000 in
set_option maxRecDepth 100000 in
theorem iline_5 {v w:World} {rb tb cap:Nat} {X:ByteArray} {T:TL} {A:Nat→Prop} {s:Ps} (J:Jr v rb tb cap X T A s w) (h1:Ilx.bLab s=true) (h2:Ilx.bOp (Ilx.xq (Ilx.tk s) [58])=false):Calls Tryz.prog 38 #[.pointer (some ⟨rb,0,none⟩)] w fun e w'=>∃ (ep:Option Addr) (en ec:Nat) (ap:Option Addr) (an ac:Nat) (q:Int),e=.returned (.agg #[.string (tx (Ilx.lin s).2.lab),.string (tx (Ilx.lin s).2.op),.slice ep en ec,.slice ap an ac,.int .i64 q])∧(Sl 7 Pe (fun x=>w.heap.size≤x) w' ep en ec (Ilx.lin s).2.es∧Sl 9 Pa (fun x=>w.heap.size≤x) w' ap an ac (Ilx.lin s).2.args)∧Kp rb w w'∧Jr v rb tb cap X T A (Ilx.lin s).1 w':=by
  have eS:Ilx.lns s=Ilx.xq (Ilx.tk s) [58]:=by unfold Ilx.lns;rw [h1];rfl
  have eL:Ilx.lnl s=(Ilx.hd s.L).1.text:=by unfold Ilx.lnl;rw [h1];rfl
  have hne:(Ilx.hd s.L).1.text ≠ []:=(toks_named J.tk _ (J.r.sfx.subset (Ilx.mem_hd J.r.wls.ne)) (by unfold Ilx.bLab at h1;rw [Bool.and_eq_true,decide_eq_true_eq] at h1;exact h1.1))
  have RL:Hid (Ilx.lin s=(Ilx.xq (Ilx.xq (Ilx.tk s) [58]) [10],⟨(Ilx.hd s.L).1.text,[],[],[],(Ilx.hd s.L).2⟩)):=hid_as (by unfold Ilx.lin;rw [eS,eL,Ilx.lnb_3 (by rw [h2];exact Bool.false_ne_true) (by rw [Bool.and_eq_true];rintro ⟨q,_⟩;exact hne (eq_of_beq q))])
  have J0:=hid_as (J.here.box (.cells #[.string ⟨#[]⟩,.string ⟨#[]⟩,.slice none 0 0,.slice none 0 0,.int .i64 0] 51))
  have B0:=hid_as (Bk.fresh w #[.string ⟨#[]⟩,.string ⟨#[]⟩,.slice none 0 0,.slice none 0 0,.int .i64 0] 51)
  have JJ:=hid_as J
  have hrl:=J.rlt
  have htl:=J.r.lt
  have hna:=hid_as J.r.na
  have NW:=hid_as (fun W (J:Jr w rb tb cap X T (fun x=>A x∧x ≠ w.heap.size) s W)=>j_now J)
  have BL:=hid_as (fun W ib (J:Jr w rb tb cap X T (fun x=>(A x∧x ≠ w.heap.size)∧x ≠ ib) (s) W)=>j_beginsLabel J _ h1)
  have BO:=hid_as (fun W ib (J:Jr w rb tb cap X T (fun x=>(A x∧x ≠ w.heap.size)∧x ≠ ib) (Ilx.xq (Ilx.tk s) [58]) W)=>j_beginsOp J _ h2)
  have TK:=hid_as (fun W ib (J:Jr w rb tb cap X T (fun x=>(A x∧x ≠ w.heap.size)∧x ≠ ib) (s) W)=>j_take J)
  have XC:Hid (∀ W ib,Jr w rb tb cap X T (fun x=>(A x∧x ≠ w.heap.size)∧x ≠ ib) (Ilx.tk s) W→Calls Tryz.prog 36 #[.pointer (some ⟨rb,0,none⟩),.string ⟨#[58]⟩] W fun e w'=>e=.returned (.tuple #[])∧Kp rb W w'∧Jr w rb tb cap X T (fun x=>(A x∧x ≠ w.heap.size)∧x ≠ ib) (Ilx.xq (Ilx.tk s) [58]) w'):=hid_as fun W ib J=>j_expect J ⟨#[58]⟩
  have XL:Hid (∀ W ib so,Jr w rb tb cap X T (fun x=>(A x∧x ≠ w.heap.size)∧x ≠ ib) (so) W→Calls Tryz.prog 36 #[.pointer (some ⟨rb,0,none⟩),.string ⟨#[10]⟩] W fun e w'=>e=.returned (.tuple #[])∧Kp rb W w'∧Jr w rb tb cap X T (fun x=>(A x∧x ≠ w.heap.size)∧x ≠ ib) (Ilx.xq so [10]) w'):=hid_as fun W ib so J=>j_expect J ⟨#[10]⟩
  have F3:=fd3
  have F4:=fd4
  rw [RL.out]
  clear J eS eL RL h1 h2
  generalize Ilx.hd s.L=t0 at *
  obtain ⟨⟨ta,tk,tn,tt⟩,pl⟩:=t0
  simp only at hne ⊢
  have hne2:(tx tt).toList.isEmpty=false:=by rw [tx_toList];cases tt with
    | nil=>exact absurd rfl hne
    | cons a l=>rfl
  have hne3:¬ (tx tt).toList=[]:=by rw [tx_toList];exact hne
  have hne4:((tx tt).toList == [])=false:=by rw [beq_eq_false_iff_ne];exact hne3
  replace hne:=hid_as hne
  go_enter Tryz.func38,Tryz.ntmps38
  go_upto_region 2 with (first
    | (go_at_call 34;(with_reducible refine (NW.out _ J0.out).mono ?_);rintro e w1 ⟨_,rfl,⟨_,_,_,_,_,t1,rfl⟩,k1,j1⟩;cases t1;have J1:=hid_as j1;have B1:=hid_as (B0.out.kp k1 (by omega));have z1:=k1.size;(try rw [World.size_alloc] at z1);clear k1 j1))
  have J2:=hid_as (J1.out.box (.cells #[.string ⟨#[]⟩,.string ⟨#[]⟩,.slice none 0 0,.slice none 0 0,.int .i64 pl] 51))
  have BR:=hid_as (B1.out.alloc (.cells #[.string ⟨#[]⟩,.string ⟨#[]⟩,.slice none 0 0,.slice none 0 0,.int .i64 pl] 51))
  have BI:=hid_as (Bk.fresh w1 #[.string ⟨#[]⟩,.string ⟨#[]⟩,.slice none 0 0,.slice none 0 0,.int .i64 pl] 51)
  obtain ⟨ib,hib⟩:∃ ib,ib=w1.heap.size:=⟨_,rfl⟩
  rw [← hib] at J2 BI ⊢
  generalize w1.alloc (.cells #[.string ⟨#[]⟩,.string ⟨#[]⟩,.slice none 0 0,.slice none 0 0,.int .i64 pl] 51)=W2 at *
  clear J1 B1
  have hiw:w.heap.size < ib:=by omega
  have hnb:Hid (¬ ((A ib∧ib ≠ w.heap.size)∧ib ≠ ib)):=hid_as (fun q=>q.2 rfl)
  replace hib:=hid_as hib
  have hzi:=BI.out.lt
  go_wp2_with (first
    | (go_at_call 80;(with_reducible refine (BL.out _ _ J2.out).mono ?_);rintro e w3 ⟨rfl,k3,j3⟩;have J3:=hid_as j3;have BR3:=hid_as (BR.out.kp k3 (by omega));have BI3:=hid_as (BI.out.kp k3 (by omega));have z3:=k3.size;(try rw [World.size_alloc] at z3);have K3:=hid_as k3;clear k3 j3)
    | (go_at_call 78;(with_reducible refine (TK.out _ _ J3.out).mono ?_);rintro e w4 ⟨_,rfl,⟨_,_,_,_,_,t1,rfl⟩,k4,j4⟩;cases t1;have J4:=hid_as j4;have BR4:=hid_as (BR3.out.kp k4 (by omega));have BI4:=hid_as (BI3.out.kp k4 (by omega));have z4:=k4.size;obtain ⟨s0,s1,s2,s3,s4⟩:=bk5 BI4.out;have sf:=BI4.out.fr;have J5:=hid_as (J4.out.set hrl htl (by omega) hnb.out 0 (.string (tx tt)));have BI5:=hid_as (BI4.out.set0 (.string (tx tt)));have BR5:=hid_as (BR4.out.other (b:=ib) 0 (.string (tx tt)) (by omega));have y4:(w4.setCell ⟨ib,0,none⟩ (.string (tx tt))).heap.size=w4.heap.size:=(by simp [World.setCell]);clear k4 j4)
    | (go_at_call 36;(with_reducible refine (XC.out _ _ J5.out).mono ?_);rintro e w6 ⟨rfl,k6,j6⟩;have J6:=hid_as j6;have BR6:=hid_as (BR5.out.kp k6 (by omega));have BI6:=hid_as (BI5.out.kp k6 (by omega));have z6:=k6.size;(try rw [World.size_alloc] at z6);have K6:=hid_as k6;clear k6 j6;clear s0 s1 s2 s3 s4 sf;rw [y4] at z6)
    | (go_at_call 81;(with_reducible refine (BO.out _ _ J6.out).mono ?_);rintro e w7 ⟨rfl,k7,j7⟩;have J7:=hid_as j7;have BR7:=hid_as (BR6.out.kp k7 (by omega));have BI7:=hid_as (BI6.out.kp k7 (by omega));have z7:=k7.size;(try rw [World.size_alloc] at z7);have K7:=hid_as k7;clear k7 j7;obtain ⟨s0,s1,s2,s3,s4⟩:=bk5 BI7.out;have sf:=BI7.out.fr)
    | (go_at_call 36;(with_reducible refine (XL.out _ _ _ J7.out).mono ?_);rintro e w9 ⟨rfl,k9,j9⟩;have J9:=hid_as j9;have BR9:=hid_as (BR7.out.kp k9 (by omega));have BI9:=hid_as (BI7.out.kp k9 (by omega));have z9:=k9.size;(try rw [World.size_alloc] at z9);have K9:=hid_as k9;clear k9 j9;clear s0 s1 s2 s3 s4 sf;obtain ⟨s0,s1,s2,s3,s4⟩:=bk5 BI9.out;have sf:=BI9.out.fr;obtain ⟨u0,u1,u2,u3,u4⟩:=bk5 BR9.out;have uf:=BR9.out.fr))
  obtain ⟨x0,x1,x2,x3,x4⟩:=bk5 (BR9.out.put5 (.string (tx tt)) (.string ⟨#[]⟩) (.slice none 0 0) (.slice none 0 0) (.int .i64 pl))
  have KK:=J9.out.k.put5 (Nat.le_refl _) (.string (tx tt)) (.string ⟨#[]⟩) (.slice none 0 0) (.slice none 0 0) (.int .i64 pl)
  refine bodyPost_ret (v:=.agg #[.string (tx tt),.string ⟨#[]⟩,.slice none 0 0,.slice none 0 0,.int .i64 pl]) (by simp [results,Tryz.results38,go_sem,x0,x1,x2,x3,x4]) rfl ⟨_,_,_,_,_,_,_,rfl,⟨?_,?_⟩,KK,?_⟩
  · exact Sl.nil
  · exact Sl.nil
  · exact JJ.out.nx KK (((J9.out.r.put5 (by omega) (by omega) (fun q=>q.1.2 rfl) (.string (tx tt)) (.string ⟨#[]⟩) (.slice none 0 0) (.slice none 0 0) (.int .i64 pl)).into (fun g hg _=>hg.1.1) hna.out))
theorem j_line {v w:World} {rb tb cap:Nat} {X:ByteArray} {T:TL} {A:Nat→Prop} {s:Ps} (J:Jr v rb tb cap X T A s w):Calls Tryz.prog 38 #[.pointer (some ⟨rb,0,none⟩)] w fun e w'=>∃ (ep:Option Addr) (en ec:Nat) (ap:Option Addr) (an ac:Nat) (q:Int),e=.returned (.agg #[.string (tx (Ilx.lin s).2.lab),.string (tx (Ilx.lin s).2.op),.slice ep en ec,.slice ap an ac,.int .i64 q])∧(Sl 7 Pe (fun x=>w.heap.size≤x) w' ep en ec (Ilx.lin s).2.es∧Sl 9 Pa (fun x=>w.heap.size≤x) w' ap an ac (Ilx.lin s).2.args)∧Kp rb w w'∧Jr v rb tb cap X T A (Ilx.lin s).1 w':=by
  cases h1:Ilx.bLab s with
  | true =>
    cases h2:Ilx.bOp (Ilx.xq (Ilx.tk s) [58]) with
    | true=>exact iline_4 J h1 h2
    | false=>exact iline_5 J h1 h2
  | false =>
    cases h2:Ilx.bOp s with
    | true=>exact iline_1 J h1 h2
    | false =>
      cases h3:Ilx.iz s [41] with
      | true=>exact iline_2 J h1 h2 h3
      | false=>exact iline_3 J h1 h2 h3
end Go.Proofs.YtapcpjidgemggaaGreatDoor
