/- The reader of Instruction List: the instructions (stage 14). -/
import Derived.Test.YtapcpjidgemggaaGreatDoorQ39
namespace Go.Proofs.YtapcpjidgemggaaGreatDoor
open Go.RowKit
open Adr Lx Sx
open Ilx (Ps Wl)
theorem j_passLines {v w:World} {rb tb cap:Nat} {X:ByteArray} {T:TL} {A:Nat→Prop} {s:Ps} (J:Jr v rb tb cap X T A s w):Calls Tryz.prog 39 #[.pointer (some ⟨rb,0,none⟩)] w fun e w'=>e=.returned (.tuple #[])∧Kp rb w w'∧Jr v rb tb cap X T A ⟨Ilx.pl s.L,s.e⟩ w' :=
  (ipassLines_c J.r).mono fun _ _ ⟨a,c,d⟩=>⟨a,c,J.nx c d⟩
theorem j_passTo {v w:World} {rb tb cap:Nat} {X:ByteArray} {T:TL} {A:Nat→Prop} {s:Ps} (J:Jr v rb tb cap X T A s w) (x:ByteArray) (h0:x.data.toList ≠ []):Calls Tryz.prog 77 #[.pointer (some ⟨rb,0,none⟩),.string x] w fun e w'=>e=.returned (.tuple #[])∧Kp rb w w'∧Jr v rb tb cap X T A ⟨Ilx.pt x.data.toList s.L,s.e⟩ w' :=
  (ipassTo_c J.r x h0).mono fun _ _ ⟨a,c,d⟩=>⟨a,c,J.nx c d⟩
theorem infoInst:(Tryz.prog.info? 51).map (fun i=>(i.zero,i.size,i.bytes))=some (some (.agg #[.string ⟨#[]⟩,.string ⟨#[]⟩,.slice none 0 0,.slice none 0 0,.int .i64 0]),5,88):=by kernel_rfl
/-- Whether there is no error yet. -/
def errOf (rb:Nat) (w:World):Nat:=match w.cell? ⟨rb,2,none⟩ with
  | some .nilIface=>1
  | _=>0
def eN (s:Ps):Nat:=if s.e.isSome then 0 else 1
theorem Ir.errOf {w:World} {rb tb cap:Nat} {X:ByteArray} {T:TL} {A:Nat→Prop} {s:Ps} (h:Ir w rb tb cap X T A s):errOf rb w=eN s:=by
  obtain ⟨i,v,_,_,b,ev⟩:=h.own
  have c:w.cell? ⟨rb,2,none⟩=some v:=(bk3 b).2.2
  unfold Go.Proofs.YtapcpjidgemggaaGreatDoor.errOf eN
  rw [c]
  cases he:s.e with
  | none=>rw [he] at ev;rw [show v=.nilIface from ev];rfl
  | some x =>
    rw [he] at ev
    obtain ⟨g,rfl,_⟩:=ev
    rfl
theorem cds_stop {f:Nat} {s:Ps} {l:List Ilx.Is} (h:s.e.isSome=true):Ilx.cds f s l=(s,l):=by
  cases f with
  | zero=>rfl
  | succ f=>exact Ilx.cds_err h
/-- A line takes a token, or ends in an error. -/
theorem lin_less {s:Ps} (hw:Wl s.L):(Ilx.lin s).1.L.length≤s.L.length∧((Ilx.lin s).1.e=none→(Ilx.lin s).1.L.length < s.L.length):=by
  refine ⟨(Ilx.sf_lin hw).1.length_le,fun he=>?_⟩
  have h1:=Ilx.sf_lns hw
  have h2:=Ilx.sf_lnb h1.2 (Ilx.lnl s) (Ilx.hd s.L).2
  unfold Ilx.lin at he ⊢
  generalize Ilx.lnb (Ilx.lns s) (Ilx.lnl s) (Ilx.hd s.L).2=r at *
  have he:(Ilx.xq r.1 [10]).e=none:=he
  obtain ⟨_,q1,q2⟩:=Ilx.en_xq he
  have l1:=Ilx.tk_less h2.2 q1 (by decide)
  have l2:=h2.1.length_le
  have l3:=h1.1.length_le
  show (Ilx.xq r.1 [10]).L.length < s.L.length
  rw [q2]
  omega
theorem eN_le (s:Ps):eN s≤1:=by unfold eN;split <;> omega
theorem empt {l:List UInt8} (h:l ≠ []):(tx l).toList.isEmpty=false:=by
  rw [tx_toList]
  cases l with
  | nil=>exact absurd rfl h
  | cons a l=>rfl
set_option maxHeartbeats 4000000 in
set_option maxRecDepth 100000 in
theorem j_code {v w:World} {rb tb cap:Nat} {X:ByteArray} {T:TL} {A:Nat→Prop} {s:Ps} (J:Jr v rb tb cap X T A s w):Calls Tryz.prog 17 #[.pointer (some ⟨rb,0,none⟩)] w fun e w'=>∃ (lp:Option Addr) (ln lc:Nat),e=.returned (.slice lp ln lc)∧Sl 5 Pi (fun x=>w.heap.size≤x) w' lp ln lc (Ilx.cod s).2∧Kp rb w w'∧Jr v rb tb cap X T A (Ilx.cod s).1 w':=by
  have JJ:=hid_as J
  have J0:=hid_as J.here
  have hrl:=J.rlt
  have htl:=J.r.lt
  have hna:=hid_as J.r.na
  have hlen:s.L.length≤1000000:=Nat.le_trans J.r.sfx.length_le J.r.len
  have wl1:=hid_as (Ilx.sf_xq J.r.wls [10])
  have l1:=wl1.out.1.length_le
  have XP:Hid (∀ W,Jr w rb tb cap X T A (s) W→Calls Tryz.prog 36 #[.pointer (some ⟨rb,0,none⟩),.string ⟨#[10]⟩] W fun e w'=>e=.returned (.tuple #[])∧Kp rb W w'∧Jr w rb tb cap X T A (Ilx.xq (s) [10]) w'):=hid_as fun W J=>j_expect J ⟨#[10]⟩
  have LN:=hid_as (fun (u:Value) W s' (J:Jr w rb tb cap X T (fun x=>A x∧Value.ownBlock u ≠ some x) s' W)=>j_line J)
  have PL:=hid_as (fun (u:Value) W s' (J:Jr w rb tb cap X T (fun x=>A x∧Value.ownBlock u ≠ some x) s' W)=>j_passLines J)
  have TO:=hid_as (fun (u:Value) W s' (J:Jr w rb tb cap X T (fun x=>A x∧Value.ownBlock u ≠ some x) s' W)=>j_takeOf_0 J)
  obtain ⟨M,hM⟩:∃ M,Ilx.cdr s=M:=⟨_,rfl⟩
  have XM:=hid_as hM
  have HM:Hid (M=Ilx.cds (s.L.length+1) (Ilx.xq s [10]) []):=hid_as (by rw [← hM];unfold Ilx.cdr;exact rfl)
  clear J hM
  generalize Ilx.xq s [10]=s1 at *
  go_enter Tryz.func17,Tryz.ntmps17
  go_wp2_with (first
    | (go_at_call 36;(with_reducible refine (XP.out _ J0.out).mono ?_);rintro e w1 ⟨rfl,k1,j1⟩;have J1:=hid_as j1;have z1:=k1.size;(try rw [World.size_alloc] at z1);have K1:=hid_as k1;clear k1 j1))
  go_loopw [3] (fun v wr=>∃ (f:Nat) (s':Ps) (l:List Ilx.Is) (xs:List Value),(s'.e=none→s'.L.length < f)∧l.length+s'.L.length+eN s'≤1000002∧Hid (Jr w rb tb cap X T (fun x=>A x∧Value.ownBlock v ≠ some x) s' wr)∧Hid (wr.ownsRow w.heap.size 51 5 v l.length xs)∧Hid (Rw 5 (Pi (fun x=>w.heap.size≤x∧Value.ownBlock v ≠ some x)) wr xs l)∧Hid (M=Ilx.cds f s' l)) (fun _ wr=>2 * lenOf rb wr+errOf rb wr)
  case atStart =>
    refine ⟨s.L.length+1,s1,[],[],fun _=>by omega,by have:=eN_le s1;simp;omega,hid_as ?_,hid_as (World.ownsRow_nil _ _ _ _),hid_as Rw.nil,HM⟩
    have j:=J1.out
    exact ⟨j.k,j.r.into (fun g hg _=>⟨hg,fun e=>by cases e⟩) (fun q=>hna.out q.1),j.t,fun x hx=>⟨j.a x hx,fun e=>by cases e⟩,j.hr,j.sz,j.tk⟩
  case round =>
    obtain ⟨f,s',l,xs,hf,hln,hJ,hO,hU,hm⟩:=hrel
    have L0:=hid_as hJ.out.r.lenOf
    have E0:=hid_as hJ.out.r.errOf
    have ol:=hid_as (World.ownsRow.lt hO.out)
    have zr:=hJ.out.k.size
    have WL:=hid_as hJ.out.r.wls
    have lpos:=List.length_pos_iff.2 WL.out.ne
    obtain ⟨ri,rv,_,_,rbk,rev⟩:=hJ.out.r.own
    obtain ⟨r0,r1,r2⟩:=bk3 rbk
    cases he:s'.e with
    | some x =>
      rw [he] at rev
      obtain ⟨ge,rfl,_⟩:=rev
      have Mr:=hid_as (hm.out.trans (cds_stop (by rw [he];rfl)))
      clear hm he rbk hf hln E0
      obtain ⟨lp,lc,hv,_⟩:=own_sl (P:=Pi) (fun _ _ _ _ o _ _=>Pi.ov o) hO.out hU.out
      subst hv
      go_wp2_with (first
        | (go_at_call 39;(with_reducible refine (PL.out _ _ _ hJ.out).mono ?_);rintro e w8 ⟨rfl,k8,j8⟩;have J8:=hid_as j8;have z8:=k8.size;(try rw [World.size_alloc] at z8);have K8:=hid_as k8;clear k8 j8)
        | (go_at_call 40;(with_reducible refine (TO.out _ _ _ J8.out).mono ?_);rintro e w9 ⟨_,rfl,⟨ta9,tk9,tn9,tt9,pl9,t9,rfl⟩,k9,j9⟩;have J9:=hid_as j9;have z9:=k9.size;(try rw [World.size_alloc] at z9);have K9:=hid_as k9;clear k9 j9;replace t9:=hid_as t9))
      have KZ:=hid_as (K8.out.trans K9.out)
      go_ret
      obtain ⟨lp',lc',hv',SL⟩:=own_sl (P:=Pi) (fun _ _ _ _ o _ _=>Pi.ov o) (own_kp hO.out KZ.out (by omega)) (hU.out.all (fun _ _=>Pi.ov (Ov.kp KZ.out (fun h=>by have:w.heap.size≤rb:=h.1;omega))))
      cases hv'
      rw [Ilx.cod_of XM.out,Mr.out]
      exact ⟨_,_,_,rfl,SL,J9.out.k,JJ.out.nx J9.out.k (J9.out.r.into (fun g hg _=>hg.1) hna.out)⟩
    | none =>
      rw [he] at rev
      obtain rfl:rv=.nilIface:=rev
      have hf2:=hf he
      have en1:eN s'=1:=by unfold eN;rw [he];rfl
      rw [en1] at hln
      rw [en1] at E0
      clear hf en1 rbk
      obtain ⟨f,rfl⟩:∃ f',f=f'+1:=⟨f - 1,by omega⟩
      cases hc:Ilx.iz s' [69,78,68,95,80,82,79,71,82,65,77] with
      | true =>
        have AY:Hid (∀ W,Jr w rb tb cap X T (fun x=>A x∧Value.ownBlock u3 ≠ some x) s' W→Calls Tryz.prog 37 #[.pointer (some ⟨rb,0,none⟩),.string ⟨#[69,78,68,95,80,82,79,71,82,65,77]⟩] W fun e w'=>e=.returned (.bool true)∧Kp rb W w'∧Jr w rb tb cap X T (fun x=>A x∧Value.ownBlock u3 ≠ some x) (Ilx.tk s') w'):=hid_as fun W J=>j_accept_y J ⟨#[69,78,68,95,80,82,79,71,82,65,77]⟩ hc
        have Mr:=hid_as (hm.out.trans (Ilx.cds_end he hc))
        clear hm he hc hln
        obtain ⟨lp,lc,hv,_⟩:=own_sl (P:=Pi) (fun _ _ _ _ o _ _=>Pi.ov o) hO.out hU.out
        subst hv
        go_wp2_with (first
          | (go_at_call 37;(with_reducible refine (AY.out _ hJ.out).mono ?_);rintro e w7 ⟨rfl,k7,j7⟩;have J7:=hid_as j7;have z7:=k7.size;(try rw [World.size_alloc] at z7);have K7:=hid_as k7;clear k7 j7)
          | (go_at_call 39;(with_reducible refine (PL.out _ _ _ J7.out).mono ?_);rintro e w8 ⟨rfl,k8,j8⟩;have J8:=hid_as j8;have z8:=k8.size;(try rw [World.size_alloc] at z8);have K8:=hid_as k8;clear k8 j8)
          | (go_at_call 40;(with_reducible refine (TO.out _ _ _ J8.out).mono ?_);rintro e w9 ⟨_,rfl,⟨ta9,tk9,tn9,tt9,pl9,t9,rfl⟩,k9,j9⟩;have J9:=hid_as j9;have z9:=k9.size;(try rw [World.size_alloc] at z9);have K9:=hid_as k9;clear k9 j9;replace t9:=hid_as t9))
        have KZ:=hid_as ((K7.out.trans K8.out).trans K9.out)
        go_ret
        obtain ⟨lp',lc',hv',SL⟩:=own_sl (P:=Pi) (fun _ _ _ _ o _ _=>Pi.ov o) (own_kp hO.out KZ.out (by omega)) (hU.out.all (fun _ _=>Pi.ov (Ov.kp KZ.out (fun h=>by have:w.heap.size≤rb:=h.1;omega))))
        cases hv'
        rw [Ilx.cod_of XM.out,Mr.out]
        exact ⟨_,_,_,rfl,SL,J9.out.k,JJ.out.nx J9.out.k (J9.out.r.into (fun g hg _=>hg.1) hna.out)⟩
      | false =>
        have AN:Hid (∀ W,Jr w rb tb cap X T (fun x=>A x∧Value.ownBlock u3 ≠ some x) s' W→Calls Tryz.prog 37 #[.pointer (some ⟨rb,0,none⟩),.string ⟨#[69,78,68,95,80,82,79,71,82,65,77]⟩] W fun e w'=>e=.returned (.bool false)∧Kp rb W w'∧Jr w rb tb cap X T (fun x=>A x∧Value.ownBlock u3 ≠ some x) s' w'):=hid_as fun W J=>j_accept_n J ⟨#[69,78,68,95,80,82,79,71,82,65,77]⟩ hc
        have Mr:=hid_as (hm.out.trans (Ilx.cds_go he (by rw [hc];exact Bool.false_ne_true)))
        have hll:=hid_as (lin_less WL.out)
        have LN:=hid_as (fun W (J:Jr w rb tb cap X T (fun x=>A x∧Value.ownBlock u3 ≠ some x) s' W)=>LN.out u3 W s' J)
        clear hm he hc
        generalize Ilx.lin s'=xl at *
        obtain ⟨sl,⟨il,io,ie,ia,iq⟩⟩:=xl
        simp only at LN Mr hll
        by_cases c1:il=[]
        · subst c1
          by_cases c2:io=[]
          · subst c2
            rw [show Ilx.ful ⟨[],[],ie,ia,iq⟩=false from rfl,if_neg Bool.false_ne_true] at Mr
            have ee:(tx []).toList.isEmpty=true:=by rw [tx_toList];rfl
            go_upto_region 5 with (first
              | (go_at_call 37;(with_reducible refine (AN.out _ hJ.out).mono ?_);rintro e w4 ⟨rfl,k4,j4⟩;have J4:=hid_as j4;have z4:=k4.size;(try rw [World.size_alloc] at z4);have K4:=hid_as k4;clear k4 j4)
              | (go_at_call 38;(with_reducible refine (LN.out _ J4.out).mono ?_);rintro e w5 ⟨ep,en,ec,ap,an,ac,qq,rfl,e5,k5,j5⟩;have J5:=hid_as j5;have z5:=k5.size;(try rw [World.size_alloc] at z5);have K5:=hid_as k5;clear k5 j5;have E5:=hid_as e5;clear e5))
            have J6:=hid_as (J5.out.alloc (.cells #[.string (tx []),.string (tx []),.slice ep en ec,.slice ap an ac,.int .i64 qq] 51))
            have BX:=hid_as (Bk.fresh w5 #[.string (tx []),.string (tx []),.slice ep en ec,.slice ap an ac,.int .i64 qq] 51)
            have K6:=hid_as ((K4.out.trans K5.out).alloc (.cells #[.string (tx []),.string (tx []),.slice ep en ec,.slice ap an ac,.int .i64 qq] 51))
            have PI:Hid (Pi (fun x=>w4.heap.size≤x) (w5.alloc (.cells #[.string (tx []),.string (tx []),.slice ep en ec,.slice ap an ac,.int .i64 qq] 51)) [.string (tx []),.string (tx []),.slice ep en ec,.slice ap an ac,.int .i64 qq] ⟨[],[],ie,ia,iq⟩):=hid_as (Pi.ov (Ov.alloc w5 _) ⟨ep,en,ec,ap,an,ac,qq,rfl,E5.out.1,E5.out.2⟩)
            obtain ⟨bx,hbx⟩:∃ bx,bx=w5.heap.size:=⟨_,rfl⟩
            have z6:w5.heap.size < (w5.alloc (.cells #[.string (tx []),.string (tx []),.slice ep en ec,.slice ap an ac,.int .i64 qq] 51)).heap.size:=by rw [World.size_alloc];omega
            rw [← hbx] at BX ⊢
            replace hbx:=hid_as hbx
            generalize w5.alloc (.cells #[.string (tx []),.string (tx []),.slice ep en ec,.slice ap an ac,.int .i64 qq] 51)=W6 at *
            obtain ⟨g0,g1,g2,g3,g4⟩:=bk5 BX.out
            go_wp2
            go_roundw
            case rel=>exact ⟨f,sl,l,xs,fun he=>by have:=hll.out.2 he;omega,by have h1:=hll.out;have h2:=eN_le sl;omega,J6,hid_as (own_kp hO.out K6.out (by omega)),hid_as (hU.out.all (fun _ _=>Pi.ov (Ov.kp K6.out (fun h=>by have:w.heap.size≤rb:=h.1;omega)))),Mr⟩
            case measure =>
              rw [J6.out.r.lenOf,L0.out,J6.out.r.errOf,E0.out]
              have h1:=hll.out
              have h2:=eN_le sl
              cases he:sl.e with
              | none=>have:=h1.2 he;omega
              | some x=>have:eN sl=0:=(by unfold eN;rw [he];rfl);omega
          · rw [show Ilx.ful ⟨[],io,ie,ia,iq⟩=true by (unfold Ilx.ful;show (!([] == []) || !(io == []))=true;rw [beq_eq_false_iff_ne.2 c2];rfl),if_pos rfl] at Mr
            have ee:(tx []).toList.isEmpty=true:=by rw [tx_toList];rfl
            have eo:=empt c2
            clear c2
            go_upto_region 5 with (first
              | (go_at_call 37;(with_reducible refine (AN.out _ hJ.out).mono ?_);rintro e w4 ⟨rfl,k4,j4⟩;have J4:=hid_as j4;have z4:=k4.size;(try rw [World.size_alloc] at z4);have K4:=hid_as k4;clear k4 j4)
              | (go_at_call 38;(with_reducible refine (LN.out _ J4.out).mono ?_);rintro e w5 ⟨ep,en,ec,ap,an,ac,qq,rfl,e5,k5,j5⟩;have J5:=hid_as j5;have z5:=k5.size;(try rw [World.size_alloc] at z5);have K5:=hid_as k5;clear k5 j5;have E5:=hid_as e5;clear e5))
            have J6:=hid_as (J5.out.alloc (.cells #[.string (tx []),.string (tx io),.slice ep en ec,.slice ap an ac,.int .i64 qq] 51))
            have BX:=hid_as (Bk.fresh w5 #[.string (tx []),.string (tx io),.slice ep en ec,.slice ap an ac,.int .i64 qq] 51)
            have K6:=hid_as ((K4.out.trans K5.out).alloc (.cells #[.string (tx []),.string (tx io),.slice ep en ec,.slice ap an ac,.int .i64 qq] 51))
            have PI:Hid (Pi (fun x=>w4.heap.size≤x) (w5.alloc (.cells #[.string (tx []),.string (tx io),.slice ep en ec,.slice ap an ac,.int .i64 qq] 51)) [.string (tx []),.string (tx io),.slice ep en ec,.slice ap an ac,.int .i64 qq] ⟨[],io,ie,ia,iq⟩):=hid_as (Pi.ov (Ov.alloc w5 _) ⟨ep,en,ec,ap,an,ac,qq,rfl,E5.out.1,E5.out.2⟩)
            obtain ⟨bx,hbx⟩:∃ bx,bx=w5.heap.size:=⟨_,rfl⟩
            have z6:w5.heap.size < (w5.alloc (.cells #[.string (tx []),.string (tx io),.slice ep en ec,.slice ap an ac,.int .i64 qq] 51)).heap.size:=by rw [World.size_alloc];omega
            rw [← hbx] at BX ⊢
            replace hbx:=hid_as hbx
            generalize w5.alloc (.cells #[.string (tx []),.string (tx io),.slice ep en ec,.slice ap an ac,.int .i64 qq] 51)=W6 at *
            obtain ⟨g0,g1,g2,g3,g4⟩:=bk5 BX.out
            have O6:=hid_as (own_kp hO.out K6.out (by omega))
            obtain ⟨v7,w7,hr7,ho7,hg7,hw7⟩:=push_at (cs:=#[.string (tx []),.string (tx io),.slice ep en ec,.slice ap an ac,.int .i64 qq]) Tryz.underlying31 infoInst rfl (by decide) (by decide) O6.out (by omega) (by omega) rfl (by intro u hu;simp at hu;rcases hu with rfl | rfl | rfl | rfl | rfl <;> rfl)
            have U7:=hid_as (rw_step (P:=Pi) (fun _ _ _ _ o _ _=>Pi.ov o) hU.out K6.out hrl (show w.heap.size≤w4.heap.size by omega) (fun g hg=>by have:=(ol.out g hg).2;omega) rfl PI.out hg7 hw7)
            have J7:=hid_as (J6.out.push hrl htl hg7 (fun k hk=>(ol.out k hk).1) hw7 (fun k hk=>(World.ownsRow.lt ho7 k hk).2) hna.out)
            replace hr7:=hid_as hr7
            replace ho7:=hid_as ho7
            clear hg7 hw7 O6
            go_wp2_with (at_builtin;refine Lib.wpList_append_run _ rfl _ _ _ _ rfl _ _ rfl rfl _ _ hr7.out ?_)
            go_roundw
            case rel=>exact ⟨f,sl,l ++ [⟨[],io,ie,ia,iq⟩],_,fun he=>by have:=hll.out.2 he;omega,by have h1:=hll.out;have h2:=eN_le sl;rw [List.length_append,List.length_singleton];cases he:sl.e with
              | none=>have:=h1.2 he;omega
              | some x=>have:eN sl=0:=(by unfold eN;rw [he];rfl);omega,J7,hid_as (by rw [List.length_append];exact ho7.out),U7,Mr⟩
            case measure =>
              rw [J7.out.r.lenOf,L0.out,J7.out.r.errOf,E0.out]
              have h1:=hll.out
              have h2:=eN_le sl
              cases he:sl.e with
              | none=>have:=h1.2 he;omega
              | some x=>have:eN sl=0:=(by unfold eN;rw [he];rfl);omega
        · rw [show Ilx.ful ⟨il,io,ie,ia,iq⟩=true by (unfold Ilx.ful;show (!(il == []) || !(io == []))=true;rw [beq_eq_false_iff_ne.2 c1];rfl),if_pos rfl] at Mr
          have el:=empt c1
          clear c1
          go_upto_region 5 with (first
            | (go_at_call 37;(with_reducible refine (AN.out _ hJ.out).mono ?_);rintro e w4 ⟨rfl,k4,j4⟩;have J4:=hid_as j4;have z4:=k4.size;(try rw [World.size_alloc] at z4);have K4:=hid_as k4;clear k4 j4)
            | (go_at_call 38;(with_reducible refine (LN.out _ J4.out).mono ?_);rintro e w5 ⟨ep,en,ec,ap,an,ac,qq,rfl,e5,k5,j5⟩;have J5:=hid_as j5;have z5:=k5.size;(try rw [World.size_alloc] at z5);have K5:=hid_as k5;clear k5 j5;have E5:=hid_as e5;clear e5))
          have J6:=hid_as (J5.out.alloc (.cells #[.string (tx il),.string (tx io),.slice ep en ec,.slice ap an ac,.int .i64 qq] 51))
          have BX:=hid_as (Bk.fresh w5 #[.string (tx il),.string (tx io),.slice ep en ec,.slice ap an ac,.int .i64 qq] 51)
          have K6:=hid_as ((K4.out.trans K5.out).alloc (.cells #[.string (tx il),.string (tx io),.slice ep en ec,.slice ap an ac,.int .i64 qq] 51))
          have PI:Hid (Pi (fun x=>w4.heap.size≤x) (w5.alloc (.cells #[.string (tx il),.string (tx io),.slice ep en ec,.slice ap an ac,.int .i64 qq] 51)) [.string (tx il),.string (tx io),.slice ep en ec,.slice ap an ac,.int .i64 qq] ⟨il,io,ie,ia,iq⟩):=hid_as (Pi.ov (Ov.alloc w5 _) ⟨ep,en,ec,ap,an,ac,qq,rfl,E5.out.1,E5.out.2⟩)
          obtain ⟨bx,hbx⟩:∃ bx,bx=w5.heap.size:=⟨_,rfl⟩
          have z6:w5.heap.size < (w5.alloc (.cells #[.string (tx il),.string (tx io),.slice ep en ec,.slice ap an ac,.int .i64 qq] 51)).heap.size:=by rw [World.size_alloc];omega
          rw [← hbx] at BX ⊢
          replace hbx:=hid_as hbx
          generalize w5.alloc (.cells #[.string (tx il),.string (tx io),.slice ep en ec,.slice ap an ac,.int .i64 qq] 51)=W6 at *
          obtain ⟨g0,g1,g2,g3,g4⟩:=bk5 BX.out
          have O6:=hid_as (own_kp hO.out K6.out (by omega))
          obtain ⟨v7,w7,hr7,ho7,hg7,hw7⟩:=push_at (cs:=#[.string (tx il),.string (tx io),.slice ep en ec,.slice ap an ac,.int .i64 qq]) Tryz.underlying31 infoInst rfl (by decide) (by decide) O6.out (by omega) (by omega) rfl (by intro u hu;simp at hu;rcases hu with rfl | rfl | rfl | rfl | rfl <;> rfl)
          have U7:=hid_as (rw_step (P:=Pi) (fun _ _ _ _ o _ _=>Pi.ov o) hU.out K6.out hrl (show w.heap.size≤w4.heap.size by omega) (fun g hg=>by have:=(ol.out g hg).2;omega) rfl PI.out hg7 hw7)
          have J7:=hid_as (J6.out.push hrl htl hg7 (fun k hk=>(ol.out k hk).1) hw7 (fun k hk=>(World.ownsRow.lt ho7 k hk).2) hna.out)
          replace hr7:=hid_as hr7
          replace ho7:=hid_as ho7
          clear hg7 hw7 O6
          go_wp2_with (at_builtin;refine Lib.wpList_append_run _ rfl _ _ _ _ rfl _ _ rfl rfl _ _ hr7.out ?_)
          go_roundw
          case rel=>exact ⟨f,sl,l ++ [⟨il,io,ie,ia,iq⟩],_,fun he=>by have:=hll.out.2 he;omega,by have h1:=hll.out;have h2:=eN_le sl;rw [List.length_append,List.length_singleton];cases he:sl.e with
            | none=>have:=h1.2 he;omega
            | some x=>have:eN sl=0:=(by unfold eN;rw [he];rfl);omega,J7,hid_as (by rw [List.length_append];exact ho7.out),U7,Mr⟩
          case measure =>
            rw [J7.out.r.lenOf,L0.out,J7.out.r.errOf,E0.out]
            have h1:=hll.out
            have h2:=eN_le sl
            cases he:sl.e with
            | none=>have:=h1.2 he;omega
            | some x=>have:eN sl=0:=(by unfold eN;rw [he];rfl);omega
end Go.Proofs.YtapcpjidgemggaaGreatDoor
