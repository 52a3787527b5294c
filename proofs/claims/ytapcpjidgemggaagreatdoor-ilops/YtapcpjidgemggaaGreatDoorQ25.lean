/- The expression that stands in a piece of the text (stage 14). -/
import Derived.Deep.RegionHeld3
import Derived.Test.YtapcpjidgemggaaGreatDoorQ7
import Derived.Test.YtapcpjidgemggaaGreatDoorQ24
namespace Go.Proofs.YtapcpjidgemggaaGreatDoor
open Go.RowKit
open Adr Lx Sx
open Ilx (Ps Wl)
def Gd {α:Type} (r:Re α):Prop:=∀ a,r.v=some a→r.e=0
theorem Gd.yes {α:Type} {a:α} {k:Nat}:Gd (ok a k):=fun _ _=>rfl
theorem Gd.bind {α β:Type} {p:Re α} {f:α→Nat→Re β} (h:∀ a k,Gd (f a k)):Gd (th p f):=by
  intro b hb
  cases hp:p.v with
  | none=>rw [th_none hp] at hb;cases hb
  | some a=>rw [th_some hp] at hb ⊢;exact h a p.k b hb
theorem gd_ok {α:Type} {r:Re α} {a:α} (h:r.v=some a) (he:Gd r):r=ok a r.k:=by
  have e:=he a h
  obtain ⟨v,k,e'⟩:=r
  cases h
  cases e
  rfl
theorem gd_no {α:Type} {r:Re α} (h:r.v=none):r=no r.e r.k:=by
  obtain ⟨v,k,e'⟩:=r
  cases h
  rfl
theorem onl_gd (T:TL):Gd (onl T):=by
  unfold onl
  exact Gd.bind fun _ _=>Gd.bind fun _ _=>Gd.yes
theorem prg_gd (T:TL):Gd (prg T):=by
  unfold prg
  exact Gd.bind fun _ _=>Gd.bind fun _ _=>Gd.bind fun _ _=>Gd.bind fun _ _=>Gd.bind fun _ _=>Gd.bind fun _ _=>Gd.bind fun _ _=>Gd.yes
/-- The tokens of a piece of a text. -/
theorem piece_toks {x:List UInt8} {T L M:TL} (h:toks x true=(T,none)) (hL:L <:+ T) (hM:M <:+ L) (h0:M ≠ []):(Ilx.hd L).2≤(Ilx.hd M).2∧(Ilx.hd M).2≤x.length∧toks ((x.drop (Ilx.hd L).2).take ((Ilx.hd M).2 - (Ilx.hd L).2)) false=(Ilx.pcT L M,none):=by
  obtain ⟨hT,hlen⟩:=Tf.of h
  obtain ⟨P,rfl⟩:=hL
  obtain ⟨C,rfl⟩:=hM
  cases M with
  | nil=>exact absurd rfl h0
  | cons m0 D =>
    obtain ⟨m1,q⟩:=m0
    cases hCM:C ++ (m1,q) :: D with
    | nil=>simp at hCM
    | cons l0 L' =>
      obtain ⟨l1,a⟩:=l0
      rw [hCM] at hT
      obtain ⟨_,c2,c3⟩:=Tf.cut x.length x 0 P l1 a L' (Nat.le_refl _) hT
      rw [Nat.sub_zero] at c3
      rw [Nat.zero_add] at c2
      have c4:=c3
      rw [← hCM] at c4
      obtain ⟨d1,d2,_⟩:=Tf.cut (x.drop a).length (x.drop a) a C m1 q D (Nat.le_refl _) c4
      rw [List.length_drop] at d2
      have e:=Tf.piece false (x.drop a).length (x.drop a) a C m1 q D (Nat.le_refl _) c4 ((x.drop a).take (q - a)).length 0 [] (Nat.le_refl _)
      refine ⟨d1,by show q≤x.length;omega,?_⟩
      show toks ((x.drop a).take (q - a)) false=_
      have hl:((x.drop a).take (q - a)).length=q - a:=by rw [List.length_take,List.length_drop];omega
      unfold toks
      rw [if_neg (by rw [hl];omega),e,hl]
      unfold Ilx.pcT
      have e2:((l1,a) :: L').take (((l1,a) :: L').length - ((m1,q) :: D).length)=C:=by
        rw [← hCM,List.length_append,Nat.add_sub_cancel,List.take_left]
      rw [e2]
      rfl
/-- What stands behind the piece's reading. -/
structure Xm (w Z:World) (eb:Nat) (o k n:Int) (nm fl:ByteArray) (lp:Option Addr) (ln lc:Nat) (p:Int) (t:Tr):Prop where
  kp:Below w.heap.size w Z
  res:Bk Z w.heap.size #[.int .i64 0,.int .i64 0,.int .i64 0,.string ⟨#[]⟩,.string ⟨#[]⟩,.slice none 0 0,.int .i64 0]
  own:Bk Z eb #[.int .i64 o,.int .i64 k,.int .i64 n,.string nm,.string fl,.slice lp ln lc,.int .i64 p]
  lt:w.heap.size < eb
  tr:∃ d,EW (fun x=>w.heap.size < x) d Z (.agg #[.int .i64 o,.int .i64 k,.int .i64 n,.string nm,.string fl,.slice lp ln lc,.int .i64 p]) t
theorem K7b (w:World) (b g:Nat) (x0 x1 x2 x3 x4 x5 x6:Value) (h:g ≠ b):(((((((w.setCell ⟨b,0,none⟩ x0).setCell ⟨b,1,none⟩ x1).setCell ⟨b,2,none⟩ x2).setCell ⟨b,3,none⟩ x3).setCell ⟨b,4,none⟩ x4).setCell ⟨b,5,none⟩ x5).setCell ⟨b,6,none⟩ x6).heap[g]?=w.heap[g]?:=by
  have q:∀ (w:World) (i:Nat) (x:Value),(w.setCell ⟨b,i,none⟩ x).heap[g]?=w.heap[g]?:=fun w i x=>Below.heap_setCell w ⟨b,i,none⟩ x g h
  rw [q,q,q,q,q,q,q]
theorem K7s (w:World) (b:Nat) (x0 x1 x2 x3 x4 x5 x6:Value):(((((((w.setCell ⟨b,0,none⟩ x0).setCell ⟨b,1,none⟩ x1).setCell ⟨b,2,none⟩ x2).setCell ⟨b,3,none⟩ x3).setCell ⟨b,4,none⟩ x4).setCell ⟨b,5,none⟩ x5).setCell ⟨b,6,none⟩ x6).heap.size=w.heap.size:=by simp [World.setCell]
theorem Xm.behind {w w2:World} {o k n:Int} {nm fl:ByteArray} {lp:Option Addr} {ln lc:Nat} {p:Int} {t:Tr} (h1:Below w.heap.size w w2) (h2:Bk w2 w.heap.size #[.int .i64 0,.int .i64 0,.int .i64 0,.string ⟨#[]⟩,.string ⟨#[]⟩,.slice none 0 0,.int .i64 0]) (h3:Et (fun x=>w.heap.size < x) w2 (.agg #[.int .i64 o,.int .i64 k,.int .i64 n,.string nm,.string fl,.slice lp ln lc,.int .i64 p]) t):Xm w (w2.alloc (.cells #[.int .i64 o,.int .i64 k,.int .i64 n,.string nm,.string fl,.slice lp ln lc,.int .i64 p] 53)) w2.heap.size o k n nm fl lp ln lc p t:=by
  have hs:=h2.lt
  obtain ⟨d,h3⟩:=h3
  exact ⟨h1.alloc (by omega) _,h2.alloc _,Bk.fresh _ _ _,hs,d,h3.weak.keep (by rw [World.size_alloc];omega) (fun x _ hl=>(below_new1 w2 _).block x hl)⟩
theorem Xm.ahead {w w2:World} {eb:Nat} {o k n:Int} {nm fl:ByteArray} {lp:Option Addr} {ln lc:Nat} {p:Int} {t:Tr} (h1:Below w.heap.size w w2) (h2:Bk w2 w.heap.size #[.int .i64 0,.int .i64 0,.int .i64 0,.string ⟨#[]⟩,.string ⟨#[]⟩,.slice none 0 0,.int .i64 0]) (h3:Et (fun x=>eb < x) w2 (.agg #[.int .i64 o,.int .i64 k,.int .i64 n,.string nm,.string fl,.slice lp ln lc,.int .i64 p]) t) (h4:Bk w2 eb #[.int .i64 0,.int .i64 0,.int .i64 0,.string ⟨#[]⟩,.string ⟨#[]⟩,.slice none 0 0,.int .i64 0]) (h5:w.heap.size < eb):Xm w (((((((w2.setCell ⟨eb,0,none⟩ (.int .i64 o)).setCell ⟨eb,1,none⟩ (.int .i64 k)).setCell ⟨eb,2,none⟩ (.int .i64 n)).setCell ⟨eb,3,none⟩ (.string nm)).setCell ⟨eb,4,none⟩ (.string fl)).setCell ⟨eb,5,none⟩ (.slice lp ln lc)).setCell ⟨eb,6,none⟩ (.int .i64 p)) eb o k n nm fl lp ln lc p t:=by
  obtain ⟨d,h3⟩:=h3
  refine ⟨below_seven h1 (by omega) _ _ _ _ _ _ _,h2.past7 (by omega) _ _ _ _ _ _ _,h4.put7 _ _ _ _ _ _ _,h5,d,?_⟩
  exact (h3.weak.keep (by rw [K7s];exact Nat.le_refl _) (fun x hx _=>K7b w2 eb x _ _ _ _ _ _ _ (by omega))).into (fun x hx _=>by show w.heap.size < x;omega)
theorem Pm.low {B:Nat} {w a b:World} (m:Pm (fun x=>B < x) a b) (h:Below B w a) (hB:B≤a.heap.size):Below B w b:=⟨m.os.trans h.os,m.tape.trans h.tape,m.output.trans h.output,Nat.le_trans h.size m.size,fun j hj=>(m.block j (by omega) (by show ¬ B < j;omega)).trans (h.block j hj)⟩
theorem as_nil (t:Value) (w:World):Calls Tryz.prog 26 #[.nilIface,t] w fun e w'=>e=.returned (.bool false)∧w'=w:=by
  go_enter Tryz.func26,Tryz.ntmps26
  go_wp2
  go_ret
  exact ⟨rfl,rfl⟩
theorem bk_new7 {w w':World} {cs:Array Value} {t:TypeId} (h:Below (w.alloc (.cells cs t)).heap.size (w.alloc (.cells cs t)) w'):Bk w' w.heap.size cs:=(Bk.fresh w cs t).below h
theorem bk_new7d {w w':World} {cs:Array Value} {t:TypeId} (h:Below (w.alloc (.cells cs t)).drew.heap.size (w.alloc (.cells cs t)).drew w'):Bk w' w.heap.size cs:=(show Bk (w.alloc (.cells cs t)).drew w.heap.size cs from Bk.fresh w cs t).below h
set_option maxHeartbeats 4000000 in
set_option maxRecDepth 100000 in
theorem iexprFrom_y {w:World} {rb tb cap:Nat} {X:ByteArray} {T:TL} {A:Nat→Prop} {s:Ps} (h:Ir w rb tb cap X T A s) (hT:Tabs w) (hx:X.size≤900000) (hX:toks X.data.toList true=(T,none)) (L:TL) (h1:L <:+ T) (h2:s.L <:+ L) {t:Tr} (ht:(onl (Ilx.pcT L s.L)).v=some t) :
    Calls Tryz.prog 154 #[.pointer (some ⟨rb,0,none⟩),.int .i64 (Ilx.hd L).2] w fun e w'=>∃ o k n nm fl lp ln lc p,e=.returned (.agg #[.int .i64 o,.int .i64 k,.int .i64 n,.string nm,.string fl,.slice lp ln lc,.int .i64 p])∧(∃ d,EW (fun x=>w.heap.size < x) d w' (.agg #[.int .i64 o,.int .i64 k,.int .i64 n,.string nm,.string fl,.slice lp ln lc,.int .i64 p]) t)∧Below w.heap.size w w':=by
  obtain ⟨p1,p2,p3⟩:=piece_toks hX h1 h2 h.wls.ne
  rw [← Lib.size_eq] at p2
  have hm:=gd_ok ht (onl_gd _)
  have haz:Az 2000000 t:=fun q nd hq=>by
    have q1:=az_onl ht q nd hq
    have q2:(Ilx.pcT L s.L).length≤T.length+1:=by
      unfold Ilx.pcT
      rw [List.length_append,List.length_map,List.length_singleton]
      have:=List.length_filter_le nl (L.take (L.length - s.L.length))
      have q3:=h1.length_le
      rw [List.length_take] at this
      omega
    have:=h.len
    omega
  have hrl:=h.rlt
  obtain ⟨r0,_⟩:=(show (w.alloc (.cells #[.int .i64 0,.int .i64 0,.int .i64 0,.string ⟨#[]⟩,.string ⟨#[]⟩,.slice none 0 0,.int .i64 0] 53)).cell? ⟨rb,0,none⟩=some (.string X)∧True from ⟨(by
    obtain ⟨i,v,_,_,b,_⟩:=h.own
    exact (bk3 (b.alloc (.cells #[.int .i64 0,.int .i64 0,.int .i64 0,.string ⟨#[]⟩,.string ⟨#[]⟩,.slice none 0 0,.int .i64 0] 53))).1),trivial⟩)
  have H0:=hid_as (h.alloc (.cells #[.int .i64 0,.int .i64 0,.int .i64 0,.string ⟨#[]⟩,.string ⟨#[]⟩,.slice none 0 0,.int .i64 0] 53))
  have T0:=hid_as (hT.below (below_new1 w (.cells #[.int .i64 0,.int .i64 0,.int .i64 0,.string ⟨#[]⟩,.string ⟨#[]⟩,.slice none 0 0,.int .i64 0] 53)))
  have B0:=hid_as (Bk.fresh w #[.int .i64 0,.int .i64 0,.int .i64 0,.string ⟨#[]⟩,.string ⟨#[]⟩,.slice none 0 0,.int .i64 0] 53)
  have K0:=hid_as (below_new1 w (.cells #[.int .i64 0,.int .i64 0,.int .i64 0,.string ⟨#[]⟩,.string ⟨#[]⟩,.slice none 0 0,.int .i64 0] 53))
  have hsz:(w.alloc (.cells #[.int .i64 0,.int .i64 0,.int .i64 0,.string ⟨#[]⟩,.string ⟨#[]⟩,.slice none 0 0,.int .i64 0] 53)).heap.size=w.heap.size+1:=World.size_alloc _ _
  have hps:(X.extract (Ilx.hd L).2 (Ilx.hd s.L).2).size≤900000:=by rw [ByteArray.size_extract];omega
  rw [← tx_list ((X.data.toList.drop (Ilx.hd L).2).take ((Ilx.hd s.L).2 - (Ilx.hd L).2)),← tx_extract] at p3
  have E:=hid_as (fun (W:World) (hW:Tabs W)=>expr_yes (X.extract (Ilx.hd L).2 (Ilx.hd s.L).2) W hW hps p3 hm)
  have C:=hid_as (fun W (H:Ir W rb tb cap X T A s)=>now_t H)
  have hz:=hid_as haz
  generalize (Ilx.hd L).2=a at *
  generalize Ilx.hd s.L=t0 at *
  obtain ⟨⟨ta,tk,tn,tt⟩,q⟩:=t0
  simp only at p1 p2 hps E
  have g1:(a:Int)≤q:=by omega
  have F4:=fd4
  clear h hT hX h1 h2 ht p3 hm hps haz
  go_enter Tryz.func154,Tryz.ntmps154
  go_upto_region 1 with fail
  generalize w.alloc (.cells #[.int .i64 0,.int .i64 0,.int .i64 0,.string ⟨#[]⟩,.string ⟨#[]⟩,.slice none 0 0,.int .i64 0] 53)=w0 at r0 H0 T0 B0 K0 hsz ⊢
  have hr0:rb < w0.heap.size:=by omega
  have hsl:w.heap.size < w0.heap.size:=by omega
  replace hsz:=hid_as hsz
  have N1:Hid (∀ W,Below w0.heap.size w0 W→Calls Tryz.prog 34 #[.pointer (some ⟨rb,0,none⟩)] W fun e w'=>e=.returned (.agg #[.int .i64 ta,.int .i64 tk,.int .i64 tn,.string (tx tt),.int .i64 q])∧Below w0.heap.size w0 w'∧Below W.heap.size W w'∧w'.cell? ⟨rb,0,none⟩=some (.string X)):=fun W kW=>(C.out W (H0.out.below kW)).mono fun e w' hw=>by
    obtain ⟨v,e1,⟨_,_,_,_,_,t1,rfl⟩,b1⟩:=hw
    cases t1
    exact ⟨e1,below_and kW b1,b1,((below_and kW b1).cell (p:=⟨rb,0,none⟩) hr0).trans r0⟩
  have N2:Hid (∀ W,Below w0.heap.size w0 W→Calls Tryz.prog 169 #[.string (X.extract a q)] W fun e w'=>∃ (o k n:Int) (nm fl:ByteArray) (lp:Option Addr) (ln lc:Nat) (p:Int),e=.returned (.tuple #[.agg #[.int .i64 o,.int .i64 k,.int .i64 n,.string nm,.string fl,.slice lp ln lc,.int .i64 p],.nilIface])∧Et (fun x=>W.heap.size≤x) w' (.agg #[.int .i64 o,.int .i64 k,.int .i64 n,.string nm,.string fl,.slice lp ln lc,.int .i64 p]) t∧Below w0.heap.size w0 w'∧Below W.heap.size W w'∧w'.cell? ⟨rb,0,none⟩=some (.string X)):=fun W kW=>(E.out W (T0.out.below kW)).mono fun e w' hw=>by
    obtain ⟨o,k,n,nm,fl,lp,ln,lc,p,e1,et,b1⟩:=hw
    exact ⟨o,k,n,nm,fl,lp,ln,lc,p,e1,et,below_and kW b1,b1,((below_and kW b1).cell (p:=⟨rb,0,none⟩) hr0).trans r0⟩
  clear E C
  go_region_held3 (fun W=>W.cell? ⟨rb,0,none⟩=some (.string X)) (first | with_reducible exact r0 | with_reducible exact c1 | with_reducible exact c2 | (simp [World.cell?_alloc_past,hr0,r0];done) | (simp [World.cell?_alloc_past,hr1,c1];done) | (simp [World.cell?_alloc_past,hr2,c2];done) | (simp [World.cell?_setCell_far,c2,Nat.ne_of_gt hr0];done) | (simp [World.cell?_setCell_far,c2,Nat.ne_of_gt hr1];done)) (first
    | (go_at_call 34;(with_reducible refine (N1.out _ ?_).mono ?_);(focus (repeat (first | with_reducible exact Below.refl _ _ | refine Below.drew ?_ | refine Below.alloc ?_ ?_ _ | exact Nat.le_refl _ | exact k1.out.size | (simp;done))));rintro e w1 ⟨rfl,k1,b1,c1⟩;have hr1:rb < w1.heap.size:=(by have:=k1.size;omega);(first | (have hq:=bk_new7 b1;replace hq:=hid_as hq) | (have hq:=bk_new7d b1;replace hq:=hid_as hq) | skip);replace k1:=hid_as k1;replace b1:=hid_as b1)
    | (go_at_call 169;(with_reducible refine (N2.out _ ?_).mono ?_);(focus (repeat (first | with_reducible exact k1.out | refine Below.drew ?_ | refine Below.alloc ?_ ?_ _ | exact Nat.le_refl _ | exact k1.out.size | (simp;done))));rintro e w2 ⟨o,k,n,nm,fl,lp,ln,lc,p,rfl,e2,k2,b2,c2⟩;have hr2:rb < w2.heap.size:=(by have:=k2.size;omega);(first | (have hq2:=hq.out.below b2;obtain ⟨z0,z1,z2,z3,z4,z5,z6⟩:=bk7 hq2;have zf:=hq2.fr;replace hq2:=hid_as hq2) | (have hq3:=bk_new7 b2;obtain ⟨z0,z1,z2,z3,z4,z5,z6⟩:=bk7 hq3;have zf:=hq3.fr;replace hq3:=hid_as hq3) | (have hq3:=bk_new7d b2;obtain ⟨z0,z1,z2,z3,z4,z5,z6⟩:=bk7 hq3;have zf:=hq3.fr;replace hq3:=hid_as hq3) | skip);replace k2:=hid_as k2;replace b2:=hid_as b2;replace e2:=hid_as e2))
  · have M:=hid_as (Xm.behind (below_and K0.out k2.out) (B0.out.below k2.out) (e2.out.into (fun x hx _=>by have:=k1.out.size;show w.heap.size < x;omega)))
    clear r0 c1 c2 H0 T0 B0 K0 N1 N2 k1 k2 b1 b2 e2 hr0 hr1 hr2 hsl hsz 
    generalize w2.alloc (.cells #[.int .i64 o,.int .i64 k,.int .i64 n,.string nm,.string fl,.slice lp ln lc,.int .i64 p] 53)=Z at M ⊢
    generalize w2.heap.size=eb at M ⊢
    obtain ⟨d,hd⟩:=M.out.tr
    have lt:=M.out.own.lt
    have Z1:Hid (Bk (Z.alloc (.cells #[.pointer none] 78)) eb #[.int .i64 o,.int .i64 k,.int .i64 n,.string nm,.string fl,.slice lp ln lc,.int .i64 p]):=hid_as (M.out.own.alloc _)
    have MV:Hid (Calls Tryz.prog 170 #[.pointer (some ⟨eb,0,none⟩),.int .i64 (a:Int)] (Z.alloc (.cells #[.pointer none] 78)) fun e w'=>e=.returned (.tuple #[])∧Pm (fun x=>w.heap.size < x) (Z.alloc (.cells #[.pointer none] 78)) w'):=by
      have q:=move_c a d (fun x=>w.heap.size < x) (Z.alloc (.cells #[.pointer none] 78)) eb 0 o k n nm fl lp ln lc p t M.out.lt Z1.out.lt Z1.out.fr hz.out (RowE.of_bk Z1.out) (hd.keep (by rw [World.size_alloc];omega) (fun x _ hl=>(below_new1 Z _).block x hl))
      rw [Nat.zero_mul] at q
      exact hid_as q
    have AN:=hid_as as_nil
    have HD:Hid (EW (fun x=>w.heap.size < x) d (Z.alloc (.cells #[.pointer none] 78)) (.agg #[.int .i64 o,.int .i64 k,.int .i64 n,.string nm,.string fl,.slice lp ln lc,.int .i64 p]) t):=hid_as (hd.keep (by rw [World.size_alloc];omega) (fun x _ hl=>(below_new1 Z _).block x hl))
    clear hd
    go_wp2_with (first
      | (go_at_call 26;(with_reducible refine (AN.out _ _).mono ?_);rintro e w3 ⟨rfl,rfl⟩)
      | (go_at_call 170;(with_reducible refine MV.out.mono ?_);rintro e w4 ⟨rfl,m4⟩;obtain ⟨p',u0,u1,u2,u3,u4,u5,u6⟩:=(RowE.of_bk Z1.out).pm Z1.out.lt m4;simp only [Nat.zero_mul,Nat.zero_add] at u0 u1 u2 u3 u4 u5 u6;have B4:Hid (Bk w4 w.heap.size #[.int .i64 0,.int .i64 0,.int .i64 0,.string ⟨#[]⟩,.string ⟨#[]⟩,.slice none 0 0,.int .i64 0]):=(by obtain ⟨y,hy⟩:=M.out.res;exact hid_as ⟨y,((m4.block w.heap.size (by rw [World.size_alloc];have:=M.out.res.lt;omega) (Nat.lt_irrefl _)).trans ((below_new1 Z _).block _ M.out.res.lt)).trans hy⟩);obtain ⟨v0,v1,v2,v3,v4,v5,v6⟩:=bk7 B4.out;have vf:=B4.out.fr;have M4:=hid_as m4;clear m4))
    obtain ⟨c0,c1,c2,c3,c4,c5,c6⟩:=bk7 (B4.out.put7 (.int .i64 o) (.int .i64 k) (.int .i64 n) (.string nm) (.string fl) (.slice lp ln lc) (.int .i64 p'))
    refine bodyPost_ret (v:=.agg #[.int .i64 o,.int .i64 k,.int .i64 n,.string nm,.string fl,.slice lp ln lc,.int .i64 p']) (by simp [results,Tryz.results154,go_sem,c0,c1,c2,c3,c4,c5,c6]) rfl ⟨o,k,n,nm,fl,lp,ln,lc,p',rfl,⟨d,?_⟩,?_⟩
    · exact ((EW.pm M4.out HD.out).place p').keep (by rw [K7s];exact Nat.le_refl _) (fun x (hx:w.heap.size < x) _=>K7b w4 w.heap.size x _ _ _ _ _ _ _ (by omega))
    · have hs:=M.out.res.lt
      exact below_seven (M4.out.low (M.out.kp.alloc (by omega) _) (by rw [World.size_alloc];omega)) (Nat.le_refl _) _ _ _ _ _ _ _
  · have M:=hid_as (Xm.ahead (eb:=w1.heap.size) (below_and K0.out k2.out) (B0.out.below k2.out) (e2.out.into (fun x hx _=>by rw [World.size_alloc] at hx;omega)) hq3.out (by have:=k1.out.size;omega))
    clear r0 c1 c2 H0 T0 B0 K0 N1 N2 k1 k2 b1 b2 e2 hr0 hr1 hr2 hsl hsz z0 z1 z2 z3 z4 z5 z6 zf hq3
    generalize (((((((w2.setCell ⟨w1.heap.size,0,none⟩ (.int .i64 o)).setCell ⟨w1.heap.size,1,none⟩ (.int .i64 k)).setCell ⟨w1.heap.size,2,none⟩ (.int .i64 n)).setCell ⟨w1.heap.size,3,none⟩ (.string nm)).setCell ⟨w1.heap.size,4,none⟩ (.string fl)).setCell ⟨w1.heap.size,5,none⟩ (.slice lp ln lc)).setCell ⟨w1.heap.size,6,none⟩ (.int .i64 p))=Z at M ⊢
    generalize w1.heap.size=eb at M ⊢
    obtain ⟨d,hd⟩:=M.out.tr
    have lt:=M.out.own.lt
    have Z1:Hid (Bk (Z.alloc (.cells #[.pointer none] 78)) eb #[.int .i64 o,.int .i64 k,.int .i64 n,.string nm,.string fl,.slice lp ln lc,.int .i64 p]):=hid_as (M.out.own.alloc _)
    have MV:Hid (Calls Tryz.prog 170 #[.pointer (some ⟨eb,0,none⟩),.int .i64 (a:Int)] (Z.alloc (.cells #[.pointer none] 78)) fun e w'=>e=.returned (.tuple #[])∧Pm (fun x=>w.heap.size < x) (Z.alloc (.cells #[.pointer none] 78)) w'):=by
      have q:=move_c a d (fun x=>w.heap.size < x) (Z.alloc (.cells #[.pointer none] 78)) eb 0 o k n nm fl lp ln lc p t M.out.lt Z1.out.lt Z1.out.fr hz.out (RowE.of_bk Z1.out) (hd.keep (by rw [World.size_alloc];omega) (fun x _ hl=>(below_new1 Z _).block x hl))
      rw [Nat.zero_mul] at q
      exact hid_as q
    have AN:=hid_as as_nil
    have HD:Hid (EW (fun x=>w.heap.size < x) d (Z.alloc (.cells #[.pointer none] 78)) (.agg #[.int .i64 o,.int .i64 k,.int .i64 n,.string nm,.string fl,.slice lp ln lc,.int .i64 p]) t):=hid_as (hd.keep (by rw [World.size_alloc];omega) (fun x _ hl=>(below_new1 Z _).block x hl))
    clear hd
    go_wp2_with (first
      | (go_at_call 26;(with_reducible refine (AN.out _ _).mono ?_);rintro e w3 ⟨rfl,rfl⟩)
      | (go_at_call 170;(with_reducible refine MV.out.mono ?_);rintro e w4 ⟨rfl,m4⟩;obtain ⟨p',u0,u1,u2,u3,u4,u5,u6⟩:=(RowE.of_bk Z1.out).pm Z1.out.lt m4;simp only [Nat.zero_mul,Nat.zero_add] at u0 u1 u2 u3 u4 u5 u6;have B4:Hid (Bk w4 w.heap.size #[.int .i64 0,.int .i64 0,.int .i64 0,.string ⟨#[]⟩,.string ⟨#[]⟩,.slice none 0 0,.int .i64 0]):=(by obtain ⟨y,hy⟩:=M.out.res;exact hid_as ⟨y,((m4.block w.heap.size (by rw [World.size_alloc];have:=M.out.res.lt;omega) (Nat.lt_irrefl _)).trans ((below_new1 Z _).block _ M.out.res.lt)).trans hy⟩);obtain ⟨v0,v1,v2,v3,v4,v5,v6⟩:=bk7 B4.out;have vf:=B4.out.fr;have M4:=hid_as m4;clear m4))
    obtain ⟨c0,c1,c2,c3,c4,c5,c6⟩:=bk7 (B4.out.put7 (.int .i64 o) (.int .i64 k) (.int .i64 n) (.string nm) (.string fl) (.slice lp ln lc) (.int .i64 p'))
    refine bodyPost_ret (v:=.agg #[.int .i64 o,.int .i64 k,.int .i64 n,.string nm,.string fl,.slice lp ln lc,.int .i64 p']) (by simp [results,Tryz.results154,go_sem,c0,c1,c2,c3,c4,c5,c6]) rfl ⟨o,k,n,nm,fl,lp,ln,lc,p',rfl,⟨d,?_⟩,?_⟩
    · exact ((EW.pm M4.out HD.out).place p').keep (by rw [K7s];exact Nat.le_refl _) (fun x (hx:w.heap.size < x) _=>K7b w4 w.heap.size x _ _ _ _ _ _ _ (by omega))
    · have hs:=M.out.res.lt
      exact below_seven (M4.out.low (M.out.kp.alloc (by omega) _) (by rw [World.size_alloc];omega)) (Nat.le_refl _) _ _ _ _ _ _ _
  · have hb1:w0.heap.size < w1.heap.size:=by
      have q:=b1.out.size
      rw [show (w0.alloc (.cells #[.int .i64 0,.int .i64 0,.int .i64 0,.string ⟨#[]⟩,.string ⟨#[]⟩,.slice none 0 0,.int .i64 0] 53)).drew.heap.size=w0.heap.size+1 from World.size_alloc _ _] at q
      omega
    have M:=hid_as (Xm.ahead (eb:=w0.heap.size) (below_and K0.out k2.out) (B0.out.below k2.out) (e2.out.into (fun x hx _=>by omega)) hq2.out hsl)
    clear r0 c1 c2 H0 T0 B0 K0 N1 N2 k1 k2 b1 b2 e2 hr0 hr1 hr2 hsl hsz z0 z1 z2 z3 z4 z5 z6 zf hq hq2 hb1
    generalize (((((((w2.setCell ⟨w0.heap.size,0,none⟩ (.int .i64 o)).setCell ⟨w0.heap.size,1,none⟩ (.int .i64 k)).setCell ⟨w0.heap.size,2,none⟩ (.int .i64 n)).setCell ⟨w0.heap.size,3,none⟩ (.string nm)).setCell ⟨w0.heap.size,4,none⟩ (.string fl)).setCell ⟨w0.heap.size,5,none⟩ (.slice lp ln lc)).setCell ⟨w0.heap.size,6,none⟩ (.int .i64 p))=Z at M ⊢
    generalize w0.heap.size=eb at M ⊢
    obtain ⟨d,hd⟩:=M.out.tr
    have lt:=M.out.own.lt
    have Z1:Hid (Bk (Z.alloc (.cells #[.pointer none] 78)) eb #[.int .i64 o,.int .i64 k,.int .i64 n,.string nm,.string fl,.slice lp ln lc,.int .i64 p]):=hid_as (M.out.own.alloc _)
    have MV:Hid (Calls Tryz.prog 170 #[.pointer (some ⟨eb,0,none⟩),.int .i64 (a:Int)] (Z.alloc (.cells #[.pointer none] 78)) fun e w'=>e=.returned (.tuple #[])∧Pm (fun x=>w.heap.size < x) (Z.alloc (.cells #[.pointer none] 78)) w'):=by
      have q:=move_c a d (fun x=>w.heap.size < x) (Z.alloc (.cells #[.pointer none] 78)) eb 0 o k n nm fl lp ln lc p t M.out.lt Z1.out.lt Z1.out.fr hz.out (RowE.of_bk Z1.out) (hd.keep (by rw [World.size_alloc];omega) (fun x _ hl=>(below_new1 Z _).block x hl))
      rw [Nat.zero_mul] at q
      exact hid_as q
    have AN:=hid_as as_nil
    have HD:Hid (EW (fun x=>w.heap.size < x) d (Z.alloc (.cells #[.pointer none] 78)) (.agg #[.int .i64 o,.int .i64 k,.int .i64 n,.string nm,.string fl,.slice lp ln lc,.int .i64 p]) t):=hid_as (hd.keep (by rw [World.size_alloc];omega) (fun x _ hl=>(below_new1 Z _).block x hl))
    clear hd
    go_wp2_with (first
      | (go_at_call 26;(with_reducible refine (AN.out _ _).mono ?_);rintro e w3 ⟨rfl,rfl⟩)
      | (go_at_call 170;(with_reducible refine MV.out.mono ?_);rintro e w4 ⟨rfl,m4⟩;obtain ⟨p',u0,u1,u2,u3,u4,u5,u6⟩:=(RowE.of_bk Z1.out).pm Z1.out.lt m4;simp only [Nat.zero_mul,Nat.zero_add] at u0 u1 u2 u3 u4 u5 u6;have B4:Hid (Bk w4 w.heap.size #[.int .i64 0,.int .i64 0,.int .i64 0,.string ⟨#[]⟩,.string ⟨#[]⟩,.slice none 0 0,.int .i64 0]):=(by obtain ⟨y,hy⟩:=M.out.res;exact hid_as ⟨y,((m4.block w.heap.size (by rw [World.size_alloc];have:=M.out.res.lt;omega) (Nat.lt_irrefl _)).trans ((below_new1 Z _).block _ M.out.res.lt)).trans hy⟩);obtain ⟨v0,v1,v2,v3,v4,v5,v6⟩:=bk7 B4.out;have vf:=B4.out.fr;have M4:=hid_as m4;clear m4))
    obtain ⟨c0,c1,c2,c3,c4,c5,c6⟩:=bk7 (B4.out.put7 (.int .i64 o) (.int .i64 k) (.int .i64 n) (.string nm) (.string fl) (.slice lp ln lc) (.int .i64 p'))
    refine bodyPost_ret (v:=.agg #[.int .i64 o,.int .i64 k,.int .i64 n,.string nm,.string fl,.slice lp ln lc,.int .i64 p']) (by simp [results,Tryz.results154,go_sem,c0,c1,c2,c3,c4,c5,c6]) rfl ⟨o,k,n,nm,fl,lp,ln,lc,p',rfl,⟨d,?_⟩,?_⟩
    · exact ((EW.pm M4.out HD.out).place p').keep (by rw [K7s];exact Nat.le_refl _) (fun x (hx:w.heap.size < x) _=>K7b w4 w.heap.size x _ _ _ _ _ _ _ (by omega))
    · have hs:=M.out.res.lt
      exact below_seven (M4.out.low (M.out.kp.alloc (by omega) _) (by rw [World.size_alloc];omega)) (Nat.le_refl _) _ _ _ _ _ _ _
end Go.Proofs.YtapcpjidgemggaaGreatDoor
