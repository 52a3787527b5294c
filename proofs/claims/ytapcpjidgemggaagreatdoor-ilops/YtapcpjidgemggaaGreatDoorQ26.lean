/- The expression that stands in a piece of the text, refused (stage 14). -/
import Derived.Test.YtapcpjidgemggaaGreatDoorQ25
namespace Go.Proofs.YtapcpjidgemggaaGreatDoor
open Go.RowKit
open Adr Lx Sx
open Ilx (Ps Wl)
theorem as_kp (g wb:Nat) (old:Value) (W:World) (hT:Tabs W) (h0:W.cell? ⟨wb,0,none⟩=some old) (hf:W.frozen? ⟨wb,0,none⟩=false):Calls Tryz.prog 26 #[.iface 78 (.pointer (some ⟨g,0,none⟩)),.iface 80 (.pointer (some ⟨wb,0,none⟩))] W fun e w'=>e=.returned (.bool true)∧Kp wb W w'∧w'.cell? ⟨wb,0,none⟩=some (.pointer (some ⟨g,0,none⟩)):=by
  have hwl:wb < W.heap.size:=by
    rcases Nat.lt_or_ge wb W.heap.size with h | h
    · exact h
    · simp [World.cell?,Array.getElem?_eq_none h] at h0
  refine (as_hit ⟨g,0,none⟩ ⟨wb,0,none⟩ old W hT.err h0 hf).mono ?_
  rintro e w' ⟨rfl,rfl⟩
  refine ⟨rfl,(((((Kp.refl wb W).alloc _).alloc _).alloc _).alloc _).put 0 _,?_⟩
  refine World.cell?_setCell_same _ _ _ (u:=old) ?_
  rw [World.cell?_alloc_lt _ _ ⟨wb,0,none⟩ (by simp;omega),World.cell?_alloc_lt _ _ ⟨wb,0,none⟩ (by simp;omega),World.cell?_alloc_lt _ _ ⟨wb,0,none⟩ (by simp;omega),World.cell?_alloc_lt _ _ ⟨wb,0,none⟩ hwl]
  exact h0
/-- What stands behind the piece's reading, where it is refused. -/
structure Xn (w Z:World) (eb g a n:Nat):Prop where
  kp:Below w.heap.size w Z
  res:Bk Z w.heap.size #[.int .i64 0,.int .i64 0,.int .i64 0,.string ⟨#[]⟩,.string ⟨#[]⟩,.slice none 0 0,.int .i64 0]
  own:Bk Z eb #[.int .i64 0,.int .i64 0,.int .i64 0,.string ⟨#[]⟩,.string ⟨#[]⟩,.slice none 0 0,.int .i64 0]
  lt:w.heap.size < eb
  gl:g < Z.heap.size
  ge:g ≠ eb
  c0:Z.cell? ⟨g,0,none⟩=some (.int .i64 a)
  c1:Z.cell? ⟨g,1,none⟩=some (.int .i64 n)
theorem Xn.behind {w w2:World} {g a n:Nat} (h1:Below w.heap.size w w2) (h2:Bk w2 w.heap.size #[.int .i64 0,.int .i64 0,.int .i64 0,.string ⟨#[]⟩,.string ⟨#[]⟩,.slice none 0 0,.int .i64 0]) (hg:g < w2.heap.size) (c0:w2.cell? ⟨g,0,none⟩=some (.int .i64 a)) (c1:w2.cell? ⟨g,1,none⟩=some (.int .i64 n)):Xn w (w2.alloc (.cells #[.int .i64 0,.int .i64 0,.int .i64 0,.string ⟨#[]⟩,.string ⟨#[]⟩,.slice none 0 0,.int .i64 0] 53)) w2.heap.size g a n:=by
  have hs:=h2.lt
  exact ⟨h1.alloc (by omega) _,h2.alloc _,Bk.fresh _ _ _,hs,by rw [World.size_alloc];omega,by omega,(World.cell?_alloc_lt _ _ ⟨g,0,none⟩ hg).trans c0,(World.cell?_alloc_lt _ _ ⟨g,1,none⟩ hg).trans c1⟩
theorem Xn.ahead {w w2:World} {eb g a n:Nat} (h1:Below w.heap.size w w2) (h2:Bk w2 w.heap.size #[.int .i64 0,.int .i64 0,.int .i64 0,.string ⟨#[]⟩,.string ⟨#[]⟩,.slice none 0 0,.int .i64 0]) (hg:g < w2.heap.size) (c0:w2.cell? ⟨g,0,none⟩=some (.int .i64 a)) (c1:w2.cell? ⟨g,1,none⟩=some (.int .i64 n)) (h4:Bk w2 eb #[.int .i64 0,.int .i64 0,.int .i64 0,.string ⟨#[]⟩,.string ⟨#[]⟩,.slice none 0 0,.int .i64 0]) (h5:w.heap.size < eb) (h6:g ≠ eb):Xn w (((((((w2.setCell ⟨eb,0,none⟩ (.int .i64 0)).setCell ⟨eb,1,none⟩ (.int .i64 0)).setCell ⟨eb,2,none⟩ (.int .i64 0)).setCell ⟨eb,3,none⟩ (.string ⟨#[]⟩)).setCell ⟨eb,4,none⟩ (.string ⟨#[]⟩)).setCell ⟨eb,5,none⟩ (.slice none 0 0)).setCell ⟨eb,6,none⟩ (.int .i64 0)) eb g a n:=by
  exact ⟨below_seven h1 (by omega) _ _ _ _ _ _ _,h2.past7 (by omega) _ _ _ _ _ _ _,h4.put7 _ _ _ _ _ _ _,h5,by rw [K7s];exact hg,h6,(K7 w2 eb g 0 _ _ _ _ _ _ _ h6).trans c0,(K7 w2 eb g 1 _ _ _ _ _ _ _ h6).trans c1⟩
/-- The same with the box of the error that is looked for. -/
structure Xo (w Z:World) (eb g a n wb:Nat):Prop where
  kp:Below w.heap.size w Z
  res:Bk Z w.heap.size #[.int .i64 0,.int .i64 0,.int .i64 0,.string ⟨#[]⟩,.string ⟨#[]⟩,.slice none 0 0,.int .i64 0]
  own:Bk Z eb #[.int .i64 0,.int .i64 0,.int .i64 0,.string ⟨#[]⟩,.string ⟨#[]⟩,.slice none 0 0,.int .i64 0]
  lt:w.heap.size < eb
  elt:eb < wb
  wl:wb < Z.heap.size
  gl:g < wb
  c0:Z.cell? ⟨g,0,none⟩=some (.int .i64 a)
  c1:Z.cell? ⟨g,1,none⟩=some (.int .i64 n)
theorem Xn.wrong {w Z:World} {eb g a n:Nat} (h:Xn w Z eb g a n):Xo w (Z.alloc (.cells #[.pointer none] 78)) eb g a n Z.heap.size:=by
  have hs:=h.res.lt
  exact ⟨h.kp.alloc (by omega) _,h.res.alloc _,h.own.alloc _,h.lt,h.own.lt,by rw [World.size_alloc];omega,h.gl,(World.cell?_alloc_lt _ _ ⟨g,0,none⟩ h.gl).trans h.c0,(World.cell?_alloc_lt _ _ ⟨g,1,none⟩ h.gl).trans h.c1⟩
theorem Xo.kept {w Z Z':World} {eb g a n wb:Nat} (h:Xo w Z eb g a n wb) (k:Kp wb Z Z'):Xo w Z' eb g a n wb:=by
  have h1:=h.wl
  have h2:=h.elt
  have h3:=h.lt
  have h4:=h.gl
  have hs:=k.size
  refine ⟨⟨k.os.trans h.kp.os,k.tape.trans h.kp.tape,k.output.trans h.kp.output,Nat.le_trans h.kp.size k.size,fun j hj=>(k.block j (by have:=h.kp.size;omega) (by omega)).trans (h.kp.block j hj)⟩,h.res.kp k (by omega),h.own.kp k (by omega),h3,h2,by omega,h4,?_,?_⟩
  · exact (World.cell?_of_block (a:=⟨g,0,none⟩) (k.block g (by omega) (by omega))).trans h.c0
  · exact (World.cell?_of_block (a:=⟨g,1,none⟩) (k.block g (by omega) (by omega))).trans h.c1
theorem scn_high (il:Bool):∀ (f:Nat) (l:List UInt8) (a:Nat) (A B:List (Tk × Nat)) (m:Nat),(∀ t ∈ A,t.2≤m)→a+l.length≤m→scn il f l a A=(B,none)→∀ t ∈ B,t.2≤m
  | 0,l,a,A,B,m,hA,_,h=>by
    have e:scn il 0 l a A=(A,none):=by cases l <;> rfl
    rw [e] at h;cases h;exact hA
  | f+1,[],a,A,B,m,hA,_,h=>by rw [scn_end] at h;cases h;exact hA
  | f+1,c :: l,a,A,B,m,hA,hm,h=>by
    rw [scn_cons] at h
    rw [List.length_cons] at hm
    by_cases hb:blk c il=true
    · rw [if_pos hb] at h
      exact scn_high il f _ _ _ _ m hA (by omega) h
    · rw [if_neg hb] at h
      by_cases hc:hp (c :: l) [40,42]=true
      · rw [if_pos hc] at h
        by_cases h0:csz (c :: l)=0
        · rw [if_pos h0] at h;cases (Prod.mk.inj h).2
        · rw [if_neg h0] at h
          have hz:=csz_le (l:=c :: l) (hp_le hc)
          rw [List.length_cons] at hz
          exact scn_high il f _ _ _ _ m hA (by rw [List.length_drop,List.length_cons];omega) h
      · rw [if_neg hc] at h
        by_cases he:(nx (c :: l)).e=0
        · rw [if_pos he] at h
          have hz:=nx_ok (l:=c :: l) (by simp) he
          rw [List.length_cons] at hz
          refine scn_high il f _ _ _ _ m (fun t ht=>?_) (by rw [List.length_drop,List.length_cons];omega) h
          rcases List.mem_append.1 ht with ht | ht
          · exact hA t ht
          · obtain rfl:=List.mem_singleton.1 ht
            show a≤m
            omega
        · rw [if_neg he] at h;cases (Prod.mk.inj h).2
theorem toks_ca {l:List UInt8} {il:Bool} {T:TL} (h:toks l il=(T,none)) (k:Nat):ca T k≤65536:=by
  unfold toks at h
  by_cases hb:65536 < l.length
  · rw [if_pos hb] at h;cases (Prod.mk.inj h).2
  · rw [if_neg hb] at h
    obtain ⟨h1,h2⟩:=Prod.mk.inj h
    have q:=scn_high il l.length l 0 [] (scn il l.length l 0 []).1 65536 (by simp) (by omega) (by rw [← h2])
    unfold ca cu
    rw [List.getD_eq_getElem?_getD]
    cases hk:T[k]? with
    | none=>exact Nat.zero_le _
    | some t =>
      have ht:=List.mem_of_getElem? hk
      rw [← h1] at ht
      rcases List.mem_append.1 ht with ht | ht
      · exact q t ht
      · obtain rfl:=List.mem_singleton.1 ht
        show l.length≤65536
        omega
theorem Ir.pm {w w':World} {rb tb cap:Nat} {X:ByteArray} {T:TL} {A:Nat→Prop} {s:Ps} {S:Nat→Prop} (h:Ir w rb tb cap X T A s) (m:Pm S w w') (h1:¬ S rb) (h2:¬ S tb) (h3:∀ g,A g→¬ S g):Ir w' rb tb cap X T A s :=
  h.keep m.size (m.block rb h.rlt h1) (m.block tb h.lt h2) (fun g hg hl=>m.block g hl (h3 g hg))
theorem Ir.put7 {w:World} {rb tb cap:Nat} {X:ByteArray} {T:TL} {A:Nat→Prop} {s:Ps} {g:Nat} (r:Ir w rb tb cap X T A s) (hb:g ≠ rb) (hc:g ≠ tb) (ha:¬ A g) (x0 x1 x2 x3 x4 x5 x6:Value):Ir (((((((w.setCell ⟨g,0,none⟩ x0).setCell ⟨g,1,none⟩ x1).setCell ⟨g,2,none⟩ x2).setCell ⟨g,3,none⟩ x3).setCell ⟨g,4,none⟩ x4).setCell ⟨g,5,none⟩ x5).setCell ⟨g,6,none⟩ x6) rb tb cap X T A s:=(((((((r.other hb hc ha 0 x0).other hb hc ha 1 x1).other hb hc ha 2 x2).other hb hc ha 3 x3).other hb hc ha 4 x4).other hb hc ha 5 x5).other hb hc ha 6 x6)
theorem Kp.pm {rb:Nat} {w a b:World} {S:Nat→Prop} (h:Kp rb w a) (m:Pm S a b) (hS:∀ x,S x→w.heap.size≤x):Kp rb w b:=⟨m.os.trans h.os,m.tape.trans h.tape,m.output.trans h.output,Nat.le_trans h.size m.size,fun j h1 h2=>(m.block j (Nat.lt_of_lt_of_le h1 h.size) (fun hs=>by have:=hS j hs;omega)).trans (h.block j h1 h2)⟩
set_option maxHeartbeats 4000000 in
set_option maxRecDepth 100000 in
theorem iexprFrom_n {w:World} {rb tb cap:Nat} {X:ByteArray} {T:TL} {A:Nat→Prop} {s:Ps} (h:Ir w rb tb cap X T A s) (hA:∀ x,w.heap.size≤x→A x) (hT:Tabs w) (hx:X.size≤900000) (hX:toks X.data.toList true=(T,none)) (L:TL) (h1:L <:+ T) (h2:s.L <:+ L) (ht:(onl (Ilx.pcT L s.L)).v=none) :
    Calls Tryz.prog 154 #[.pointer (some ⟨rb,0,none⟩),.int .i64 (Ilx.hd L).2] w fun e w'=>∃ p:Int,e=.returned (.agg #[.int .i64 0,.int .i64 0,.int .i64 0,.string ⟨#[]⟩,.string ⟨#[]⟩,.slice none 0 0,.int .i64 p])∧Kp rb w w'∧Ir w' rb tb cap X T A (Ilx.rf s ((Ilx.hd L).2+ca (Ilx.pcT L s.L) (onl (Ilx.pcT L s.L)).k) (onl (Ilx.pcT L s.L)).e):=by
  obtain ⟨p1,p2,p3⟩:=piece_toks hX h1 h2 h.wls.ne
  rw [← Lib.size_eq] at p2
  have hm:=gd_no ht
  have hcl:ca (Ilx.pcT L s.L) (onl (Ilx.pcT L s.L)).k≤65536:=by
    have q:=toks_ca p3 (onl (Ilx.pcT L s.L)).k
    exact q
  have hrl:=h.rlt
  have htl:=h.lt
  have H:=hid_as h
  have HA:=hid_as hA
  have HT:=hid_as hT
  have hna:=hid_as h.na
  obtain ⟨r0,_⟩:=(show (w.alloc (.cells #[.int .i64 0,.int .i64 0,.int .i64 0,.string ⟨#[]⟩,.string ⟨#[]⟩,.slice none 0 0,.int .i64 0] 53)).cell? ⟨rb,0,none⟩=some (.string X)∧True from ⟨(by
    obtain ⟨i,v,_,_,b,_⟩:=h.own
    exact (bk3 (b.alloc (.cells #[.int .i64 0,.int .i64 0,.int .i64 0,.string ⟨#[]⟩,.string ⟨#[]⟩,.slice none 0 0,.int .i64 0] 53))).1),trivial⟩)
  have H0:=hid_as (h.alloc (.cells #[.int .i64 0,.int .i64 0,.int .i64 0,.string ⟨#[]⟩,.string ⟨#[]⟩,.slice none 0 0,.int .i64 0] 53))
  have T0:=hid_as (hT.below (below_new1 w (.cells #[.int .i64 0,.int .i64 0,.int .i64 0,.string ⟨#[]⟩,.string ⟨#[]⟩,.slice none 0 0,.int .i64 0] 53)))
  have B0:=hid_as (Bk.fresh w #[.int .i64 0,.int .i64 0,.int .i64 0,.string ⟨#[]⟩,.string ⟨#[]⟩,.slice none 0 0,.int .i64 0] 53)
  have K0:=hid_as (below_new1 w (.cells #[.int .i64 0,.int .i64 0,.int .i64 0,.string ⟨#[]⟩,.string ⟨#[]⟩,.slice none 0 0,.int .i64 0] 53))
  have hsz:(w.alloc (.cells #[.int .i64 0,.int .i64 0,.int .i64 0,.string ⟨#[]⟩,.string ⟨#[]⟩,.slice none 0 0,.int .i64 0] 53)).heap.size=w.heap.size+1:=World.size_alloc _ _
  have hps:(X.extract (Ilx.hd L).2 (Ilx.hd s.L).2).size≤900000:=by rw [ByteArray.size_extract];omega
  rw [← tx_list ((X.data.toList.drop (Ilx.hd L).2).take ((Ilx.hd s.L).2 - (Ilx.hd L).2)),← tx_extract] at p3
  have E:=hid_as (fun (W:World) (hW:Tabs W)=>expr_no (X.extract (Ilx.hd L).2 (Ilx.hd s.L).2) W hW hps p3 hm)
  have C:=hid_as (fun W (H:Ir W rb tb cap X T A s)=>now_t H)
  generalize (Ilx.hd L).2=a at *
  generalize Ilx.hd s.L=t0 at *
  generalize ca (Ilx.pcT L s.L) (onl (Ilx.pcT L s.L)).k=ea at *
  generalize (onl (Ilx.pcT L s.L)).e=en at *
  obtain ⟨⟨ta,tk,tn,tt⟩,q⟩:=t0
  simp only at p1 p2 hps E
  have g1:(a:Int)≤q:=by omega
  have F4:=fd4
  clear h hT hX h1 h2 ht p3 hm hps hA
  go_enter Tryz.func154,Tryz.ntmps154
  go_upto_region 1 with fail
  generalize w.alloc (.cells #[.int .i64 0,.int .i64 0,.int .i64 0,.string ⟨#[]⟩,.string ⟨#[]⟩,.slice none 0 0,.int .i64 0] 53)=w0 at r0 H0 T0 B0 K0 hsz ⊢
  have hr0:rb < w0.heap.size:=by omega
  have hsl:w.heap.size < w0.heap.size:=by omega
  replace hsz:=hid_as hsz
  have N1:Hid (∀ W,Below w0.heap.size w0 W→Calls Tryz.prog 34 #[.pointer (some ⟨rb,0,none⟩)] W fun e w'=>e=.returned (.agg #[.int .i64 ta,.int .i64 tk,.int .i64 tn,.string (tx tt),.int .i64 q])∧Below w0.heap.size w0 w'∧Below W.heap.size W w'∧w'.cell? ⟨rb,0,none⟩=some (.string X)):=fun W kW=>(C.out W (H0.out.below kW)).mono fun e w' hw=>by
    obtain ⟨v,e1,⟨_,_,_,_,_,t1,rfl⟩,b1⟩:=hw
    cases t1
    exact ⟨e1,below_and kW b1,b1,((below_and kW b1).cell (p:=⟨rb,0,none⟩) hr0).trans r0⟩
  have N2:Hid (∀ W,Below w0.heap.size w0 W→Calls Tryz.prog 169 #[.string (X.extract a q)] W fun e w'=>∃ g:Nat,e=.returned (.tuple #[.agg #[.int .i64 0,.int .i64 0,.int .i64 0,.string ⟨#[]⟩,.string ⟨#[]⟩,.slice none 0 0,.int .i64 0],.iface 78 (.pointer (some ⟨g,0,none⟩))])∧W.heap.size≤g∧g < w'.heap.size∧w'.cell? ⟨g,0,none⟩=some (.int .i64 ea)∧w'.cell? ⟨g,1,none⟩=some (.int .i64 en)∧Below w0.heap.size w0 w'∧Below W.heap.size W w'∧w'.cell? ⟨rb,0,none⟩=some (.string X)):=fun W kW=>(E.out W (T0.out.below kW)).mono fun e w' hw=>by
    obtain ⟨g,e1,x1,x2,x3,x4,b1⟩:=hw
    exact ⟨g,e1,x1,x2,x3,x4,below_and kW b1,b1,((below_and kW b1).cell (p:=⟨rb,0,none⟩) hr0).trans r0⟩
  clear E C
  go_region_held3 (fun W=>W.cell? ⟨rb,0,none⟩=some (.string X)) (first | with_reducible exact r0 | with_reducible exact c1 | with_reducible exact c2 | (simp [World.cell?_alloc_past,hr0,r0];done) | (simp [World.cell?_alloc_past,hr1,c1];done) | (simp [World.cell?_alloc_past,hr2,c2];done) | (simp [World.cell?_setCell_far,c2,Nat.ne_of_gt hr0];done) | (simp [World.cell?_setCell_far,c2,Nat.ne_of_gt hr1];done)) (first
    | (go_at_call 34;(with_reducible refine (N1.out _ ?_).mono ?_);(focus (repeat (first | with_reducible exact Below.refl _ _ | refine Below.drew ?_ | refine Below.alloc ?_ ?_ _ | exact Nat.le_refl _ | exact k1.out.size | (simp;done))));rintro e w1 ⟨rfl,k1,b1,c1⟩;have hr1:rb < w1.heap.size:=(by have:=k1.size;omega);(first | (have hq:=bk_new7 b1;replace hq:=hid_as hq) | (have hq:=bk_new7d b1;replace hq:=hid_as hq) | skip);replace k1:=hid_as k1;replace b1:=hid_as b1)
    | (go_at_call 169;(with_reducible refine (N2.out _ ?_).mono ?_);(focus (repeat (first | with_reducible exact k1.out | refine Below.drew ?_ | refine Below.alloc ?_ ?_ _ | exact Nat.le_refl _ | exact k1.out.size | (simp;done))));rintro e w2 ⟨g,rfl,x1,x2,x3,x4,k2,b2,c2⟩;replace x3:=hid_as x3;replace x4:=hid_as x4;have hr2:rb < w2.heap.size:=(by have:=k2.size;omega);(first | (have hq2:=hq.out.below b2;obtain ⟨z0,z1,z2,z3,z4,z5,z6⟩:=bk7 hq2;have zf:=hq2.fr;replace hq2:=hid_as hq2) | (have hq3:=bk_new7 b2;obtain ⟨z0,z1,z2,z3,z4,z5,z6⟩:=bk7 hq3;have zf:=hq3.fr;replace hq3:=hid_as hq3) | (have hq3:=bk_new7d b2;obtain ⟨z0,z1,z2,z3,z4,z5,z6⟩:=bk7 hq3;have zf:=hq3.fr;replace hq3:=hid_as hq3) | skip);replace k2:=hid_as k2;replace b2:=hid_as b2))
  · have M:=hid_as (Xn.behind (below_and K0.out k2.out) (B0.out.below k2.out) x2 x3.out x4.out)
    clear r0 c1 c2 H0 T0 B0 K0 N1 N2 k1 k2 b1 b2 x1 x2 x3 x4 hr0 hr1 hr2 hsl hsz 
    generalize w2.alloc (.cells #[.int .i64 0,.int .i64 0,.int .i64 0,.string ⟨#[]⟩,.string ⟨#[]⟩,.slice none 0 0,.int .i64 0] 53)=Z at M ⊢
    generalize w2.heap.size=eb at M ⊢
    have Q:Hid (Xo w (Z.alloc (.cells #[.pointer none] 78)) eb g ea en Z.heap.size):=hid_as M.out.wrong
    obtain ⟨q0,qf⟩:=(show (Z.alloc (.cells #[.pointer none] 78)).cell? ⟨Z.heap.size,0,none⟩=some (.pointer none)∧(Z.alloc (.cells #[.pointer none] 78)).frozen? ⟨Z.heap.size,0,none⟩=false from ⟨by simp,by simp⟩)
    have AS:=hid_as (as_kp g Z.heap.size _ _ (HT.out.below Q.out.kp) q0 qf)
    clear q0 qf
    go_wp2_with (first
      | (go_at_call 26;(with_reducible refine AS.out.mono ?_);rintro e w3 ⟨rfl,k3,d3⟩;have Q3:=hid_as (Q.out.kept k3);have g0:=Q3.out.c0;have g1:=Q3.out.c1;replace k3:=hid_as k3))
    obtain ⟨y1,y2,y3⟩:=(show w.heap.size < eb∧eb < Z.heap.size∧Z.heap.size < w3.heap.size from ⟨Q3.out.lt,Q3.out.elt,Q3.out.wl⟩)
    have yg:g < Z.heap.size:=Q3.out.gl
    have IR:Hid (Ir w3 rb tb cap X T (fun x=>A x∧(x < w.heap.size ∨ w3.heap.size≤x)) s):=hid_as ((H.out.into (A':=fun x=>A x∧(x < w.heap.size ∨ w3.heap.size≤x)) (fun g ha hl=>⟨ha,Or.inl hl⟩) (fun q=>hna.out q.1)).below Q3.out.kp)
    obtain ⟨m,hm⟩:∃ m:Nat,m=a+ea:=⟨_,rfl⟩
    have hw:IntKind.i64.wrap ((a:Int)+ea)=(m:Int):=by rw [IntKind.wrap_i64];omega
    replace hm:=hid_as hm
    have S3:w3.cell? ⟨Z.heap.size,0,none⟩=some (.pointer (some ⟨g,0,none⟩))∧w3.cell? ⟨g,0,none⟩=some (.int .i64 ea)∧w3.cell? ⟨g,1,none⟩=some (.int .i64 en):=⟨d3,g0,g1⟩
    have gr:g ≠ rb:=by
      intro e
      obtain ⟨i,v,_,_,b,_⟩:=IR.out.own
      have c:=(bk3 b).1
      rw [← e,g0] at c
      cases c
    have RF:Hid (∀ W,Below w3.heap.size w3 W→Calls Tryz.prog 35 #[.pointer (some ⟨rb,0,none⟩),.int .i64 m,.int .i64 en] W fun e w'=>e=.returned (.tuple #[])∧Kp rb w3 w'∧Ir w' rb tb cap X T (fun x=>A x∧(x < w.heap.size ∨ w3.heap.size≤x)) (Ilx.rf s m en)∧(w'.cell? ⟨Z.heap.size,0,none⟩=some (.pointer (some ⟨g,0,none⟩))∧w'.cell? ⟨g,0,none⟩=some (.int .i64 ea)∧w'.cell? ⟨g,1,none⟩=some (.int .i64 en))):=fun W kW=>(irefuse_c (IR.out.below kW) (fun x hx=>⟨HA.out x (by have:=kW.size;omega),Or.inr (by have:=kW.size;omega)⟩) m en).mono fun e w' hw=>by
      have kk:=(Kp.refl rb w3).below kW |>.trans hw.2.1
      exact ⟨hw.1,kk,hw.2.2,(World.cell?_of_block (a:=⟨Z.heap.size,0,none⟩) (kk.block Z.heap.size y3 (by omega))).trans d3,(World.cell?_of_block (a:=⟨g,0,none⟩) (kk.block g (by omega) gr)).trans g0,(World.cell?_of_block (a:=⟨g,1,none⟩) (kk.block g (by omega) gr)).trans g1⟩
    go_region_held3 (fun W=>W.cell? ⟨Z.heap.size,0,none⟩=some (.pointer (some ⟨g,0,none⟩))∧W.cell? ⟨g,0,none⟩=some (.int .i64 ea)∧W.cell? ⟨g,1,none⟩=some (.int .i64 en)) (first | exact S3 | exact c5) (first
      | (go_at_call 35;(with_reducible refine (RF.out _ ?_).mono ?_);(focus (repeat (first | with_reducible exact Below.refl _ _ | refine Below.drew ?_)));rintro e w5 ⟨rfl,k5,r5,c5⟩;replace k5:=hid_as k5;replace r5:=hid_as r5))
    have OB:Hid (Bk w5 eb #[.int .i64 0,.int .i64 0,.int .i64 0,.string ⟨#[]⟩,.string ⟨#[]⟩,.slice none 0 0,.int .i64 0]):=hid_as (Q3.out.own.kp k5.out (by omega))
    have BB:Hid (Bk w5 w.heap.size #[.int .i64 0,.int .i64 0,.int .i64 0,.string ⟨#[]⟩,.string ⟨#[]⟩,.slice none 0 0,.int .i64 0]):=hid_as (Q3.out.res.kp k5.out (by omega))
    have l5:=k5.out.size
    have MV:Hid (Calls Tryz.prog 170 #[.pointer (some ⟨eb,0,none⟩),.int .i64 (a:Int)] w5 fun e w'=>e=.returned (.tuple #[])∧Pm (fun x=>x=eb) w5 w'):=by
      have q:=move_c a 1 (fun x=>x=eb) w5 eb 0 0 0 0 ⟨#[]⟩ ⟨#[]⟩ none 0 0 0 Ilx.zT rfl OB.out.lt OB.out.fr (az_leaf rfl) (RowE.of_bk OB.out) ⟨⟨0,0,0,[],[],0,0⟩,none,0,0,0,rfl,rfl,rfl,Or.inl ⟨rfl,rfl,rfl⟩⟩
      rw [Nat.zero_mul] at q
      exact hid_as q
    go_wp2_with (first
      | (go_at_call 170;(with_reducible refine MV.out.mono ?_);rintro e w6 ⟨rfl,m6⟩;obtain ⟨p',u0,u1,u2,u3,u4,u5,u6⟩:=(RowE.of_bk OB.out).pm OB.out.lt m6;simp only [Nat.zero_mul,Nat.zero_add] at u0 u1 u2 u3 u4 u5 u6;have B6:Hid (Bk w6 w.heap.size #[.int .i64 0,.int .i64 0,.int .i64 0,.string ⟨#[]⟩,.string ⟨#[]⟩,.slice none 0 0,.int .i64 0]):=(by obtain ⟨y,hy⟩:=BB.out;exact hid_as ⟨y,(m6.block w.heap.size BB.out.lt (by show ¬ w.heap.size=eb;omega)).trans hy⟩);obtain ⟨v0,v1,v2,v3,v4,v5,v6⟩:=bk7 B6.out;have vf:=B6.out.fr;have M6:=hid_as m6;clear m6))
    obtain ⟨x0,x1,x2,x3,x4,x5,x6⟩:=bk7 (B6.out.put7 (.int .i64 0) (.int .i64 0) (.int .i64 0) (.string ⟨#[]⟩) (.string ⟨#[]⟩) (.slice none 0 0) (.int .i64 p'))
    refine bodyPost_ret (v:=.agg #[.int .i64 0,.int .i64 0,.int .i64 0,.string ⟨#[]⟩,.string ⟨#[]⟩,.slice none 0 0,.int .i64 p']) (by simp [results,Tryz.results154,go_sem,x0,x1,x2,x3,x4,x5,x6]) rfl ⟨p',rfl,?_,?_⟩
    · have kw:Kp rb w w3:=(Kp.refl rb w).below Q3.out.kp
      exact ((kw.trans k5.out).pm M6.out (fun x (hx:x=eb)=>by omega)).put7 (Nat.le_refl _) _ _ _ _ _ _ _
    · rw [← hm.out]
      refine (((r5.out.pm M6.out (by show ¬ rb=eb;omega) (by show ¬ tb=eb;omega) (fun g hg=>by show ¬ g=eb;rcases hg.2 with h | h <;> omega))).put7 (by omega) (by omega) (fun q=>by rcases q.2 with h | h <;> omega) _ _ _ _ _ _ _).into (fun g hg _=>hg.1) hna.out
  · have M:=hid_as (Xn.ahead (eb:=w1.heap.size) (below_and K0.out k2.out) (B0.out.below k2.out) x2 x3.out x4.out hq3.out (by have:=k1.out.size;omega) (by rw [World.size_alloc] at x1;omega))
    clear r0 c1 c2 H0 T0 B0 K0 N1 N2 k1 k2 b1 b2 x1 x2 x3 x4 hr0 hr1 hr2 hsl hsz z0 z1 z2 z3 z4 z5 z6 zf hq3
    generalize (((((((w2.setCell ⟨w1.heap.size,0,none⟩ (.int .i64 0)).setCell ⟨w1.heap.size,1,none⟩ (.int .i64 0)).setCell ⟨w1.heap.size,2,none⟩ (.int .i64 0)).setCell ⟨w1.heap.size,3,none⟩ (.string ⟨#[]⟩)).setCell ⟨w1.heap.size,4,none⟩ (.string ⟨#[]⟩)).setCell ⟨w1.heap.size,5,none⟩ (.slice none 0 0)).setCell ⟨w1.heap.size,6,none⟩ (.int .i64 0))=Z at M ⊢
    generalize w1.heap.size=eb at M ⊢
    have Q:Hid (Xo w (Z.alloc (.cells #[.pointer none] 78)) eb g ea en Z.heap.size):=hid_as M.out.wrong
    obtain ⟨q0,qf⟩:=(show (Z.alloc (.cells #[.pointer none] 78)).cell? ⟨Z.heap.size,0,none⟩=some (.pointer none)∧(Z.alloc (.cells #[.pointer none] 78)).frozen? ⟨Z.heap.size,0,none⟩=false from ⟨by simp,by simp⟩)
    have AS:=hid_as (as_kp g Z.heap.size _ _ (HT.out.below Q.out.kp) q0 qf)
    clear q0 qf
    go_wp2_with (first
      | (go_at_call 26;(with_reducible refine AS.out.mono ?_);rintro e w3 ⟨rfl,k3,d3⟩;have Q3:=hid_as (Q.out.kept k3);have g0:=Q3.out.c0;have g1:=Q3.out.c1;replace k3:=hid_as k3))
    obtain ⟨y1,y2,y3⟩:=(show w.heap.size < eb∧eb < Z.heap.size∧Z.heap.size < w3.heap.size from ⟨Q3.out.lt,Q3.out.elt,Q3.out.wl⟩)
    have yg:g < Z.heap.size:=Q3.out.gl
    have IR:Hid (Ir w3 rb tb cap X T (fun x=>A x∧(x < w.heap.size ∨ w3.heap.size≤x)) s):=hid_as ((H.out.into (A':=fun x=>A x∧(x < w.heap.size ∨ w3.heap.size≤x)) (fun g ha hl=>⟨ha,Or.inl hl⟩) (fun q=>hna.out q.1)).below Q3.out.kp)
    obtain ⟨m,hm⟩:∃ m:Nat,m=a+ea:=⟨_,rfl⟩
    have hw:IntKind.i64.wrap ((a:Int)+ea)=(m:Int):=by rw [IntKind.wrap_i64];omega
    replace hm:=hid_as hm
    have S3:w3.cell? ⟨Z.heap.size,0,none⟩=some (.pointer (some ⟨g,0,none⟩))∧w3.cell? ⟨g,0,none⟩=some (.int .i64 ea)∧w3.cell? ⟨g,1,none⟩=some (.int .i64 en):=⟨d3,g0,g1⟩
    have gr:g ≠ rb:=by
      intro e
      obtain ⟨i,v,_,_,b,_⟩:=IR.out.own
      have c:=(bk3 b).1
      rw [← e,g0] at c
      cases c
    have RF:Hid (∀ W,Below w3.heap.size w3 W→Calls Tryz.prog 35 #[.pointer (some ⟨rb,0,none⟩),.int .i64 m,.int .i64 en] W fun e w'=>e=.returned (.tuple #[])∧Kp rb w3 w'∧Ir w' rb tb cap X T (fun x=>A x∧(x < w.heap.size ∨ w3.heap.size≤x)) (Ilx.rf s m en)∧(w'.cell? ⟨Z.heap.size,0,none⟩=some (.pointer (some ⟨g,0,none⟩))∧w'.cell? ⟨g,0,none⟩=some (.int .i64 ea)∧w'.cell? ⟨g,1,none⟩=some (.int .i64 en))):=fun W kW=>(irefuse_c (IR.out.below kW) (fun x hx=>⟨HA.out x (by have:=kW.size;omega),Or.inr (by have:=kW.size;omega)⟩) m en).mono fun e w' hw=>by
      have kk:=(Kp.refl rb w3).below kW |>.trans hw.2.1
      exact ⟨hw.1,kk,hw.2.2,(World.cell?_of_block (a:=⟨Z.heap.size,0,none⟩) (kk.block Z.heap.size y3 (by omega))).trans d3,(World.cell?_of_block (a:=⟨g,0,none⟩) (kk.block g (by omega) gr)).trans g0,(World.cell?_of_block (a:=⟨g,1,none⟩) (kk.block g (by omega) gr)).trans g1⟩
    go_region_held3 (fun W=>W.cell? ⟨Z.heap.size,0,none⟩=some (.pointer (some ⟨g,0,none⟩))∧W.cell? ⟨g,0,none⟩=some (.int .i64 ea)∧W.cell? ⟨g,1,none⟩=some (.int .i64 en)) (first | exact S3 | exact c5) (first
      | (go_at_call 35;(with_reducible refine (RF.out _ ?_).mono ?_);(focus (repeat (first | with_reducible exact Below.refl _ _ | refine Below.drew ?_)));rintro e w5 ⟨rfl,k5,r5,c5⟩;replace k5:=hid_as k5;replace r5:=hid_as r5))
    have OB:Hid (Bk w5 eb #[.int .i64 0,.int .i64 0,.int .i64 0,.string ⟨#[]⟩,.string ⟨#[]⟩,.slice none 0 0,.int .i64 0]):=hid_as (Q3.out.own.kp k5.out (by omega))
    have BB:Hid (Bk w5 w.heap.size #[.int .i64 0,.int .i64 0,.int .i64 0,.string ⟨#[]⟩,.string ⟨#[]⟩,.slice none 0 0,.int .i64 0]):=hid_as (Q3.out.res.kp k5.out (by omega))
    have l5:=k5.out.size
    have MV:Hid (Calls Tryz.prog 170 #[.pointer (some ⟨eb,0,none⟩),.int .i64 (a:Int)] w5 fun e w'=>e=.returned (.tuple #[])∧Pm (fun x=>x=eb) w5 w'):=by
      have q:=move_c a 1 (fun x=>x=eb) w5 eb 0 0 0 0 ⟨#[]⟩ ⟨#[]⟩ none 0 0 0 Ilx.zT rfl OB.out.lt OB.out.fr (az_leaf rfl) (RowE.of_bk OB.out) ⟨⟨0,0,0,[],[],0,0⟩,none,0,0,0,rfl,rfl,rfl,Or.inl ⟨rfl,rfl,rfl⟩⟩
      rw [Nat.zero_mul] at q
      exact hid_as q
    go_wp2_with (first
      | (go_at_call 170;(with_reducible refine MV.out.mono ?_);rintro e w6 ⟨rfl,m6⟩;obtain ⟨p',u0,u1,u2,u3,u4,u5,u6⟩:=(RowE.of_bk OB.out).pm OB.out.lt m6;simp only [Nat.zero_mul,Nat.zero_add] at u0 u1 u2 u3 u4 u5 u6;have B6:Hid (Bk w6 w.heap.size #[.int .i64 0,.int .i64 0,.int .i64 0,.string ⟨#[]⟩,.string ⟨#[]⟩,.slice none 0 0,.int .i64 0]):=(by obtain ⟨y,hy⟩:=BB.out;exact hid_as ⟨y,(m6.block w.heap.size BB.out.lt (by show ¬ w.heap.size=eb;omega)).trans hy⟩);obtain ⟨v0,v1,v2,v3,v4,v5,v6⟩:=bk7 B6.out;have vf:=B6.out.fr;have M6:=hid_as m6;clear m6))
    obtain ⟨x0,x1,x2,x3,x4,x5,x6⟩:=bk7 (B6.out.put7 (.int .i64 0) (.int .i64 0) (.int .i64 0) (.string ⟨#[]⟩) (.string ⟨#[]⟩) (.slice none 0 0) (.int .i64 p'))
    refine bodyPost_ret (v:=.agg #[.int .i64 0,.int .i64 0,.int .i64 0,.string ⟨#[]⟩,.string ⟨#[]⟩,.slice none 0 0,.int .i64 p']) (by simp [results,Tryz.results154,go_sem,x0,x1,x2,x3,x4,x5,x6]) rfl ⟨p',rfl,?_,?_⟩
    · have kw:Kp rb w w3:=(Kp.refl rb w).below Q3.out.kp
      exact ((kw.trans k5.out).pm M6.out (fun x (hx:x=eb)=>by omega)).put7 (Nat.le_refl _) _ _ _ _ _ _ _
    · rw [← hm.out]
      refine (((r5.out.pm M6.out (by show ¬ rb=eb;omega) (by show ¬ tb=eb;omega) (fun g hg=>by show ¬ g=eb;rcases hg.2 with h | h <;> omega))).put7 (by omega) (by omega) (fun q=>by rcases q.2 with h | h <;> omega) _ _ _ _ _ _ _).into (fun g hg _=>hg.1) hna.out
  · have hb1:w0.heap.size < w1.heap.size:=by
      have q:=b1.out.size
      rw [show (w0.alloc (.cells #[.int .i64 0,.int .i64 0,.int .i64 0,.string ⟨#[]⟩,.string ⟨#[]⟩,.slice none 0 0,.int .i64 0] 53)).drew.heap.size=w0.heap.size+1 from World.size_alloc _ _] at q
      omega
    have M:=hid_as (Xn.ahead (eb:=w0.heap.size) (below_and K0.out k2.out) (B0.out.below k2.out) x2 x3.out x4.out hq2.out hsl (by omega))
    clear r0 c1 c2 H0 T0 B0 K0 N1 N2 k1 k2 b1 b2 x1 x2 x3 x4 hr0 hr1 hr2 hsl hsz z0 z1 z2 z3 z4 z5 z6 zf hq hq2 hb1
    generalize (((((((w2.setCell ⟨w0.heap.size,0,none⟩ (.int .i64 0)).setCell ⟨w0.heap.size,1,none⟩ (.int .i64 0)).setCell ⟨w0.heap.size,2,none⟩ (.int .i64 0)).setCell ⟨w0.heap.size,3,none⟩ (.string ⟨#[]⟩)).setCell ⟨w0.heap.size,4,none⟩ (.string ⟨#[]⟩)).setCell ⟨w0.heap.size,5,none⟩ (.slice none 0 0)).setCell ⟨w0.heap.size,6,none⟩ (.int .i64 0))=Z at M ⊢
    generalize w0.heap.size=eb at M ⊢
    have Q:Hid (Xo w (Z.alloc (.cells #[.pointer none] 78)) eb g ea en Z.heap.size):=hid_as M.out.wrong
    obtain ⟨q0,qf⟩:=(show (Z.alloc (.cells #[.pointer none] 78)).cell? ⟨Z.heap.size,0,none⟩=some (.pointer none)∧(Z.alloc (.cells #[.pointer none] 78)).frozen? ⟨Z.heap.size,0,none⟩=false from ⟨by simp,by simp⟩)
    have AS:=hid_as (as_kp g Z.heap.size _ _ (HT.out.below Q.out.kp) q0 qf)
    clear q0 qf
    go_wp2_with (first
      | (go_at_call 26;(with_reducible refine AS.out.mono ?_);rintro e w3 ⟨rfl,k3,d3⟩;have Q3:=hid_as (Q.out.kept k3);have g0:=Q3.out.c0;have g1:=Q3.out.c1;replace k3:=hid_as k3))
    obtain ⟨y1,y2,y3⟩:=(show w.heap.size < eb∧eb < Z.heap.size∧Z.heap.size < w3.heap.size from ⟨Q3.out.lt,Q3.out.elt,Q3.out.wl⟩)
    have yg:g < Z.heap.size:=Q3.out.gl
    have IR:Hid (Ir w3 rb tb cap X T (fun x=>A x∧(x < w.heap.size ∨ w3.heap.size≤x)) s):=hid_as ((H.out.into (A':=fun x=>A x∧(x < w.heap.size ∨ w3.heap.size≤x)) (fun g ha hl=>⟨ha,Or.inl hl⟩) (fun q=>hna.out q.1)).below Q3.out.kp)
    obtain ⟨m,hm⟩:∃ m:Nat,m=a+ea:=⟨_,rfl⟩
    have hw:IntKind.i64.wrap ((a:Int)+ea)=(m:Int):=by rw [IntKind.wrap_i64];omega
    replace hm:=hid_as hm
    have S3:w3.cell? ⟨Z.heap.size,0,none⟩=some (.pointer (some ⟨g,0,none⟩))∧w3.cell? ⟨g,0,none⟩=some (.int .i64 ea)∧w3.cell? ⟨g,1,none⟩=some (.int .i64 en):=⟨d3,g0,g1⟩
    have gr:g ≠ rb:=by
      intro e
      obtain ⟨i,v,_,_,b,_⟩:=IR.out.own
      have c:=(bk3 b).1
      rw [← e,g0] at c
      cases c
    have RF:Hid (∀ W,Below w3.heap.size w3 W→Calls Tryz.prog 35 #[.pointer (some ⟨rb,0,none⟩),.int .i64 m,.int .i64 en] W fun e w'=>e=.returned (.tuple #[])∧Kp rb w3 w'∧Ir w' rb tb cap X T (fun x=>A x∧(x < w.heap.size ∨ w3.heap.size≤x)) (Ilx.rf s m en)∧(w'.cell? ⟨Z.heap.size,0,none⟩=some (.pointer (some ⟨g,0,none⟩))∧w'.cell? ⟨g,0,none⟩=some (.int .i64 ea)∧w'.cell? ⟨g,1,none⟩=some (.int .i64 en))):=fun W kW=>(irefuse_c (IR.out.below kW) (fun x hx=>⟨HA.out x (by have:=kW.size;omega),Or.inr (by have:=kW.size;omega)⟩) m en).mono fun e w' hw=>by
      have kk:=(Kp.refl rb w3).below kW |>.trans hw.2.1
      exact ⟨hw.1,kk,hw.2.2,(World.cell?_of_block (a:=⟨Z.heap.size,0,none⟩) (kk.block Z.heap.size y3 (by omega))).trans d3,(World.cell?_of_block (a:=⟨g,0,none⟩) (kk.block g (by omega) gr)).trans g0,(World.cell?_of_block (a:=⟨g,1,none⟩) (kk.block g (by omega) gr)).trans g1⟩
    go_region_held3 (fun W=>W.cell? ⟨Z.heap.size,0,none⟩=some (.pointer (some ⟨g,0,none⟩))∧W.cell? ⟨g,0,none⟩=some (.int .i64 ea)∧W.cell? ⟨g,1,none⟩=some (.int .i64 en)) (first | exact S3 | exact c5) (first
      | (go_at_call 35;(with_reducible refine (RF.out _ ?_).mono ?_);(focus (repeat (first | with_reducible exact Below.refl _ _ | refine Below.drew ?_)));rintro e w5 ⟨rfl,k5,r5,c5⟩;replace k5:=hid_as k5;replace r5:=hid_as r5))
    have OB:Hid (Bk w5 eb #[.int .i64 0,.int .i64 0,.int .i64 0,.string ⟨#[]⟩,.string ⟨#[]⟩,.slice none 0 0,.int .i64 0]):=hid_as (Q3.out.own.kp k5.out (by omega))
    have BB:Hid (Bk w5 w.heap.size #[.int .i64 0,.int .i64 0,.int .i64 0,.string ⟨#[]⟩,.string ⟨#[]⟩,.slice none 0 0,.int .i64 0]):=hid_as (Q3.out.res.kp k5.out (by omega))
    have l5:=k5.out.size
    have MV:Hid (Calls Tryz.prog 170 #[.pointer (some ⟨eb,0,none⟩),.int .i64 (a:Int)] w5 fun e w'=>e=.returned (.tuple #[])∧Pm (fun x=>x=eb) w5 w'):=by
      have q:=move_c a 1 (fun x=>x=eb) w5 eb 0 0 0 0 ⟨#[]⟩ ⟨#[]⟩ none 0 0 0 Ilx.zT rfl OB.out.lt OB.out.fr (az_leaf rfl) (RowE.of_bk OB.out) ⟨⟨0,0,0,[],[],0,0⟩,none,0,0,0,rfl,rfl,rfl,Or.inl ⟨rfl,rfl,rfl⟩⟩
      rw [Nat.zero_mul] at q
      exact hid_as q
    go_wp2_with (first
      | (go_at_call 170;(with_reducible refine MV.out.mono ?_);rintro e w6 ⟨rfl,m6⟩;obtain ⟨p',u0,u1,u2,u3,u4,u5,u6⟩:=(RowE.of_bk OB.out).pm OB.out.lt m6;simp only [Nat.zero_mul,Nat.zero_add] at u0 u1 u2 u3 u4 u5 u6;have B6:Hid (Bk w6 w.heap.size #[.int .i64 0,.int .i64 0,.int .i64 0,.string ⟨#[]⟩,.string ⟨#[]⟩,.slice none 0 0,.int .i64 0]):=(by obtain ⟨y,hy⟩:=BB.out;exact hid_as ⟨y,(m6.block w.heap.size BB.out.lt (by show ¬ w.heap.size=eb;omega)).trans hy⟩);obtain ⟨v0,v1,v2,v3,v4,v5,v6⟩:=bk7 B6.out;have vf:=B6.out.fr;have M6:=hid_as m6;clear m6))
    obtain ⟨x0,x1,x2,x3,x4,x5,x6⟩:=bk7 (B6.out.put7 (.int .i64 0) (.int .i64 0) (.int .i64 0) (.string ⟨#[]⟩) (.string ⟨#[]⟩) (.slice none 0 0) (.int .i64 p'))
    refine bodyPost_ret (v:=.agg #[.int .i64 0,.int .i64 0,.int .i64 0,.string ⟨#[]⟩,.string ⟨#[]⟩,.slice none 0 0,.int .i64 p']) (by simp [results,Tryz.results154,go_sem,x0,x1,x2,x3,x4,x5,x6]) rfl ⟨p',rfl,?_,?_⟩
    · have kw:Kp rb w w3:=(Kp.refl rb w).below Q3.out.kp
      exact ((kw.trans k5.out).pm M6.out (fun x (hx:x=eb)=>by omega)).put7 (Nat.le_refl _) _ _ _ _ _ _ _
    · rw [← hm.out]
      refine (((r5.out.pm M6.out (by show ¬ rb=eb;omega) (by show ¬ tb=eb;omega) (fun g hg=>by show ¬ g=eb;rcases hg.2 with h | h <;> omega))).put7 (by omega) (by omega) (fun q=>by rcases q.2 with h | h <;> omega) _ _ _ _ _ _ _).into (fun g hg _=>hg.1) hna.out
end Go.Proofs.YtapcpjidgemggaaGreatDoor
