/- The walk of call: a block's step over the cells (stage 21). -/
import Derived.Test.YthjclogkcmomkaaGreatDoorQ30
import Derived.Test.YthjclogkcmomkaaGreatDoorQ28
namespace Go.Proofs.YthjclogkcmomkaaGreatDoor
open Go.RowKit
open Fb Cod Nm Vmx
theorem lay_lay {cs l m:List Int} {a:Nat} (h:a+l.length+m.length≤cs.length):lay (lay cs a l) (a+l.length) m=lay cs a (l ++ m):=by
  unfold lay
  have e1:(cs.take a ++ l).length=a+l.length:=by rw [List.length_append,List.length_take];omega
  rw [List.take_append_of_le_length (by rw [e1];exact Nat.le_refl _),List.take_of_length_le (by rw [e1];exact Nat.le_refl _),List.drop_append,e1,List.drop_of_length_le (by rw [e1];omega),List.nil_append,List.drop_drop,List.length_append]
  simp only [List.append_assoc]
  rw [show a+l.length+(a+l.length+m.length - (a+l.length))=a+(l.length+m.length) by omega]
theorem i64s_lay (cs l:List Int) (a:Nat):i64s (lay cs a l)=(i64s cs).take a ++ i64s l ++ (i64s cs).drop (a+l.length):=by
  simp [i64s,lay,List.map_take,List.map_drop]
theorem st3_bel {w w2:World} (b2:Below w.heap.size w w2) (x y z:Value):Below w.heap.size w (((w2.setCell ⟨w.heap.size,0,none⟩ x).setCell ⟨w.heap.size,1,none⟩ y).setCell ⟨w.heap.size,2,none⟩ z) :=
  ((b2.setCell (p:=⟨w.heap.size,0,none⟩) (Nat.le_refl _) x).setCell (p:=⟨w.heap.size,1,none⟩) (Nat.le_refl _) y).setCell (p:=⟨w.heap.size,2,none⟩) (Nat.le_refl _) z
theorem splice_lay (cs l:List Int) (a:Nat):splice (i64s cs) a (i64s l)=i64s (lay cs a l):=by
  rw [i64s_lay]
  unfold splice
  rw [i64s_len,List.append_assoc]
/-- What stands behind the step: the outputs' row, the keeps' block. -/
structure Kb (w W:World) (kb b:Nat) (r:Rs):Prop where
  ro:Row64 W b r.o
  rk:W.heap[kb]?=some (.cells [Value.int .i64 r.k0,.int .i64 r.k1,.int .i64 r.k2].toArray 57 (0,0))
  bw:Below w.heap.size w W
  hb:w.heap.size≤b
  hk:w.heap.size≤kb
theorem call_end {B:Nat} {w W4:World} {g cb kb b:Nat} {kv lv:Value} {now most:Int} {S:List Int} {pc st:Nat} {cs sk:List Int} (k A n1 n2 m:Nat) (h:Sc B w g cb kv lv now most S ⟨pc,cs,sk,st⟩) (r:Rs) (hr:r=rsAt k cs A now) (h1:nI k=n1) (h2:nO k=n2) (hm:m=cs.length) (hA:A+n1+n2+3≤m) (Z:Kb w W4 kb b r) :
    ∃ W5 W6 v5 v6,(Builtin.copy_ #[26,26] 3 #[.slice (some ⟨cb,A+n1,none⟩) n2 (m - (A+n1)),.slice (some ⟨b,0,none⟩) r.o.length r.o.length]).run Tryz.prog W4=.ok v5 W5
      ∧ (Builtin.copy_ #[26,26] 3 #[.slice (some ⟨cb,A+n1+n2,none⟩) 3 (m - (A+n1+n2)),.slice (some ⟨kb,0,none⟩) 3 3]).run Tryz.prog W5=.ok v6 W6
      ∧ Sc B W6 g cb kv lv now most S ⟨pc,cal k cs A now,sk,st⟩∧Below B w W6:=by
  have hlo:r.o.length=n2:=by rw [hr,← h2];exact stp_len _ _ _ _ _ _ _
  have hcb:cb < w.heap.size:=row_lt h.cel
  have c4:Row64 W4 cb cs:=(Z.bw.block cb hcb).trans h.cel
  have lro:Lies W4 b 0 (i64s r.o):=fun j u hj=>by rw [Nat.zero_add];exact cell_row Z.ro hj
  obtain ⟨W5,e5,r5,t5⟩:=run_copy_turn (P:=Tryz.prog) (w:=W4) 26 26 3 2 Tryz.underlying26 (by kernel_rfl) (some ⟨cb,A+n1,none⟩) (some ⟨b,0,none⟩) n2 (m - (A+n1)) r.o.length r.o.length cb (A+n1) (i64s cs) 2 c4 (i64s r.o) (by rw [i64s_len,hlo];exact (Nat.min_self _).symm)
    (fun _=>⟨rfl,_,rfl,lro.news⟩) (by rw [i64s_len,i64s_len,hlo];omega) (one_nums _)
  rw [splice_lay] at r5
  have k5:W5.heap[kb]?=some (.cells [Value.int .i64 r.k0,.int .i64 r.k1,.int .i64 r.k2].toArray 57 (0,0)):=(t5.block kb (row_lt Z.rk) (fun e=>by have:=Z.hk;simp at e;omega)).trans Z.rk
  have lk:Lies W5 kb 0 (i64s [r.k0,r.k1,r.k2]):=fun j u hj=>by rw [Nat.zero_add];exact cell_row k5 hj
  obtain ⟨W6,e6,r6,t6⟩:=run_copy_turn (P:=Tryz.prog) (w:=W5) 26 26 3 2 Tryz.underlying26 (by kernel_rfl) (some ⟨cb,A+n1+n2,none⟩) (some ⟨kb,0,none⟩) 3 (m - (A+n1+n2)) 3 3 cb (A+n1+n2) (i64s (lay cs (A+n1) r.o)) 2 r5 (i64s [r.k0,r.k1,r.k2]) rfl
    (fun _=>⟨rfl,_,rfl,lk.news⟩) (by rw [i64s_len,i64s_len,lay_len (by rw [hlo];omega)];show A+n1+n2+3≤_;omega) (one_nums _)
  rw [splice_lay,show A+n1+n2=A+n1+r.o.length by rw [hlo],lay_lay (by rw [hlo];show A+n1+n2+3≤_;omega)] at r6
  have ec:lay cs (A+n1) (r.o ++ [r.k0,r.k1,r.k2])=cal k cs A now:=by rw [hr,← h1];rfl
  rw [ec] at r6
  have q5:Below w.heap.size w W4:=Z.bw
  have gl:=h.lt
  have tB:Below B w W6:=(q5.mono h.wB).trans ((t5.below h.cB (Nat.le_trans h.wB q5.size)).trans (t6.below h.cB (Nat.le_trans h.wB (Nat.le_trans q5.size t5.size))))
  refine ⟨W5,W6,_,_,e5,e6,⟨?_,r6,h.sk,h.ne,h.gB,h.cB⟩,tB⟩
  have g4:W4.heap[g]?=w.heap[g]?:=q5.block g gl
  have g5:W5.heap[g]?=W4.heap[g]?:=t5.block g (Nat.lt_of_lt_of_le gl q5.size) (fun e=>h.ne (by simpa using e))
  have g6:W6.heap[g]?=W5.heap[g]?:=t6.block g (Nat.lt_of_lt_of_le gl (Nat.le_trans q5.size t5.size)) (fun e=>h.ne (by simpa using e))
  have hl:(cal k cs A now).length=cs.length:=cal_len (by rw [h1,h2];omega)
  show W6.heap[g]?=_
  rw [hl,g6,g5,g4]
  exact h.row
set_option maxHeartbeats 1600000 in
set_option maxRecDepth 100000 in
theorem call_c {B:Nat} {w:World} {g cb:Nat} {kv lv:Value} {now most:Int} {S:List Int} {pc st:Nat} {cs sk:List Int} (k A:Nat) (hk:k < 10) (h:Sc B w g cb kv lv now most S ⟨pc,cs,sk,st⟩) (hA:A+nI k+nO k+3≤cs.length) (h9:cs.length≤4096) :
    Calls Tryz.prog 77 #[.pointer (some ⟨g,0,none⟩),.string (nm k),.int .i64 (A:Int)] w fun e w'=>e=.returned (.tuple #[])∧Sc B w' g cb kv lv now most S ⟨pc,cal k cs A now,sk,st⟩∧Below B w w':=by
  have VP:=hid_as (vpins_c k hk w)
  have c2:=h.c2
  have c3:=h.c3
  dsimp only at c2
  obtain ⟨m,hm⟩:∃ m,m=cs.length:=⟨_,rfl⟩
  rw [← hm] at c2 hA h9
  generalize hn1:nI k=n1 at *
  generalize hn2:nO k=n2 at *
  have q1:IntKind.i64.wrap ((A:Int)+(n1:Int))=((A+n1:Nat):Int):=by rw [IntKind.wrap_i64];omega
  have q2:IntKind.i64.wrap (((A+n1:Nat):Int)+(n2:Int))=((A+n1+n2:Nat):Int):=by rw [IntKind.wrap_i64];omega
  have q3:IntKind.i64.wrap (((A+n1+n2:Nat):Int)+3)=((A+n1+n2+3:Nat):Int):=by rw [IntKind.wrap_i64];omega
  have HH:=hid_as h
  have H1:=hid_as hn1
  have H2:=hid_as hn2
  have HM:=hid_as hm
  clear h hn1 hn2 hm
  go_enter Tryz.func77,Tryz.ntmps77
  go_wp2_with fail
  refine VP.out.mono ?_
  rintro e w' ⟨rfl,hw⟩
  subst w'
  have hc:=HH.out.cel
  dsimp only at hc
  obtain ⟨p0,hp0⟩:∃ p0,p0=cs.getD (A+n1+n2) 0:=⟨_,rfl⟩
  obtain ⟨p1,hp1⟩:∃ p1,p1=cs.getD (A+n1+n2+1) 0:=⟨_,rfl⟩
  obtain ⟨p2,hp2⟩:∃ p2,p2=cs.getD (A+n1+n2+2) 0:=⟨_,rfl⟩
  have d0:w.cell? ⟨cb,A+n1+n2,none⟩=some (.int .i64 p0):=by rw [hp0];exact cell_row hc (i64s_at cs _ (by rw [← HM.out];omega))
  have d1:w.cell? ⟨cb,A+n1+n2+1,none⟩=some (.int .i64 p1):=by rw [hp1];exact cell_row hc (i64s_at cs _ (by rw [← HM.out];omega))
  have d2:w.cell? ⟨cb,A+n1+n2+2,none⟩=some (.int .i64 p2):=by rw [hp2];exact cell_row hc (i64s_at cs _ (by rw [← HM.out];omega))
  have LC:Lies w cb 0 (i64s cs):=fun j u hj=>by rw [Nat.zero_add];exact cell_row hc hj
  have l1:Lies w cb A (i64s ((cs.drop A).take n1)):=fun j u hj=>by
    have:=LC.drop A j u (by
      simp only [i64s,List.getElem?_map,List.getElem?_take,List.getElem?_drop,← List.map_drop] at hj ⊢
      split at hj
      · exact hj
      · simp at hj)
    rw [Nat.zero_add] at this
    exact this
  have l2:Lies w cb (A+n1) (i64s ((cs.drop (A+n1)).take n2)):=fun j u hj=>by
    have:=LC.drop (A+n1) j u (by
      simp only [i64s,List.getElem?_map,List.getElem?_take,List.getElem?_drop,← List.map_drop] at hj ⊢
      split at hj
      · exact hj
      · simp at hj)
    rw [Nat.zero_add] at this
    exact this
  have g1:((cs.drop A).take n1).length=n1:=by rw [List.length_take,List.length_drop];have:=HM.out;omega
  have g2:((cs.drop (A+n1)).take n2).length=n2:=by rw [List.length_take,List.length_drop];have:=HM.out;omega
  obtain ⟨r,hr⟩:∃ r,r=stp k ((cs.drop A).take n1) ((cs.drop (A+n1)).take n2) p0 p1 p2 now:=⟨_,rfl⟩
  have SA:Hid (∀ W:World,Below w.heap.size w W→Calls Tryz.prog 89 #[.string (nm k),.slice (some ⟨cb,A,none⟩) n1 (m - A),.agg #[.int .i64 p0,.int .i64 p1,.int .i64 p2],.slice (some ⟨cb,A+n1,none⟩) n2 (m - (A+n1)),.int .i64 now] W fun e w'=>∃ b,e=.returned (.tuple #[.slice (some ⟨b,0,none⟩) r.o.length r.o.length,.agg #[.int .i64 r.k0,.int .i64 r.k1,.int .i64 r.k2]])∧W.heap.size≤b∧Row64 w' b r.o∧Below W.heap.size W w'∧Below w.heap.size w w'):=by
    intro W hW
    have s1:Sl W (.slice (some ⟨cb,A,none⟩) n1 (m - A)) (i64s ((cs.drop A).take n1)):=Or.inr ⟨cb,A,m - A,by rw [i64s_len,g1],by rw [i64s_len,g1];omega,l1.below hW⟩
    have s2:Sl W (.slice (some ⟨cb,A+n1,none⟩) n2 (m - (A+n1))) (i64s ((cs.drop (A+n1)).take n2)):=Or.inr ⟨cb,A+n1,m - (A+n1),by rw [i64s_len,g2],by rw [i64s_len,g2];omega,l2.below hW⟩
    have e1:n1=((cs.drop A).take n1).length:=by rw [g1]
    have e2:n2=((cs.drop (A+n1)).take n2).length:=by rw [g2]
    have q:=step_any k hk p0 p1 p2 now s1 e1 (by omega) s2 e2 (by omega)
    rw [← hr] at q
    exact q.mono (fun e w' ⟨b,h1,h2,h3,h4⟩=>⟨b,h1,h2,h3,h4,below_and hW h4⟩)
  have KP:Hid (∀ W,Below w.heap.size w W→W.cell? ⟨g,3,none⟩=some (.int .i64 now)∧W.cell? ⟨cb,A+n1+n2,none⟩=some (.int .i64 p0)∧W.cell? ⟨cb,A+n1+n2+1,none⟩=some (.int .i64 p1)∧W.cell? ⟨cb,A+n1+n2+2,none⟩=some (.int .i64 p2)):=fun W hW=>⟨keep_cell hW c3,keep_cell hW d0,keep_cell hW d1,keep_cell hW d2⟩
  have AT:∀ W:World,(Instr.arrayAt 57 (Value.slice (some ⟨cb,A+n1+n2,none⟩) 3 (m - (A+n1+n2)))).run Tryz.prog W=.ok (.pointer (some ⟨cb,A+n1+n2,none⟩)) W:=fun W=>by kernel_rfl
  have HR:=hid_as hr
  have HP:Hid (p0=cs.getD (A+n1+n2) 0∧p1=cs.getD (A+n1+n2+1) 0∧p2=cs.getD (A+n1+n2+2) 0):=⟨hp0,hp1,hp2⟩
  clear hr hp0 hp1 hp2 LC l1 l2 g1 g2 hc
  have KB1:Hid (Below w.heap.size w (w.alloc (.cells #[.int .i64 0,.int .i64 0,.int .i64 0] 57)).drew):=(below_new1 w (.cells #[.int .i64 0,.int .i64 0,.int .i64 0] 57)).drew
  have SB:Hid (Calls Tryz.prog 89 #[.string (nm k),.slice (some ⟨cb,A,none⟩) n1 (m - A),.agg #[.int .i64 p0,.int .i64 p1,.int .i64 p2],.slice (some ⟨cb,A+n1,none⟩) n2 (m - (A+n1)),.int .i64 now] (w.alloc (.cells #[.int .i64 0,.int .i64 0,.int .i64 0] 57)).drew fun e w'=>∃ b,e=.returned (.tuple #[.slice (some ⟨b,0,none⟩) r.o.length r.o.length,.agg #[.int .i64 r.k0,.int .i64 r.k1,.int .i64 r.k2]])∧w.heap.size < b∧Row64 w' b r.o∧w'.heap[w.heap.size]?=some (.cells [Value.int .i64 0,.int .i64 0,.int .i64 0].toArray 57 (0,0))∧Below w.heap.size w w'):=by
    refine (SA.out _ KB1.out).mono ?_
    rintro e w' ⟨b,h1,h2,h3,h4,h5⟩
    have hs:(w.alloc (.cells #[.int .i64 0,.int .i64 0,.int .i64 0] 57)).drew.heap.size=w.heap.size+1:=World.size_alloc ..
    exact ⟨b,h1,by rw [hs] at h2;exact h2,h3,(h4.block w.heap.size (by rw [hs];exact Nat.lt_succ_self _)).trans (heap_alloc_new w _),h5⟩
  have SC:=hid_as (SA.out w.drew (Same.drewN w 1).below)
  clear SA
  have HR2:Hid (r=rsAt k cs A now):=by
    rw [HR.out,HP.out.1,HP.out.2.1,HP.out.2.2,← H1.out,← H2.out];rfl
  go_wp2
  go_region_held3 (fun W=>W.cell? ⟨g,3,none⟩=some (.int .i64 now)∧W.cell? ⟨cb,A+n1+n2,none⟩=some (.int .i64 p0)∧W.cell? ⟨cb,A+n1+n2+1,none⟩=some (.int .i64 p1)∧W.cell? ⟨cb,A+n1+n2+2,none⟩=some (.int .i64 p2)) (first | exact ⟨c3,d0,d1,d2⟩ | exact KP.out _ KB1.out | exact KP.out _ (by assumption) | exact KP.out _ (below_new (by assumption) _) | exact KP.out _ (st3_bel b2 _ _ _) | go_keep) (first | ((go_at_call 89;(with_reducible refine SB.out.mono ?_);rintro e w2 ⟨b,rfl,hb,rb,rk,b2⟩;have v0:=cell_row (k:=0) rk rfl;have v1:=cell_row (k:=1) rk rfl;have v2:=cell_row (k:=2) rk rfl;have f0:w2.frozen? ⟨w.heap.size,0,none⟩=false:=frozen_row rk;have f1:w2.frozen? ⟨w.heap.size,1,none⟩=false:=frozen_row rk;have f2:w2.frozen? ⟨w.heap.size,2,none⟩=false:=frozen_row rk)) | ((go_at_call 89;(with_reducible refine SC.out.mono ?_);rintro e w2 ⟨b,rfl,hb,rb,b3,b2⟩)))
  · have Z:Hid (Kb w (w2.alloc (.cells #[.int .i64 r.k0,.int .i64 r.k1,.int .i64 r.k2] 57)) w2.heap.size b r) :=
      ⟨row_below rb (below_new1 w2 _),heap_alloc_new w2 _,below_new b2 _,hb,b2.size⟩
    have ZZ:=hid_as (call_end k A n1 n2 m HH.out r HR2.out H1.out H2.out HM.out hA Z.out)
    clear Z c2 c3 d0 d1 d2 VP KP SB SC KB1 HP HR hb rb b2
    generalize w2.alloc (.cells #[.int .i64 r.k0,.int .i64 r.k1,.int .i64 r.k2] 57)=W4 at *
    obtain ⟨W5,W6,v5,v6,e5,e6,s6,b6⟩:=ZZ.out
    have F:=hid_as s6
    have FB:=hid_as b6
    clear s6 b6 ZZ
    go_wp2
    go_end0
    exact ⟨rfl,F.out,FB.out⟩
  · have Z:Hid (Kb w (((w2.setCell ⟨w.heap.size,0,none⟩ (.int .i64 r.k0)).setCell ⟨w.heap.size,1,none⟩ (.int .i64 r.k1)).setCell ⟨w.heap.size,2,none⟩ (.int .i64 r.k2)) w.heap.size b r):=by
      refine ⟨?_,?_,st3_bel b2 _ _ _,Nat.le_of_lt hb,Nat.le_refl _⟩
      · have t:Turn w.heap.size w2 (((w2.setCell ⟨w.heap.size,0,none⟩ (.int .i64 r.k0)).setCell ⟨w.heap.size,1,none⟩ (.int .i64 r.k1)).setCell ⟨w.heap.size,2,none⟩ (.int .i64 r.k2)):=(((Turn.refl _ w2).set 0 _).set 1 _).set 2 _
        exact (t.block b (row_lt rb) (fun e=>by simp at e;omega)).trans rb
      · exact set_row (set_row (set_row rk _) _) _
    have ZZ:=hid_as (call_end k A n1 n2 m HH.out r HR2.out H1.out H2.out HM.out hA Z.out)
    clear Z c2 c3 d0 d1 d2 VP KP SB SC KB1 HP HR hb rb b2
    generalize ((w2.setCell ⟨w.heap.size,0,none⟩ (.int .i64 r.k0)).setCell ⟨w.heap.size,1,none⟩ (.int .i64 r.k1)).setCell ⟨w.heap.size,2,none⟩ (.int .i64 r.k2)=W4 at *
    obtain ⟨W5,W6,v5,v6,e5,e6,s6,b6⟩:=ZZ.out
    have F:=hid_as s6
    have FB:=hid_as b6
    clear s6 b6 ZZ
    go_wp2
    go_end0
    exact ⟨rfl,F.out,FB.out⟩
  · have Z:Hid (Kb w (((w2.setCell ⟨w.heap.size,0,none⟩ (.int .i64 r.k0)).setCell ⟨w.heap.size,1,none⟩ (.int .i64 r.k1)).setCell ⟨w.heap.size,2,none⟩ (.int .i64 r.k2)) w.heap.size b r):=by
      refine ⟨?_,?_,st3_bel b2 _ _ _,Nat.le_of_lt hb,Nat.le_refl _⟩
      · have t:Turn w.heap.size w2 (((w2.setCell ⟨w.heap.size,0,none⟩ (.int .i64 r.k0)).setCell ⟨w.heap.size,1,none⟩ (.int .i64 r.k1)).setCell ⟨w.heap.size,2,none⟩ (.int .i64 r.k2)):=(((Turn.refl _ w2).set 0 _).set 1 _).set 2 _
        exact (t.block b (row_lt rb) (fun e=>by simp at e;omega)).trans rb
      · exact set_row (set_row (set_row rk _) _) _
    have ZZ:=hid_as (call_end k A n1 n2 m HH.out r HR2.out H1.out H2.out HM.out hA Z.out)
    clear Z c2 c3 d0 d1 d2 VP KP SB SC KB1 HP HR hb rb b2
    generalize ((w2.setCell ⟨w.heap.size,0,none⟩ (.int .i64 r.k0)).setCell ⟨w.heap.size,1,none⟩ (.int .i64 r.k1)).setCell ⟨w.heap.size,2,none⟩ (.int .i64 r.k2)=W4 at *
    obtain ⟨W5,W6,v5,v6,e5,e6,s6,b6⟩:=ZZ.out
    have F:=hid_as s6
    have FB:=hid_as b6
    clear s6 b6 ZZ
    go_wp2
    go_end0
    exact ⟨rfl,F.out,FB.out⟩
end Go.Proofs.YthjclogkcmomkaaGreatDoor
