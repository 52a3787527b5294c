/- The reference's Step of some blocks (stage 21, after stage 17). -/
import Derived.Test.YthjclogkcmomkaaGreatDoorQ28
namespace Go.Proofs.YthjclogkcmomkaaGreatDoor
open Go.RowKit
open Fb
set_option maxRecDepth 100000 in
set_option maxHeartbeats 4000000 in
theorem rstep_3 {w:World} {ia oa:Option Addr} {n m ic oc:Nat} {l q:List Int} (p0 p1 p2 t:Int) (hi:Sl w (.slice ia n ic) (i64s l)) (hn:n=l.length) (ho:Sl w (.slice oa m oc) (i64s q)) (hm:m=q.length) :
    Calls Tryz.prog 22 #[.string (nm 3),.slice ia n ic,.agg #[.int .i64 p0,.int .i64 p1,.int .i64 p2],.slice oa m oc,.int .i64 t] w (StepEnd w (stp 3 l q p0 p1 p2 t)):=by
  have K0:Hid (Tb w ((w.alloc (.cells #[.int .i64 p0,.int .i64 p1,.int .i64 p2] 57)).alloc (.cells #[.int .i64 0,.int .i64 0,.int .i64 0] 57)) p0 p1 p2):=⟨(two_newK w _ _).1,(two_newK w _ _).2.1,below_new (below_new (Below.refl _ _) _) _⟩
  have SZ:Hid (((w.alloc (.cells #[.int .i64 p0,.int .i64 p1,.int .i64 p2] 57)).alloc (.cells #[.int .i64 0,.int .i64 0,.int .i64 0] 57)).heap.size=w.heap.size+2):=(two_newK w _ _).2.2
  have PC:=hid_as (fun U=>(show Calls Tryz.prog 41 #[.string (nm 3)] U (PinsEnd U 3 2) from rpins_3 U))
  have PA:=hid_as (fun U (b:Below w.heap.size w U)=>(show Calls Tryz.prog 42 #[.slice ia n ic,.int .i64 3] U (fun e w'=>e=.returned (.slice (some ⟨U.heap.size,0,none⟩) 3 3)∧Row64 w' U.heap.size [l.getD 0 0,l.getD 1 0,l.getD 2 0]∧Below U.heap.size U w') from rpad_c 3 (hi.below b) hn (by decide)))
  have PB:=hid_as (fun U (b:Below w.heap.size w U)=>(show Calls Tryz.prog 42 #[.slice oa m oc,.int .i64 2] U (fun e w'=>e=.returned (.slice (some ⟨U.heap.size,0,none⟩) 2 2)∧Row64 w' U.heap.size [q.getD 0 0,q.getD 1 0]∧Below U.heap.size U w') from rpad_c 2 (ho.below b) hm (by decide)))
  have TC:=hid_as (fun b U=>rtruth_c b U)
  obtain ⟨R,hR⟩:∃ R,R=stp 3 l q p0 p1 p2 t:=⟨_,rfl⟩
  rw [← hR]
  have HR:Hid (R=ctu (tr (l.getD 0 0)) (tr (l.getD 1 0)) (w16 (l.getD 2 0)) (w16 (q.getD 1 0)) (w32 p0) (w32 p1) (w32 p2)):=hR
  clear hi hn ho hm hR
  generalize l.getD 0 0=a0 at *
  generalize l.getD 1 0=a1 at *
  generalize l.getD 2 0=a2 at *
  generalize q.getD 0 0=c0 at *
  generalize q.getD 1 0=c1 at *
  unfold nm nml tx at PC ⊢
  go_enter Tryz.func22,Tryz.ntmps22
  go_upto_region 1 with fail
  generalize ((w.alloc (.cells #[.int .i64 p0,.int .i64 p1,.int .i64 p2] 57)).alloc (.cells #[.int .i64 0,.int .i64 0,.int .i64 0] 57))=W0 at *
  go_wp2_with fail
  refine (PC.out _).mono ?_
  rintro e w1 ⟨ga,gb,gc,gd,rfl,b1⟩
  have T1:=hid_as (K0.out.below b1)
  have Z1:Hid (w.heap.size+1 < w1.heap.size):=by have:=b1.size;have:=SZ.out;show _ < _;omega
  clear PC b1 K0 SZ
  go_wp2_with fail
  refine (PA.out _ T1.out.bl).mono ?_
  rintro e w2 ⟨rfl,rA,b2⟩
  have T2:=hid_as (T1.out.below b2)
  have RA:=hid_as rA
  have Z2:Hid (w1.heap.size < w2.heap.size):=row_lt rA
  clear PA T1 rA b2
  go_wp2_with fail
  refine (PB.out _ T2.out.bl).mono ?_
  rintro e w3 ⟨rfl,rB,b3⟩
  have S3:Hid (Sb w w3 p0 p1 p2 w1.heap.size w2.heap.size [a0,a1,a2] [c0,c1]):=⟨T2.out.below b3,row_below RA.out b3,rB,Z1.out,by have:=Z1.out;have:=Z2.out;omega,by have:=Z2.out;omega⟩
  clear PB T2 RA rB b3
  generalize w1.heap.size=ab at *
  generalize w2.heap.size=bb at *
  have WR:=hid_as (rwrap_4 t w3)
  go_wp2_with fail
  refine WR.out.mono ?_
  rintro e w4 ⟨rfl,b4⟩
  have S4:=hid_as (S3.out.below b4)
  have hnw:=w32_ok t
  have hk0:=w32_ok p0
  have hk1:=w32_ok p1
  have hk2:=w32_ok p2
  clear WR S3 b4 Z1 Z2
  have W4:=hid_as (fun x U=>rwrap_4 x U)
  go_wp2
  go_loopw [14] (fun i wr=>∃ j:Nat,j≤3∧i=.int .i64 j∧Sb w wr (if 0 < j then w32 p0 else p0) (if 1 < j then w32 p1 else p1) (if 2 < j then w32 p2 else p2) ab bb [a0,a1,a2] [c0,c1]) (fun i _=>3 - (intOf i).toNat)
  case atStart=>exact ⟨0,by omega,rfl,S4.out⟩
  case round =>
  obtain ⟨j,hj,rfl,hS⟩:=hrel
  have S:=hid_as hS
  clear hS S4
  by_cases hj3:j < 3
  · have hc:j=0 ∨ j=1 ∨ j=2:=by omega
    rcases hc with rfl | rfl | rfl
    · have SJ:Hid (Sb w wr p0 p1 p2 ab bb [a0,a1,a2] [c0,c1]):=S.out
      obtain ⟨y0,y1,y2,yf⟩:=SJ.out.tb.kp.cells
      go_wp2_with fail
      refine (W4.out _ _).mono ?_
      rintro e w5 ⟨rfl,b5⟩
      have S5:=hid_as (SJ.out.below b5)
      clear y0 y1 y2 yf b5 S SJ
      obtain ⟨y0,y1,y2,yf⟩:=S5.out.tb.kp.cells
      go_wp2
      go_roundw
      case rel=>exact ⟨1,by omega,rfl,S5.out.set0 _⟩
      case measure=>simp [intOf]
    · have SJ:Hid (Sb w wr (w32 p0) p1 p2 ab bb [a0,a1,a2] [c0,c1]):=S.out
      obtain ⟨y0,y1,y2,yf⟩:=SJ.out.tb.kp.cells
      go_wp2_with fail
      refine (W4.out _ _).mono ?_
      rintro e w5 ⟨rfl,b5⟩
      have S5:=hid_as (SJ.out.below b5)
      clear y0 y1 y2 yf b5 S SJ
      obtain ⟨y0,y1,y2,yf⟩:=S5.out.tb.kp.cells
      go_wp2
      go_roundw
      case rel=>exact ⟨2,by omega,rfl,S5.out.set1 _⟩
      case measure=>simp [intOf]
    · have SJ:Hid (Sb w wr (w32 p0) (w32 p1) p2 ab bb [a0,a1,a2] [c0,c1]):=S.out
      obtain ⟨y0,y1,y2,yf⟩:=SJ.out.tb.kp.cells
      go_wp2_with fail
      refine (W4.out _ _).mono ?_
      rintro e w5 ⟨rfl,b5⟩
      have S5:=hid_as (SJ.out.below b5)
      clear y0 y1 y2 yf b5 S SJ
      obtain ⟨y0,y1,y2,yf⟩:=S5.out.tb.kp.cells
      go_wp2
      go_roundw
      case rel=>exact ⟨3,by omega,rfl,S5.out.set2 _⟩
      case measure=>simp [intOf]
  · obtain rfl:j=3:=by omega
    have S6:Hid (Sb w wr (w32 p0) (w32 p1) (w32 p2) ab bb [a0,a1,a2] [c0,c1]):=S.out
    clear S W4
    generalize w32 p0=k0 at *
    generalize w32 p1=k1 at *
    generalize w32 p2=k2 at *
    generalize w32 t=nw at *
    rename World=>V
    obtain ⟨y0,y1,y2,yf⟩:=S6.out.tb.kp.cells
    have z0:=cell_row (k:=0) S6.out.ra rfl
    have z1:=cell_row (k:=1) S6.out.ra rfl
    have z2:=cell_row (k:=2) S6.out.ra rfl
    have x0:=cell_row (k:=0) S6.out.rb rfl
    have x1:=cell_row (k:=1) S6.out.rb rfl
    have xf:∀ j,V.frozen? ⟨bb,j,none⟩=false:=fun _=>frozen_row S6.out.rb
    have gg:=S6.out.gb
    have gn:bb ≠ w.heap.size:=by omega
    have CA:=hid_as (fun U (b:Below V.heap.size V U)=>(⟨cell_row (k:=2) (S6.out.below b).ra rfl,cell_row (k:=1) (S6.out.below b).rb rfl⟩:U.cell? ⟨ab,2,none⟩=some (.int .i64 a2)∧U.cell? ⟨bb,1,none⟩=some (.int .i64 c1)))
    have WA:=hid_as (fun x U=>rwrap_3 x U)
    go_upto_region 26 with fail
    go_cut [17,18] from 143 to 150 (fun a b wx=>a=.int .i64 (w16 a2)∧b=.int .i64 (w16 c1)∧Below V.heap.size V wx)
    case first =>
      go_region_held3 (fun U=>U.cell? ⟨ab,2,none⟩=some (.int .i64 a2)∧U.cell? ⟨bb,1,none⟩=some (.int .i64 c1)) (first | exact CA.out _ (Same.drew _).below | exact CA.out _ (Below.refl _ _) | exact c4z | exact c3z) (first | (go_at_call 19;(with_reducible refine (WA.out _ V.drew).mono ?_);rintro e w7 ⟨rfl,b7⟩;have b8:=(Same.drew V).below.trans (b7.mono (Nat.le_refl _));have c3z:=CA.out _ b8) | (go_at_call 19;(with_reducible refine (WA.out _ w7).mono ?_);rintro e w8 ⟨rfl,b9⟩;have bA:=below_and b8 b9;have c4z:=CA.out _ bA))
      all_goals
        go_wp2
        go_meet
        exact ⟨rfl,rfl,bA⟩
    case rest =>
    obtain ⟨rfl,rfl,hB⟩:=hcut
    have S7:=hid_as (S6.out.below hB)
    clear hB S6 CA WA y0 y1 y2 yf xf z0 z1 z2 x0 x1
    rename World=>V2
    have hpv:=w16_ok a2
    have hcv:=w16_ok c1
    generalize w16 a2=pv at *
    generalize w16 c1=cv at *
    obtain ⟨y0,y1,y2,yf⟩:=S7.out.tb.kp.cells
    by_cases hB:a1=0
    · subst hB
      have tB:tr 0=false:=rfl
      by_cases hA:a0=0
      · subst hA
        have tA:tr 0=false:=rfl
        have HR2:Hid (R=⟨[b01 (decide (pv≤cv)),cv],b01 (false),k1,k2⟩):=by show _=_;rw [HR.out];rfl
        go_upto_region 54 with (go_at_call 43;(with_reducible refine (TC.out _ _).mono ?_);rintro e w9 ⟨rfl,hw⟩;subst w9)
        have SE:=hid_as (S7.out.set0 (b01 (false)))
        have TE:=hid_as (SE.out.tb.news (.cells #[.int .i64 (b01 (decide (pv≤cv))),.int .i64 cv] 2))
        have RE:Hid (Row64 ((V2.setCell ⟨w.heap.size,0,none⟩ (.int .i64 (b01 (false)))).alloc (.cells #[.int .i64 (b01 (decide (pv≤cv))),.int .i64 cv] 2)) V2.heap.size [b01 (decide (pv≤cv)),cv]):=by
          have:=row_new (V2.setCell ⟨w.heap.size,0,none⟩ (.int .i64 (b01 (false)))) [b01 (decide (pv≤cv)),cv]
          rw [World.size_setCell] at this
          exact this
        have GE:Hid (w.heap.size+1 < V2.heap.size):=S7.out.tb.rs.lt
        generalize ((V2.setCell ⟨w.heap.size,0,none⟩ (.int .i64 (b01 (false)))).alloc (.cells #[.int .i64 (b01 (decide (pv≤cv))),.int .i64 cv] 2))=U at *
        clear y0 y1 y2 yf S7 SE
        generalize V2.heap.size=nb at *
        obtain ⟨s0,s1,s2,sf⟩:=TE.out.rs.cells
        obtain ⟨y0,y1,y2,yf⟩:=TE.out.kp.cells
        have FIN:=hid_as (TE.out.end RE.out GE.out)
        go_region
        all_goals
          go_wp2
          refine bodyPost_ret (v:=.tuple #[.slice (some ⟨nb,0,none⟩) 2 2,.agg #[.int .i64 (b01 (false)),.int .i64 k1,.int .i64 k2]]) (by simp [results,Tryz.results22,go_sem,s0,s1,s2]) rfl ?_
          rw [HR2.out]
          exact ⟨nb,rfl,FIN.out⟩
      · obtain ⟨eA,nA⟩:=ne_bK hA
        have tA:tr a0=true:=nA
        by_cases hK:k0=0
        · subst hK
          have tK:tr 0=false:=rfl
          by_cases hc:cv < 32767
          · skip
            have HR2:Hid (R=⟨[b01 (decide (pv≤(cv+1))),(cv+1)],b01 (true),k1,k2⟩):=by show _=_;rw [HR.out,tA,tB,pctu_up hc]
            go_upto_region 54 with (go_at_call 43;(with_reducible refine (TC.out _ _).mono ?_);rintro e w9 ⟨rfl,hw⟩;subst w9)
            have SE:=hid_as (S7.out.set0 (b01 (true)))
            have TE:=hid_as (SE.out.tb.news (.cells #[.int .i64 (b01 (decide (pv≤(cv+1)))),.int .i64 (cv+1)] 2))
            have RE:Hid (Row64 ((V2.setCell ⟨w.heap.size,0,none⟩ (.int .i64 (b01 (true)))).alloc (.cells #[.int .i64 (b01 (decide (pv≤(cv+1)))),.int .i64 (cv+1)] 2)) V2.heap.size [b01 (decide (pv≤(cv+1))),(cv+1)]):=by
              have:=row_new (V2.setCell ⟨w.heap.size,0,none⟩ (.int .i64 (b01 (true)))) [b01 (decide (pv≤(cv+1))),(cv+1)]
              rw [World.size_setCell] at this
              exact this
            have GE:Hid (w.heap.size+1 < V2.heap.size):=S7.out.tb.rs.lt
            generalize ((V2.setCell ⟨w.heap.size,0,none⟩ (.int .i64 (b01 (true)))).alloc (.cells #[.int .i64 (b01 (decide (pv≤(cv+1)))),.int .i64 (cv+1)] 2))=U at *
            clear y0 y1 y2 yf S7 SE
            generalize V2.heap.size=nb at *
            obtain ⟨s0,s1,s2,sf⟩:=TE.out.rs.cells
            obtain ⟨y0,y1,y2,yf⟩:=TE.out.kp.cells
            have FIN:=hid_as (TE.out.end RE.out GE.out)
            go_region
            all_goals
              go_wp2
              refine bodyPost_ret (v:=.tuple #[.slice (some ⟨nb,0,none⟩) 2 2,.agg #[.int .i64 (b01 (true)),.int .i64 k1,.int .i64 k2]]) (by simp [results,Tryz.results22,go_sem,s0,s1,s2]) rfl ?_
              rw [HR2.out]
              exact ⟨nb,rfl,FIN.out⟩
          · obtain rfl:cv=32767:=by omega
            have HR2:Hid (R=⟨[b01 true,32767],b01 (true),k1,k2⟩):=by show _=_;rw [HR.out,tA,tB,pctu_top hpv.2]
            go_upto_region 54 with (go_at_call 43;(with_reducible refine (TC.out _ _).mono ?_);rintro e w9 ⟨rfl,hw⟩;subst w9)
            have SE:=hid_as (S7.out.set0 (b01 (true)))
            have TE:=hid_as (SE.out.tb.news (.cells #[.int .i64 (b01 true),.int .i64 32767] 2))
            have RE:Hid (Row64 ((V2.setCell ⟨w.heap.size,0,none⟩ (.int .i64 (b01 (true)))).alloc (.cells #[.int .i64 (b01 true),.int .i64 32767] 2)) V2.heap.size [b01 true,32767]):=by
              have:=row_new (V2.setCell ⟨w.heap.size,0,none⟩ (.int .i64 (b01 (true)))) [b01 true,32767]
              rw [World.size_setCell] at this
              exact this
            have GE:Hid (w.heap.size+1 < V2.heap.size):=S7.out.tb.rs.lt
            generalize ((V2.setCell ⟨w.heap.size,0,none⟩ (.int .i64 (b01 (true)))).alloc (.cells #[.int .i64 (b01 true),.int .i64 32767] 2))=U at *
            clear y0 y1 y2 yf S7 SE
            generalize V2.heap.size=nb at *
            obtain ⟨s0,s1,s2,sf⟩:=TE.out.rs.cells
            obtain ⟨y0,y1,y2,yf⟩:=TE.out.kp.cells
            have FIN:=hid_as (TE.out.end RE.out GE.out)
            go_region
            all_goals
              go_wp2
              refine bodyPost_ret (v:=.tuple #[.slice (some ⟨nb,0,none⟩) 2 2,.agg #[.int .i64 (b01 (true)),.int .i64 k1,.int .i64 k2]]) (by simp [results,Tryz.results22,go_sem,s0,s1,s2]) rfl ?_
              rw [HR2.out]
              exact ⟨nb,rfl,FIN.out⟩
        · obtain ⟨eK,nK⟩:=ne_bK hK
          have tK:tr k0=true:=nK
          have HR2:Hid (R=⟨[b01 (decide (pv≤cv)),cv],b01 (true),k1,k2⟩):=by show _=_;rw [HR.out,tA,tB,pctu_hold tK]
          go_upto_region 54 with (go_at_call 43;(with_reducible refine (TC.out _ _).mono ?_);rintro e w9 ⟨rfl,hw⟩;subst w9)
          have SE:=hid_as (S7.out.set0 (b01 (true)))
          have TE:=hid_as (SE.out.tb.news (.cells #[.int .i64 (b01 (decide (pv≤cv))),.int .i64 cv] 2))
          have RE:Hid (Row64 ((V2.setCell ⟨w.heap.size,0,none⟩ (.int .i64 (b01 (true)))).alloc (.cells #[.int .i64 (b01 (decide (pv≤cv))),.int .i64 cv] 2)) V2.heap.size [b01 (decide (pv≤cv)),cv]):=by
            have:=row_new (V2.setCell ⟨w.heap.size,0,none⟩ (.int .i64 (b01 (true)))) [b01 (decide (pv≤cv)),cv]
            rw [World.size_setCell] at this
            exact this
          have GE:Hid (w.heap.size+1 < V2.heap.size):=S7.out.tb.rs.lt
          generalize ((V2.setCell ⟨w.heap.size,0,none⟩ (.int .i64 (b01 (true)))).alloc (.cells #[.int .i64 (b01 (decide (pv≤cv))),.int .i64 cv] 2))=U at *
          clear y0 y1 y2 yf S7 SE
          generalize V2.heap.size=nb at *
          obtain ⟨s0,s1,s2,sf⟩:=TE.out.rs.cells
          obtain ⟨y0,y1,y2,yf⟩:=TE.out.kp.cells
          have FIN:=hid_as (TE.out.end RE.out GE.out)
          go_region
          all_goals
            go_wp2
            refine bodyPost_ret (v:=.tuple #[.slice (some ⟨nb,0,none⟩) 2 2,.agg #[.int .i64 (b01 (true)),.int .i64 k1,.int .i64 k2]]) (by simp [results,Tryz.results22,go_sem,s0,s1,s2]) rfl ?_
            rw [HR2.out]
            exact ⟨nb,rfl,FIN.out⟩
    · obtain ⟨eB,nB⟩:=ne_bK hB
      have tB:tr a1=true:=nB
      have HR2:Hid (R=⟨[b01 (decide (pv≤0)),0],b01 (a0 != 0),k1,k2⟩):=by show _=_;rw [HR.out,tB];rfl
      go_upto_region 54 with (go_at_call 43;(with_reducible refine (TC.out _ _).mono ?_);rintro e w9 ⟨rfl,hw⟩;subst w9)
      have SE:=hid_as (S7.out.set0 (b01 (a0 != 0)))
      have TE:=hid_as (SE.out.tb.news (.cells #[.int .i64 (b01 (decide (pv≤0))),.int .i64 0] 2))
      have RE:Hid (Row64 ((V2.setCell ⟨w.heap.size,0,none⟩ (.int .i64 (b01 (a0 != 0)))).alloc (.cells #[.int .i64 (b01 (decide (pv≤0))),.int .i64 0] 2)) V2.heap.size [b01 (decide (pv≤0)),0]):=by
        have:=row_new (V2.setCell ⟨w.heap.size,0,none⟩ (.int .i64 (b01 (a0 != 0)))) [b01 (decide (pv≤0)),0]
        rw [World.size_setCell] at this
        exact this
      have GE:Hid (w.heap.size+1 < V2.heap.size):=S7.out.tb.rs.lt
      generalize ((V2.setCell ⟨w.heap.size,0,none⟩ (.int .i64 (b01 (a0 != 0)))).alloc (.cells #[.int .i64 (b01 (decide (pv≤0))),.int .i64 0] 2))=U at *
      clear y0 y1 y2 yf S7 SE
      generalize V2.heap.size=nb at *
      obtain ⟨s0,s1,s2,sf⟩:=TE.out.rs.cells
      obtain ⟨y0,y1,y2,yf⟩:=TE.out.kp.cells
      have FIN:=hid_as (TE.out.end RE.out GE.out)
      go_region
      all_goals
        go_wp2
        refine bodyPost_ret (v:=.tuple #[.slice (some ⟨nb,0,none⟩) 2 2,.agg #[.int .i64 (b01 (a0 != 0)),.int .i64 k1,.int .i64 k2]]) (by simp [results,Tryz.results22,go_sem,s0,s1,s2]) rfl ?_
        rw [HR2.out]
        exact ⟨nb,rfl,FIN.out⟩
set_option maxRecDepth 100000 in
set_option maxHeartbeats 4000000 in
theorem rstep_4 {w:World} {ia oa:Option Addr} {n m ic oc:Nat} {l q:List Int} (p0 p1 p2 t:Int) (hi:Sl w (.slice ia n ic) (i64s l)) (hn:n=l.length) (ho:Sl w (.slice oa m oc) (i64s q)) (hm:m=q.length) :
    Calls Tryz.prog 22 #[.string (nm 4),.slice ia n ic,.agg #[.int .i64 p0,.int .i64 p1,.int .i64 p2],.slice oa m oc,.int .i64 t] w (StepEnd w (stp 4 l q p0 p1 p2 t)):=by
  have K0:Hid (Tb w ((w.alloc (.cells #[.int .i64 p0,.int .i64 p1,.int .i64 p2] 57)).alloc (.cells #[.int .i64 0,.int .i64 0,.int .i64 0] 57)) p0 p1 p2):=⟨(two_newK w _ _).1,(two_newK w _ _).2.1,below_new (below_new (Below.refl _ _) _) _⟩
  have SZ:Hid (((w.alloc (.cells #[.int .i64 p0,.int .i64 p1,.int .i64 p2] 57)).alloc (.cells #[.int .i64 0,.int .i64 0,.int .i64 0] 57)).heap.size=w.heap.size+2):=(two_newK w _ _).2.2
  have PC:=hid_as (fun U=>(show Calls Tryz.prog 41 #[.string (nm 4)] U (PinsEnd U 3 2) from rpins_4 U))
  have PA:=hid_as (fun U (b:Below w.heap.size w U)=>(show Calls Tryz.prog 42 #[.slice ia n ic,.int .i64 3] U (fun e w'=>e=.returned (.slice (some ⟨U.heap.size,0,none⟩) 3 3)∧Row64 w' U.heap.size [l.getD 0 0,l.getD 1 0,l.getD 2 0]∧Below U.heap.size U w') from rpad_c 3 (hi.below b) hn (by decide)))
  have PB:=hid_as (fun U (b:Below w.heap.size w U)=>(show Calls Tryz.prog 42 #[.slice oa m oc,.int .i64 2] U (fun e w'=>e=.returned (.slice (some ⟨U.heap.size,0,none⟩) 2 2)∧Row64 w' U.heap.size [q.getD 0 0,q.getD 1 0]∧Below U.heap.size U w') from rpad_c 2 (ho.below b) hm (by decide)))
  have TC:=hid_as (fun b U=>rtruth_c b U)
  obtain ⟨R,hR⟩:∃ R,R=stp 4 l q p0 p1 p2 t:=⟨_,rfl⟩
  rw [← hR]
  have HR:Hid (R=ctd (tr (l.getD 0 0)) (tr (l.getD 1 0)) (w16 (l.getD 2 0)) (w16 (q.getD 1 0)) (w32 p0) (w32 p1) (w32 p2)):=hR
  clear hi hn ho hm hR
  generalize l.getD 0 0=a0 at *
  generalize l.getD 1 0=a1 at *
  generalize l.getD 2 0=a2 at *
  generalize q.getD 0 0=c0 at *
  generalize q.getD 1 0=c1 at *
  unfold nm nml tx at PC ⊢
  go_enter Tryz.func22,Tryz.ntmps22
  go_upto_region 1 with fail
  generalize ((w.alloc (.cells #[.int .i64 p0,.int .i64 p1,.int .i64 p2] 57)).alloc (.cells #[.int .i64 0,.int .i64 0,.int .i64 0] 57))=W0 at *
  go_wp2_with fail
  refine (PC.out _).mono ?_
  rintro e w1 ⟨ga,gb,gc,gd,rfl,b1⟩
  have T1:=hid_as (K0.out.below b1)
  have Z1:Hid (w.heap.size+1 < w1.heap.size):=by have:=b1.size;have:=SZ.out;show _ < _;omega
  clear PC b1 K0 SZ
  go_wp2_with fail
  refine (PA.out _ T1.out.bl).mono ?_
  rintro e w2 ⟨rfl,rA,b2⟩
  have T2:=hid_as (T1.out.below b2)
  have RA:=hid_as rA
  have Z2:Hid (w1.heap.size < w2.heap.size):=row_lt rA
  clear PA T1 rA b2
  go_wp2_with fail
  refine (PB.out _ T2.out.bl).mono ?_
  rintro e w3 ⟨rfl,rB,b3⟩
  have S3:Hid (Sb w w3 p0 p1 p2 w1.heap.size w2.heap.size [a0,a1,a2] [c0,c1]):=⟨T2.out.below b3,row_below RA.out b3,rB,Z1.out,by have:=Z1.out;have:=Z2.out;omega,by have:=Z2.out;omega⟩
  clear PB T2 RA rB b3
  generalize w1.heap.size=ab at *
  generalize w2.heap.size=bb at *
  have WR:=hid_as (rwrap_4 t w3)
  go_wp2_with fail
  refine WR.out.mono ?_
  rintro e w4 ⟨rfl,b4⟩
  have S4:=hid_as (S3.out.below b4)
  have hnw:=w32_ok t
  have hk0:=w32_ok p0
  have hk1:=w32_ok p1
  have hk2:=w32_ok p2
  clear WR S3 b4 Z1 Z2
  have W4:=hid_as (fun x U=>rwrap_4 x U)
  go_wp2
  go_loopw [14] (fun i wr=>∃ j:Nat,j≤3∧i=.int .i64 j∧Sb w wr (if 0 < j then w32 p0 else p0) (if 1 < j then w32 p1 else p1) (if 2 < j then w32 p2 else p2) ab bb [a0,a1,a2] [c0,c1]) (fun i _=>3 - (intOf i).toNat)
  case atStart=>exact ⟨0,by omega,rfl,S4.out⟩
  case round =>
  obtain ⟨j,hj,rfl,hS⟩:=hrel
  have S:=hid_as hS
  clear hS S4
  by_cases hj3:j < 3
  · have hc:j=0 ∨ j=1 ∨ j=2:=by omega
    rcases hc with rfl | rfl | rfl
    · have SJ:Hid (Sb w wr p0 p1 p2 ab bb [a0,a1,a2] [c0,c1]):=S.out
      obtain ⟨y0,y1,y2,yf⟩:=SJ.out.tb.kp.cells
      go_wp2_with fail
      refine (W4.out _ _).mono ?_
      rintro e w5 ⟨rfl,b5⟩
      have S5:=hid_as (SJ.out.below b5)
      clear y0 y1 y2 yf b5 S SJ
      obtain ⟨y0,y1,y2,yf⟩:=S5.out.tb.kp.cells
      go_wp2
      go_roundw
      case rel=>exact ⟨1,by omega,rfl,S5.out.set0 _⟩
      case measure=>simp [intOf]
    · have SJ:Hid (Sb w wr (w32 p0) p1 p2 ab bb [a0,a1,a2] [c0,c1]):=S.out
      obtain ⟨y0,y1,y2,yf⟩:=SJ.out.tb.kp.cells
      go_wp2_with fail
      refine (W4.out _ _).mono ?_
      rintro e w5 ⟨rfl,b5⟩
      have S5:=hid_as (SJ.out.below b5)
      clear y0 y1 y2 yf b5 S SJ
      obtain ⟨y0,y1,y2,yf⟩:=S5.out.tb.kp.cells
      go_wp2
      go_roundw
      case rel=>exact ⟨2,by omega,rfl,S5.out.set1 _⟩
      case measure=>simp [intOf]
    · have SJ:Hid (Sb w wr (w32 p0) (w32 p1) p2 ab bb [a0,a1,a2] [c0,c1]):=S.out
      obtain ⟨y0,y1,y2,yf⟩:=SJ.out.tb.kp.cells
      go_wp2_with fail
      refine (W4.out _ _).mono ?_
      rintro e w5 ⟨rfl,b5⟩
      have S5:=hid_as (SJ.out.below b5)
      clear y0 y1 y2 yf b5 S SJ
      obtain ⟨y0,y1,y2,yf⟩:=S5.out.tb.kp.cells
      go_wp2
      go_roundw
      case rel=>exact ⟨3,by omega,rfl,S5.out.set2 _⟩
      case measure=>simp [intOf]
  · obtain rfl:j=3:=by omega
    have S6:Hid (Sb w wr (w32 p0) (w32 p1) (w32 p2) ab bb [a0,a1,a2] [c0,c1]):=S.out
    clear S W4
    generalize w32 p0=k0 at *
    generalize w32 p1=k1 at *
    generalize w32 p2=k2 at *
    generalize w32 t=nw at *
    rename World=>V
    obtain ⟨y0,y1,y2,yf⟩:=S6.out.tb.kp.cells
    have z0:=cell_row (k:=0) S6.out.ra rfl
    have z1:=cell_row (k:=1) S6.out.ra rfl
    have z2:=cell_row (k:=2) S6.out.ra rfl
    have x0:=cell_row (k:=0) S6.out.rb rfl
    have x1:=cell_row (k:=1) S6.out.rb rfl
    have xf:∀ j,V.frozen? ⟨bb,j,none⟩=false:=fun _=>frozen_row S6.out.rb
    have gg:=S6.out.gb
    have gn:bb ≠ w.heap.size:=by omega
    have CA:=hid_as (fun U (b:Below V.heap.size V U)=>(⟨cell_row (k:=2) (S6.out.below b).ra rfl,cell_row (k:=1) (S6.out.below b).rb rfl⟩:U.cell? ⟨ab,2,none⟩=some (.int .i64 a2)∧U.cell? ⟨bb,1,none⟩=some (.int .i64 c1)))
    have WA:=hid_as (fun x U=>rwrap_3 x U)
    go_upto_region 34 with fail
    go_cut [19,20] from 175 to 182 (fun a b wx=>a=.int .i64 (w16 a2)∧b=.int .i64 (w16 c1)∧Below V.heap.size V wx)
    case first =>
      go_region_held3 (fun U=>U.cell? ⟨ab,2,none⟩=some (.int .i64 a2)∧U.cell? ⟨bb,1,none⟩=some (.int .i64 c1)) (first | exact CA.out _ (Same.drew _).below | exact CA.out _ (Below.refl _ _) | exact c4z | exact c3z) (first | (go_at_call 19;(with_reducible refine (WA.out _ V.drew).mono ?_);rintro e w7 ⟨rfl,b7⟩;have b8:=(Same.drew V).below.trans (b7.mono (Nat.le_refl _));have c3z:=CA.out _ b8) | (go_at_call 19;(with_reducible refine (WA.out _ w7).mono ?_);rintro e w8 ⟨rfl,b9⟩;have bA:=below_and b8 b9;have c4z:=CA.out _ bA))
      all_goals
        go_wp2
        go_meet
        exact ⟨rfl,rfl,bA⟩
    case rest =>
    obtain ⟨rfl,rfl,hB⟩:=hcut
    have S7:=hid_as (S6.out.below hB)
    clear hB S6 CA WA y0 y1 y2 yf xf z0 z1 z2 x0 x1
    rename World=>V2
    have hpv:=w16_ok a2
    have hcv:=w16_ok c1
    generalize w16 a2=pv at *
    generalize w16 c1=cv at *
    obtain ⟨y0,y1,y2,yf⟩:=S7.out.tb.kp.cells
    by_cases hB:a1=0
    · subst hB
      have tB:tr 0=false:=rfl
      by_cases hA:a0=0
      · subst hA
        have tA:tr 0=false:=rfl
        have HR2:Hid (R=⟨[b01 (decide (cv≤0)),cv],b01 (false),k1,k2⟩):=by show _=_;rw [HR.out];rfl
        go_upto_region 54 with (go_at_call 43;(with_reducible refine (TC.out _ _).mono ?_);rintro e w9 ⟨rfl,hw⟩;subst w9)
        have SE:=hid_as (S7.out.set0 (b01 (false)))
        have TE:=hid_as (SE.out.tb.news (.cells #[.int .i64 (b01 (decide (cv≤0))),.int .i64 cv] 2))
        have RE:Hid (Row64 ((V2.setCell ⟨w.heap.size,0,none⟩ (.int .i64 (b01 (false)))).alloc (.cells #[.int .i64 (b01 (decide (cv≤0))),.int .i64 cv] 2)) V2.heap.size [b01 (decide (cv≤0)),cv]):=by
          have:=row_new (V2.setCell ⟨w.heap.size,0,none⟩ (.int .i64 (b01 (false)))) [b01 (decide (cv≤0)),cv]
          rw [World.size_setCell] at this
          exact this
        have GE:Hid (w.heap.size+1 < V2.heap.size):=S7.out.tb.rs.lt
        generalize ((V2.setCell ⟨w.heap.size,0,none⟩ (.int .i64 (b01 (false)))).alloc (.cells #[.int .i64 (b01 (decide (cv≤0))),.int .i64 cv] 2))=U at *
        clear y0 y1 y2 yf S7 SE
        generalize V2.heap.size=nb at *
        obtain ⟨s0,s1,s2,sf⟩:=TE.out.rs.cells
        obtain ⟨y0,y1,y2,yf⟩:=TE.out.kp.cells
        have FIN:=hid_as (TE.out.end RE.out GE.out)
        go_region
        all_goals
          go_wp2
          refine bodyPost_ret (v:=.tuple #[.slice (some ⟨nb,0,none⟩) 2 2,.agg #[.int .i64 (b01 (false)),.int .i64 k1,.int .i64 k2]]) (by simp [results,Tryz.results22,go_sem,s0,s1,s2]) rfl ?_
          rw [HR2.out]
          exact ⟨nb,rfl,FIN.out⟩
      · obtain ⟨eA,nA⟩:=ne_bK hA
        have tA:tr a0=true:=nA
        by_cases hK:k0=0
        · subst hK
          have tK:tr 0=false:=rfl
          by_cases hc:-32768 < cv
          · skip
            have HR2:Hid (R=⟨[b01 (decide ((cv - 1)≤0)),(cv - 1)],b01 (true),k1,k2⟩):=by show _=_;rw [HR.out,tA,tB,pctd_up hc]
            go_upto_region 54 with (go_at_call 43;(with_reducible refine (TC.out _ _).mono ?_);rintro e w9 ⟨rfl,hw⟩;subst w9)
            have SE:=hid_as (S7.out.set0 (b01 (true)))
            have TE:=hid_as (SE.out.tb.news (.cells #[.int .i64 (b01 (decide ((cv - 1)≤0))),.int .i64 (cv - 1)] 2))
            have RE:Hid (Row64 ((V2.setCell ⟨w.heap.size,0,none⟩ (.int .i64 (b01 (true)))).alloc (.cells #[.int .i64 (b01 (decide ((cv - 1)≤0))),.int .i64 (cv - 1)] 2)) V2.heap.size [b01 (decide ((cv - 1)≤0)),(cv - 1)]):=by
              have:=row_new (V2.setCell ⟨w.heap.size,0,none⟩ (.int .i64 (b01 (true)))) [b01 (decide ((cv - 1)≤0)),(cv - 1)]
              rw [World.size_setCell] at this
              exact this
            have GE:Hid (w.heap.size+1 < V2.heap.size):=S7.out.tb.rs.lt
            generalize ((V2.setCell ⟨w.heap.size,0,none⟩ (.int .i64 (b01 (true)))).alloc (.cells #[.int .i64 (b01 (decide ((cv - 1)≤0))),.int .i64 (cv - 1)] 2))=U at *
            clear y0 y1 y2 yf S7 SE
            generalize V2.heap.size=nb at *
            obtain ⟨s0,s1,s2,sf⟩:=TE.out.rs.cells
            obtain ⟨y0,y1,y2,yf⟩:=TE.out.kp.cells
            have FIN:=hid_as (TE.out.end RE.out GE.out)
            go_region
            all_goals
              go_wp2
              refine bodyPost_ret (v:=.tuple #[.slice (some ⟨nb,0,none⟩) 2 2,.agg #[.int .i64 (b01 (true)),.int .i64 k1,.int .i64 k2]]) (by simp [results,Tryz.results22,go_sem,s0,s1,s2]) rfl ?_
              rw [HR2.out]
              exact ⟨nb,rfl,FIN.out⟩
          · obtain rfl:cv=(-32768):=by omega
            have HR2:Hid (R=⟨[b01 true,(-32768)],b01 (true),k1,k2⟩):=by show _=_;rw [HR.out,tA,tB,pctd_top]
            go_upto_region 54 with (go_at_call 43;(with_reducible refine (TC.out _ _).mono ?_);rintro e w9 ⟨rfl,hw⟩;subst w9)
            have SE:=hid_as (S7.out.set0 (b01 (true)))
            have TE:=hid_as (SE.out.tb.news (.cells #[.int .i64 (b01 true),.int .i64 (-32768)] 2))
            have RE:Hid (Row64 ((V2.setCell ⟨w.heap.size,0,none⟩ (.int .i64 (b01 (true)))).alloc (.cells #[.int .i64 (b01 true),.int .i64 (-32768)] 2)) V2.heap.size [b01 true,(-32768)]):=by
              have:=row_new (V2.setCell ⟨w.heap.size,0,none⟩ (.int .i64 (b01 (true)))) [b01 true,(-32768)]
              rw [World.size_setCell] at this
              exact this
            have GE:Hid (w.heap.size+1 < V2.heap.size):=S7.out.tb.rs.lt
            generalize ((V2.setCell ⟨w.heap.size,0,none⟩ (.int .i64 (b01 (true)))).alloc (.cells #[.int .i64 (b01 true),.int .i64 (-32768)] 2))=U at *
            clear y0 y1 y2 yf S7 SE
            generalize V2.heap.size=nb at *
            obtain ⟨s0,s1,s2,sf⟩:=TE.out.rs.cells
            obtain ⟨y0,y1,y2,yf⟩:=TE.out.kp.cells
            have FIN:=hid_as (TE.out.end RE.out GE.out)
            go_region
            all_goals
              go_wp2
              refine bodyPost_ret (v:=.tuple #[.slice (some ⟨nb,0,none⟩) 2 2,.agg #[.int .i64 (b01 (true)),.int .i64 k1,.int .i64 k2]]) (by simp [results,Tryz.results22,go_sem,s0,s1,s2]) rfl ?_
              rw [HR2.out]
              exact ⟨nb,rfl,FIN.out⟩
        · obtain ⟨eK,nK⟩:=ne_bK hK
          have tK:tr k0=true:=nK
          have HR2:Hid (R=⟨[b01 (decide (cv≤0)),cv],b01 (true),k1,k2⟩):=by show _=_;rw [HR.out,tA,tB,pctd_hold tK]
          go_upto_region 54 with (go_at_call 43;(with_reducible refine (TC.out _ _).mono ?_);rintro e w9 ⟨rfl,hw⟩;subst w9)
          have SE:=hid_as (S7.out.set0 (b01 (true)))
          have TE:=hid_as (SE.out.tb.news (.cells #[.int .i64 (b01 (decide (cv≤0))),.int .i64 cv] 2))
          have RE:Hid (Row64 ((V2.setCell ⟨w.heap.size,0,none⟩ (.int .i64 (b01 (true)))).alloc (.cells #[.int .i64 (b01 (decide (cv≤0))),.int .i64 cv] 2)) V2.heap.size [b01 (decide (cv≤0)),cv]):=by
            have:=row_new (V2.setCell ⟨w.heap.size,0,none⟩ (.int .i64 (b01 (true)))) [b01 (decide (cv≤0)),cv]
            rw [World.size_setCell] at this
            exact this
          have GE:Hid (w.heap.size+1 < V2.heap.size):=S7.out.tb.rs.lt
          generalize ((V2.setCell ⟨w.heap.size,0,none⟩ (.int .i64 (b01 (true)))).alloc (.cells #[.int .i64 (b01 (decide (cv≤0))),.int .i64 cv] 2))=U at *
          clear y0 y1 y2 yf S7 SE
          generalize V2.heap.size=nb at *
          obtain ⟨s0,s1,s2,sf⟩:=TE.out.rs.cells
          obtain ⟨y0,y1,y2,yf⟩:=TE.out.kp.cells
          have FIN:=hid_as (TE.out.end RE.out GE.out)
          go_region
          all_goals
            go_wp2
            refine bodyPost_ret (v:=.tuple #[.slice (some ⟨nb,0,none⟩) 2 2,.agg #[.int .i64 (b01 (true)),.int .i64 k1,.int .i64 k2]]) (by simp [results,Tryz.results22,go_sem,s0,s1,s2]) rfl ?_
            rw [HR2.out]
            exact ⟨nb,rfl,FIN.out⟩
    · obtain ⟨eB,nB⟩:=ne_bK hB
      have tB:tr a1=true:=nB
      have HR2:Hid (R=⟨[b01 (decide (pv≤0)),pv],b01 (a0 != 0),k1,k2⟩):=by show _=_;rw [HR.out,tB];rfl
      go_upto_region 54 with (go_at_call 43;(with_reducible refine (TC.out _ _).mono ?_);rintro e w9 ⟨rfl,hw⟩;subst w9)
      have SE:=hid_as (S7.out.set0 (b01 (a0 != 0)))
      have TE:=hid_as (SE.out.tb.news (.cells #[.int .i64 (b01 (decide (pv≤0))),.int .i64 pv] 2))
      have RE:Hid (Row64 ((V2.setCell ⟨w.heap.size,0,none⟩ (.int .i64 (b01 (a0 != 0)))).alloc (.cells #[.int .i64 (b01 (decide (pv≤0))),.int .i64 pv] 2)) V2.heap.size [b01 (decide (pv≤0)),pv]):=by
        have:=row_new (V2.setCell ⟨w.heap.size,0,none⟩ (.int .i64 (b01 (a0 != 0)))) [b01 (decide (pv≤0)),pv]
        rw [World.size_setCell] at this
        exact this
      have GE:Hid (w.heap.size+1 < V2.heap.size):=S7.out.tb.rs.lt
      generalize ((V2.setCell ⟨w.heap.size,0,none⟩ (.int .i64 (b01 (a0 != 0)))).alloc (.cells #[.int .i64 (b01 (decide (pv≤0))),.int .i64 pv] 2))=U at *
      clear y0 y1 y2 yf S7 SE
      generalize V2.heap.size=nb at *
      obtain ⟨s0,s1,s2,sf⟩:=TE.out.rs.cells
      obtain ⟨y0,y1,y2,yf⟩:=TE.out.kp.cells
      have FIN:=hid_as (TE.out.end RE.out GE.out)
      go_region
      all_goals
        go_wp2
        refine bodyPost_ret (v:=.tuple #[.slice (some ⟨nb,0,none⟩) 2 2,.agg #[.int .i64 (b01 (a0 != 0)),.int .i64 k1,.int .i64 k2]]) (by simp [results,Tryz.results22,go_sem,s0,s1,s2]) rfl ?_
        rw [HR2.out]
        exact ⟨nb,rfl,FIN.out⟩
end Go.Proofs.YthjclogkcmomkaaGreatDoor
