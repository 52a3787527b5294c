/- The reference's Step of some blocks (stage 21, after stage 17). -/
import Derived.Test.YthjclogkcmomkaaGreatDoorQ28
namespace Go.Proofs.YthjclogkcmomkaaGreatDoor
open Go.RowKit
open Fb
set_option maxRecDepth 100000 in
set_option maxHeartbeats 4000000 in
theorem rstep_6 {w:World} {ia oa:Option Addr} {n m ic oc:Nat} {l q:List Int} (p0 p1 p2 t:Int) (hi:Sl w (.slice ia n ic) (i64s l)) (hn:n=l.length) (ho:Sl w (.slice oa m oc) (i64s q)) (hm:m=q.length) :
    Calls Tryz.prog 22 #[.string (nm 6),.slice ia n ic,.agg #[.int .i64 p0,.int .i64 p1,.int .i64 p2],.slice oa m oc,.int .i64 t] w (StepEnd w (stp 6 l q p0 p1 p2 t)):=by
  have K0:Hid (Tb w ((w.alloc (.cells #[.int .i64 p0,.int .i64 p1,.int .i64 p2] 57)).alloc (.cells #[.int .i64 0,.int .i64 0,.int .i64 0] 57)) p0 p1 p2):=⟨(two_newK w _ _).1,(two_newK w _ _).2.1,below_new (below_new (Below.refl _ _) _) _⟩
  have SZ:Hid (((w.alloc (.cells #[.int .i64 p0,.int .i64 p1,.int .i64 p2] 57)).alloc (.cells #[.int .i64 0,.int .i64 0,.int .i64 0] 57)).heap.size=w.heap.size+2):=(two_newK w _ _).2.2
  have PC:=hid_as (fun U=>(show Calls Tryz.prog 41 #[.string (nm 6)] U (PinsEnd U 1 1) from rpins_6 U))
  have PA:=hid_as (fun U (b:Below w.heap.size w U)=>(show Calls Tryz.prog 42 #[.slice ia n ic,.int .i64 1] U (fun e w'=>e=.returned (.slice (some ⟨U.heap.size,0,none⟩) 1 1)∧Row64 w' U.heap.size [l.getD 0 0]∧Below U.heap.size U w') from rpad_c 1 (hi.below b) hn (by decide)))
  have PB:=hid_as (fun U (b:Below w.heap.size w U)=>(show Calls Tryz.prog 42 #[.slice oa m oc,.int .i64 1] U (fun e w'=>e=.returned (.slice (some ⟨U.heap.size,0,none⟩) 1 1)∧Row64 w' U.heap.size [q.getD 0 0]∧Below U.heap.size U w') from rpad_c 1 (ho.below b) hm (by decide)))
  have TC:=hid_as (fun b U=>rtruth_c b U)
  obtain ⟨R,hR⟩:∃ R,R=stp 6 l q p0 p1 p2 t:=⟨_,rfl⟩
  rw [← hR]
  have HR:Hid (R=⟨[b01 (tr (l.getD 0 0) && !tr (w32 p0))],b01 (tr (l.getD 0 0)),w32 p1,w32 p2⟩):=hR
  clear hi hn ho hm hR
  generalize l.getD 0 0=a0 at *
  generalize q.getD 0 0=c0 at *
  unfold nm nml tx at PC ⊢
  go_enter Tryz.func22,Tryz.ntmps22
  go_upto_region 1 with fail
  generalize ((w.alloc (.cells #[.int .i64 p0,.int .i64 p1,.int .i64 p2] 57)).alloc (.cells #[.int .i64 0,.int .i64 0,.int .i64 0] 57))=W0 at *
  go_wp2_with fail
  refine (PC.out _).mono ?_
  rintro e w1 ⟨ga,gb,gc,gd,rfl,b1⟩
  have T1:=hid_as (K0.out.below b1)
  have Z1:Hid (w.heap.size+1 < w1.heap.size):=by have:=b1.size;have:=SZ.out;show _ < _;omega
  clear PC b1 K0 SZ
  go_wp2_with fail
  refine (PA.out _ T1.out.bl).mono ?_
  rintro e w2 ⟨rfl,rA,b2⟩
  have T2:=hid_as (T1.out.below b2)
  have RA:=hid_as rA
  have Z2:Hid (w1.heap.size < w2.heap.size):=row_lt rA
  clear PA T1 rA b2
  go_wp2_with fail
  refine (PB.out _ T2.out.bl).mono ?_
  rintro e w3 ⟨rfl,rB,b3⟩
  have S3:Hid (Sb w w3 p0 p1 p2 w1.heap.size w2.heap.size [a0] [c0]):=⟨T2.out.below b3,row_below RA.out b3,rB,Z1.out,by have:=Z1.out;have:=Z2.out;omega,by have:=Z2.out;omega⟩
  clear PB T2 RA rB b3
  generalize w1.heap.size=ab at *
  generalize w2.heap.size=bb at *
  have WR:=hid_as (rwrap_4 t w3)
  go_wp2_with fail
  refine WR.out.mono ?_
  rintro e w4 ⟨rfl,b4⟩
  have S4:=hid_as (S3.out.below b4)
  have hnw:=w32_ok t
  have hk0:=w32_ok p0
  have hk1:=w32_ok p1
  have hk2:=w32_ok p2
  clear WR S3 b4 Z1 Z2
  have W4:=hid_as (fun x U=>rwrap_4 x U)
  go_wp2
  go_loopw [14] (fun i wr=>∃ j:Nat,j≤3∧i=.int .i64 j∧Sb w wr (if 0 < j then w32 p0 else p0) (if 1 < j then w32 p1 else p1) (if 2 < j then w32 p2 else p2) ab bb [a0] [c0]) (fun i _=>3 - (intOf i).toNat)
  case atStart=>exact ⟨0,by omega,rfl,S4.out⟩
  case round =>
  obtain ⟨j,hj,rfl,hS⟩:=hrel
  have S:=hid_as hS
  clear hS S4
  by_cases hj3:j < 3
  · have hc:j=0 ∨ j=1 ∨ j=2:=by omega
    rcases hc with rfl | rfl | rfl
    · have SJ:Hid (Sb w wr p0 p1 p2 ab bb [a0] [c0]):=S.out
      obtain ⟨y0,y1,y2,yf⟩:=SJ.out.tb.kp.cells
      go_wp2_with fail
      refine (W4.out _ _).mono ?_
      rintro e w5 ⟨rfl,b5⟩
      have S5:=hid_as (SJ.out.below b5)
      clear y0 y1 y2 yf b5 S SJ
      obtain ⟨y0,y1,y2,yf⟩:=S5.out.tb.kp.cells
      go_wp2
      go_roundw
      case rel=>exact ⟨1,by omega,rfl,S5.out.set0 _⟩
      case measure=>simp [intOf]
    · have SJ:Hid (Sb w wr (w32 p0) p1 p2 ab bb [a0] [c0]):=S.out
      obtain ⟨y0,y1,y2,yf⟩:=SJ.out.tb.kp.cells
      go_wp2_with fail
      refine (W4.out _ _).mono ?_
      rintro e w5 ⟨rfl,b5⟩
      have S5:=hid_as (SJ.out.below b5)
      clear y0 y1 y2 yf b5 S SJ
      obtain ⟨y0,y1,y2,yf⟩:=S5.out.tb.kp.cells
      go_wp2
      go_roundw
      case rel=>exact ⟨2,by omega,rfl,S5.out.set1 _⟩
      case measure=>simp [intOf]
    · have SJ:Hid (Sb w wr (w32 p0) (w32 p1) p2 ab bb [a0] [c0]):=S.out
      obtain ⟨y0,y1,y2,yf⟩:=SJ.out.tb.kp.cells
      go_wp2_with fail
      refine (W4.out _ _).mono ?_
      rintro e w5 ⟨rfl,b5⟩
      have S5:=hid_as (SJ.out.below b5)
      clear y0 y1 y2 yf b5 S SJ
      obtain ⟨y0,y1,y2,yf⟩:=S5.out.tb.kp.cells
      go_wp2
      go_roundw
      case rel=>exact ⟨3,by omega,rfl,S5.out.set2 _⟩
      case measure=>simp [intOf]
  · obtain rfl:j=3:=by omega
    have S6:Hid (Sb w wr (w32 p0) (w32 p1) (w32 p2) ab bb [a0] [c0]):=S.out
    clear S W4
    generalize w32 p0=k0 at *
    generalize w32 p1=k1 at *
    generalize w32 p2=k2 at *
    generalize w32 t=nw at *
    rename World=>V
    obtain ⟨y0,y1,y2,yf⟩:=S6.out.tb.kp.cells
    have z0:=cell_row (k:=0) S6.out.ra rfl
    have x0:=cell_row (k:=0) S6.out.rb rfl
    have xf:∀ j,V.frozen? ⟨bb,j,none⟩=false:=fun _=>frozen_row S6.out.rb
    have gg:=S6.out.gb
    have gn:bb ≠ w.heap.size:=by omega
    have NX:=hid_as (fun x y=>(S6.out.out 0 x).set0 y)
    clear S6
    by_cases ha:a0=0
    · subst ha
      by_cases hk:k0=0
      · subst hk
        have HR2:Hid (R=⟨[b01 false],b01 false,k1,k2⟩):=by show _=_;rw [HR.out];first | rfl | (rw [ta];rfl) | (rw [tk];rfl) | (rw [ta,tk];rfl)
        go_upto_region 54 with (go_at_call 43;(with_reducible refine (TC.out _ _).mono ?_);rintro e w9 ⟨rfl,hw⟩;subst w9)
        have SE:=hid_as (NX.out (b01 false) (b01 false))
        have TE:=hid_as SE.out.tb
        have RE:=hid_as SE.out.rb
        have GE:=hid_as SE.out.gb
        generalize ((V.setCell ⟨bb,0,none⟩ (.int .i64 (b01 false))).setCell ⟨w.heap.size,0,none⟩ (.int .i64 (b01 false)))=U at *
        clear y0 y1 y2 yf xf NX SE
        obtain ⟨s0,s1,s2,sf⟩:=TE.out.rs.cells
        obtain ⟨y0,y1,y2,yf⟩:=TE.out.kp.cells
        have FIN:=hid_as (TE.out.end RE.out GE.out)
        go_region
        all_goals
          go_wp2
          refine bodyPost_ret (v:=.tuple #[.slice (some ⟨bb,0,none⟩) 1 1,.agg #[.int .i64 (b01 false),.int .i64 k1,.int .i64 k2]]) (by simp [results,Tryz.results22,go_sem,s0,s1,s2]) rfl ?_
          rw [HR2.out]
          exact ⟨bb,rfl,FIN.out⟩
      · obtain ⟨e0,n0⟩:=ne_bK hk
        have tk:tr k0=true:=n0
        have HR2:Hid (R=⟨[b01 false],b01 false,k1,k2⟩):=by show _=_;rw [HR.out];first | rfl | (rw [ta];rfl) | (rw [tk];rfl) | (rw [ta,tk];rfl)
        go_upto_region 54 with (go_at_call 43;(with_reducible refine (TC.out _ _).mono ?_);rintro e w9 ⟨rfl,hw⟩;subst w9)
        have SE:=hid_as (NX.out (b01 false) (b01 false))
        have TE:=hid_as SE.out.tb
        have RE:=hid_as SE.out.rb
        have GE:=hid_as SE.out.gb
        generalize ((V.setCell ⟨bb,0,none⟩ (.int .i64 (b01 false))).setCell ⟨w.heap.size,0,none⟩ (.int .i64 (b01 false)))=U at *
        clear y0 y1 y2 yf xf NX SE
        obtain ⟨s0,s1,s2,sf⟩:=TE.out.rs.cells
        obtain ⟨y0,y1,y2,yf⟩:=TE.out.kp.cells
        have FIN:=hid_as (TE.out.end RE.out GE.out)
        go_region
        all_goals
          go_wp2
          refine bodyPost_ret (v:=.tuple #[.slice (some ⟨bb,0,none⟩) 1 1,.agg #[.int .i64 (b01 false),.int .i64 k1,.int .i64 k2]]) (by simp [results,Tryz.results22,go_sem,s0,s1,s2]) rfl ?_
          rw [HR2.out]
          exact ⟨bb,rfl,FIN.out⟩
    · obtain ⟨e1,n1⟩:=ne_bK ha
      have ta:tr a0=true:=n1
      by_cases hk:k0=0
      · subst hk
        have HR2:Hid (R=⟨[b01 true],b01 true,k1,k2⟩):=by show _=_;rw [HR.out];first | rfl | (rw [ta];rfl) | (rw [tk];rfl) | (rw [ta,tk];rfl)
        go_upto_region 54 with (go_at_call 43;(with_reducible refine (TC.out _ _).mono ?_);rintro e w9 ⟨rfl,hw⟩;subst w9)
        have SE:=hid_as (NX.out (b01 true) (b01 true))
        have TE:=hid_as SE.out.tb
        have RE:=hid_as SE.out.rb
        have GE:=hid_as SE.out.gb
        generalize ((V.setCell ⟨bb,0,none⟩ (.int .i64 (b01 true))).setCell ⟨w.heap.size,0,none⟩ (.int .i64 (b01 true)))=U at *
        clear y0 y1 y2 yf xf NX SE
        obtain ⟨s0,s1,s2,sf⟩:=TE.out.rs.cells
        obtain ⟨y0,y1,y2,yf⟩:=TE.out.kp.cells
        have FIN:=hid_as (TE.out.end RE.out GE.out)
        go_region
        all_goals
          go_wp2
          refine bodyPost_ret (v:=.tuple #[.slice (some ⟨bb,0,none⟩) 1 1,.agg #[.int .i64 (b01 true),.int .i64 k1,.int .i64 k2]]) (by simp [results,Tryz.results22,go_sem,s0,s1,s2]) rfl ?_
          rw [HR2.out]
          exact ⟨bb,rfl,FIN.out⟩
      · obtain ⟨e0,n0⟩:=ne_bK hk
        have tk:tr k0=true:=n0
        have HR2:Hid (R=⟨[b01 false],b01 true,k1,k2⟩):=by show _=_;rw [HR.out];first | rfl | (rw [ta];rfl) | (rw [tk];rfl) | (rw [ta,tk];rfl)
        go_upto_region 54 with (go_at_call 43;(with_reducible refine (TC.out _ _).mono ?_);rintro e w9 ⟨rfl,hw⟩;subst w9)
        have SE:=hid_as (NX.out (b01 false) (b01 true))
        have TE:=hid_as SE.out.tb
        have RE:=hid_as SE.out.rb
        have GE:=hid_as SE.out.gb
        generalize ((V.setCell ⟨bb,0,none⟩ (.int .i64 (b01 false))).setCell ⟨w.heap.size,0,none⟩ (.int .i64 (b01 true)))=U at *
        clear y0 y1 y2 yf xf NX SE
        obtain ⟨s0,s1,s2,sf⟩:=TE.out.rs.cells
        obtain ⟨y0,y1,y2,yf⟩:=TE.out.kp.cells
        have FIN:=hid_as (TE.out.end RE.out GE.out)
        go_region
        all_goals
          go_wp2
          refine bodyPost_ret (v:=.tuple #[.slice (some ⟨bb,0,none⟩) 1 1,.agg #[.int .i64 (b01 true),.int .i64 k1,.int .i64 k2]]) (by simp [results,Tryz.results22,go_sem,s0,s1,s2]) rfl ?_
          rw [HR2.out]
          exact ⟨bb,rfl,FIN.out⟩
set_option maxRecDepth 100000 in
set_option maxHeartbeats 4000000 in
theorem rstep_7 {w:World} {ia oa:Option Addr} {n m ic oc:Nat} {l q:List Int} (p0 p1 p2 t:Int) (hi:Sl w (.slice ia n ic) (i64s l)) (hn:n=l.length) (ho:Sl w (.slice oa m oc) (i64s q)) (hm:m=q.length) :
    Calls Tryz.prog 22 #[.string (nm 7),.slice ia n ic,.agg #[.int .i64 p0,.int .i64 p1,.int .i64 p2],.slice oa m oc,.int .i64 t] w (StepEnd w (stp 7 l q p0 p1 p2 t)):=by
  have K0:Hid (Tb w ((w.alloc (.cells #[.int .i64 p0,.int .i64 p1,.int .i64 p2] 57)).alloc (.cells #[.int .i64 0,.int .i64 0,.int .i64 0] 57)) p0 p1 p2):=⟨(two_newK w _ _).1,(two_newK w _ _).2.1,below_new (below_new (Below.refl _ _) _) _⟩
  have SZ:Hid (((w.alloc (.cells #[.int .i64 p0,.int .i64 p1,.int .i64 p2] 57)).alloc (.cells #[.int .i64 0,.int .i64 0,.int .i64 0] 57)).heap.size=w.heap.size+2):=(two_newK w _ _).2.2
  have PC:=hid_as (fun U=>(show Calls Tryz.prog 41 #[.string (nm 7)] U (PinsEnd U 1 1) from rpins_7 U))
  have PA:=hid_as (fun U (b:Below w.heap.size w U)=>(show Calls Tryz.prog 42 #[.slice ia n ic,.int .i64 1] U (fun e w'=>e=.returned (.slice (some ⟨U.heap.size,0,none⟩) 1 1)∧Row64 w' U.heap.size [l.getD 0 0]∧Below U.heap.size U w') from rpad_c 1 (hi.below b) hn (by decide)))
  have PB:=hid_as (fun U (b:Below w.heap.size w U)=>(show Calls Tryz.prog 42 #[.slice oa m oc,.int .i64 1] U (fun e w'=>e=.returned (.slice (some ⟨U.heap.size,0,none⟩) 1 1)∧Row64 w' U.heap.size [q.getD 0 0]∧Below U.heap.size U w') from rpad_c 1 (ho.below b) hm (by decide)))
  have TC:=hid_as (fun b U=>rtruth_c b U)
  obtain ⟨R,hR⟩:∃ R,R=stp 7 l q p0 p1 p2 t:=⟨_,rfl⟩
  rw [← hR]
  have HR:Hid (R=⟨[b01 (!tr (l.getD 0 0) && tr (w32 p0))],b01 (tr (l.getD 0 0)),w32 p1,w32 p2⟩):=hR
  clear hi hn ho hm hR
  generalize l.getD 0 0=a0 at *
  generalize q.getD 0 0=c0 at *
  unfold nm nml tx at PC ⊢
  go_enter Tryz.func22,Tryz.ntmps22
  go_upto_region 1 with fail
  generalize ((w.alloc (.cells #[.int .i64 p0,.int .i64 p1,.int .i64 p2] 57)).alloc (.cells #[.int .i64 0,.int .i64 0,.int .i64 0] 57))=W0 at *
  go_wp2_with fail
  refine (PC.out _).mono ?_
  rintro e w1 ⟨ga,gb,gc,gd,rfl,b1⟩
  have T1:=hid_as (K0.out.below b1)
  have Z1:Hid (w.heap.size+1 < w1.heap.size):=by have:=b1.size;have:=SZ.out;show _ < _;omega
  clear PC b1 K0 SZ
  go_wp2_with fail
  refine (PA.out _ T1.out.bl).mono ?_
  rintro e w2 ⟨rfl,rA,b2⟩
  have T2:=hid_as (T1.out.below b2)
  have RA:=hid_as rA
  have Z2:Hid (w1.heap.size < w2.heap.size):=row_lt rA
  clear PA T1 rA b2
  go_wp2_with fail
  refine (PB.out _ T2.out.bl).mono ?_
  rintro e w3 ⟨rfl,rB,b3⟩
  have S3:Hid (Sb w w3 p0 p1 p2 w1.heap.size w2.heap.size [a0] [c0]):=⟨T2.out.below b3,row_below RA.out b3,rB,Z1.out,by have:=Z1.out;have:=Z2.out;omega,by have:=Z2.out;omega⟩
  clear PB T2 RA rB b3
  generalize w1.heap.size=ab at *
  generalize w2.heap.size=bb at *
  have WR:=hid_as (rwrap_4 t w3)
  go_wp2_with fail
  refine WR.out.mono ?_
  rintro e w4 ⟨rfl,b4⟩
  have S4:=hid_as (S3.out.below b4)
  have hnw:=w32_ok t
  have hk0:=w32_ok p0
  have hk1:=w32_ok p1
  have hk2:=w32_ok p2
  clear WR S3 b4 Z1 Z2
  have W4:=hid_as (fun x U=>rwrap_4 x U)
  go_wp2
  go_loopw [14] (fun i wr=>∃ j:Nat,j≤3∧i=.int .i64 j∧Sb w wr (if 0 < j then w32 p0 else p0) (if 1 < j then w32 p1 else p1) (if 2 < j then w32 p2 else p2) ab bb [a0] [c0]) (fun i _=>3 - (intOf i).toNat)
  case atStart=>exact ⟨0,by omega,rfl,S4.out⟩
  case round =>
  obtain ⟨j,hj,rfl,hS⟩:=hrel
  have S:=hid_as hS
  clear hS S4
  by_cases hj3:j < 3
  · have hc:j=0 ∨ j=1 ∨ j=2:=by omega
    rcases hc with rfl | rfl | rfl
    · have SJ:Hid (Sb w wr p0 p1 p2 ab bb [a0] [c0]):=S.out
      obtain ⟨y0,y1,y2,yf⟩:=SJ.out.tb.kp.cells
      go_wp2_with fail
      refine (W4.out _ _).mono ?_
      rintro e w5 ⟨rfl,b5⟩
      have S5:=hid_as (SJ.out.below b5)
      clear y0 y1 y2 yf b5 S SJ
      obtain ⟨y0,y1,y2,yf⟩:=S5.out.tb.kp.cells
      go_wp2
      go_roundw
      case rel=>exact ⟨1,by omega,rfl,S5.out.set0 _⟩
      case measure=>simp [intOf]
    · have SJ:Hid (Sb w wr (w32 p0) p1 p2 ab bb [a0] [c0]):=S.out
      obtain ⟨y0,y1,y2,yf⟩:=SJ.out.tb.kp.cells
      go_wp2_with fail
      refine (W4.out _ _).mono ?_
      rintro e w5 ⟨rfl,b5⟩
      have S5:=hid_as (SJ.out.below b5)
      clear y0 y1 y2 yf b5 S SJ
      obtain ⟨y0,y1,y2,yf⟩:=S5.out.tb.kp.cells
      go_wp2
      go_roundw
      case rel=>exact ⟨2,by omega,rfl,S5.out.set1 _⟩
      case measure=>simp [intOf]
    · have SJ:Hid (Sb w wr (w32 p0) (w32 p1) p2 ab bb [a0] [c0]):=S.out
      obtain ⟨y0,y1,y2,yf⟩:=SJ.out.tb.kp.cells
      go_wp2_with fail
      refine (W4.out _ _).mono ?_
      rintro e w5 ⟨rfl,b5⟩
      have S5:=hid_as (SJ.out.below b5)
      clear y0 y1 y2 yf b5 S SJ
      obtain ⟨y0,y1,y2,yf⟩:=S5.out.tb.kp.cells
      go_wp2
      go_roundw
      case rel=>exact ⟨3,by omega,rfl,S5.out.set2 _⟩
      case measure=>simp [intOf]
  · obtain rfl:j=3:=by omega
    have S6:Hid (Sb w wr (w32 p0) (w32 p1) (w32 p2) ab bb [a0] [c0]):=S.out
    clear S W4
    generalize w32 p0=k0 at *
    generalize w32 p1=k1 at *
    generalize w32 p2=k2 at *
    generalize w32 t=nw at *
    rename World=>V
    obtain ⟨y0,y1,y2,yf⟩:=S6.out.tb.kp.cells
    have z0:=cell_row (k:=0) S6.out.ra rfl
    have x0:=cell_row (k:=0) S6.out.rb rfl
    have xf:∀ j,V.frozen? ⟨bb,j,none⟩=false:=fun _=>frozen_row S6.out.rb
    have gg:=S6.out.gb
    have gn:bb ≠ w.heap.size:=by omega
    have NX:=hid_as (fun x y=>(S6.out.out 0 x).set0 y)
    clear S6
    by_cases ha:a0=0
    · subst ha
      by_cases hk:k0=0
      · subst hk
        have HR2:Hid (R=⟨[b01 false],b01 false,k1,k2⟩):=by show _=_;rw [HR.out];first | rfl | (rw [ta];rfl) | (rw [tk];rfl) | (rw [ta,tk];rfl)
        go_upto_region 54 with (go_at_call 43;(with_reducible refine (TC.out _ _).mono ?_);rintro e w9 ⟨rfl,hw⟩;subst w9)
        have SE:=hid_as (NX.out (b01 false) (b01 false))
        have TE:=hid_as SE.out.tb
        have RE:=hid_as SE.out.rb
        have GE:=hid_as SE.out.gb
        generalize ((V.setCell ⟨bb,0,none⟩ (.int .i64 (b01 false))).setCell ⟨w.heap.size,0,none⟩ (.int .i64 (b01 false)))=U at *
        clear y0 y1 y2 yf xf NX SE
        obtain ⟨s0,s1,s2,sf⟩:=TE.out.rs.cells
        obtain ⟨y0,y1,y2,yf⟩:=TE.out.kp.cells
        have FIN:=hid_as (TE.out.end RE.out GE.out)
        go_region
        all_goals
          go_wp2
          refine bodyPost_ret (v:=.tuple #[.slice (some ⟨bb,0,none⟩) 1 1,.agg #[.int .i64 (b01 false),.int .i64 k1,.int .i64 k2]]) (by simp [results,Tryz.results22,go_sem,s0,s1,s2]) rfl ?_
          rw [HR2.out]
          exact ⟨bb,rfl,FIN.out⟩
      · obtain ⟨e0,n0⟩:=ne_bK hk
        have tk:tr k0=true:=n0
        have HR2:Hid (R=⟨[b01 true],b01 false,k1,k2⟩):=by show _=_;rw [HR.out];first | rfl | (rw [ta];rfl) | (rw [tk];rfl) | (rw [ta,tk];rfl)
        go_upto_region 54 with (go_at_call 43;(with_reducible refine (TC.out _ _).mono ?_);rintro e w9 ⟨rfl,hw⟩;subst w9)
        have SE:=hid_as (NX.out (b01 true) (b01 false))
        have TE:=hid_as SE.out.tb
        have RE:=hid_as SE.out.rb
        have GE:=hid_as SE.out.gb
        generalize ((V.setCell ⟨bb,0,none⟩ (.int .i64 (b01 true))).setCell ⟨w.heap.size,0,none⟩ (.int .i64 (b01 false)))=U at *
        clear y0 y1 y2 yf xf NX SE
        obtain ⟨s0,s1,s2,sf⟩:=TE.out.rs.cells
        obtain ⟨y0,y1,y2,yf⟩:=TE.out.kp.cells
        have FIN:=hid_as (TE.out.end RE.out GE.out)
        go_region
        all_goals
          go_wp2
          refine bodyPost_ret (v:=.tuple #[.slice (some ⟨bb,0,none⟩) 1 1,.agg #[.int .i64 (b01 false),.int .i64 k1,.int .i64 k2]]) (by simp [results,Tryz.results22,go_sem,s0,s1,s2]) rfl ?_
          rw [HR2.out]
          exact ⟨bb,rfl,FIN.out⟩
    · obtain ⟨e1,n1⟩:=ne_bK ha
      have ta:tr a0=true:=n1
      by_cases hk:k0=0
      · subst hk
        have HR2:Hid (R=⟨[b01 false],b01 true,k1,k2⟩):=by show _=_;rw [HR.out];first | rfl | (rw [ta];rfl) | (rw [tk];rfl) | (rw [ta,tk];rfl)
        go_upto_region 54 with (go_at_call 43;(with_reducible refine (TC.out _ _).mono ?_);rintro e w9 ⟨rfl,hw⟩;subst w9)
        have SE:=hid_as (NX.out (b01 false) (b01 true))
        have TE:=hid_as SE.out.tb
        have RE:=hid_as SE.out.rb
        have GE:=hid_as SE.out.gb
        generalize ((V.setCell ⟨bb,0,none⟩ (.int .i64 (b01 false))).setCell ⟨w.heap.size,0,none⟩ (.int .i64 (b01 true)))=U at *
        clear y0 y1 y2 yf xf NX SE
        obtain ⟨s0,s1,s2,sf⟩:=TE.out.rs.cells
        obtain ⟨y0,y1,y2,yf⟩:=TE.out.kp.cells
        have FIN:=hid_as (TE.out.end RE.out GE.out)
        go_region
        all_goals
          go_wp2
          refine bodyPost_ret (v:=.tuple #[.slice (some ⟨bb,0,none⟩) 1 1,.agg #[.int .i64 (b01 true),.int .i64 k1,.int .i64 k2]]) (by simp [results,Tryz.results22,go_sem,s0,s1,s2]) rfl ?_
          rw [HR2.out]
          exact ⟨bb,rfl,FIN.out⟩
      · obtain ⟨e0,n0⟩:=ne_bK hk
        have tk:tr k0=true:=n0
        have HR2:Hid (R=⟨[b01 false],b01 true,k1,k2⟩):=by show _=_;rw [HR.out];first | rfl | (rw [ta];rfl) | (rw [tk];rfl) | (rw [ta,tk];rfl)
        go_upto_region 54 with (go_at_call 43;(with_reducible refine (TC.out _ _).mono ?_);rintro e w9 ⟨rfl,hw⟩;subst w9)
        have SE:=hid_as (NX.out (b01 false) (b01 true))
        have TE:=hid_as SE.out.tb
        have RE:=hid_as SE.out.rb
        have GE:=hid_as SE.out.gb
        generalize ((V.setCell ⟨bb,0,none⟩ (.int .i64 (b01 false))).setCell ⟨w.heap.size,0,none⟩ (.int .i64 (b01 true)))=U at *
        clear y0 y1 y2 yf xf NX SE
        obtain ⟨s0,s1,s2,sf⟩:=TE.out.rs.cells
        obtain ⟨y0,y1,y2,yf⟩:=TE.out.kp.cells
        have FIN:=hid_as (TE.out.end RE.out GE.out)
        go_region
        all_goals
          go_wp2
          refine bodyPost_ret (v:=.tuple #[.slice (some ⟨bb,0,none⟩) 1 1,.agg #[.int .i64 (b01 true),.int .i64 k1,.int .i64 k2]]) (by simp [results,Tryz.results22,go_sem,s0,s1,s2]) rfl ?_
          rw [HR2.out]
          exact ⟨bb,rfl,FIN.out⟩
end Go.Proofs.YthjclogkcmomkaaGreatDoor
