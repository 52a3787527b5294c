/- The reference's Step of block 0 (stage 21, after stage 17). · The reference's Step of block 1 (stage 21, after stage 17). · The reference's Step of block 5 (stage 21, after stage 17). · Step of any text: the program's and the reference's (stage 21, after stage 17). -/
import Derived.Laws.Strings
import Derived.Test.YthjclogkcmomkaaGreatDoorQ28
import Derived.Test.YthjclogkcmomkaaGreatDoorQ43
import Derived.Test.YthjclogkcmomkaaGreatDoorQ44
import Derived.Test.YthjclogkcmomkaaGreatDoorQ45
import Derived.Test.YthjclogkcmomkaaGreatDoorQ46
namespace Go.Proofs.YthjclogkcmomkaaGreatDoor
open Go.RowKit
open Fb
set_option maxRecDepth 100000 in
set_option maxHeartbeats 4000000 in
theorem rstep_0 {w:World} {ia oa:Option Addr} {n m ic oc:Nat} {l q:List Int} (p0 p1 p2 t:Int) (hi:Sl w (.slice ia n ic) (i64s l)) (hn:n=l.length) (ho:Sl w (.slice oa m oc) (i64s q)) (hm:m=q.length) :
    Calls Tryz.prog 22 #[.string (nm 0),.slice ia n ic,.agg #[.int .i64 p0,.int .i64 p1,.int .i64 p2],.slice oa m oc,.int .i64 t] w (StepEnd w (stp 0 l q p0 p1 p2 t)):=by
  have K0:Hid (Tb w ((w.alloc (.cells #[.int .i64 p0,.int .i64 p1,.int .i64 p2] 57)).alloc (.cells #[.int .i64 0,.int .i64 0,.int .i64 0] 57)) p0 p1 p2):=⟨(two_newK w _ _).1,(two_newK w _ _).2.1,below_new (below_new (Below.refl _ _) _) _⟩
  have SZ:Hid (((w.alloc (.cells #[.int .i64 p0,.int .i64 p1,.int .i64 p2] 57)).alloc (.cells #[.int .i64 0,.int .i64 0,.int .i64 0] 57)).heap.size=w.heap.size+2):=(two_newK w _ _).2.2
  have PC:=hid_as (fun U=>(show Calls Tryz.prog 41 #[.string (nm 0)] U (PinsEnd U 2 2) from rpins_0 U))
  have PA:=hid_as (fun U (b:Below w.heap.size w U)=>(show Calls Tryz.prog 42 #[.slice ia n ic,.int .i64 2] U (fun e w'=>e=.returned (.slice (some ⟨U.heap.size,0,none⟩) 2 2)∧Row64 w' U.heap.size [l.getD 0 0,l.getD 1 0]∧Below U.heap.size U w') from rpad_c 2 (hi.below b) hn (by decide)))
  have PB:=hid_as (fun U (b:Below w.heap.size w U)=>(show Calls Tryz.prog 42 #[.slice oa m oc,.int .i64 2] U (fun e w'=>e=.returned (.slice (some ⟨U.heap.size,0,none⟩) 2 2)∧Row64 w' U.heap.size [q.getD 0 0,q.getD 1 0]∧Below U.heap.size U w') from rpad_c 2 (ho.below b) hm (by decide)))
  have TC:=hid_as (fun b U=>rtruth_c b U)
  obtain ⟨R,hR⟩:∃ R,R=stp 0 l q p0 p1 p2 t:=⟨_,rfl⟩
  rw [← hR]
  have HR:Hid (R=ton (tr (l.getD 0 0)) (max (w32 (l.getD 1 0)) 0) (w32 p0) (w32 p1) (w32 p2) (w32 t)):=hR
  clear hi hn ho hm hR
  generalize l.getD 0 0=a0 at *
  generalize l.getD 1 0=a1 at *
  generalize q.getD 0 0=c0 at *
  generalize q.getD 1 0=c1 at *
  unfold nm nml tx at PC ⊢
  go_enter Tryz.func22,Tryz.ntmps22
  go_upto_region 1 with fail
  generalize ((w.alloc (.cells #[.int .i64 p0,.int .i64 p1,.int .i64 p2] 57)).alloc (.cells #[.int .i64 0,.int .i64 0,.int .i64 0] 57))=W0 at *
  go_wp2_with fail
  refine (PC.out _).mono ?_
  rintro e w1 ⟨ga,gb,gc,gd,rfl,b1⟩
  have T1:=hid_as (K0.out.below b1)
  have Z1:Hid (w.heap.size+1 < w1.heap.size):=by have:=b1.size;have:=SZ.out;show _ < _;omega
  clear PC b1 K0 SZ
  go_wp2_with fail
  refine (PA.out _ T1.out.bl).mono ?_
  rintro e w2 ⟨rfl,rA,b2⟩
  have T2:=hid_as (T1.out.below b2)
  have RA:=hid_as rA
  have Z2:Hid (w1.heap.size < w2.heap.size):=row_lt rA
  clear PA T1 rA b2
  go_wp2_with fail
  refine (PB.out _ T2.out.bl).mono ?_
  rintro e w3 ⟨rfl,rB,b3⟩
  have S3:Hid (Sb w w3 p0 p1 p2 w1.heap.size w2.heap.size [a0,a1] [c0,c1]):=⟨T2.out.below b3,row_below RA.out b3,rB,Z1.out,by have:=Z1.out;have:=Z2.out;omega,by have:=Z2.out;omega⟩
  clear PB T2 RA rB b3
  generalize w1.heap.size=ab at *
  generalize w2.heap.size=bb at *
  have WR:=hid_as (rwrap_4 t w3)
  go_wp2_with fail
  refine WR.out.mono ?_
  rintro e w4 ⟨rfl,b4⟩
  have S4:=hid_as (S3.out.below b4)
  have hnw:=w32_ok t
  have hk0:=w32_ok p0
  have hk1:=w32_ok p1
  have hk2:=w32_ok p2
  clear WR S3 b4 Z1 Z2
  have W4:=hid_as (fun x U=>rwrap_4 x U)
  go_wp2
  go_loopw [14] (fun i wr=>∃ j:Nat,j≤3∧i=.int .i64 j∧Sb w wr (if 0 < j then w32 p0 else p0) (if 1 < j then w32 p1 else p1) (if 2 < j then w32 p2 else p2) ab bb [a0,a1] [c0,c1]) (fun i _=>3 - (intOf i).toNat)
  case atStart=>exact ⟨0,by omega,rfl,S4.out⟩
  case round =>
  obtain ⟨j,hj,rfl,hS⟩:=hrel
  have S:=hid_as hS
  clear hS S4
  by_cases hj3:j < 3
  · have hc:j=0 ∨ j=1 ∨ j=2:=by omega
    rcases hc with rfl | rfl | rfl
    · have SJ:Hid (Sb w wr p0 p1 p2 ab bb [a0,a1] [c0,c1]):=S.out
      obtain ⟨y0,y1,y2,yf⟩:=SJ.out.tb.kp.cells
      go_wp2_with fail
      refine (W4.out _ _).mono ?_
      rintro e w5 ⟨rfl,b5⟩
      have S5:=hid_as (SJ.out.below b5)
      clear y0 y1 y2 yf b5 S SJ
      obtain ⟨y0,y1,y2,yf⟩:=S5.out.tb.kp.cells
      go_wp2
      go_roundw
      case rel=>exact ⟨1,by omega,rfl,S5.out.set0 _⟩
      case measure=>simp [intOf]
    · have SJ:Hid (Sb w wr (w32 p0) p1 p2 ab bb [a0,a1] [c0,c1]):=S.out
      obtain ⟨y0,y1,y2,yf⟩:=SJ.out.tb.kp.cells
      go_wp2_with fail
      refine (W4.out _ _).mono ?_
      rintro e w5 ⟨rfl,b5⟩
      have S5:=hid_as (SJ.out.below b5)
      clear y0 y1 y2 yf b5 S SJ
      obtain ⟨y0,y1,y2,yf⟩:=S5.out.tb.kp.cells
      go_wp2
      go_roundw
      case rel=>exact ⟨2,by omega,rfl,S5.out.set1 _⟩
      case measure=>simp [intOf]
    · have SJ:Hid (Sb w wr (w32 p0) (w32 p1) p2 ab bb [a0,a1] [c0,c1]):=S.out
      obtain ⟨y0,y1,y2,yf⟩:=SJ.out.tb.kp.cells
      go_wp2_with fail
      refine (W4.out _ _).mono ?_
      rintro e w5 ⟨rfl,b5⟩
      have S5:=hid_as (SJ.out.below b5)
      clear y0 y1 y2 yf b5 S SJ
      obtain ⟨y0,y1,y2,yf⟩:=S5.out.tb.kp.cells
      go_wp2
      go_roundw
      case rel=>exact ⟨3,by omega,rfl,S5.out.set2 _⟩
      case measure=>simp [intOf]
  · obtain rfl:j=3:=by omega
    have S6:Hid (Sb w wr (w32 p0) (w32 p1) (w32 p2) ab bb [a0,a1] [c0,c1]):=S.out
    clear S W4
    generalize w32 p0=k0 at *
    generalize w32 p1=k1 at *
    generalize w32 p2=k2 at *
    generalize w32 t=nw at *
    rename World=>V
    obtain ⟨y0,y1,y2,yf⟩:=S6.out.tb.kp.cells
    have z0:=cell_row (k:=0) S6.out.ra rfl
    have z1:=cell_row (k:=1) S6.out.ra rfl
    have x0:=cell_row (k:=0) S6.out.rb rfl
    have x1:=cell_row (k:=1) S6.out.rb rfl
    have xf:∀ j,V.frozen? ⟨bb,j,none⟩=false:=fun _=>frozen_row S6.out.rb
    have WT:=hid_as (fun U=>rwrap_11 a1 U)
    have CA:=hid_as (fun U (b:Below V.heap.size V U)=>(S6.out.below b).tb.kp.cells)
    have CB:=hid_as (fun U (b:Below V.heap.size V U)=>cell_row (k:=1) (S6.out.below b).ra rfl)
    obtain ⟨pt,hpt⟩:∃ pt,pt=max (w32 a1) 0:=⟨_,rfl⟩
    rw [← hpt] at HR
    have EX:=hid_as (fun U (b:Below V.heap.size V U)=>rton_c (a0 != 0) pt k0 k1 k2 nw (S6.out.below b).rb hk1 hnw)
    have HR3:Hid (R=ton (a0 != 0) pt k0 k1 k2 nw):=HR.out
    simp only [← HR3.out] at EX
    unfold nm nml tx at EX
    clear HR HR3
    obtain ⟨ro,r0,r1,r2⟩:=R
    obtain ⟨x,hx⟩:∃ x,x=w32 a1:=⟨_,rfl⟩
    rw [← hx] at hpt WT
    clear hx
    go_upto_block 2 with fail
    go_cut [3] from 66 to 276 (fun v wx=>∃ b,v=.slice (some ⟨b,0,none⟩) ro.length ro.length∧Row64 wx b ro∧Tb w wx r0 r1 r2∧w.heap.size+1 < b)
    case first =>
      have NX:=hid_as (fun U b (k:Below V.heap.size V U) (hb:V.heap.size≤b) (r:Row64 U b ro)=>((⟨row_set3 r (by have:=S6.out.tb.kp.lt;omega),((S6.out.below k).tb.set0 r0).set1 r1 |>.set2 r2,by have:=S6.out.tb.rs.lt;omega⟩):Row64 (st3 U w.heap.size r0 r1 r2) b ro∧Tb w (st3 U w.heap.size r0 r1 r2) r0 r1 r2∧w.heap.size+1 < b))
      go_upto_region 14 with fail
      by_cases hneg:x < 0
      · obtain rfl:pt=0:=by omega
        clear hpt
        go_region_with (first | (go_at_call 19;(with_reducible refine (WT.out V.drew).mono ?_);rintro e w7 ⟨rfl,b7⟩;have b8:=(Same.drew V).below.trans (b7.mono (Nat.le_refl _));obtain ⟨t0,t1,t2,tf⟩:=CA.out _ b8) | (go_at_call 44;(with_reducible refine (EX.out w7 b8).mono ?_);rintro e w8 ⟨nb,rfl,hb8,r8,k8⟩;have b9:=below_and b8 k8;obtain ⟨v0,v1,v2,vf⟩:=CA.out _ b9))
        all_goals
          go_wp2
          go_meet
          exact ⟨nb,rfl,NX.out w8 nb b9 (by have:=b8.size;omega) r8⟩
      · obtain rfl:pt=x:=by omega
        clear hpt
        go_region_with (first | (go_at_call 19;(with_reducible refine (WT.out V.drew).mono ?_);rintro e w7 ⟨rfl,b7⟩;have b8:=(Same.drew V).below.trans (b7.mono (Nat.le_refl _));obtain ⟨t0,t1,t2,tf⟩:=CA.out _ b8) | (go_at_call 44;(with_reducible refine (EX.out w7 b8).mono ?_);rintro e w8 ⟨nb,rfl,hb8,r8,k8⟩;have b9:=below_and b8 k8;obtain ⟨v0,v1,v2,vf⟩:=CA.out _ b9))
        all_goals
          go_wp2
          go_meet
          exact ⟨nb,rfl,NX.out w8 nb b9 (by have:=b8.size;omega) r8⟩
    case rest =>
    obtain ⟨nb,rfl,hr,hT,hg⟩:=hcut
    have TE:=hid_as hT
    clear hT y0 y1 y2 yf xf CA CB EX WT S6 z0 z1 x0 x1
    obtain ⟨s0,s1,s2,sf⟩:=TE.out.rs.cells
    obtain ⟨y0,y1,y2,yf⟩:=TE.out.kp.cells
    have FIN:=hid_as (TE.out.end hr hg)
    obtain ⟨on,hon⟩:∃ on,on=ro.length:=⟨_,rfl⟩
    rw [← hon]
    have HON:=hid_as hon
    clear hon hr hg
    go_wp2
    go_region
    all_goals
      go_wp2
      refine bodyPost_ret (v:=.tuple #[.slice (some ⟨nb,0,none⟩) on on,.agg #[.int .i64 r0,.int .i64 r1,.int .i64 r2]]) (by simp [results,Tryz.results22,go_sem,s0,s1,s2]) rfl ?_
      exact ⟨nb,by rw [HON.out],FIN.out⟩
end Go.Proofs.YthjclogkcmomkaaGreatDoor
namespace Go.Proofs.YthjclogkcmomkaaGreatDoor
open Go.RowKit
open Fb
set_option maxRecDepth 100000 in
set_option maxHeartbeats 4000000 in
theorem rstep_1 {w:World} {ia oa:Option Addr} {n m ic oc:Nat} {l q:List Int} (p0 p1 p2 t:Int) (hi:Sl w (.slice ia n ic) (i64s l)) (hn:n=l.length) (ho:Sl w (.slice oa m oc) (i64s q)) (hm:m=q.length) :
    Calls Tryz.prog 22 #[.string (nm 1),.slice ia n ic,.agg #[.int .i64 p0,.int .i64 p1,.int .i64 p2],.slice oa m oc,.int .i64 t] w (StepEnd w (stp 1 l q p0 p1 p2 t)):=by
  have K0:Hid (Tb w ((w.alloc (.cells #[.int .i64 p0,.int .i64 p1,.int .i64 p2] 57)).alloc (.cells #[.int .i64 0,.int .i64 0,.int .i64 0] 57)) p0 p1 p2):=⟨(two_newK w _ _).1,(two_newK w _ _).2.1,below_new (below_new (Below.refl _ _) _) _⟩
  have SZ:Hid (((w.alloc (.cells #[.int .i64 p0,.int .i64 p1,.int .i64 p2] 57)).alloc (.cells #[.int .i64 0,.int .i64 0,.int .i64 0] 57)).heap.size=w.heap.size+2):=(two_newK w _ _).2.2
  have PC:=hid_as (fun U=>(show Calls Tryz.prog 41 #[.string (nm 1)] U (PinsEnd U 2 2) from rpins_1 U))
  have PA:=hid_as (fun U (b:Below w.heap.size w U)=>(show Calls Tryz.prog 42 #[.slice ia n ic,.int .i64 2] U (fun e w'=>e=.returned (.slice (some ⟨U.heap.size,0,none⟩) 2 2)∧Row64 w' U.heap.size [l.getD 0 0,l.getD 1 0]∧Below U.heap.size U w') from rpad_c 2 (hi.below b) hn (by decide)))
  have PB:=hid_as (fun U (b:Below w.heap.size w U)=>(show Calls Tryz.prog 42 #[.slice oa m oc,.int .i64 2] U (fun e w'=>e=.returned (.slice (some ⟨U.heap.size,0,none⟩) 2 2)∧Row64 w' U.heap.size [q.getD 0 0,q.getD 1 0]∧Below U.heap.size U w') from rpad_c 2 (ho.below b) hm (by decide)))
  have TC:=hid_as (fun b U=>rtruth_c b U)
  obtain ⟨R,hR⟩:∃ R,R=stp 1 l q p0 p1 p2 t:=⟨_,rfl⟩
  rw [← hR]
  have HR:Hid (R=tof (tr (l.getD 0 0)) (max (w32 (l.getD 1 0)) 0) (w32 (q.getD 1 0)) (w32 p0) (w32 p1) (w32 p2) (w32 t)):=hR
  clear hi hn ho hm hR
  generalize l.getD 0 0=a0 at *
  generalize l.getD 1 0=a1 at *
  generalize q.getD 0 0=c0 at *
  generalize q.getD 1 0=c1 at *
  unfold nm nml tx at PC ⊢
  go_enter Tryz.func22,Tryz.ntmps22
  go_upto_region 1 with fail
  generalize ((w.alloc (.cells #[.int .i64 p0,.int .i64 p1,.int .i64 p2] 57)).alloc (.cells #[.int .i64 0,.int .i64 0,.int .i64 0] 57))=W0 at *
  go_wp2_with fail
  refine (PC.out _).mono ?_
  rintro e w1 ⟨ga,gb,gc,gd,rfl,b1⟩
  have T1:=hid_as (K0.out.below b1)
  have Z1:Hid (w.heap.size+1 < w1.heap.size):=by have:=b1.size;have:=SZ.out;show _ < _;omega
  clear PC b1 K0 SZ
  go_wp2_with fail
  refine (PA.out _ T1.out.bl).mono ?_
  rintro e w2 ⟨rfl,rA,b2⟩
  have T2:=hid_as (T1.out.below b2)
  have RA:=hid_as rA
  have Z2:Hid (w1.heap.size < w2.heap.size):=row_lt rA
  clear PA T1 rA b2
  go_wp2_with fail
  refine (PB.out _ T2.out.bl).mono ?_
  rintro e w3 ⟨rfl,rB,b3⟩
  have S3:Hid (Sb w w3 p0 p1 p2 w1.heap.size w2.heap.size [a0,a1] [c0,c1]):=⟨T2.out.below b3,row_below RA.out b3,rB,Z1.out,by have:=Z1.out;have:=Z2.out;omega,by have:=Z2.out;omega⟩
  clear PB T2 RA rB b3
  generalize w1.heap.size=ab at *
  generalize w2.heap.size=bb at *
  have WR:=hid_as (rwrap_4 t w3)
  go_wp2_with fail
  refine WR.out.mono ?_
  rintro e w4 ⟨rfl,b4⟩
  have S4:=hid_as (S3.out.below b4)
  have hnw:=w32_ok t
  have hk0:=w32_ok p0
  have hk1:=w32_ok p1
  have hk2:=w32_ok p2
  clear WR S3 b4 Z1 Z2
  have W4:=hid_as (fun x U=>rwrap_4 x U)
  go_wp2
  go_loopw [14] (fun i wr=>∃ j:Nat,j≤3∧i=.int .i64 j∧Sb w wr (if 0 < j then w32 p0 else p0) (if 1 < j then w32 p1 else p1) (if 2 < j then w32 p2 else p2) ab bb [a0,a1] [c0,c1]) (fun i _=>3 - (intOf i).toNat)
  case atStart=>exact ⟨0,by omega,rfl,S4.out⟩
  case round =>
  obtain ⟨j,hj,rfl,hS⟩:=hrel
  have S:=hid_as hS
  clear hS S4
  by_cases hj3:j < 3
  · have hc:j=0 ∨ j=1 ∨ j=2:=by omega
    rcases hc with rfl | rfl | rfl
    · have SJ:Hid (Sb w wr p0 p1 p2 ab bb [a0,a1] [c0,c1]):=S.out
      obtain ⟨y0,y1,y2,yf⟩:=SJ.out.tb.kp.cells
      go_wp2_with fail
      refine (W4.out _ _).mono ?_
      rintro e w5 ⟨rfl,b5⟩
      have S5:=hid_as (SJ.out.below b5)
      clear y0 y1 y2 yf b5 S SJ
      obtain ⟨y0,y1,y2,yf⟩:=S5.out.tb.kp.cells
      go_wp2
      go_roundw
      case rel=>exact ⟨1,by omega,rfl,S5.out.set0 _⟩
      case measure=>simp [intOf]
    · have SJ:Hid (Sb w wr (w32 p0) p1 p2 ab bb [a0,a1] [c0,c1]):=S.out
      obtain ⟨y0,y1,y2,yf⟩:=SJ.out.tb.kp.cells
      go_wp2_with fail
      refine (W4.out _ _).mono ?_
      rintro e w5 ⟨rfl,b5⟩
      have S5:=hid_as (SJ.out.below b5)
      clear y0 y1 y2 yf b5 S SJ
      obtain ⟨y0,y1,y2,yf⟩:=S5.out.tb.kp.cells
      go_wp2
      go_roundw
      case rel=>exact ⟨2,by omega,rfl,S5.out.set1 _⟩
      case measure=>simp [intOf]
    · have SJ:Hid (Sb w wr (w32 p0) (w32 p1) p2 ab bb [a0,a1] [c0,c1]):=S.out
      obtain ⟨y0,y1,y2,yf⟩:=SJ.out.tb.kp.cells
      go_wp2_with fail
      refine (W4.out _ _).mono ?_
      rintro e w5 ⟨rfl,b5⟩
      have S5:=hid_as (SJ.out.below b5)
      clear y0 y1 y2 yf b5 S SJ
      obtain ⟨y0,y1,y2,yf⟩:=S5.out.tb.kp.cells
      go_wp2
      go_roundw
      case rel=>exact ⟨3,by omega,rfl,S5.out.set2 _⟩
      case measure=>simp [intOf]
  · obtain rfl:j=3:=by omega
    have S6:Hid (Sb w wr (w32 p0) (w32 p1) (w32 p2) ab bb [a0,a1] [c0,c1]):=S.out
    clear S W4
    generalize w32 p0=k0 at *
    generalize w32 p1=k1 at *
    generalize w32 p2=k2 at *
    generalize w32 t=nw at *
    rename World=>V
    obtain ⟨y0,y1,y2,yf⟩:=S6.out.tb.kp.cells
    have z0:=cell_row (k:=0) S6.out.ra rfl
    have z1:=cell_row (k:=1) S6.out.ra rfl
    have x0:=cell_row (k:=0) S6.out.rb rfl
    have x1:=cell_row (k:=1) S6.out.rb rfl
    have xf:∀ j,V.frozen? ⟨bb,j,none⟩=false:=fun _=>frozen_row S6.out.rb
    have WT:=hid_as (fun U=>rwrap_11 a1 U)
    have CA:=hid_as (fun U (b:Below V.heap.size V U)=>(S6.out.below b).tb.kp.cells)
    have CB:=hid_as (fun U (b:Below V.heap.size V U)=>cell_row (k:=1) (S6.out.below b).ra rfl)
    obtain ⟨pt,hpt⟩:∃ pt,pt=max (w32 a1) 0:=⟨_,rfl⟩
    rw [← hpt] at HR
    have EX:=hid_as (fun U (b:Below V.heap.size V U)=>rtof_c (a0 != 0) pt k0 k1 k2 nw (S6.out.below b).rb hk1 hnw)
    have HR3:Hid (R=tof (a0 != 0) pt (w32 c1) k0 k1 k2 nw):=HR.out
    simp only [← HR3.out] at EX
    unfold nm nml tx at EX
    clear HR HR3
    obtain ⟨ro,r0,r1,r2⟩:=R
    obtain ⟨x,hx⟩:∃ x,x=w32 a1:=⟨_,rfl⟩
    rw [← hx] at hpt WT
    clear hx
    go_upto_block 2 with fail
    go_cut [3] from 66 to 276 (fun v wx=>∃ b,v=.slice (some ⟨b,0,none⟩) ro.length ro.length∧Row64 wx b ro∧Tb w wx r0 r1 r2∧w.heap.size+1 < b)
    case first =>
      have NX:=hid_as (fun U b (k:Below V.heap.size V U) (hb:V.heap.size≤b) (r:Row64 U b ro)=>((⟨row_set3 r (by have:=S6.out.tb.kp.lt;omega),((S6.out.below k).tb.set0 r0).set1 r1 |>.set2 r2,by have:=S6.out.tb.rs.lt;omega⟩):Row64 (st3 U w.heap.size r0 r1 r2) b ro∧Tb w (st3 U w.heap.size r0 r1 r2) r0 r1 r2∧w.heap.size+1 < b))
      go_upto_region 14 with fail
      by_cases hneg:x < 0
      · obtain rfl:pt=0:=by omega
        clear hpt
        go_region_with (first | (go_at_call 19;(with_reducible refine (WT.out V.drew).mono ?_);rintro e w7 ⟨rfl,b7⟩;have b8:=(Same.drew V).below.trans (b7.mono (Nat.le_refl _));obtain ⟨t0,t1,t2,tf⟩:=CA.out _ b8) | (go_at_call 44;(with_reducible refine (EX.out w7 b8).mono ?_);rintro e w8 ⟨nb,rfl,hb8,r8,k8⟩;have b9:=below_and b8 k8;obtain ⟨v0,v1,v2,vf⟩:=CA.out _ b9))
        all_goals
          go_wp2
          go_meet
          exact ⟨nb,rfl,NX.out w8 nb b9 (by have:=b8.size;omega) r8⟩
      · obtain rfl:pt=x:=by omega
        clear hpt
        go_region_with (first | (go_at_call 19;(with_reducible refine (WT.out V.drew).mono ?_);rintro e w7 ⟨rfl,b7⟩;have b8:=(Same.drew V).below.trans (b7.mono (Nat.le_refl _));obtain ⟨t0,t1,t2,tf⟩:=CA.out _ b8) | (go_at_call 44;(with_reducible refine (EX.out w7 b8).mono ?_);rintro e w8 ⟨nb,rfl,hb8,r8,k8⟩;have b9:=below_and b8 k8;obtain ⟨v0,v1,v2,vf⟩:=CA.out _ b9))
        all_goals
          go_wp2
          go_meet
          exact ⟨nb,rfl,NX.out w8 nb b9 (by have:=b8.size;omega) r8⟩
    case rest =>
    obtain ⟨nb,rfl,hr,hT,hg⟩:=hcut
    have TE:=hid_as hT
    clear hT y0 y1 y2 yf xf CA CB EX WT S6 z0 z1 x0 x1
    obtain ⟨s0,s1,s2,sf⟩:=TE.out.rs.cells
    obtain ⟨y0,y1,y2,yf⟩:=TE.out.kp.cells
    have FIN:=hid_as (TE.out.end hr hg)
    obtain ⟨on,hon⟩:∃ on,on=ro.length:=⟨_,rfl⟩
    rw [← hon]
    have HON:=hid_as hon
    clear hon hr hg
    go_wp2
    go_region
    all_goals
      go_wp2
      refine bodyPost_ret (v:=.tuple #[.slice (some ⟨nb,0,none⟩) on on,.agg #[.int .i64 r0,.int .i64 r1,.int .i64 r2]]) (by simp [results,Tryz.results22,go_sem,s0,s1,s2]) rfl ?_
      exact ⟨nb,by rw [HON.out],FIN.out⟩
end Go.Proofs.YthjclogkcmomkaaGreatDoor
namespace Go.Proofs.YthjclogkcmomkaaGreatDoor
open Go.RowKit
open Fb
def pcnt (r l up dn:Bool) (pv cv:Int):Int:=if r then 0 else if l then pv else if up && !dn then min (cv+1) 32767 else if dn && !up then max (cv - 1) (-32768) else cv
theorem beq_tr (k:Int):(k == 0)=!tr k:=by
  show (k == 0)=!(!(k == 0))
  rw [Bool.not_not]
set_option maxRecDepth 100000 in
set_option maxHeartbeats 4000000 in
theorem rstep_5 {w:World} {ia oa:Option Addr} {n m ic oc:Nat} {l q:List Int} (p0 p1 p2 t:Int) (hi:Sl w (.slice ia n ic) (i64s l)) (hn:n=l.length) (ho:Sl w (.slice oa m oc) (i64s q)) (hm:m=q.length) :
    Calls Tryz.prog 22 #[.string (nm 5),.slice ia n ic,.agg #[.int .i64 p0,.int .i64 p1,.int .i64 p2],.slice oa m oc,.int .i64 t] w (StepEnd w (stp 5 l q p0 p1 p2 t)):=by
  have K0:Hid (Tb w ((w.alloc (.cells #[.int .i64 p0,.int .i64 p1,.int .i64 p2] 57)).alloc (.cells #[.int .i64 0,.int .i64 0,.int .i64 0] 57)) p0 p1 p2):=⟨(two_newK w _ _).1,(two_newK w _ _).2.1,below_new (below_new (Below.refl _ _) _) _⟩
  have SZ:Hid (((w.alloc (.cells #[.int .i64 p0,.int .i64 p1,.int .i64 p2] 57)).alloc (.cells #[.int .i64 0,.int .i64 0,.int .i64 0] 57)).heap.size=w.heap.size+2):=(two_newK w _ _).2.2
  have PC:=hid_as (fun U=>(show Calls Tryz.prog 41 #[.string (nm 5)] U (PinsEnd U 5 3) from rpins_5 U))
  have PA:=hid_as (fun U (b:Below w.heap.size w U)=>(show Calls Tryz.prog 42 #[.slice ia n ic,.int .i64 5] U (fun e w'=>e=.returned (.slice (some ⟨U.heap.size,0,none⟩) 5 5)∧Row64 w' U.heap.size [l.getD 0 0,l.getD 1 0,l.getD 2 0,l.getD 3 0,l.getD 4 0]∧Below U.heap.size U w') from rpad_c 5 (hi.below b) hn (by decide)))
  have PB:=hid_as (fun U (b:Below w.heap.size w U)=>(show Calls Tryz.prog 42 #[.slice oa m oc,.int .i64 3] U (fun e w'=>e=.returned (.slice (some ⟨U.heap.size,0,none⟩) 3 3)∧Row64 w' U.heap.size [q.getD 0 0,q.getD 1 0,q.getD 2 0]∧Below U.heap.size U w') from rpad_c 3 (ho.below b) hm (by decide)))
  have TC:=hid_as (fun b U=>rtruth_c b U)
  obtain ⟨R,hR⟩:∃ R,R=stp 5 l q p0 p1 p2 t:=⟨_,rfl⟩
  rw [← hR]
  have HR:Hid (R=ctud (tr (l.getD 0 0)) (tr (l.getD 1 0)) (tr (l.getD 2 0)) (tr (l.getD 3 0)) (w16 (l.getD 4 0)) (w16 (q.getD 2 0)) (w32 p0) (w32 p1) (w32 p2)):=hR
  clear hi hn ho hm hR
  generalize l.getD 0 0=a0 at *
  generalize l.getD 1 0=a1 at *
  generalize l.getD 2 0=a2 at *
  generalize l.getD 3 0=a3 at *
  generalize l.getD 4 0=a4 at *
  generalize q.getD 0 0=c0 at *
  generalize q.getD 1 0=c1 at *
  generalize q.getD 2 0=c2 at *
  unfold nm nml tx at PC ⊢
  go_enter Tryz.func22,Tryz.ntmps22
  go_upto_region 1 with fail
  generalize ((w.alloc (.cells #[.int .i64 p0,.int .i64 p1,.int .i64 p2] 57)).alloc (.cells #[.int .i64 0,.int .i64 0,.int .i64 0] 57))=W0 at *
  go_wp2_with fail
  refine (PC.out _).mono ?_
  rintro e w1 ⟨ga,gb,gc,gd,rfl,b1⟩
  have T1:=hid_as (K0.out.below b1)
  have Z1:Hid (w.heap.size+1 < w1.heap.size):=by have:=b1.size;have:=SZ.out;show _ < _;omega
  clear PC b1 K0 SZ
  go_wp2_with fail
  refine (PA.out _ T1.out.bl).mono ?_
  rintro e w2 ⟨rfl,rA,b2⟩
  have T2:=hid_as (T1.out.below b2)
  have RA:=hid_as rA
  have Z2:Hid (w1.heap.size < w2.heap.size):=row_lt rA
  clear PA T1 rA b2
  go_wp2_with fail
  refine (PB.out _ T2.out.bl).mono ?_
  rintro e w3 ⟨rfl,rB,b3⟩
  have S3:Hid (Sb w w3 p0 p1 p2 w1.heap.size w2.heap.size [a0,a1,a2,a3,a4] [c0,c1,c2]):=⟨T2.out.below b3,row_below RA.out b3,rB,Z1.out,by have:=Z1.out;have:=Z2.out;omega,by have:=Z2.out;omega⟩
  clear PB T2 RA rB b3
  generalize w1.heap.size=ab at *
  generalize w2.heap.size=bb at *
  have WR:=hid_as (rwrap_4 t w3)
  go_wp2_with fail
  refine WR.out.mono ?_
  rintro e w4 ⟨rfl,b4⟩
  have S4:=hid_as (S3.out.below b4)
  have hnw:=w32_ok t
  have hk0:=w32_ok p0
  have hk1:=w32_ok p1
  have hk2:=w32_ok p2
  clear WR S3 b4 Z1 Z2
  have W4:=hid_as (fun x U=>rwrap_4 x U)
  go_wp2
  go_loopw [14] (fun i wr=>∃ j:Nat,j≤3∧i=.int .i64 j∧Sb w wr (if 0 < j then w32 p0 else p0) (if 1 < j then w32 p1 else p1) (if 2 < j then w32 p2 else p2) ab bb [a0,a1,a2,a3,a4] [c0,c1,c2]) (fun i _=>3 - (intOf i).toNat)
  case atStart=>exact ⟨0,by omega,rfl,S4.out⟩
  case round =>
  obtain ⟨j,hj,rfl,hS⟩:=hrel
  have S:=hid_as hS
  clear hS S4
  by_cases hj3:j < 3
  · have hc:j=0 ∨ j=1 ∨ j=2:=by omega
    rcases hc with rfl | rfl | rfl
    · have SJ:Hid (Sb w wr p0 p1 p2 ab bb [a0,a1,a2,a3,a4] [c0,c1,c2]):=S.out
      obtain ⟨y0,y1,y2,yf⟩:=SJ.out.tb.kp.cells
      go_wp2_with fail
      refine (W4.out _ _).mono ?_
      rintro e w5 ⟨rfl,b5⟩
      have S5:=hid_as (SJ.out.below b5)
      clear y0 y1 y2 yf b5 S SJ
      obtain ⟨y0,y1,y2,yf⟩:=S5.out.tb.kp.cells
      go_wp2
      go_roundw
      case rel=>exact ⟨1,by omega,rfl,S5.out.set0 _⟩
      case measure=>simp [intOf]
    · have SJ:Hid (Sb w wr (w32 p0) p1 p2 ab bb [a0,a1,a2,a3,a4] [c0,c1,c2]):=S.out
      obtain ⟨y0,y1,y2,yf⟩:=SJ.out.tb.kp.cells
      go_wp2_with fail
      refine (W4.out _ _).mono ?_
      rintro e w5 ⟨rfl,b5⟩
      have S5:=hid_as (SJ.out.below b5)
      clear y0 y1 y2 yf b5 S SJ
      obtain ⟨y0,y1,y2,yf⟩:=S5.out.tb.kp.cells
      go_wp2
      go_roundw
      case rel=>exact ⟨2,by omega,rfl,S5.out.set1 _⟩
      case measure=>simp [intOf]
    · have SJ:Hid (Sb w wr (w32 p0) (w32 p1) p2 ab bb [a0,a1,a2,a3,a4] [c0,c1,c2]):=S.out
      obtain ⟨y0,y1,y2,yf⟩:=SJ.out.tb.kp.cells
      go_wp2_with fail
      refine (W4.out _ _).mono ?_
      rintro e w5 ⟨rfl,b5⟩
      have S5:=hid_as (SJ.out.below b5)
      clear y0 y1 y2 yf b5 S SJ
      obtain ⟨y0,y1,y2,yf⟩:=S5.out.tb.kp.cells
      go_wp2
      go_roundw
      case rel=>exact ⟨3,by omega,rfl,S5.out.set2 _⟩
      case measure=>simp [intOf]
  · obtain rfl:j=3:=by omega
    have S6:Hid (Sb w wr (w32 p0) (w32 p1) (w32 p2) ab bb [a0,a1,a2,a3,a4] [c0,c1,c2]):=S.out
    clear S W4
    generalize w32 p0=k0 at *
    generalize w32 p1=k1 at *
    generalize w32 p2=k2 at *
    generalize w32 t=nw at *
    rename World=>V
    obtain ⟨y0,y1,y2,yf⟩:=S6.out.tb.kp.cells
    have z0:=cell_row (k:=0) S6.out.ra rfl
    have z1:=cell_row (k:=1) S6.out.ra rfl
    have z2:=cell_row (k:=2) S6.out.ra rfl
    have z3:=cell_row (k:=3) S6.out.ra rfl
    have z4:=cell_row (k:=4) S6.out.ra rfl
    have x0:=cell_row (k:=0) S6.out.rb rfl
    have x1:=cell_row (k:=1) S6.out.rb rfl
    have x2:=cell_row (k:=2) S6.out.rb rfl
    have xf:∀ j,V.frozen? ⟨bb,j,none⟩=false:=fun _=>frozen_row S6.out.rb
    have gg:=S6.out.gb
    have gn:bb ≠ w.heap.size:=by omega
    have CA:=hid_as (fun U (b:Below V.heap.size V U)=>(⟨cell_row (k:=4) (S6.out.below b).ra rfl,cell_row (k:=2) (S6.out.below b).rb rfl⟩:U.cell? ⟨ab,4,none⟩=some (.int .i64 a4)∧U.cell? ⟨bb,2,none⟩=some (.int .i64 c2)))
    have WA:=hid_as (fun x U=>rwrap_3 x U)
    go_upto_region 42 with fail
    go_cut [21,22] from 207 to 214 (fun a b wx=>a=.int .i64 (w16 a4)∧b=.int .i64 (w16 c2)∧Below V.heap.size V wx)
    case first =>
      go_region_held3 (fun U=>U.cell? ⟨ab,4,none⟩=some (.int .i64 a4)∧U.cell? ⟨bb,2,none⟩=some (.int .i64 c2)) (first | exact CA.out _ (Same.drew _).below | exact CA.out _ (Below.refl _ _) | exact c4z | exact c3z) (first | (go_at_call 19;(with_reducible refine (WA.out _ V.drew).mono ?_);rintro e w7 ⟨rfl,b7⟩;have b8:=(Same.drew V).below.trans (b7.mono (Nat.le_refl _));have c3z:=CA.out _ b8) | (go_at_call 19;(with_reducible refine (WA.out _ w7).mono ?_);rintro e w8 ⟨rfl,b9⟩;have bA:=below_and b8 b9;have c4z:=CA.out _ bA))
      all_goals
        go_wp2
        go_meet
        exact ⟨rfl,rfl,bA⟩
    case rest =>
    obtain ⟨rfl,rfl,hB⟩:=hcut
    have S7:=hid_as (S6.out.below hB)
    clear hB S6 CA WA y0 y1 y2 yf xf z0 z1 z2 z3 z4 x0 x1 x2
    rename World=>V2
    have hpv:=w16_ok a4
    have hcv:=w16_ok c2
    generalize w16 a4=pv at *
    generalize w16 c2=cv at *
    obtain ⟨y0,y1,y2,yf⟩:=S7.out.tb.kp.cells
    go_upto_region 43 with fail
    go_cut [15,16,23,24] from 54 to 226 (fun p q a b wx=>p=.bool (a0 != 0)∧q=.bool (a1 != 0)∧a=.bool (tr a0 && !tr k0)∧b=.bool (tr a1 && !tr k1)∧Same V2 wx)
    case first =>
      by_cases hA:a0=0
      · subst hA
        have tA:tr 0=false:=rfl
        by_cases hB:a1=0
        · subst hB
          have tB:tr 0=false:=rfl
          have EA:Hid (Value.bool false=.bool (tr 0 && !tr k0)):=rfl
          have EB:Hid (Value.bool false=.bool (tr 0 && !tr k1)):=rfl
          have EC:Hid (Value.bool false=.bool (0 != 0)):=rfl
          have ED:Hid (Value.bool false=.bool (0 != 0)):=rfl
          clear tA tB
          go_quiet (fail)
          go_wp2
          go_meet
          exact ⟨EC.out,ED.out,EA.out,EB.out,Same.drewN _ _⟩
        · obtain ⟨eB,nB⟩:=ne_bK hB
          have tB:tr a1=true:=nB
          have EA:Hid (Value.bool false=.bool (tr 0 && !tr k0)):=rfl
          have EB:Hid (Value.bool (k1 == 0)=.bool (tr a1 && !tr k1)):=congrArg Value.bool (by rw [tB,Bool.true_and];exact beq_tr k1)
          have EC:Hid (Value.bool false=.bool (0 != 0)):=rfl
          have ED:Hid (Value.bool true=.bool (a1 != 0)):=congrArg Value.bool nB.symm
          clear tA tB
          go_quiet (fail)
          go_wp2
          go_meet
          exact ⟨EC.out,ED.out,EA.out,EB.out,Same.drewN _ _⟩
      · obtain ⟨eA,nA⟩:=ne_bK hA
        have tA:tr a0=true:=nA
        by_cases hB:a1=0
        · subst hB
          have tB:tr 0=false:=rfl
          have EA:Hid (Value.bool (k0 == 0)=.bool (tr a0 && !tr k0)):=congrArg Value.bool (by rw [tA,Bool.true_and];exact beq_tr k0)
          have EB:Hid (Value.bool false=.bool (tr 0 && !tr k1)):=rfl
          have EC:Hid (Value.bool true=.bool (a0 != 0)):=congrArg Value.bool nA.symm
          have ED:Hid (Value.bool false=.bool (0 != 0)):=rfl
          clear tA tB
          go_quiet (fail)
          go_wp2
          go_meet
          exact ⟨EC.out,ED.out,EA.out,EB.out,Same.drewN _ _⟩
        · obtain ⟨eB,nB⟩:=ne_bK hB
          have tB:tr a1=true:=nB
          have EA:Hid (Value.bool (k0 == 0)=.bool (tr a0 && !tr k0)):=congrArg Value.bool (by rw [tA,Bool.true_and];exact beq_tr k0)
          have EB:Hid (Value.bool (k1 == 0)=.bool (tr a1 && !tr k1)):=congrArg Value.bool (by rw [tB,Bool.true_and];exact beq_tr k1)
          have EC:Hid (Value.bool true=.bool (a0 != 0)):=congrArg Value.bool nA.symm
          have ED:Hid (Value.bool true=.bool (a1 != 0)):=congrArg Value.bool nB.symm
          clear tA tB
          go_quiet (fail)
          go_wp2
          go_meet
          exact ⟨EC.out,ED.out,EA.out,EB.out,Same.drewN _ _⟩
    case rest =>
    obtain ⟨rfl,rfl,rfl,rfl,hS⟩:=hcut
    have S8:=hid_as (S7.out.below hS.below)
    clear hS S7 y0 y1 y2 yf
    rename World=>V3
    obtain ⟨y0,y1,y2,yf⟩:=S8.out.tb.kp.cells
    have z2:=cell_row (k:=2) S8.out.ra rfl
    have z3:=cell_row (k:=3) S8.out.ra rfl
    obtain ⟨up,hup⟩:∃ up,up=(tr a0 && !tr k0):=⟨_,rfl⟩
    obtain ⟨dn,hdn⟩:∃ dn,dn=(tr a1 && !tr k1):=⟨_,rfl⟩
    obtain ⟨cn,hc2⟩:∃ cn,cn=pcnt (tr a2) (tr a3) up dn pv cv:=⟨_,rfl⟩
    have HR2:Hid (R=⟨[b01 (decide (pv≤cn)),b01 (decide (cn≤0)),cn],b01 (a0 != 0),b01 (a1 != 0),k2⟩):=by
      show _=_
      rw [HR.out,hc2,hup,hdn]
      rfl
    rw [← hup,← hdn]
    have HC:=hid_as hc2
    clear HR hup hdn hc2
    go_upto_block 3 with fail
    go_cut [22] from 227 to 261 (fun c wx=>c=.int .i64 cn∧wx=V3)
    case first =>
      by_cases hD:a2=0
      · subst hD
        have tD:tr 0=false:=rfl
        by_cases hF:a3=0
        · subst hF
          have tF:tr 0=false:=rfl
          cases up <;> cases dn
          · skip
            go_wp2
            go_meet
            exact ⟨int_is (by rw [HC.out];rfl),rfl⟩
          · by_cases hcc:-32768 < cv
            · have HM:Hid (max (cv - 1) (-32768)=cv - 1):=by show _=_;omega
              go_wp2
              go_meet
              exact ⟨int_is (by rw [HC.out];exact HM.out.symm),rfl⟩
            · obtain rfl:cv=-32768:=by omega
              go_wp2
              go_meet
              exact ⟨int_is (by rw [HC.out];rfl),rfl⟩
          · by_cases hcc:cv < 32767
            · have HM:Hid (min (cv+1) 32767=cv+1):=by show _=_;omega
              go_wp2
              go_meet
              exact ⟨int_is (by rw [HC.out];exact HM.out.symm),rfl⟩
            · obtain rfl:cv=32767:=by omega
              go_wp2
              go_meet
              exact ⟨int_is (by rw [HC.out];rfl),rfl⟩
          · skip
            go_wp2
            go_meet
            exact ⟨int_is (by rw [HC.out];rfl),rfl⟩
        · obtain ⟨eF,nF⟩:=ne_bK hF
          have tF:tr a3=true:=nF
          have HC2:=hid_as (show cn=pv by rw [HC.out,tF];rfl)
          go_wp2
          go_meet
          exact ⟨int_is (HC2.out.symm),rfl⟩
      · obtain ⟨eD,nD⟩:=ne_bK hD
        have tD:tr a2=true:=nD
        have HC2:=hid_as (show cn=0 by rw [HC.out,tD];rfl)
        go_wp2
        go_meet
        exact ⟨int_is (HC2.out.symm),rfl⟩
    case rest =>
    obtain ⟨rfl,hw⟩:=hcut
    subst hw
    clear HC z2 z3
    rename World=>V4
    go_upto_region 54 with (go_at_call 43;(with_reducible refine (TC.out _ _).mono ?_);rintro e w9 ⟨rfl,hw⟩;subst w9)
    have SE:=hid_as ((S8.out.set0 (b01 (a0 != 0))).set1 (b01 (a1 != 0)))
    have TE:=hid_as (SE.out.tb.news (.cells #[.int .i64 (b01 (decide (pv≤cn))),.int .i64 (b01 (decide (cn≤0))),.int .i64 cn] 2))
    have RE:Hid (Row64 (((V4.setCell ⟨w.heap.size,0,none⟩ (.int .i64 (b01 (a0 != 0)))).setCell ⟨w.heap.size,1,none⟩ (.int .i64 (b01 (a1 != 0)))).alloc (.cells #[.int .i64 (b01 (decide (pv≤cn))),.int .i64 (b01 (decide (cn≤0))),.int .i64 cn] 2)) V4.heap.size [b01 (decide (pv≤cn)),b01 (decide (cn≤0)),cn]):=by
      have:=row_new ((V4.setCell ⟨w.heap.size,0,none⟩ (.int .i64 (b01 (a0 != 0)))).setCell ⟨w.heap.size,1,none⟩ (.int .i64 (b01 (a1 != 0)))) [b01 (decide (pv≤cn)),b01 (decide (cn≤0)),cn]
      rw [World.size_setCell,World.size_setCell] at this
      exact this
    have GE:Hid (w.heap.size+1 < V4.heap.size):=S8.out.tb.rs.lt
    generalize (((V4.setCell ⟨w.heap.size,0,none⟩ (.int .i64 (b01 (a0 != 0)))).setCell ⟨w.heap.size,1,none⟩ (.int .i64 (b01 (a1 != 0)))).alloc (.cells #[.int .i64 (b01 (decide (pv≤cn))),.int .i64 (b01 (decide (cn≤0))),.int .i64 cn] 2))=U at *
    clear y0 y1 y2 yf S8 SE
    generalize V4.heap.size=nb at *
    obtain ⟨s0,s1,s2,sf⟩:=TE.out.rs.cells
    obtain ⟨y0,y1,y2,yf⟩:=TE.out.kp.cells
    have FIN:=hid_as (TE.out.end RE.out GE.out)
    go_region
    all_goals
      go_wp2
      refine bodyPost_ret (v:=.tuple #[.slice (some ⟨nb,0,none⟩) 3 3,.agg #[.int .i64 (b01 (a0 != 0)),.int .i64 (b01 (a1 != 0)),.int .i64 k2]]) (by simp [results,Tryz.results22,go_sem,s0,s1,s2]) rfl ?_
      rw [HR2.out]
      exact ⟨nb,rfl,FIN.out⟩
end Go.Proofs.YthjclogkcmomkaaGreatDoor
namespace Go.Proofs.YthjclogkcmomkaaGreatDoor
open Go.RowKit
open Fb
theorem rstep_any {w:World} {ia oa:Option Addr} {n m ic oc:Nat} {l q:List Int} (k:Nat) (hk:k < 10) (p0 p1 p2 t:Int) (hi:Sl w (.slice ia n ic) (i64s l)) (hn:n=l.length) (ho:Sl w (.slice oa m oc) (i64s q)) (hm:m=q.length) :
    Calls Tryz.prog 22 #[.string (nm k),.slice ia n ic,.agg #[.int .i64 p0,.int .i64 p1,.int .i64 p2],.slice oa m oc,.int .i64 t] w (StepEnd w (stp k l q p0 p1 p2 t)):=by
  match k,hk with
  | 0,_=>exact rstep_0 p0 p1 p2 t hi hn ho hm
  | 1,_=>exact rstep_1 p0 p1 p2 t hi hn ho hm
  | 2,_=>exact rstep_2 p0 p1 p2 t hi hn ho hm
  | 3,_=>exact rstep_3 p0 p1 p2 t hi hn ho hm
  | 4,_=>exact rstep_4 p0 p1 p2 t hi hn ho hm
  | 5,_=>exact rstep_5 p0 p1 p2 t hi hn ho hm
  | 6,_=>exact rstep_6 p0 p1 p2 t hi hn ho hm
  | 7,_=>exact rstep_7 p0 p1 p2 t hi hn ho hm
  | 8,_=>exact rstep_8 p0 p1 p2 t hi hn ho hm
  | 9,_=>exact rstep_9 p0 p1 p2 t hi hn ho hm
end Go.Proofs.YthjclogkcmomkaaGreatDoor
