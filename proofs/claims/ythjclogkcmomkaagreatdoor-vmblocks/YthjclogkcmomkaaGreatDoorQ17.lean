/- The step of CTUD (stage 21, after stage 17). -/
import Derived.Test.YthjclogkcmomkaaGreatDoorQ16
namespace Go.Proofs.YthjclogkcmomkaaGreatDoor
open Go.RowKit
open Fb
set_option maxHeartbeats 4000000 in
theorem ctud_c {w:World} {g a b:Nat} {c:Ca} (h:Cl w g a b c) (hi:c.i.length=5) (ho:c.o.length=3) (hc:-32768≤c.o.getD 2 0∧c.o.getD 2 0≤32767) (cnt:Int) (hcnt:cnt=if tr (c.i.getD 2 0) then 0 else if tr (c.i.getD 3 0) then c.i.getD 4 0 else if one (c.i.getD 0 0) c.k0 && !one (c.i.getD 1 0) c.k1 then min (c.o.getD 2 0+1) 32767 else if one (c.i.getD 1 0) c.k1 && !one (c.i.getD 0 0) c.k0 then max (c.o.getD 2 0 - 1) (-32768) else c.o.getD 2 0) :
    Calls Tryz.prog 190 #[.agg #[],.pointer (some ⟨g,0,none⟩)] w (Lft w g a b { c with o:=[b01 (decide (c.i.getD 4 0≤cnt)),b01 (decide (cnt≤0)),cnt],k0:=c.i.getD 0 0,k1:=c.i.getD 1 0 }):=by
  have hE:∀ x y z,((c.o.set 0 x).set 1 y).set 2 z=[x,y,z]:=by
    intro x y z
    match c.o,ho with
    | [p,q,r],_=>rfl
  have KB:Hid (Below w.heap.size w (w.alloc (.cells #[] 210))):=below_new (Below.refl _ _) _
  have LW:=hid_as (h.below KB.out)
  have NW:Hid (On g b w (w.alloc (.cells #[] 210))):=Only.ofBelow KB.out
  go_enter Tryz.func190,Tryz.ntmps190
  go_upto_region 1 with fail
  generalize w.alloc (.cells #[] 210)=W at *
  have c0:=LW.out.c0
  have c1:=LW.out.c1
  have i4:=LW.out.ci 4 (by omega)
  have o2:=LW.out.co 2 (by omega)
  have o1:=LW.out.co 1 (by omega)
  have o0:=LW.out.co 0 (by omega)
  have f0:=LW.out.fb 0
  have f1:=LW.out.fb 1
  have f2:=LW.out.fb 2
  have gb:=LW.out.gb
  rw [hi] at c0
  rw [ho] at c1
  have R0:=hid_as (rises0 LW.out (by omega))
  have R1:=hid_as (rises1 LW.out (by omega))
  have O2:=hid_as (fun U (k:Same W U)=>on2 (LW.out.same k) (by omega))
  have O3:=hid_as (fun U (k:Same W U)=>on3 (LW.out.same k) (by omega))
  generalize one (c.i.getD 0 0) c.k0=up at *
  generalize one (c.i.getD 1 0) c.k1=dn at *
  generalize tr (c.i.getD 2 0)=rs at *
  generalize tr (c.i.getD 3 0)=ld at *
  generalize c.i.getD 4 0=pv at *
  generalize c.o.getD 2 0=cv at *
  have MO:=hid_as (fun U=>oneMore_c cv (by omega) U)
  have LE:=hid_as (fun U=>oneLess_c cv (by omega) U)
  clear KB
  have HC:=hid_as hcnt
  clear hcnt
  go_wp2_with fail
  refine R0.out.mono ?_
  rintro e w' ⟨rfl,hw⟩
  subst w'
  go_wp2_with fail
  refine R1.out.mono ?_
  rintro e w' ⟨rfl,hw⟩
  subst w'
  clear R0 R1
  go_upto_region 2 with fail
  go_region_held3 (fun U=>U.cell? ⟨g,0,none⟩=some (.slice (some ⟨a,0,none⟩) 5 5)∧U.cell? ⟨a,4,none⟩=some (.int .i64 pv)∧U.cell? ⟨g,1,none⟩=some (.slice (some ⟨b,0,none⟩) 3 3)∧U.cell? ⟨b,2,none⟩=some (.int .i64 cv)) (exact ⟨c0,i4,c1,o2⟩) (first | (go_at_call 180;(with_reducible refine (O2.out _ ?_).mono ?_);(first | exact Same.drew _ | exact Same.refl _);rintro e w' ⟨rfl,hw⟩;subst w') | (go_at_call 180;(with_reducible refine (O3.out _ ?_).mono ?_);(first | exact Same.drew _ | exact Same.refl _);rintro e w' ⟨rfl,hw⟩;subst w'))
  clear O2 O3
  cases rs
  · cases ld
    · cases up
      · cases dn
        · obtain rfl:cnt=cv:=HC.out
          have BI:=hid_as (fun q U=>bit_c q U)
          have R:=hid_as (fun U (k:Same W U)=>(((Lft.of (LW.out.same k) (NW.out.same k)).puto 0 (b01 (decide (pv≤cnt)))).puto 1 (b01 (decide (cnt≤0)))).puto 2 (cnt))
          simp only [hE] at R
          have B1:=hid_as (fun U=>bit_c (decide (pv≤cnt)) U)
          have B2:=hid_as (fun U=>bit_c (decide (cnt≤0)) U)
          generalize b01 (decide (pv≤cnt))=y at *
          generalize b01 (decide (cnt≤0))=z at *
          go_upto_region 11 with fail
          go_region_held3 (fun U=>U.cell? ⟨g,1,none⟩=some (.slice (some ⟨b,0,none⟩) 3 3)) (first | exact c1 | exact set_farK c1 gb | exact set_farK (set_farK c1 gb) gb | exact set_farK (set_farK (set_farK c1 gb) gb) gb) (first | (go_at_call 130;(with_reducible refine (B1.out _).mono ?_);rintro e w' ⟨rfl,hw⟩;subst w') | (go_at_call 130;(with_reducible refine (B2.out _).mono ?_);rintro e w' ⟨rfl,hw⟩;subst w'))
          have R1:=hid_as ((R.out _ (Same.refl _)).same ((Same.drew _).trans (Same.drew _)))
          clear R BI B1 B2
          generalize (((W.setCell ⟨b,0,none⟩ (.int .i64 y)).setCell ⟨b,1,none⟩ (.int .i64 z)).setCell ⟨b,2,none⟩ (.int .i64 (cnt))).drew.drew=W1 at *
          have HO:=hid_as (hold0 R1.out.2.1 (by show 0 < c.i.length;omega))
          go_wp2_with fail
          refine HO.out.mono ?_
          intro e w' hL
          have hL2:=hid_as (R1.out.next hL)
          obtain ⟨rfl,_⟩:=hL
          have HP:=hid_as (hold1 hL2.out.2.1 (by show 1 < c.i.length;omega))
          go_wp2_with fail
          refine HP.out.mono ?_
          intro e w2 hM
          have hM2:=hid_as (hL2.out.next hM)
          obtain ⟨rfl,_⟩:=hM
          go_wp2
          go_end0
          exact hM2.out
        · have E:cnt=max (cv - 1) (-32768):=HC.out
          subst E
          generalize hm:max (cv - 1) (-32768)=m at *
          have hm:=hid_as hm
          have BI:=hid_as (fun q U=>bit_c q U)
          have R:=hid_as (fun U (k:Same W U)=>(((Lft.of (LW.out.same k) (NW.out.same k)).puto 0 (b01 (decide (pv≤m)))).puto 1 (b01 (decide (m≤0)))).puto 2 (m))
          simp only [hE] at R
          have B1:=hid_as (fun U=>bit_c (decide (pv≤m)) U)
          have B2:=hid_as (fun U=>bit_c (decide (m≤0)) U)
          generalize b01 (decide (pv≤m))=y at *
          generalize b01 (decide (m≤0))=z at *
          go_upto_region 11 with (go_at_call 189;(refine (LE.out _).mono ?_);rintro e w' ⟨rfl,hw⟩;subst w')
          go_region_held3 (fun U=>U.cell? ⟨g,1,none⟩=some (.slice (some ⟨b,0,none⟩) 3 3)) (first | exact c1 | exact set_farK c1 gb | exact set_farK (set_farK c1 gb) gb | exact set_farK (set_farK (set_farK c1 gb) gb) gb) (first | (go_at_call 130;(with_reducible refine (B1.out _).mono ?_);rintro e w' ⟨rfl,hw⟩;subst w') | (go_at_call 130;(with_reducible refine (B2.out _).mono ?_);rintro e w' ⟨rfl,hw⟩;subst w'))
          have R1:=hid_as ((R.out _ (Same.refl _)).same ((Same.drew _).trans (Same.drew _)))
          clear R BI B1 B2
          generalize (((W.setCell ⟨b,0,none⟩ (.int .i64 y)).setCell ⟨b,1,none⟩ (.int .i64 z)).setCell ⟨b,2,none⟩ (.int .i64 (m))).drew.drew=W1 at *
          have HO:=hid_as (hold0 R1.out.2.1 (by show 0 < c.i.length;omega))
          go_wp2_with fail
          refine HO.out.mono ?_
          intro e w' hL
          have hL2:=hid_as (R1.out.next hL)
          obtain ⟨rfl,_⟩:=hL
          have HP:=hid_as (hold1 hL2.out.2.1 (by show 1 < c.i.length;omega))
          go_wp2_with fail
          refine HP.out.mono ?_
          intro e w2 hM
          have hM2:=hid_as (hL2.out.next hM)
          obtain ⟨rfl,_⟩:=hM
          go_wp2
          go_end0
          exact hM2.out
      · cases dn
        · have E:cnt=min (cv+1) 32767:=HC.out
          subst E
          generalize hm:min (cv+1) 32767=m at *
          have hm:=hid_as hm
          have BI:=hid_as (fun q U=>bit_c q U)
          have R:=hid_as (fun U (k:Same W U)=>(((Lft.of (LW.out.same k) (NW.out.same k)).puto 0 (b01 (decide (pv≤m)))).puto 1 (b01 (decide (m≤0)))).puto 2 (m))
          simp only [hE] at R
          have B1:=hid_as (fun U=>bit_c (decide (pv≤m)) U)
          have B2:=hid_as (fun U=>bit_c (decide (m≤0)) U)
          generalize b01 (decide (pv≤m))=y at *
          generalize b01 (decide (m≤0))=z at *
          go_upto_region 11 with (go_at_call 187;(refine (MO.out _).mono ?_);rintro e w' ⟨rfl,hw⟩;subst w')
          go_region_held3 (fun U=>U.cell? ⟨g,1,none⟩=some (.slice (some ⟨b,0,none⟩) 3 3)) (first | exact c1 | exact set_farK c1 gb | exact set_farK (set_farK c1 gb) gb | exact set_farK (set_farK (set_farK c1 gb) gb) gb) (first | (go_at_call 130;(with_reducible refine (B1.out _).mono ?_);rintro e w' ⟨rfl,hw⟩;subst w') | (go_at_call 130;(with_reducible refine (B2.out _).mono ?_);rintro e w' ⟨rfl,hw⟩;subst w'))
          have R1:=hid_as ((R.out _ (Same.refl _)).same ((Same.drew _).trans (Same.drew _)))
          clear R BI B1 B2
          generalize (((W.setCell ⟨b,0,none⟩ (.int .i64 y)).setCell ⟨b,1,none⟩ (.int .i64 z)).setCell ⟨b,2,none⟩ (.int .i64 (m))).drew.drew=W1 at *
          have HO:=hid_as (hold0 R1.out.2.1 (by show 0 < c.i.length;omega))
          go_wp2_with fail
          refine HO.out.mono ?_
          intro e w' hL
          have hL2:=hid_as (R1.out.next hL)
          obtain ⟨rfl,_⟩:=hL
          have HP:=hid_as (hold1 hL2.out.2.1 (by show 1 < c.i.length;omega))
          go_wp2_with fail
          refine HP.out.mono ?_
          intro e w2 hM
          have hM2:=hid_as (hL2.out.next hM)
          obtain ⟨rfl,_⟩:=hM
          go_wp2
          go_end0
          exact hM2.out
        · obtain rfl:cnt=cv:=HC.out
          have BI:=hid_as (fun q U=>bit_c q U)
          have R:=hid_as (fun U (k:Same W U)=>(((Lft.of (LW.out.same k) (NW.out.same k)).puto 0 (b01 (decide (pv≤cnt)))).puto 1 (b01 (decide (cnt≤0)))).puto 2 (cnt))
          simp only [hE] at R
          have B1:=hid_as (fun U=>bit_c (decide (pv≤cnt)) U)
          have B2:=hid_as (fun U=>bit_c (decide (cnt≤0)) U)
          generalize b01 (decide (pv≤cnt))=y at *
          generalize b01 (decide (cnt≤0))=z at *
          go_upto_region 11 with fail
          go_region_held3 (fun U=>U.cell? ⟨g,1,none⟩=some (.slice (some ⟨b,0,none⟩) 3 3)) (first | exact c1 | exact set_farK c1 gb | exact set_farK (set_farK c1 gb) gb | exact set_farK (set_farK (set_farK c1 gb) gb) gb) (first | (go_at_call 130;(with_reducible refine (B1.out _).mono ?_);rintro e w' ⟨rfl,hw⟩;subst w') | (go_at_call 130;(with_reducible refine (B2.out _).mono ?_);rintro e w' ⟨rfl,hw⟩;subst w'))
          have R1:=hid_as ((R.out _ (Same.refl _)).same ((Same.drew _).trans (Same.drew _)))
          clear R BI B1 B2
          generalize (((W.setCell ⟨b,0,none⟩ (.int .i64 y)).setCell ⟨b,1,none⟩ (.int .i64 z)).setCell ⟨b,2,none⟩ (.int .i64 (cnt))).drew.drew=W1 at *
          have HO:=hid_as (hold0 R1.out.2.1 (by show 0 < c.i.length;omega))
          go_wp2_with fail
          refine HO.out.mono ?_
          intro e w' hL
          have hL2:=hid_as (R1.out.next hL)
          obtain ⟨rfl,_⟩:=hL
          have HP:=hid_as (hold1 hL2.out.2.1 (by show 1 < c.i.length;omega))
          go_wp2_with fail
          refine HP.out.mono ?_
          intro e w2 hM
          have hM2:=hid_as (hL2.out.next hM)
          obtain ⟨rfl,_⟩:=hM
          go_wp2
          go_end0
          exact hM2.out
    · obtain rfl:cnt=pv:=HC.out
      have BI:=hid_as (fun q U=>bit_c q U)
      have R:=hid_as (fun U (k:Same W U)=>(((Lft.of (LW.out.same k) (NW.out.same k)).puto 0 (b01 (decide (cnt≤cnt)))).puto 1 (b01 (decide (cnt≤0)))).puto 2 (cnt))
      simp only [hE] at R
      have B1:=hid_as (fun U=>bit_c (true) U)
      have B2:=hid_as (fun U=>bit_c (decide (cnt≤0)) U)
      have sy:b01 true=b01 (decide (cnt≤cnt)):=by simp
      simp only [sy] at B1
      clear sy
      generalize b01 (decide (cnt≤cnt))=y at *
      generalize b01 (decide (cnt≤0))=z at *
      go_upto_region 11 with fail
      go_region_held3 (fun U=>U.cell? ⟨g,1,none⟩=some (.slice (some ⟨b,0,none⟩) 3 3)) (first | exact c1 | exact set_farK c1 gb | exact set_farK (set_farK c1 gb) gb | exact set_farK (set_farK (set_farK c1 gb) gb) gb) (first | (go_at_call 130;(with_reducible refine (B1.out _).mono ?_);rintro e w' ⟨rfl,hw⟩;subst w') | (go_at_call 130;(with_reducible refine (B2.out _).mono ?_);rintro e w' ⟨rfl,hw⟩;subst w'))
      have R1:=hid_as ((R.out _ (Same.refl _)).same ((Same.drew _).trans (Same.drew _)))
      clear R BI B1 B2
      generalize (((W.setCell ⟨b,0,none⟩ (.int .i64 y)).setCell ⟨b,1,none⟩ (.int .i64 z)).setCell ⟨b,2,none⟩ (.int .i64 (cnt))).drew.drew=W1 at *
      have HO:=hid_as (hold0 R1.out.2.1 (by show 0 < c.i.length;omega))
      go_wp2_with fail
      refine HO.out.mono ?_
      intro e w' hL
      have hL2:=hid_as (R1.out.next hL)
      obtain ⟨rfl,_⟩:=hL
      have HP:=hid_as (hold1 hL2.out.2.1 (by show 1 < c.i.length;omega))
      go_wp2_with fail
      refine HP.out.mono ?_
      intro e w2 hM
      have hM2:=hid_as (hL2.out.next hM)
      obtain ⟨rfl,_⟩:=hM
      go_wp2
      go_end0
      exact hM2.out
  · obtain rfl:cnt=0:=HC.out
    have BI:=hid_as (fun q U=>bit_c q U)
    have R:=hid_as (fun U (k:Same W U)=>(((Lft.of (LW.out.same k) (NW.out.same k)).puto 0 (b01 (decide (pv≤(0:Int))))).puto 1 (b01 (decide ((0:Int)≤0)))).puto 2 ((0:Int)))
    simp only [hE] at R
    have B1:=hid_as (fun U=>bit_c (decide (pv≤(0:Int))) U)
    have B2:=hid_as (fun U=>bit_c (true) U)
    have sy:b01 true=b01 (decide ((0:Int)≤0)):=by simp
    simp only [sy] at B2
    clear sy
    generalize b01 (decide (pv≤(0:Int)))=y at *
    generalize b01 (decide ((0:Int)≤0))=z at *
    go_upto_region 11 with fail
    go_region_held3 (fun U=>U.cell? ⟨g,1,none⟩=some (.slice (some ⟨b,0,none⟩) 3 3)) (first | exact c1 | exact set_farK c1 gb | exact set_farK (set_farK c1 gb) gb | exact set_farK (set_farK (set_farK c1 gb) gb) gb) (first | (go_at_call 130;(with_reducible refine (B1.out _).mono ?_);rintro e w' ⟨rfl,hw⟩;subst w') | (go_at_call 130;(with_reducible refine (B2.out _).mono ?_);rintro e w' ⟨rfl,hw⟩;subst w'))
    have R1:=hid_as ((R.out _ (Same.refl _)).same ((Same.drew _).trans (Same.drew _)))
    clear R BI B1 B2
    generalize (((W.setCell ⟨b,0,none⟩ (.int .i64 y)).setCell ⟨b,1,none⟩ (.int .i64 z)).setCell ⟨b,2,none⟩ (.int .i64 ((0:Int)))).drew.drew=W1 at *
    have HO:=hid_as (hold0 R1.out.2.1 (by show 0 < c.i.length;omega))
    go_wp2_with fail
    refine HO.out.mono ?_
    intro e w' hL
    have hL2:=hid_as (R1.out.next hL)
    obtain ⟨rfl,_⟩:=hL
    have HP:=hid_as (hold1 hL2.out.2.1 (by show 1 < c.i.length;omega))
    go_wp2_with fail
    refine HP.out.mono ?_
    intro e w2 hM
    have hM2:=hid_as (hL2.out.next hM)
    obtain ⟨rfl,_⟩:=hM
    go_wp2
    go_end0
    exact hM2.out
end Go.Proofs.YthjclogkcmomkaaGreatDoor
