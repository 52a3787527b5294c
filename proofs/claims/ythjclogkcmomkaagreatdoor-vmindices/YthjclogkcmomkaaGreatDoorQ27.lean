/- The steps of counters (stage 21, after stage 17). -/
import Derived.Test.YthjclogkcmomkaaGreatDoorQ26
namespace Go.Proofs.YthjclogkcmomkaaGreatDoor
open Go.RowKit
open Fb
set_option maxHeartbeats 1600000 in
theorem ctu_c {w:World} {g a b:Nat} {c:Ca} (h:Cl w g a b c) (hi:c.i.length=3) (ho:c.o.length=2) (hc:-32768≤c.o.getD 1 0∧c.o.getD 1 0≤32767) (cnt:Int) (hcnt:cnt=if tr (c.i.getD 1 0) then 0 else if one (c.i.getD 0 0) c.k0 then min (c.o.getD 1 0+1) 32767 else c.o.getD 1 0) :
    Calls Tryz.prog 186 #[.agg #[],.pointer (some ⟨g,0,none⟩)] w (Lft w g a b { c with o:=[b01 (decide (c.i.getD 2 0≤cnt)),cnt],k0:=c.i.getD 0 0 }):=by
  have hE:∀ x y,(c.o.set 0 x).set 1 y=[x,y]:=by
    intro x y
    match c.o,ho with
    | [p,q],_=>rfl
  have KB:Hid (Below w.heap.size w (w.alloc (.cells #[] 208))):=below_new (Below.refl _ _) _
  have LW:=hid_as (h.below KB.out)
  have NW:Hid (On g b w (w.alloc (.cells #[] 208))):=Only.ofBelow KB.out
  go_enter Tryz.func186,Tryz.ntmps186
  go_upto_region 1 with fail
  generalize w.alloc (.cells #[] 208)=W at *
  have c0:=LW.out.c0
  have c1:=LW.out.c1
  have i2:=LW.out.ci 2 (by omega)
  have o1:=LW.out.co 1 (by omega)
  have o0:=LW.out.co 0 (by omega)
  have f0:=LW.out.fb 0
  have f1:=LW.out.fb 1
  have gb:=LW.out.gb
  rw [hi] at c0
  rw [ho] at c1
  have RI:=hid_as (fun U (k:Same W U)=>rises0 (LW.out.same k) (by omega))
  have O1:=hid_as (fun U (k:Same W U)=>on1 (LW.out.same k) (by omega))
  generalize one (c.i.getD 0 0) c.k0=up at *
  generalize tr (c.i.getD 1 0)=rs at *
  generalize c.i.getD 2 0=pv at *
  generalize c.o.getD 1 0=cv at *
  have MO:=hid_as (fun U=>oneMore_c cv (by omega) U)
  clear KB
  have HC:=hid_as hcnt
  clear hcnt
  go_region_held3 (fun U=>U.cell? ⟨g,0,none⟩=some (.slice (some ⟨a,0,none⟩) 3 3)∧U.cell? ⟨a,2,none⟩=some (.int .i64 pv)∧U.cell? ⟨g,1,none⟩=some (.slice (some ⟨b,0,none⟩) 2 2)∧U.cell? ⟨b,1,none⟩=some (.int .i64 cv)) (exact ⟨c0,i2,c1,o1⟩) (first | (go_at_call 178;(with_reducible refine (RI.out _ ?_).mono ?_);(first | exact Same.drew _ | exact Same.refl _);rintro e w' ⟨rfl,hw⟩;subst w') | (go_at_call 180;(with_reducible refine (O1.out _ ?_).mono ?_);(first | exact Same.drew _ | exact Same.refl _);rintro e w' ⟨rfl,hw⟩;subst w'))
  clear RI O1
  cases rs
  · cases up
    · obtain rfl:cnt=cv:=HC.out
      have BI:=hid_as (fun U=>bit_c (decide (pv≤cnt)) U)
      have R:=hid_as (fun U (k:Same W U)=>((Lft.of (LW.out.same k) (NW.out.same k)).puto 0 (b01 (decide (pv≤cnt)))).puto 1 (cnt))
      simp only [hE] at R
      generalize b01 (decide (pv≤cnt))=y at *
      go_upto_region 6 with fail
      go_region_held3 (fun U=>U.cell? ⟨g,1,none⟩=some (.slice (some ⟨b,0,none⟩) 2 2)) (first | exact c1 | exact set_farK c1 gb | exact set_farK (set_farK c1 gb) gb) ((go_at_call 130;(with_reducible refine (BI.out _).mono ?_);rintro e w' ⟨rfl,hw⟩;subst w'))
      have R1:=hid_as ((R.out _ (Same.refl _)).same ((Same.drew _).trans (Same.drew _)))
      clear R BI
      generalize ((W.setCell ⟨b,0,none⟩ (.int .i64 y)).setCell ⟨b,1,none⟩ (.int .i64 (cnt))).drew.drew=W1 at *
      have HO:=hid_as (hold0 R1.out.2.1 (by show 0 < c.i.length;omega))
      go_wp2_with fail
      refine HO.out.mono ?_
      intro e w' hL
      have hL2:=hid_as (R1.out.next hL)
      obtain ⟨rfl,_⟩:=hL
      go_wp2
      go_end0
      exact hL2.out
    · have E:cnt=min (cv+1) 32767:=HC.out
      subst E
      generalize hm:min (cv+1) 32767=m at *
      have hm:=hid_as hm
      have BI:=hid_as (fun U=>bit_c (decide (pv≤m)) U)
      have R:=hid_as (fun U (k:Same W U)=>((Lft.of (LW.out.same k) (NW.out.same k)).puto 0 (b01 (decide (pv≤m)))).puto 1 (m))
      simp only [hE] at R
      generalize b01 (decide (pv≤m))=y at *
      go_upto_region 6 with (go_at_call 187;(refine (MO.out _).mono ?_);rintro e w' ⟨rfl,hw⟩;subst w')
      go_region_held3 (fun U=>U.cell? ⟨g,1,none⟩=some (.slice (some ⟨b,0,none⟩) 2 2)) (first | exact c1 | exact set_farK c1 gb | exact set_farK (set_farK c1 gb) gb) ((go_at_call 130;(with_reducible refine (BI.out _).mono ?_);rintro e w' ⟨rfl,hw⟩;subst w'))
      have R1:=hid_as ((R.out _ (Same.refl _)).same ((Same.drew _).trans (Same.drew _)))
      clear R BI
      generalize ((W.setCell ⟨b,0,none⟩ (.int .i64 y)).setCell ⟨b,1,none⟩ (.int .i64 (m))).drew.drew=W1 at *
      have HO:=hid_as (hold0 R1.out.2.1 (by show 0 < c.i.length;omega))
      go_wp2_with fail
      refine HO.out.mono ?_
      intro e w' hL
      have hL2:=hid_as (R1.out.next hL)
      obtain ⟨rfl,_⟩:=hL
      go_wp2
      go_end0
      exact hL2.out
  · obtain rfl:cnt=0:=HC.out
    have BI:=hid_as (fun U=>bit_c (decide (pv≤0)) U)
    have R:=hid_as (fun U (k:Same W U)=>((Lft.of (LW.out.same k) (NW.out.same k)).puto 0 (b01 (decide (pv≤0)))).puto 1 (0))
    simp only [hE] at R
    generalize b01 (decide (pv≤0))=y at *
    go_upto_region 6 with fail
    go_region_held3 (fun U=>U.cell? ⟨g,1,none⟩=some (.slice (some ⟨b,0,none⟩) 2 2)) (first | exact c1 | exact set_farK c1 gb | exact set_farK (set_farK c1 gb) gb) ((go_at_call 130;(with_reducible refine (BI.out _).mono ?_);rintro e w' ⟨rfl,hw⟩;subst w'))
    have R1:=hid_as ((R.out _ (Same.refl _)).same ((Same.drew _).trans (Same.drew _)))
    clear R BI
    generalize ((W.setCell ⟨b,0,none⟩ (.int .i64 y)).setCell ⟨b,1,none⟩ (.int .i64 (0))).drew.drew=W1 at *
    have HO:=hid_as (hold0 R1.out.2.1 (by show 0 < c.i.length;omega))
    go_wp2_with fail
    refine HO.out.mono ?_
    intro e w' hL
    have hL2:=hid_as (R1.out.next hL)
    obtain ⟨rfl,_⟩:=hL
    go_wp2
    go_end0
    exact hL2.out

set_option maxHeartbeats 1600000 in
theorem ctd_c {w:World} {g a b:Nat} {c:Ca} (h:Cl w g a b c) (hi:c.i.length=3) (ho:c.o.length=2) (hc:-32768≤c.o.getD 1 0∧c.o.getD 1 0≤32767) (cnt:Int) (hcnt:cnt=if tr (c.i.getD 1 0) then c.i.getD 2 0 else if one (c.i.getD 0 0) c.k0 then max (c.o.getD 1 0 - 1) (-32768) else c.o.getD 1 0) :
    Calls Tryz.prog 188 #[.agg #[],.pointer (some ⟨g,0,none⟩)] w (Lft w g a b { c with o:=[b01 (decide (cnt≤0)),cnt],k0:=c.i.getD 0 0 }):=by
  have hE:∀ x y,(c.o.set 0 x).set 1 y=[x,y]:=by
    intro x y
    match c.o,ho with
    | [p,q],_=>rfl
  have KB:Hid (Below w.heap.size w (w.alloc (.cells #[] 209))):=below_new (Below.refl _ _) _
  have LW:=hid_as (h.below KB.out)
  have NW:Hid (On g b w (w.alloc (.cells #[] 209))):=Only.ofBelow KB.out
  go_enter Tryz.func188,Tryz.ntmps188
  go_upto_region 1 with fail
  generalize w.alloc (.cells #[] 209)=W at *
  have c0:=LW.out.c0
  have c1:=LW.out.c1
  have i2:=LW.out.ci 2 (by omega)
  have o1:=LW.out.co 1 (by omega)
  have o0:=LW.out.co 0 (by omega)
  have f0:=LW.out.fb 0
  have f1:=LW.out.fb 1
  have gb:=LW.out.gb
  rw [hi] at c0
  rw [ho] at c1
  have RI:=hid_as (fun U (k:Same W U)=>rises0 (LW.out.same k) (by omega))
  have O1:=hid_as (fun U (k:Same W U)=>on1 (LW.out.same k) (by omega))
  generalize one (c.i.getD 0 0) c.k0=up at *
  generalize tr (c.i.getD 1 0)=rs at *
  generalize c.i.getD 2 0=pv at *
  generalize c.o.getD 1 0=cv at *
  have MO:=hid_as (fun U=>oneLess_c cv (by omega) U)
  clear KB
  have HC:=hid_as hcnt
  clear hcnt
  go_region_held3 (fun U=>U.cell? ⟨g,0,none⟩=some (.slice (some ⟨a,0,none⟩) 3 3)∧U.cell? ⟨a,2,none⟩=some (.int .i64 pv)∧U.cell? ⟨g,1,none⟩=some (.slice (some ⟨b,0,none⟩) 2 2)∧U.cell? ⟨b,1,none⟩=some (.int .i64 cv)) (exact ⟨c0,i2,c1,o1⟩) (first | (go_at_call 178;(with_reducible refine (RI.out _ ?_).mono ?_);(first | exact Same.drew _ | exact Same.refl _);rintro e w' ⟨rfl,hw⟩;subst w') | (go_at_call 180;(with_reducible refine (O1.out _ ?_).mono ?_);(first | exact Same.drew _ | exact Same.refl _);rintro e w' ⟨rfl,hw⟩;subst w'))
  clear RI O1
  cases rs
  · cases up
    · obtain rfl:cnt=cv:=HC.out
      have BI:=hid_as (fun U=>bit_c (decide (cnt≤0)) U)
      have R:=hid_as (fun U (k:Same W U)=>((Lft.of (LW.out.same k) (NW.out.same k)).puto 0 (b01 (decide (cnt≤0)))).puto 1 (cnt))
      simp only [hE] at R
      generalize b01 (decide (cnt≤0))=y at *
      go_upto_region 6 with fail
      go_region_held3 (fun U=>U.cell? ⟨g,1,none⟩=some (.slice (some ⟨b,0,none⟩) 2 2)) (first | exact c1 | exact set_farK c1 gb | exact set_farK (set_farK c1 gb) gb) ((go_at_call 130;(with_reducible refine (BI.out _).mono ?_);rintro e w' ⟨rfl,hw⟩;subst w'))
      have R1:=hid_as ((R.out _ (Same.refl _)).same ((Same.drew _).trans (Same.drew _)))
      clear R BI
      generalize ((W.setCell ⟨b,0,none⟩ (.int .i64 y)).setCell ⟨b,1,none⟩ (.int .i64 (cnt))).drew.drew=W1 at *
      have HO:=hid_as (hold0 R1.out.2.1 (by show 0 < c.i.length;omega))
      go_wp2_with fail
      refine HO.out.mono ?_
      intro e w' hL
      have hL2:=hid_as (R1.out.next hL)
      obtain ⟨rfl,_⟩:=hL
      go_wp2
      go_end0
      exact hL2.out
    · have E:cnt=max (cv - 1) (-32768):=HC.out
      subst E
      generalize hm:max (cv - 1) (-32768)=m at *
      have hm:=hid_as hm
      have BI:=hid_as (fun U=>bit_c (decide (m≤0)) U)
      have R:=hid_as (fun U (k:Same W U)=>((Lft.of (LW.out.same k) (NW.out.same k)).puto 0 (b01 (decide (m≤0)))).puto 1 (m))
      simp only [hE] at R
      generalize b01 (decide (m≤0))=y at *
      go_upto_region 6 with (go_at_call 189;(refine (MO.out _).mono ?_);rintro e w' ⟨rfl,hw⟩;subst w')
      go_region_held3 (fun U=>U.cell? ⟨g,1,none⟩=some (.slice (some ⟨b,0,none⟩) 2 2)) (first | exact c1 | exact set_farK c1 gb | exact set_farK (set_farK c1 gb) gb) ((go_at_call 130;(with_reducible refine (BI.out _).mono ?_);rintro e w' ⟨rfl,hw⟩;subst w'))
      have R1:=hid_as ((R.out _ (Same.refl _)).same ((Same.drew _).trans (Same.drew _)))
      clear R BI
      generalize ((W.setCell ⟨b,0,none⟩ (.int .i64 y)).setCell ⟨b,1,none⟩ (.int .i64 (m))).drew.drew=W1 at *
      have HO:=hid_as (hold0 R1.out.2.1 (by show 0 < c.i.length;omega))
      go_wp2_with fail
      refine HO.out.mono ?_
      intro e w' hL
      have hL2:=hid_as (R1.out.next hL)
      obtain ⟨rfl,_⟩:=hL
      go_wp2
      go_end0
      exact hL2.out
  · obtain rfl:cnt=pv:=HC.out
    have BI:=hid_as (fun U=>bit_c (decide (cnt≤0)) U)
    have R:=hid_as (fun U (k:Same W U)=>((Lft.of (LW.out.same k) (NW.out.same k)).puto 0 (b01 (decide (cnt≤0)))).puto 1 (cnt))
    simp only [hE] at R
    generalize b01 (decide (cnt≤0))=y at *
    go_upto_region 6 with fail
    go_region_held3 (fun U=>U.cell? ⟨g,1,none⟩=some (.slice (some ⟨b,0,none⟩) 2 2)) (first | exact c1 | exact set_farK c1 gb | exact set_farK (set_farK c1 gb) gb) ((go_at_call 130;(with_reducible refine (BI.out _).mono ?_);rintro e w' ⟨rfl,hw⟩;subst w'))
    have R1:=hid_as ((R.out _ (Same.refl _)).same ((Same.drew _).trans (Same.drew _)))
    clear R BI
    generalize ((W.setCell ⟨b,0,none⟩ (.int .i64 y)).setCell ⟨b,1,none⟩ (.int .i64 (cnt))).drew.drew=W1 at *
    have HO:=hid_as (hold0 R1.out.2.1 (by show 0 < c.i.length;omega))
    go_wp2_with fail
    refine HO.out.mono ?_
    intro e w' hL
    have hL2:=hid_as (R1.out.next hL)
    obtain ⟨rfl,_⟩:=hL
    go_wp2
    go_end0
    exact hL2.out

end Go.Proofs.YthjclogkcmomkaaGreatDoor
