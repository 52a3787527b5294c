/- The walks of the timers' methods wait, last; counters' ends (stage 21, after stage 17). · The steps of edges and latches (stage 21, after stage 17). · What a step tells, in memory; the keeps as they are wrapped (stage 21, after stage 17). · The steps of counters (stage 21, after stage 17). · Small things for Step (stage 21, after stage 17). -/
import Derived.Test.YthjclogkcmomkaaGreatDoorQ15
namespace Go.Proofs.YthjclogkcmomkaaGreatDoor
open Go.RowKit
open Fb
theorem Lft.of {w w':World} {g a b:Nat} {c:Ca} (l:Cl w' g a b c) (n:On g b w w'):Lft w g a b c (.returned (.tuple #[])) w':=⟨rfl,l,n⟩
/-- The clock and the edge are DINTs. -/
def Bd (c:Ca):Prop:=(-2147483648≤c.nw∧c.nw≤2147483647)∧(-2147483648≤c.k1∧c.k1≤2147483647)
set_option maxHeartbeats 800000 in
theorem wait_c {w:World} {g a b:Nat} {c:Ca} (h:Cl w g a b c) (hi:c.i.length=2) (ho:c.o.length=2) (hb:Bd c) :
    Calls Tryz.prog 176 #[.pointer (some ⟨g,0,none⟩)] w (Lft w g a b { c with o:=[b01 (decide (max (c.i.getD 1 0) 0≤el (max (c.i.getD 1 0) 0) c.nw c.k1)),el (max (c.i.getD 1 0) 0) c.nw c.k1],k2:=b01 (decide (max (c.i.getD 1 0) 0≤el (max (c.i.getD 1 0) 0) c.nw c.k1)) }):=by
  have PR:=hid_as (fun W (k:Same w W)=>preset_c (h.same k) hi)
  have EL:=hid_as (fun W (k:Same w W)=>elapsed_c (h.same k) hi hb.1 hb.2)
  have TE:=hid_as (fun W (k:Same w W) (q:Bool) (x:Int)=>tell_c (h.same k) q x ho)
  obtain ⟨pt,hpt⟩:∃ pt,pt=max (c.i.getD 1 0) 0:=⟨_,rfl⟩
  rw [← hpt] at PR EL ⊢
  obtain ⟨ee,he⟩:∃ x,x=el pt c.nw c.k1:=⟨_,rfl⟩
  rw [← he] at EL ⊢
  clear he hpt
  have H:=hid_as h
  clear h
  by_cases hq:pt≤ee
  · rw [decide_eq_true hq]
    go_enter Tryz.func176,Tryz.ntmps176
    go_wp2_with fail
    refine (EL.out _ (Same.refl _)).mono ?_
    rintro e w1 ⟨rfl,s1⟩
    go_wp2_with fail
    refine (PR.out _ s1).mono ?_
    rintro e w' ⟨rfl,hw⟩
    subst w'
    go_wp2_with fail
    refine (EL.out _ s1).mono ?_
    rintro e w2 ⟨rfl,s2⟩
    go_wp2_with fail
    refine (TE.out _ (s1.trans s2) _ _).mono ?_
    rintro e w3 ⟨rfl,l3,n3⟩
    have c4:=l3.c4
    have f4:=l3.fg 4
    have R:=hid_as ((((Lft.of l3 ((Same.only (s1.trans s2) _).trans n3)).put4 0).put4 1))
    clear EL PR TE s1 s2 l3 n3
    go_wp2
    go_end0
    exact R.out
  · have hq2:ee < pt:=by omega
    rw [decide_eq_false hq]
    have hd:decide (pt≤ee)=false:=decide_eq_false hq
    have hq:=hid_as hq
    go_enter Tryz.func176,Tryz.ntmps176
    go_wp2_with fail
    refine (EL.out _ (Same.refl _)).mono ?_
    rintro e w1 ⟨rfl,s1⟩
    go_wp2_with fail
    refine (PR.out _ s1).mono ?_
    rintro e w' ⟨rfl,hw⟩
    subst w'
    go_wp2_with fail
    refine (EL.out _ s1).mono ?_
    rintro e w2 ⟨rfl,s2⟩
    go_wp2_with fail
    refine (TE.out _ (s1.trans s2) _ _).mono ?_
    rintro e w3 ⟨rfl,l3,n3⟩
    have c4:=l3.c4
    have f4:=l3.fg 4
    have R:=hid_as (((Lft.of l3 ((Same.only (s1.trans s2) _).trans n3)).put4 0))
    clear EL PR TE s1 s2 l3 n3
    go_wp2
    go_end0
    exact R.out
set_option maxHeartbeats 800000 in
theorem last_c {w:World} {g a b:Nat} {c:Ca} (h:Cl w g a b c) (nx:Int) (hi:c.i.length=2) (ho:c.o.length=2) (hb:Bd c) :
    Calls Tryz.prog 197 #[.pointer (some ⟨g,0,none⟩),.int .i64 nx] w (Lft w g a b { c with o:=[b01 (decide (el (max (c.i.getD 1 0) 0) c.nw c.k1 < max (c.i.getD 1 0) 0)),el (max (c.i.getD 1 0) 0) c.nw c.k1],k2:=if el (max (c.i.getD 1 0) 0) c.nw c.k1 < max (c.i.getD 1 0) 0 then c.k2 else nx }):=by
  have PR:=hid_as (fun W (k:Same w W)=>preset_c (h.same k) hi)
  have EL:=hid_as (fun W (k:Same w W)=>elapsed_c (h.same k) hi hb.1 hb.2)
  have TE:=hid_as (fun W (k:Same w W) (q:Bool) (x:Int)=>tell_c (h.same k) q x ho)
  obtain ⟨pt,hpt⟩:∃ pt,pt=max (c.i.getD 1 0) 0:=⟨_,rfl⟩
  rw [← hpt] at PR EL ⊢
  obtain ⟨ee,he⟩:∃ x,x=el pt c.nw c.k1:=⟨_,rfl⟩
  rw [← he] at EL ⊢
  clear he hpt
  have H:=hid_as h
  clear h
  by_cases hq:ee < pt
  · rw [decide_eq_true hq,if_pos hq]
    go_enter Tryz.func197,Tryz.ntmps197
    go_wp2_with fail
    refine (EL.out _ (Same.refl _)).mono ?_
    rintro e w1 ⟨rfl,s1⟩
    go_wp2_with fail
    refine (PR.out _ s1).mono ?_
    rintro e w' ⟨rfl,hw⟩
    subst w'
    go_wp2_with fail
    refine (EL.out _ s1).mono ?_
    rintro e w2 ⟨rfl,s2⟩
    go_wp2_with fail
    refine (TE.out _ (s1.trans s2) _ _).mono ?_
    rintro e w3 ⟨rfl,l3,n3⟩
    have c4:=l3.c4
    have f4:=l3.fg 4
    have R:=hid_as (((Lft.of l3 ((Same.only (s1.trans s2) _).trans n3))))
    clear EL PR TE s1 s2 l3 n3
    go_wp2
    go_end0
    exact R.out
  · rw [decide_eq_false hq,if_neg hq]
    have hd:decide (ee < pt)=false:=decide_eq_false hq
    have hq:=hid_as hq
    go_enter Tryz.func197,Tryz.ntmps197
    go_wp2_with fail
    refine (EL.out _ (Same.refl _)).mono ?_
    rintro e w1 ⟨rfl,s1⟩
    go_wp2_with fail
    refine (PR.out _ s1).mono ?_
    rintro e w' ⟨rfl,hw⟩
    subst w'
    go_wp2_with fail
    refine (EL.out _ s1).mono ?_
    rintro e w2 ⟨rfl,s2⟩
    go_wp2_with fail
    refine (TE.out _ (s1.trans s2) _ _).mono ?_
    rintro e w3 ⟨rfl,l3,n3⟩
    have c4:=l3.c4
    have f4:=l3.fg 4
    have R:=hid_as (((Lft.of l3 ((Same.only (s1.trans s2) _).trans n3)).put4 nx))
    clear EL PR TE s1 s2 l3 n3
    go_wp2
    go_end0
    exact R.out
set_option maxHeartbeats 400000 in
theorem oneMore_c (n:Int) (h:-40000≤n∧n≤40000) (w:World):Calls Tryz.prog 187 #[.int .i64 n] w fun e w'=>e=.returned (.int .i64 (min (n+1) 32767))∧w'=w:=by
  go_enter Tryz.func187,Tryz.ntmps187
  go_wp2
  all_goals go_ret
  all_goals exact ⟨ret_int (by omega),rfl⟩
set_option maxHeartbeats 400000 in
theorem oneLess_c (n:Int) (h:-40000≤n∧n≤40000) (w:World):Calls Tryz.prog 189 #[.int .i64 n] w fun e w'=>e=.returned (.int .i64 (max (n - 1) (-32768)))∧w'=w:=by
  go_enter Tryz.func189,Tryz.ntmps189
  go_wp2
  all_goals go_ret
  all_goals exact ⟨ret_int (by omega),rfl⟩
end Go.Proofs.YthjclogkcmomkaaGreatDoor
namespace Go.Proofs.YthjclogkcmomkaaGreatDoor
open Go.RowKit
open Fb
theorem on0 {w:World} {g a b:Nat} {c:Ca} (h:Cl w g a b c) (hj:0 < c.i.length):Calls Tryz.prog 180 #[.pointer (some ⟨g,0,none⟩),.int .i64 0] w fun e w'=>e=.returned (.bool (tr (c.i.getD 0 0)))∧w'=w:=on_c h 0 hj
theorem on1 {w:World} {g a b:Nat} {c:Ca} (h:Cl w g a b c) (hj:1 < c.i.length):Calls Tryz.prog 180 #[.pointer (some ⟨g,0,none⟩),.int .i64 1] w fun e w'=>e=.returned (.bool (tr (c.i.getD 1 0)))∧w'=w:=on_c h 1 hj
theorem on2 {w:World} {g a b:Nat} {c:Ca} (h:Cl w g a b c) (hj:2 < c.i.length):Calls Tryz.prog 180 #[.pointer (some ⟨g,0,none⟩),.int .i64 2] w fun e w'=>e=.returned (.bool (tr (c.i.getD 2 0)))∧w'=w:=on_c h 2 hj
theorem on3 {w:World} {g a b:Nat} {c:Ca} (h:Cl w g a b c) (hj:3 < c.i.length):Calls Tryz.prog 180 #[.pointer (some ⟨g,0,none⟩),.int .i64 3] w fun e w'=>e=.returned (.bool (tr (c.i.getD 3 0)))∧w'=w:=on_c h 3 hj
theorem rises0 {w:World} {g a b:Nat} {c:Ca} (h:Cl w g a b c) (hj:0 < c.i.length):Calls Tryz.prog 178 #[.pointer (some ⟨g,0,none⟩),.int .i64 0] w fun e w'=>e=.returned (.bool (one (c.i.getD 0 0) c.k0))∧w'=w:=rises_c h 0 hj (by decide)
theorem rises1 {w:World} {g a b:Nat} {c:Ca} (h:Cl w g a b c) (hj:1 < c.i.length):Calls Tryz.prog 178 #[.pointer (some ⟨g,0,none⟩),.int .i64 1] w fun e w'=>e=.returned (.bool (one (c.i.getD 1 0) c.k1))∧w'=w:=rises_c h 1 hj (by decide)
theorem falls0 {w:World} {g a b:Nat} {c:Ca} (h:Cl w g a b c) (hj:0 < c.i.length):Calls Tryz.prog 183 #[.pointer (some ⟨g,0,none⟩),.int .i64 0] w fun e w'=>e=.returned (.bool (one c.k0 (c.i.getD 0 0)))∧w'=w:=falls_c h 0 hj (by decide)
theorem hold0 {w:World} {g a b:Nat} {c:Ca} (h:Cl w g a b c) (hj:0 < c.i.length):Calls Tryz.prog 179 #[.pointer (some ⟨g,0,none⟩),.int .i64 0] w (Lft w g a b { c with k0:=c.i.getD 0 0 }):=hold_c h 0 hj (by decide)
theorem hold1 {w:World} {g a b:Nat} {c:Ca} (h:Cl w g a b c) (hj:1 < c.i.length):Calls Tryz.prog 179 #[.pointer (some ⟨g,0,none⟩),.int .i64 1] w (Lft w g a b { c with k1:=c.i.getD 1 0 }):=hold_c h 1 hj (by decide)
set_option maxHeartbeats 800000 in
theorem rising_c {w:World} {g a b:Nat} {c:Ca} (h:Cl w g a b c) (hi:c.i.length=1) (ho:c.o.length=1) :
    Calls Tryz.prog 177 #[.agg #[],.pointer (some ⟨g,0,none⟩)] w (Lft w g a b { c with o:=[b01 (one (c.i.getD 0 0) c.k0)],k0:=c.i.getD 0 0 }):=by
  have hE:c.o.set 0 (b01 (one (c.i.getD 0 0) c.k0))=[b01 (one (c.i.getD 0 0) c.k0)]:=by
    match c.o,ho with
    | [x],_=>rfl
  have KB:Hid (Below w.heap.size w (w.alloc (.cells #[] 204))):=below_new (Below.refl _ _) _
  have LW:=hid_as (h.below KB.out)
  have NW:Hid (On g b w (w.alloc (.cells #[] 204))):=Only.ofBelow KB.out
  go_enter Tryz.func177,Tryz.ntmps177
  go_upto_region 1 with fail
  generalize w.alloc (.cells #[] 204)=W at *
  have c1:=LW.out.c1
  have o0:=LW.out.co 0 (by omega)
  have f0:=LW.out.fb 0
  have gb:=LW.out.gb
  rw [ho] at c1
  have RI:=hid_as (fun U (k:Same W U)=>rises0 (LW.out.same k) (by omega))
  generalize one (c.i.getD 0 0) c.k0=q at *
  have BI:=hid_as (fun U=>bit_c q U)
  have R:=hid_as (fun U (k:Same W U)=>(Lft.of (LW.out.same k) (NW.out.same k)).puto 0 (b01 q))
  simp only [hE] at R
  generalize b01 q=y at *
  clear hE KB
  go_region_held3 (fun U=>U.cell? ⟨g,1,none⟩=some (.slice (some ⟨b,0,none⟩) 1 1)) (first | exact c1 | exact set_farK c1 gb) (first | (go_at_call 178;(with_reducible refine (RI.out _ ?_).mono ?_);(first | exact Same.drew _ | exact Same.refl _);rintro e w' ⟨rfl,hw⟩;subst w') | (go_at_call 130;(with_reducible refine (BI.out _).mono ?_);rintro e w' ⟨rfl,hw⟩;subst w'))
  have R1:=hid_as ((R.out _ (Same.refl _)).same (Same.drew _))
  clear R RI BI
  generalize (W.setCell ⟨b,0,none⟩ (.int .i64 y)).drew=W1 at *
  have HO:=hid_as (hold0 R1.out.2.1 (by show 0 < c.i.length;omega))
  go_wp2_with fail
  refine HO.out.mono ?_
  intro e w' hL
  have hL2:=hid_as (R1.out.next hL)
  obtain ⟨rfl,_⟩:=hL
  go_wp2
  go_end0
  exact hL2.out
set_option maxHeartbeats 800000 in
theorem falling_c {w:World} {g a b:Nat} {c:Ca} (h:Cl w g a b c) (hi:c.i.length=1) (ho:c.o.length=1) :
    Calls Tryz.prog 182 #[.agg #[],.pointer (some ⟨g,0,none⟩)] w (Lft w g a b { c with o:=[b01 (one c.k0 (c.i.getD 0 0))],k0:=c.i.getD 0 0 }):=by
  have hE:c.o.set 0 (b01 (one c.k0 (c.i.getD 0 0)))=[b01 (one c.k0 (c.i.getD 0 0))]:=by
    match c.o,ho with
    | [x],_=>rfl
  have KB:Hid (Below w.heap.size w (w.alloc (.cells #[] 205))):=below_new (Below.refl _ _) _
  have LW:=hid_as (h.below KB.out)
  have NW:Hid (On g b w (w.alloc (.cells #[] 205))):=Only.ofBelow KB.out
  go_enter Tryz.func182,Tryz.ntmps182
  go_upto_region 1 with fail
  generalize w.alloc (.cells #[] 205)=W at *
  have c1:=LW.out.c1
  have o0:=LW.out.co 0 (by omega)
  have f0:=LW.out.fb 0
  have gb:=LW.out.gb
  rw [ho] at c1
  have RI:=hid_as (fun U (k:Same W U)=>falls0 (LW.out.same k) (by omega))
  generalize one c.k0 (c.i.getD 0 0)=q at *
  have BI:=hid_as (fun U=>bit_c q U)
  have R:=hid_as (fun U (k:Same W U)=>(Lft.of (LW.out.same k) (NW.out.same k)).puto 0 (b01 q))
  simp only [hE] at R
  generalize b01 q=y at *
  clear hE KB
  go_region_held3 (fun U=>U.cell? ⟨g,1,none⟩=some (.slice (some ⟨b,0,none⟩) 1 1)) (first | exact c1 | exact set_farK c1 gb) (first | (go_at_call 183;(with_reducible refine (RI.out _ ?_).mono ?_);(first | exact Same.drew _ | exact Same.refl _);rintro e w' ⟨rfl,hw⟩;subst w') | (go_at_call 130;(with_reducible refine (BI.out _).mono ?_);rintro e w' ⟨rfl,hw⟩;subst w'))
  have R1:=hid_as ((R.out _ (Same.refl _)).same (Same.drew _))
  clear R RI BI
  generalize (W.setCell ⟨b,0,none⟩ (.int .i64 y)).drew=W1 at *
  have HO:=hid_as (hold0 R1.out.2.1 (by show 0 < c.i.length;omega))
  go_wp2_with fail
  refine HO.out.mono ?_
  intro e w' hL
  have hL2:=hid_as (R1.out.next hL)
  obtain ⟨rfl,_⟩:=hL
  go_wp2
  go_end0
  exact hL2.out
end Go.Proofs.YthjclogkcmomkaaGreatDoor
namespace Go.Proofs.YthjclogkcmomkaaGreatDoor
open Go.RowKit
open Fb
/-- What Step tells: a row of its own, the keeps. -/
def StepEnd (w:World) (r:Rs) (e:Ending) (w':World):Prop:=∃ b,e=.returned (.tuple #[.slice (some ⟨b,0,none⟩) r.o.length r.o.length,.agg #[.int .i64 r.k0,.int .i64 r.k1,.int .i64 r.k2]])∧w.heap.size≤b∧Row64 w' b r.o∧Below w.heap.size w w'
/-- The call while the keeps are laid, j of them. -/
def kpj (i o:List Int) (p0 p1 p2 nw:Int) (j:Nat):Ca:=⟨i,o,if 0 < j then w32 p0 else 0,if 1 < j then w32 p1 else 0,if 2 < j then w32 p2 else 0,nw⟩
theorem idx_0 (x y z:Value) (W:World):(Instr.index 57 (.agg #[x,y,z]) (.int .i64 0)).run Tryz.prog W=.ok x W:=by kernel_rfl
theorem idx_1 (x y z:Value) (W:World):(Instr.index 57 (.agg #[x,y,z]) (.int .i64 1)).run Tryz.prog W=.ok y W:=by kernel_rfl
theorem idx_2 (x y z:Value) (W:World):(Instr.index 57 (.agg #[x,y,z]) (.int .i64 2)).run Tryz.prog W=.ok z W:=by kernel_rfl
theorem cl_new {W:World} {a b:Nat} {i o:List Int} {nw:Int} {ni no:Nat} (hi:ni=i.length) (ho:no=o.length) (ra:Row64 W a i) (rb:Row64 W b o) (hab:a ≠ b):Cl (W.alloc (.cells #[.slice (some ⟨a,0,none⟩) ni ni,.slice (some ⟨b,0,none⟩) no no,.int .i64 0,.int .i64 0,.int .i64 0,.int .i64 nw] 187)) W.heap.size a b ⟨i,o,0,0,0,nw⟩:=by
  have la:a < W.heap.size:=(Array.getElem?_eq_some_iff.1 ra).1
  have lb:b < W.heap.size:=(Array.getElem?_eq_some_iff.1 rb).1
  have k:=below_new (Below.refl _ W) (.cells #[.slice (some ⟨a,0,none⟩) ni ni,.slice (some ⟨b,0,none⟩) no no,.int .i64 0,.int .i64 0,.int .i64 0,.int .i64 nw] 187)
  subst hi ho
  exact ⟨heap_alloc_new W _,(k.block _ la).trans ra,(k.block _ lb).trans rb,by omega,by omega,hab⟩
end Go.Proofs.YthjclogkcmomkaaGreatDoor
namespace Go.Proofs.YthjclogkcmomkaaGreatDoor
open Go.RowKit
open Fb
set_option maxHeartbeats 1600000 in
theorem ctu_c {w:World} {g a b:Nat} {c:Ca} (h:Cl w g a b c) (hi:c.i.length=3) (ho:c.o.length=2) (hc:-32768≤c.o.getD 1 0∧c.o.getD 1 0≤32767) (cnt:Int) (hcnt:cnt=if tr (c.i.getD 1 0) then 0 else if one (c.i.getD 0 0) c.k0 then min (c.o.getD 1 0+1) 32767 else c.o.getD 1 0) :
    Calls Tryz.prog 186 #[.agg #[],.pointer (some ⟨g,0,none⟩)] w (Lft w g a b { c with o:=[b01 (decide (c.i.getD 2 0≤cnt)),cnt],k0:=c.i.getD 0 0 }):=by
  have hE:∀ x y,(c.o.set 0 x).set 1 y=[x,y]:=by
    intro x y
    match c.o,ho with
    | [p,q],_=>rfl
  have KB:Hid (Below w.heap.size w (w.alloc (.cells #[] 208))):=below_new (Below.refl _ _) _
  have LW:=hid_as (h.below KB.out)
  have NW:Hid (On g b w (w.alloc (.cells #[] 208))):=Only.ofBelow KB.out
  go_enter Tryz.func186,Tryz.ntmps186
  go_upto_region 1 with fail
  generalize w.alloc (.cells #[] 208)=W at *
  have c0:=LW.out.c0
  have c1:=LW.out.c1
  have i2:=LW.out.ci 2 (by omega)
  have o1:=LW.out.co 1 (by omega)
  have o0:=LW.out.co 0 (by omega)
  have f0:=LW.out.fb 0
  have f1:=LW.out.fb 1
  have gb:=LW.out.gb
  rw [hi] at c0
  rw [ho] at c1
  have RI:=hid_as (fun U (k:Same W U)=>rises0 (LW.out.same k) (by omega))
  have O1:=hid_as (fun U (k:Same W U)=>on1 (LW.out.same k) (by omega))
  generalize one (c.i.getD 0 0) c.k0=up at *
  generalize tr (c.i.getD 1 0)=rs at *
  generalize c.i.getD 2 0=pv at *
  generalize c.o.getD 1 0=cv at *
  have MO:=hid_as (fun U=>oneMore_c cv (by omega) U)
  clear KB
  have HC:=hid_as hcnt
  clear hcnt
  go_region_held3 (fun U=>U.cell? ⟨g,0,none⟩=some (.slice (some ⟨a,0,none⟩) 3 3)∧U.cell? ⟨a,2,none⟩=some (.int .i64 pv)∧U.cell? ⟨g,1,none⟩=some (.slice (some ⟨b,0,none⟩) 2 2)∧U.cell? ⟨b,1,none⟩=some (.int .i64 cv)) (exact ⟨c0,i2,c1,o1⟩) (first | (go_at_call 178;(with_reducible refine (RI.out _ ?_).mono ?_);(first | exact Same.drew _ | exact Same.refl _);rintro e w' ⟨rfl,hw⟩;subst w') | (go_at_call 180;(with_reducible refine (O1.out _ ?_).mono ?_);(first | exact Same.drew _ | exact Same.refl _);rintro e w' ⟨rfl,hw⟩;subst w'))
  clear RI O1
  cases rs
  · cases up
    · obtain rfl:cnt=cv:=HC.out
      have BI:=hid_as (fun U=>bit_c (decide (pv≤cnt)) U)
      have R:=hid_as (fun U (k:Same W U)=>((Lft.of (LW.out.same k) (NW.out.same k)).puto 0 (b01 (decide (pv≤cnt)))).puto 1 (cnt))
      simp only [hE] at R
      generalize b01 (decide (pv≤cnt))=y at *
      go_upto_region 6 with fail
      go_region_held3 (fun U=>U.cell? ⟨g,1,none⟩=some (.slice (some ⟨b,0,none⟩) 2 2)) (first | exact c1 | exact set_farK c1 gb | exact set_farK (set_farK c1 gb) gb) ((go_at_call 130;(with_reducible refine (BI.out _).mono ?_);rintro e w' ⟨rfl,hw⟩;subst w'))
      have R1:=hid_as ((R.out _ (Same.refl _)).same ((Same.drew _).trans (Same.drew _)))
      clear R BI
      generalize ((W.setCell ⟨b,0,none⟩ (.int .i64 y)).setCell ⟨b,1,none⟩ (.int .i64 (cnt))).drew.drew=W1 at *
      have HO:=hid_as (hold0 R1.out.2.1 (by show 0 < c.i.length;omega))
      go_wp2_with fail
      refine HO.out.mono ?_
      intro e w' hL
      have hL2:=hid_as (R1.out.next hL)
      obtain ⟨rfl,_⟩:=hL
      go_wp2
      go_end0
      exact hL2.out
    · have E:cnt=min (cv+1) 32767:=HC.out
      subst E
      generalize hm:min (cv+1) 32767=m at *
      have hm:=hid_as hm
      have BI:=hid_as (fun U=>bit_c (decide (pv≤m)) U)
      have R:=hid_as (fun U (k:Same W U)=>((Lft.of (LW.out.same k) (NW.out.same k)).puto 0 (b01 (decide (pv≤m)))).puto 1 (m))
      simp only [hE] at R
      generalize b01 (decide (pv≤m))=y at *
      go_upto_region 6 with (go_at_call 187;(refine (MO.out _).mono ?_);rintro e w' ⟨rfl,hw⟩;subst w')
      go_region_held3 (fun U=>U.cell? ⟨g,1,none⟩=some (.slice (some ⟨b,0,none⟩) 2 2)) (first | exact c1 | exact set_farK c1 gb | exact set_farK (set_farK c1 gb) gb) ((go_at_call 130;(with_reducible refine (BI.out _).mono ?_);rintro e w' ⟨rfl,hw⟩;subst w'))
      have R1:=hid_as ((R.out _ (Same.refl _)).same ((Same.drew _).trans (Same.drew _)))
      clear R BI
      generalize ((W.setCell ⟨b,0,none⟩ (.int .i64 y)).setCell ⟨b,1,none⟩ (.int .i64 (m))).drew.drew=W1 at *
      have HO:=hid_as (hold0 R1.out.2.1 (by show 0 < c.i.length;omega))
      go_wp2_with fail
      refine HO.out.mono ?_
      intro e w' hL
      have hL2:=hid_as (R1.out.next hL)
      obtain ⟨rfl,_⟩:=hL
      go_wp2
      go_end0
      exact hL2.out
  · obtain rfl:cnt=0:=HC.out
    have BI:=hid_as (fun U=>bit_c (decide (pv≤0)) U)
    have R:=hid_as (fun U (k:Same W U)=>((Lft.of (LW.out.same k) (NW.out.same k)).puto 0 (b01 (decide (pv≤0)))).puto 1 (0))
    simp only [hE] at R
    generalize b01 (decide (pv≤0))=y at *
    go_upto_region 6 with fail
    go_region_held3 (fun U=>U.cell? ⟨g,1,none⟩=some (.slice (some ⟨b,0,none⟩) 2 2)) (first | exact c1 | exact set_farK c1 gb | exact set_farK (set_farK c1 gb) gb) ((go_at_call 130;(with_reducible refine (BI.out _).mono ?_);rintro e w' ⟨rfl,hw⟩;subst w'))
    have R1:=hid_as ((R.out _ (Same.refl _)).same ((Same.drew _).trans (Same.drew _)))
    clear R BI
    generalize ((W.setCell ⟨b,0,none⟩ (.int .i64 y)).setCell ⟨b,1,none⟩ (.int .i64 (0))).drew.drew=W1 at *
    have HO:=hid_as (hold0 R1.out.2.1 (by show 0 < c.i.length;omega))
    go_wp2_with fail
    refine HO.out.mono ?_
    intro e w' hL
    have hL2:=hid_as (R1.out.next hL)
    obtain ⟨rfl,_⟩:=hL
    go_wp2
    go_end0
    exact hL2.out

set_option maxHeartbeats 1600000 in
theorem ctd_c {w:World} {g a b:Nat} {c:Ca} (h:Cl w g a b c) (hi:c.i.length=3) (ho:c.o.length=2) (hc:-32768≤c.o.getD 1 0∧c.o.getD 1 0≤32767) (cnt:Int) (hcnt:cnt=if tr (c.i.getD 1 0) then c.i.getD 2 0 else if one (c.i.getD 0 0) c.k0 then max (c.o.getD 1 0 - 1) (-32768) else c.o.getD 1 0) :
    Calls Tryz.prog 188 #[.agg #[],.pointer (some ⟨g,0,none⟩)] w (Lft w g a b { c with o:=[b01 (decide (cnt≤0)),cnt],k0:=c.i.getD 0 0 }):=by
  have hE:∀ x y,(c.o.set 0 x).set 1 y=[x,y]:=by
    intro x y
    match c.o,ho with
    | [p,q],_=>rfl
  have KB:Hid (Below w.heap.size w (w.alloc (.cells #[] 209))):=below_new (Below.refl _ _) _
  have LW:=hid_as (h.below KB.out)
  have NW:Hid (On g b w (w.alloc (.cells #[] 209))):=Only.ofBelow KB.out
  go_enter Tryz.func188,Tryz.ntmps188
  go_upto_region 1 with fail
  generalize w.alloc (.cells #[] 209)=W at *
  have c0:=LW.out.c0
  have c1:=LW.out.c1
  have i2:=LW.out.ci 2 (by omega)
  have o1:=LW.out.co 1 (by omega)
  have o0:=LW.out.co 0 (by omega)
  have f0:=LW.out.fb 0
  have f1:=LW.out.fb 1
  have gb:=LW.out.gb
  rw [hi] at c0
  rw [ho] at c1
  have RI:=hid_as (fun U (k:Same W U)=>rises0 (LW.out.same k) (by omega))
  have O1:=hid_as (fun U (k:Same W U)=>on1 (LW.out.same k) (by omega))
  generalize one (c.i.getD 0 0) c.k0=up at *
  generalize tr (c.i.getD 1 0)=rs at *
  generalize c.i.getD 2 0=pv at *
  generalize c.o.getD 1 0=cv at *
  have MO:=hid_as (fun U=>oneLess_c cv (by omega) U)
  clear KB
  have HC:=hid_as hcnt
  clear hcnt
  go_region_held3 (fun U=>U.cell? ⟨g,0,none⟩=some (.slice (some ⟨a,0,none⟩) 3 3)∧U.cell? ⟨a,2,none⟩=some (.int .i64 pv)∧U.cell? ⟨g,1,none⟩=some (.slice (some ⟨b,0,none⟩) 2 2)∧U.cell? ⟨b,1,none⟩=some (.int .i64 cv)) (exact ⟨c0,i2,c1,o1⟩) (first | (go_at_call 178;(with_reducible refine (RI.out _ ?_).mono ?_);(first | exact Same.drew _ | exact Same.refl _);rintro e w' ⟨rfl,hw⟩;subst w') | (go_at_call 180;(with_reducible refine (O1.out _ ?_).mono ?_);(first | exact Same.drew _ | exact Same.refl _);rintro e w' ⟨rfl,hw⟩;subst w'))
  clear RI O1
  cases rs
  · cases up
    · obtain rfl:cnt=cv:=HC.out
      have BI:=hid_as (fun U=>bit_c (decide (cnt≤0)) U)
      have R:=hid_as (fun U (k:Same W U)=>((Lft.of (LW.out.same k) (NW.out.same k)).puto 0 (b01 (decide (cnt≤0)))).puto 1 (cnt))
      simp only [hE] at R
      generalize b01 (decide (cnt≤0))=y at *
      go_upto_region 6 with fail
      go_region_held3 (fun U=>U.cell? ⟨g,1,none⟩=some (.slice (some ⟨b,0,none⟩) 2 2)) (first | exact c1 | exact set_farK c1 gb | exact set_farK (set_farK c1 gb) gb) ((go_at_call 130;(with_reducible refine (BI.out _).mono ?_);rintro e w' ⟨rfl,hw⟩;subst w'))
      have R1:=hid_as ((R.out _ (Same.refl _)).same ((Same.drew _).trans (Same.drew _)))
      clear R BI
      generalize ((W.setCell ⟨b,0,none⟩ (.int .i64 y)).setCell ⟨b,1,none⟩ (.int .i64 (cnt))).drew.drew=W1 at *
      have HO:=hid_as (hold0 R1.out.2.1 (by show 0 < c.i.length;omega))
      go_wp2_with fail
      refine HO.out.mono ?_
      intro e w' hL
      have hL2:=hid_as (R1.out.next hL)
      obtain ⟨rfl,_⟩:=hL
      go_wp2
      go_end0
      exact hL2.out
    · have E:cnt=max (cv - 1) (-32768):=HC.out
      subst E
      generalize hm:max (cv - 1) (-32768)=m at *
      have hm:=hid_as hm
      have BI:=hid_as (fun U=>bit_c (decide (m≤0)) U)
      have R:=hid_as (fun U (k:Same W U)=>((Lft.of (LW.out.same k) (NW.out.same k)).puto 0 (b01 (decide (m≤0)))).puto 1 (m))
      simp only [hE] at R
      generalize b01 (decide (m≤0))=y at *
      go_upto_region 6 with (go_at_call 189;(refine (MO.out _).mono ?_);rintro e w' ⟨rfl,hw⟩;subst w')
      go_region_held3 (fun U=>U.cell? ⟨g,1,none⟩=some (.slice (some ⟨b,0,none⟩) 2 2)) (first | exact c1 | exact set_farK c1 gb | exact set_farK (set_farK c1 gb) gb) ((go_at_call 130;(with_reducible refine (BI.out _).mono ?_);rintro e w' ⟨rfl,hw⟩;subst w'))
      have R1:=hid_as ((R.out _ (Same.refl _)).same ((Same.drew _).trans (Same.drew _)))
      clear R BI
      generalize ((W.setCell ⟨b,0,none⟩ (.int .i64 y)).setCell ⟨b,1,none⟩ (.int .i64 (m))).drew.drew=W1 at *
      have HO:=hid_as (hold0 R1.out.2.1 (by show 0 < c.i.length;omega))
      go_wp2_with fail
      refine HO.out.mono ?_
      intro e w' hL
      have hL2:=hid_as (R1.out.next hL)
      obtain ⟨rfl,_⟩:=hL
      go_wp2
      go_end0
      exact hL2.out
  · obtain rfl:cnt=pv:=HC.out
    have BI:=hid_as (fun U=>bit_c (decide (cnt≤0)) U)
    have R:=hid_as (fun U (k:Same W U)=>((Lft.of (LW.out.same k) (NW.out.same k)).puto 0 (b01 (decide (cnt≤0)))).puto 1 (cnt))
    simp only [hE] at R
    generalize b01 (decide (cnt≤0))=y at *
    go_upto_region 6 with fail
    go_region_held3 (fun U=>U.cell? ⟨g,1,none⟩=some (.slice (some ⟨b,0,none⟩) 2 2)) (first | exact c1 | exact set_farK c1 gb | exact set_farK (set_farK c1 gb) gb) ((go_at_call 130;(with_reducible refine (BI.out _).mono ?_);rintro e w' ⟨rfl,hw⟩;subst w'))
    have R1:=hid_as ((R.out _ (Same.refl _)).same ((Same.drew _).trans (Same.drew _)))
    clear R BI
    generalize ((W.setCell ⟨b,0,none⟩ (.int .i64 y)).setCell ⟨b,1,none⟩ (.int .i64 (cnt))).drew.drew=W1 at *
    have HO:=hid_as (hold0 R1.out.2.1 (by show 0 < c.i.length;omega))
    go_wp2_with fail
    refine HO.out.mono ?_
    intro e w' hL
    have hL2:=hid_as (R1.out.next hL)
    obtain ⟨rfl,_⟩:=hL
    go_wp2
    go_end0
    exact hL2.out

end Go.Proofs.YthjclogkcmomkaaGreatDoor
namespace Go.Proofs.YthjclogkcmomkaaGreatDoor
open Go.RowKit
open Fb
theorem own_liesK {w:World} {base n g c:Nat} {e:TypeId} {vs:List Value} (h:w.ownsRow base e 1 (.slice (some ⟨g,0,none⟩) n c) n vs):Lies w g 0 vs:=by
  intro k u hk
  have hl:k < vs.length:=(List.getElem?_eq_some_iff.1 hk).1
  have h1:vs.length=n:=by simpa using h.1
  rw [Nat.zero_add,h.cellAt k (by omega),hk]
theorem pO_posK (k:Nat) (hk:k < 10):0 < (pO k).length:=by
  match k,hk with
  | 0,_=>exact (by decide)
  | 1,_=>exact (by decide)
  | 2,_=>exact (by decide)
  | 3,_=>exact (by decide)
  | 4,_=>exact (by decide)
  | 5,_=>exact (by decide)
  | 6,_=>exact (by decide)
  | 7,_=>exact (by decide)
  | 8,_=>exact (by decide)
  | 9,_=>exact (by decide)
theorem two_newK (w:World) (o0 o1:Obj):((w.alloc o0).alloc o1).heap[w.heap.size]?=some o0∧((w.alloc o0).alloc o1).heap[w.heap.size+1]?=some o1∧((w.alloc o0).alloc o1).heap.size=w.heap.size+2:=by
  refine ⟨?_,?_,by simp⟩
  · rw [Below.heap_alloc _ _ _ (by simp)];exact heap_alloc_new w o0
  · have:=heap_alloc_new (w.alloc o0) o1
    simpa using this
end Go.Proofs.YthjclogkcmomkaaGreatDoor
