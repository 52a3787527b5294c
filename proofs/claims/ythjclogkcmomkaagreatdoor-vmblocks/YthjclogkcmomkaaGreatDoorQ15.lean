/- A block's call in memory; the walks of its small methods (stage 21, after stage 17). -/
import Derived.Test.YthjclogkcmomkaaGreatDoorQ14
namespace Go.Proofs.YthjclogkcmomkaaGreatDoor
open Go.RowKit
open Fb
/-- A call's numbers. -/
structure Ca where
  i:List Int
  o:List Int
  k0:Int
  k1:Int
  k2:Int
  nw:Int
def Ca.kp (c:Ca) (j:Nat):Int:=match j with | 0=>c.k0 | 1=>c.k1 | _=>c.k2
def Ca.keep (c:Ca) (j:Nat) (x:Int):Ca:=match j with | 0=>{ c with k0:=x } | 1=>{ c with k1:=x } | _=>{ c with k2:=x }
def Ca.cells (c:Ca) (a b:Nat):List Value:=[.slice (some ⟨a,0,none⟩) c.i.length c.i.length,.slice (some ⟨b,0,none⟩) c.o.length c.o.length,.int .i64 c.k0,.int .i64 c.k1,.int .i64 c.k2,.int .i64 c.nw]
structure Cl (w:World) (g a b:Nat) (c:Ca):Prop where
  bx:w.heap[g]?=some (.cells (c.cells a b).toArray 187 (0,0))
  ra:Row64 w a c.i
  rb:Row64 w b c.o
  ga:g ≠ a
  gb:g ≠ b
  ab:a ≠ b
theorem Cl.lt {w:World} {g a b:Nat} {c:Ca} (h:Cl w g a b c):g < w.heap.size:=(Array.getElem?_eq_some_iff.1 h.bx).1
theorem Cl.ltb {w:World} {g a b:Nat} {c:Ca} (h:Cl w g a b c):b < w.heap.size:=(Array.getElem?_eq_some_iff.1 h.rb).1
theorem Cl.lta {w:World} {g a b:Nat} {c:Ca} (h:Cl w g a b c):a < w.heap.size:=(Array.getElem?_eq_some_iff.1 h.ra).1
theorem Cl.c0 {w:World} {g a b:Nat} {c:Ca} (h:Cl w g a b c):w.cell? ⟨g,0,none⟩=some (.slice (some ⟨a,0,none⟩) c.i.length c.i.length):=cell_row h.bx rfl
theorem Cl.c1 {w:World} {g a b:Nat} {c:Ca} (h:Cl w g a b c):w.cell? ⟨g,1,none⟩=some (.slice (some ⟨b,0,none⟩) c.o.length c.o.length):=cell_row h.bx rfl
theorem Cl.c2 {w:World} {g a b:Nat} {c:Ca} (h:Cl w g a b c):w.cell? ⟨g,2,none⟩=some (.int .i64 c.k0):=cell_row h.bx rfl
theorem Cl.c3 {w:World} {g a b:Nat} {c:Ca} (h:Cl w g a b c):w.cell? ⟨g,3,none⟩=some (.int .i64 c.k1):=cell_row h.bx rfl
theorem Cl.c4 {w:World} {g a b:Nat} {c:Ca} (h:Cl w g a b c):w.cell? ⟨g,4,none⟩=some (.int .i64 c.k2):=cell_row h.bx rfl
theorem Cl.c5 {w:World} {g a b:Nat} {c:Ca} (h:Cl w g a b c):w.cell? ⟨g,5,none⟩=some (.int .i64 c.nw):=cell_row h.bx rfl
theorem Cl.ci {w:World} {g a b:Nat} {c:Ca} (h:Cl w g a b c) (j:Nat) (hj:j < c.i.length):w.cell? ⟨a,j,none⟩=some (.int .i64 (c.i.getD j 0)):=cell_row h.ra (i64s_at _ j hj)
theorem Cl.co {w:World} {g a b:Nat} {c:Ca} (h:Cl w g a b c) (j:Nat) (hj:j < c.o.length):w.cell? ⟨b,j,none⟩=some (.int .i64 (c.o.getD j 0)):=cell_row h.rb (i64s_at _ j hj)
theorem Cl.fg {w:World} {g a b:Nat} {c:Ca} (h:Cl w g a b c) (j:Nat):w.frozen? ⟨g,j,none⟩=false:=frozen_row h.bx
theorem Cl.fb {w:World} {g a b:Nat} {c:Ca} (h:Cl w g a b c) (j:Nat):w.frozen? ⟨b,j,none⟩=false:=frozen_row h.rb
theorem Cl.same {w u:World} {g a b:Nat} {c:Ca} (h:Cl w g a b c) (k:Same w u):Cl u g a b c:=⟨by rw [k.heap];exact h.bx,by have:=h.ra;unfold Row64 at *;rw [k.heap];exact this,by have:=h.rb;unfold Row64 at *;rw [k.heap];exact this,h.ga,h.gb,h.ab⟩
theorem Cl.below {w u:World} {g a b:Nat} {c:Ca} (h:Cl w g a b c) (k:Below w.heap.size w u):Cl u g a b c:=⟨(k.block _ h.lt).trans h.bx,(k.block _ h.lta).trans h.ra,(k.block _ h.ltb).trans h.rb,h.ga,h.gb,h.ab⟩
theorem Cl.set2 {w:World} {g a b:Nat} {c:Ca} (h:Cl w g a b c) (x:Int):Cl (w.setCell ⟨g,2,none⟩ (.int .i64 x)) g a b { c with k0:=x } :=
  ⟨by rw [set_row h.bx];rfl,(Below.heap_setCell _ _ _ _ (fun e=>h.ga e.symm)).trans h.ra,(Below.heap_setCell _ _ _ _ (fun e=>h.gb e.symm)).trans h.rb,h.ga,h.gb,h.ab⟩
theorem Cl.set3 {w:World} {g a b:Nat} {c:Ca} (h:Cl w g a b c) (x:Int):Cl (w.setCell ⟨g,3,none⟩ (.int .i64 x)) g a b { c with k1:=x } :=
  ⟨by rw [set_row h.bx];rfl,(Below.heap_setCell _ _ _ _ (fun e=>h.ga e.symm)).trans h.ra,(Below.heap_setCell _ _ _ _ (fun e=>h.gb e.symm)).trans h.rb,h.ga,h.gb,h.ab⟩
theorem Cl.set4 {w:World} {g a b:Nat} {c:Ca} (h:Cl w g a b c) (x:Int):Cl (w.setCell ⟨g,4,none⟩ (.int .i64 x)) g a b { c with k2:=x } :=
  ⟨by rw [set_row h.bx];rfl,(Below.heap_setCell _ _ _ _ (fun e=>h.ga e.symm)).trans h.ra,(Below.heap_setCell _ _ _ _ (fun e=>h.gb e.symm)).trans h.rb,h.ga,h.gb,h.ab⟩
theorem Cl.seto {w:World} {g a b:Nat} {c:Ca} (h:Cl w g a b c) (j:Nat) (x:Int):Cl (w.setCell ⟨b,j,none⟩ (.int .i64 x)) g a b { c with o:=c.o.set j x }:=by
  refine ⟨?_,(Below.heap_setCell _ _ _ _ (fun e=>h.ab e)).trans h.ra,?_,h.ga,h.gb,h.ab⟩
  · rw [Below.heap_setCell _ _ _ _ (fun e=>h.gb e),h.bx]
    simp [Ca.cells]
  · unfold Row64;rw [set_row h.rb,← i64s_set]
/-- What may have turned in a step: the call and its outputs. -/
abbrev On (g b:Nat) (w w':World):Prop:=Only [g,b] w w'
theorem On.setg {g b:Nat} {w w':World} (h:On g b w w') (k:Nat) (v:Value):On g b w (w'.setCell ⟨g,k,none⟩ v):=h.trans (Only.ofTurn ((Turn.refl g w').set k v) (by simp))
theorem On.setb {g b:Nat} {w w':World} (h:On g b w w') (k:Nat) (v:Value):On g b w (w'.setCell ⟨b,k,none⟩ v):=h.trans (Only.ofTurn ((Turn.refl b w').set k v) (by simp))
theorem On.same {g b:Nat} {w w' u:World} (h:On g b w w') (k:Same w' u):On g b w u:=h.trans (k.only _)
set_option maxHeartbeats 400000 in
theorem on_c {w:World} {g a b:Nat} {c:Ca} (h:Cl w g a b c) (j:Nat) (hj:j < c.i.length):Calls Tryz.prog 180 #[.pointer (some ⟨g,0,none⟩),.int .i64 (j:Int)] w fun e w'=>e=.returned (.bool (tr (c.i.getD j 0)))∧w'=w:=by
  have c0:=h.c0
  have ci:=h.ci j hj
  generalize c.i.getD j 0=x at *
  generalize c.i.length=n at *
  have hj2:(j:Int) < (n:Int):=by omega
  clear h
  go_enter Tryz.func180,Tryz.ntmps180
  go_wp2
  go_ret
  exact ⟨ret_bool rfl,rfl⟩
set_option maxHeartbeats 400000 in
theorem was_c {w:World} {g a b:Nat} {c:Ca} (h:Cl w g a b c) (j:Nat) (hj:j < 3):Calls Tryz.prog 181 #[.pointer (some ⟨g,0,none⟩),.int .i64 (j:Int)] w fun e w'=>e=.returned (.bool (tr (c.kp j)))∧w'=w:=by
  have c2:=h.c2
  have c3:=h.c3
  have c4:=h.c4
  clear h
  have hc:j=0 ∨ j=1 ∨ j=2:=by omega
  rcases hc with rfl | rfl | rfl
  all_goals
    go_enter Tryz.func181,Tryz.ntmps181
    go_wp2
    go_ret
    exact ⟨ret_bool rfl,rfl⟩
set_option maxHeartbeats 400000 in
theorem rises_c {w:World} {g a b:Nat} {c:Ca} (h:Cl w g a b c) (j:Nat) (hj:j < c.i.length) (hj3:j < 3):Calls Tryz.prog 178 #[.pointer (some ⟨g,0,none⟩),.int .i64 (j:Int)] w fun e w'=>e=.returned (.bool (one (c.i.getD j 0) (c.kp j)))∧w'=w:=by
  have O:=hid_as (on_c h j hj)
  have A:=hid_as (was_c h j hj3)
  unfold one
  generalize tr (c.i.getD j 0)=x at *
  generalize tr (c.kp j)=y at *
  clear h
  cases x
  all_goals
    go_enter Tryz.func178,Tryz.ntmps178
    go_wp2_with (first | (go_at_call 180;refine O.out.mono ?_;rintro e w' ⟨rfl,hw⟩;subst w') | (go_at_call 181;refine A.out.mono ?_;rintro e w' ⟨rfl,hw⟩;subst w'))
    go_ret
    exact ⟨ret_bool rfl,rfl⟩
set_option maxHeartbeats 400000 in
theorem falls_c {w:World} {g a b:Nat} {c:Ca} (h:Cl w g a b c) (j:Nat) (hj:j < c.i.length) (hj3:j < 3):Calls Tryz.prog 183 #[.pointer (some ⟨g,0,none⟩),.int .i64 (j:Int)] w fun e w'=>e=.returned (.bool (one (c.kp j) (c.i.getD j 0)))∧w'=w:=by
  have O:=hid_as (on_c h j hj)
  have A:=hid_as (was_c h j hj3)
  unfold one
  generalize tr (c.i.getD j 0)=x at *
  generalize tr (c.kp j)=y at *
  clear h
  cases y
  all_goals
    go_enter Tryz.func183,Tryz.ntmps183
    go_wp2_with (first | (go_at_call 180;refine O.out.mono ?_;rintro e w' ⟨rfl,hw⟩;subst w') | (go_at_call 181;refine A.out.mono ?_;rintro e w' ⟨rfl,hw⟩;subst w'))
    go_ret
    exact ⟨ret_bool rfl,rfl⟩
/-- What a step's method leaves. -/
def Lft (w:World) (g a b:Nat) (c:Ca) (e:Ending) (w':World):Prop:=e=.returned (.tuple #[])∧Cl w' g a b c∧On g b w w'
theorem Lft.same {w w' u:World} {g a b:Nat} {c:Ca} {e:Ending} (h:Lft w g a b c e w') (k:Same w' u):Lft w g a b c e u:=⟨h.1,h.2.1.same k,h.2.2.same k⟩
theorem Lft.next {w w' u:World} {g a b:Nat} {c d:Ca} {e f:Ending} (h:Lft w g a b c e w') (k:Lft w' g a b d f u):Lft w g a b d f u:=⟨k.1,k.2.1,h.2.2.trans k.2.2⟩
theorem Lft.start {w:World} {g a b:Nat} {c:Ca} (h:Cl w g a b c):Lft w g a b c (.returned (.tuple #[])) w:=⟨rfl,h,Only.refl _ _⟩
theorem Lft.put2 {w w':World} {g a b:Nat} {c:Ca} {e:Ending} (h:Lft w g a b c e w') (x:Int):Lft w g a b { c with k0:=x } e (w'.setCell ⟨g,2,none⟩ (.int .i64 x)):=⟨h.1,h.2.1.set2 x,h.2.2.setg 2 _⟩
theorem Lft.put3 {w w':World} {g a b:Nat} {c:Ca} {e:Ending} (h:Lft w g a b c e w') (x:Int):Lft w g a b { c with k1:=x } e (w'.setCell ⟨g,3,none⟩ (.int .i64 x)):=⟨h.1,h.2.1.set3 x,h.2.2.setg 3 _⟩
theorem Lft.put4 {w w':World} {g a b:Nat} {c:Ca} {e:Ending} (h:Lft w g a b c e w') (x:Int):Lft w g a b { c with k2:=x } e (w'.setCell ⟨g,4,none⟩ (.int .i64 x)):=⟨h.1,h.2.1.set4 x,h.2.2.setg 4 _⟩
theorem Lft.puto {w w':World} {g a b:Nat} {c:Ca} {e:Ending} (h:Lft w g a b c e w') (j:Nat) (x:Int):Lft w g a b { c with o:=c.o.set j x } e (w'.setCell ⟨b,j,none⟩ (.int .i64 x)):=⟨h.1,h.2.1.seto j x,h.2.2.setb j _⟩
set_option maxHeartbeats 800000 in
theorem hold_c {w:World} {g a b:Nat} {c:Ca} (h:Cl w g a b c) (j:Nat) (hj:j < c.i.length) (hj2:j < 2):Calls Tryz.prog 179 #[.pointer (some ⟨g,0,none⟩),.int .i64 (j:Int)] w (Lft w g a b (c.keep j (c.i.getD j 0))):=by
  have c0:=h.c0
  have c2:=h.c2
  have c3:=h.c3
  have ci:=h.ci j hj
  have f2:=h.fg 2
  have f3:=h.fg 3
  have ga:=h.ga
  have hjn:(j:Int) < (c.i.length:Int):=by omega
  have R2:=hid_as (fun x=>(Lft.start h).put2 x)
  have R3:=hid_as (fun x=>(Lft.start h).put3 x)
  generalize c.i.getD j 0=x at *
  generalize c.i.length=n at *
  clear h
  have hc:j=0 ∨ j=1:=by omega
  rcases hc with rfl | rfl
  · go_enter Tryz.func179,Tryz.ntmps179
    go_wp2
    go_region
    go_wp2
    go_end0
    exact (R2.out _).same (Same.drew _)
  · go_enter Tryz.func179,Tryz.ntmps179
    go_wp2
    go_region
    go_wp2
    go_end0
    exact (R3.out _).same (Same.drew _)
set_option maxHeartbeats 800000 in
theorem begin_c {w:World} {g a b:Nat} {c:Ca} (h:Cl w g a b c) (ph:Int):Calls Tryz.prog 192 #[.pointer (some ⟨g,0,none⟩),.int .i64 ph] w (Lft w g a b { c with k1:=c.nw,k2:=ph }):=by
  have c3:=h.c3
  have c4:=h.c4
  have c5:=h.c5
  have f3:=h.fg 3
  have f4:=h.fg 4
  have R:=hid_as (((Lft.start h).put3 c.nw).put4 ph)
  go_enter Tryz.func192,Tryz.ntmps192
  go_wp2
  go_region
  go_wp2
  go_end0
  exact R.out.same (Same.drew _)
set_option maxHeartbeats 800000 in
theorem tell_c {w:World} {g a b:Nat} {c:Ca} (h:Cl w g a b c) (q:Bool) (et:Int) (ho:c.o.length=2):Calls Tryz.prog 193 #[.pointer (some ⟨g,0,none⟩),.bool q,.int .i64 et] w (Lft w g a b { c with o:=[b01 q,et] }):=by
  have c1:=h.c1
  have o0:=h.co 0 (by omega)
  have o1:=h.co 1 (by omega)
  have f0:=h.fb 0
  have f1:=h.fb 1
  have gb:=h.gb
  have B:=hid_as (fun W=>bit_c q W)
  have R:=hid_as (((Lft.start h).puto 0 (b01 q)).puto 1 et)
  have E:(c.o.set 0 (b01 q)).set 1 et=[b01 q,et]:=by
    match c.o,ho with
    | [x,y],_=>rfl
  simp only [E] at R
  rw [ho] at c1
  generalize b01 q=y at *
  clear E
  go_enter Tryz.func193,Tryz.ntmps193
  go_wp2
  go_region_held3 (fun W=>W.cell? ⟨g,1,none⟩=some (.slice (some ⟨b,0,none⟩) 2 2)) (first | exact c1 | exact set_farK c1 gb | exact set_farK (set_farK c1 gb) gb) ((go_at_call 130;(with_reducible refine (B.out _).mono ?_);rintro e w' ⟨rfl,hw⟩;subst w'))
  go_wp2
  go_end0
  exact R.out.same (Same.drew _)
set_option maxHeartbeats 400000 in
theorem preset_c {w:World} {g a b:Nat} {c:Ca} (h:Cl w g a b c) (hi:c.i.length=2):Calls Tryz.prog 194 #[.pointer (some ⟨g,0,none⟩)] w fun e w'=>e=.returned (.int .i64 (max (c.i.getD 1 0) 0))∧w'=w:=by
  have c0:=h.c0
  have ci:=h.ci 1 (by omega)
  rw [hi] at c0
  generalize c.i.getD 1 0=x at *
  clear h
  go_enter Tryz.func194,Tryz.ntmps194
  go_wp2
  all_goals go_ret
  all_goals exact ⟨ret_int (by omega),rfl⟩
set_option maxHeartbeats 800000 in
theorem elapsed_c {w:World} {g a b:Nat} {c:Ca} (h:Cl w g a b c) (hi:c.i.length=2) (hn:-2147483648≤c.nw∧c.nw≤2147483647) (hk:-2147483648≤c.k1∧c.k1≤2147483647):Calls Tryz.prog 195 #[.pointer (some ⟨g,0,none⟩)] w fun e w'=>e=.returned (.int .i64 (el (max (c.i.getD 1 0) 0) c.nw c.k1))∧Same w w':=by
  have c3:=h.c3
  have c5:=h.c5
  have PR:=hid_as (fun W (k:Same w W)=>preset_c (h.same k) hi)
  have WR:=hid_as (fun W=>wrap_c 4 (c.nw - c.k1) W)
  have hw:IntKind.i64.wrap (c.nw - c.k1)=c.nw - c.k1:=by rw [IntKind.wrap_i64];omega
  rw [show wkd 4 (c.nw - c.k1)=w32 (c.nw - c.k1) from rfl] at WR
  unfold el since
  generalize max (c.i.getD 1 0) 0=pt at *
  generalize c.nw=nw at *
  generalize c.k1=k1 at *
  obtain ⟨d,hd⟩:∃ d,d=w32 (nw - k1):=⟨_,rfl⟩
  rw [← hd] at WR ⊢
  clear h hd hi
  go_enter Tryz.func195,Tryz.ntmps195
  go_wp2
  go_region_held3 (fun W=>W.cell? ⟨g,3,none⟩=some (.int .i64 k1)∧W.cell? ⟨g,5,none⟩=some (.int .i64 nw)) (go_keep) ((go_at_call 108;(with_reducible refine (WR.out _).mono ?_);rintro e w' ⟨rfl,hw⟩;subst w'))
  go_wp2_with (go_at_call 194;(refine (PR.out _ (Same.drew _)).mono ?_);rintro e w' ⟨rfl,hw⟩;subst w')
  all_goals go_ret
  all_goals exact ⟨ret_int (by omega),Same.drew _⟩
end Go.Proofs.YthjclogkcmomkaaGreatDoor
