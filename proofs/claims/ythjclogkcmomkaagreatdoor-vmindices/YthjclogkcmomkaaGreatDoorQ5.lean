/- The walk of pinNumbers (stage 21, after stage 17). · What a step's outputs may be; seven more (plain mathematics, stage 17). -/
import Derived.Test.YthjclogkcmomkaaGreatDoorQ4
namespace Go.Proofs.YthjclogkcmomkaaGreatDoor
open Go.RowKit
open Fb
/-- The numbers of these pins, out of what is given. -/
def pnum (k:Nat) (l:List (List UInt8 × Int)) (gv:List Int):List Int:=(List.range l.length).map fun j=>wkd (kdf (l.getD j ([],0)).1 (pI k ++ pO k)) (gv.getD j 0)
theorem pnum_len (k:Nat) (l:List (List UInt8 × Int)) (gv:List Int):(pnum k l gv).length=l.length:=by simp [pnum]
theorem pnum_at (k:Nat) (l:List (List UInt8 × Int)) (gv:List Int) (j:Nat) (h:j < l.length):(pnum k l gv).getD j 0=wkd (kdf (l.getD j ([],0)).1 (pI k ++ pO k)) (gv.getD j 0):=by
  simp [pnum,List.getD_eq_getElem?_getD,h]
abbrev Row64 (w:World) (g:Nat) (l:List Int):Prop:=w.heap[g]?=some (.cells (i64s l).toArray 2 (0,0))
theorem part_rest (l:List Int) (k:Nat) (hz:∀ j,k≤j→l.getD j 0=0):part l k=l:=by
  apply List.ext_getElem?
  intro j
  rw [part_at]
  by_cases hl:j < l.length
  · rw [if_pos hl]
    by_cases hj:j < k
    · rw [if_pos hj]
    · rw [if_neg hj]
      have:=hz j (by omega)
      rw [List.getD_eq_getElem?_getD,List.getElem?_eq_getElem hl] at this
      rw [List.getElem?_eq_getElem hl,← this];rfl
  · rw [if_neg hl,List.getElem?_eq_none (by omega)]
theorem Tryz.info64:(Tryz.prog.info? 2).map (fun i=>(i.zero,i.size,i.bytes))=some (some (.int .i64 0),1,8):=by kernel_rfl
theorem mk_run (W:World) (n:Nat) (hn:n≤1000000):∃ W',(Instr.makeSlice 26 (.int .i64 (n:Int)) (.int .i64 (n:Int))).run Tryz.prog W=.ok (.slice (some ⟨W.heap.size,0,none⟩) n n) W'∧Row64 W' W.heap.size (List.replicate n 0)∧Below W.heap.size W W'∧W'.heap.size=W.heap.size+1:=by
  obtain ⟨i0,hi0,hz0,hz1,hz2⟩:=info_parts Tryz.info64
  have h:=run_make (P:=Tryz.prog) W 26 2 i0 (.int .i64 0) Tryz.underlying26 hi0 hz0 .i64 .i64 n n (by omega) (by omega) (by rw [hz2];omega) (by omega)
  rw [hz1] at h
  simp only [Int.toNat_natCast,Nat.mul_one] at h
  refine ⟨_,h,?_,below_new (Below.refl _ W) _,World.size_alloc ..⟩
  have e:madeCells (Value.cells (.int .i64 0)) n=(i64s (List.replicate n 0)).toArray:=by
    apply Array.ext'
    rw [show Value.cells (.int .i64 0)=#[.int .i64 0] from rfl,toList_madeCells_one]
    simp [i64s]
  have r:=heap_alloc_new W (.cells (i64s (List.replicate n 0)).toArray 2)
  rw [← e] at r
  rw [e] at r ⊢
  exact r
theorem strs_at (l:List (List UInt8 × Int)) (j:Nat) (h:j < l.length):(strs l)[j]?=some (.string (tx (l.getD j ([],0)).1)):=by simp [strs,List.getD_eq_getElem?_getD,h]
theorem set_farK {w:World} {g k b o:Nat} {v u:Value} (h:w.cell? ⟨b,o,none⟩=some u) (hne:b ≠ g):(w.setCell ⟨g,k,none⟩ v).cell? ⟨b,o,none⟩=some u :=
  (World.cell?_of_block (w:=w) (a:=⟨b,o,none⟩) (Below.heap_setCell _ _ _ _ (fun e=>hne e))).trans h
/-- While numbers are written. -/
structure PnR (w wr:World) (L:List Int) (j:Nat):Prop where
  row:Row64 wr w.heap.size (part L j)
  sz:w.heap.size < wr.heap.size
  kb:Below w.heap.size w wr
theorem PnR.next {w wr W:World} {L:List Int} {j:Nat} (h:PnR w wr L j) (hj:j < L.length) (k:Below wr.heap.size wr W) {x:Int} (hx:x=L.getD j 0):PnR w (W.setCell ⟨w.heap.size,j,none⟩ (.int .i64 x)) L (j+1):=by
  have r:Row64 W w.heap.size (part L j):=(k.block _ h.sz).trans h.row
  have s:w.heap.size < W.heap.size:=Nat.lt_of_lt_of_le h.sz k.size
  subst hx
  refine ⟨?_,by simpa using s,?_⟩
  · show _=_
    rw [set_row r,← i64s_set,part_next L j hj]
  · exact ((h.kb.trans (k.mono h.kb.size)).trans (((Turn.refl w.heap.size W).set j _).below (Nat.le_refl _) (Nat.le_of_lt s)))
theorem pnum_rest (k:Nat) (l:List (List UInt8 × Int)) (gv:List Int) (n:Nat) (hn:gv.length≤n) (j:Nat) (hj:n≤j):(pnum k l gv).getD j 0=0:=by
  by_cases h:j < l.length
  · rw [pnum_at k l gv j h,show gv.getD j 0=0 by rw [List.getD_eq_getElem?_getD,List.getElem?_eq_none (show gv.length≤j by omega)];rfl]
    exact wkd_0 _
  · rw [List.getD_eq_getElem?_getD,List.getElem?_eq_none (by rw [pnum_len];omega)]
    rfl
set_option maxHeartbeats 1600000 in
theorem pinNumbers_more (k:Nat) (hk:k < 10) (l:List (List UInt8 × Int)) (gv:List Int) (ga:Option Addr) (gn gc:Nat) (b pn pc:Nat) (w:World) (hpn:pn=l.length) (hpn9:pn≤8) (hL:Lies w b 0 (strs l)) (hgn:gn=gv.length) (hg9:gn≤9223372036854775807) (hG:Sl w (.slice ga gn gc) (i64s gv)) (hc:pn≤gn) :
    Calls Tryz.prog 107 #[.string (nm k),.slice (some ⟨b,0,none⟩) pn pc,.slice ga gn gc] w fun e w'=>e=.returned (.slice (some ⟨w.heap.size,0,none⟩) pn pn)∧Row64 w' w.heap.size (pnum k l gv)∧Below w.heap.size w w':=by
  obtain ⟨W0,hrun,hrow,hB,hsz⟩:=mk_run w pn (by omega)
  have L:=hid_as hL
  have G:=hid_as hG
  have HP:=hid_as hpn
  have HG:=hid_as hgn
  have P0:Hid (PnR w W0 (pnum k l gv) 0):=⟨by rw [part_zero,pnum_len,← hpn];exact hrow,by omega,hB⟩
  have FIN:Hid (part (pnum k l gv) pn=pnum k l gv):=part_all _ _ (by rw [pnum_len];omega)
  have ci:(pn:Int)≤(gn:Int):=by omega
  clear hL hG hpn hgn hrow hB hsz
  go_enter Tryz.func107,Tryz.ntmps107
  go_wp2
  go_loopw [17] (fun i wr=>∃ j:Nat,j≤pn∧i=.int .i64 j∧PnR w wr (pnum k l gv) j) (fun i _=>pn - (intOf i).toNat)
  case atStart=>exact ⟨0,by omega,rfl,P0.out⟩
  case round =>
    obtain ⟨j,hj,rfl,hP⟩:=hrel
    have P:=hid_as hP
    clear hP P0
    by_cases hjn:j < pn
    · have hj2:(j:Int) < (pn:Int):=by omega
      have hj3:j < pn:=by omega
      have hj3':(j:Int) < (pn:Int):=by omega
      have hj4:j < gn:=by omega
      have hj4':(j:Int) < (gn:Int):=by omega
      have hjl:j < l.length:=by rw [← HP.out];exact hj3
      have hjp:j < (pnum k l gv).length:=by rw [pnum_len];exact hjl
      obtain ⟨ga',go',rfl,cG⟩:=sl64_at G.out (k:=j) (by rw [← HG.out];exact hj4)
      have cS:=L.out j _ (strs_at l j hjl)
      rw [Nat.zero_add] at cS
      have ltG:ga' < w.heap.size:=lt_of_cell cG
      have ltS:b < w.heap.size:=lt_of_cell cS
      have PA:=hid_as (pnum_at k l gv j hjl)
      generalize (l.getD j ([],0)).1=q at *
      generalize gv.getD j 0=x at *
      have CA:=hid_as (fun W (h:Below wr.heap.size wr W)=>(⟨(h.cell (p:=⟨b,j,none⟩) (by have:=P.out.sz;simp;omega)).trans ((P.out.kb.cell (p:=⟨b,j,none⟩) ltS).trans cS),(h.cell (p:=⟨ga',go'+j,none⟩) (by have:=P.out.sz;simp;omega)).trans ((P.out.kb.cell (p:=⟨ga',go'+j,none⟩) ltG).trans cG)⟩:W.cell? ⟨b,j,none⟩=some (.string (tx q))∧W.cell? ⟨ga',go'+j,none⟩=some (.int .i64 x)))
      have CB:=hid_as (fun W (h:Below wr.heap.size wr W)=>(⟨⟨_,cell_row ((h.block _ P.out.sz).trans P.out.row) (i64s_at _ j (by rw [part_len];exact hjp))⟩,frozen_row ((h.block _ P.out.sz).trans P.out.row)⟩:(∃ z,W.cell? ⟨w.heap.size,j,none⟩=some (.int .i64 z))∧W.frozen? ⟨w.heap.size,j,none⟩=false))
      have NX:=hid_as (fun W (h:Below wr.heap.size wr W)=>P.out.next hjp h PA.out.symm)
      have PN:=hid_as (fun W=>pin_c k hk q W)
      have WR:=hid_as (fun W=>wrap_c (kdf q (pI k ++ pO k)) x W)
      have hne1:b ≠ w.heap.size:=by omega
      have hne2:ga' ≠ w.heap.size:=by omega
      generalize wkd (kdf q (pI k ++ pO k)) x=y at *
      generalize kdf q (pI k ++ pO k)=kd at *
      clear cG cS PA L G
      go_upto_region 5 with fail
      go_region_held3 (fun W=>W.cell? ⟨b,j,none⟩=some (.string (tx q))∧W.cell? ⟨ga',go'+j,none⟩=some (.int .i64 x)) (first | exact CA.out _ (Same.trans (Same.drewN _ _) (Same.drew _)).below | exact CA.out _ (Same.drewN _ _).below | exact CA.out _ (Same.drew _).below | exact CA.out _ (Below.refl _ _) | exact c3z | exact ⟨set_farK c3z.1 hne1,set_farK c3z.2 hne2⟩) (first | (go_at_call 129;(with_reducible refine (PN.out _).mono ?_);rintro e w3 ⟨rfl,b3⟩;have b4:=(Same.drew wr).below.trans (b3.mono (Nat.le_refl _));have c3z:=CA.out _ b4;obtain ⟨⟨z,cz⟩,cf⟩:=CB.out _ b4) | (go_at_call 108;(with_reducible refine (WR.out _).mono ?_);rintro e w4 ⟨rfl,hw⟩;subst w4))
      go_wp2
      go_roundw
      case rel=>exact ⟨j+1,by omega,by go_num,NX.out _ b4⟩
      case measure=>simp [intOf];omega
    · obtain rfl:j=pn:=by omega
      go_wp2
      go_ret
      refine ⟨rfl,?_,P.out.kb⟩
      have:=P.out.row
      rwa [FIN.out] at this
set_option maxHeartbeats 1600000 in
theorem pinNumbers_less (k:Nat) (hk:k < 10) (l:List (List UInt8 × Int)) (gv:List Int) (ga:Option Addr) (gn gc:Nat) (b pn pc:Nat) (w:World) (hpn:pn=l.length) (hpn9:pn≤8) (hL:Lies w b 0 (strs l)) (hgn:gn=gv.length) (hg9:gn≤9223372036854775807) (hG:Sl w (.slice ga gn gc) (i64s gv)) (hc:gn < pn) :
    Calls Tryz.prog 107 #[.string (nm k),.slice (some ⟨b,0,none⟩) pn pc,.slice ga gn gc] w fun e w'=>e=.returned (.slice (some ⟨w.heap.size,0,none⟩) pn pn)∧Row64 w' w.heap.size (pnum k l gv)∧Below w.heap.size w w':=by
  obtain ⟨W0,hrun,hrow,hB,hsz⟩:=mk_run w pn (by omega)
  have L:=hid_as hL
  have G:=hid_as hG
  have HP:=hid_as hpn
  have HG:=hid_as hgn
  have P0:Hid (PnR w W0 (pnum k l gv) 0):=⟨by rw [part_zero,pnum_len,← hpn];exact hrow,by omega,hB⟩
  have FIN:Hid (part (pnum k l gv) gn=pnum k l gv):=part_rest _ _ (pnum_rest k l gv gn (by omega))
  have ci:¬ (pn:Int)≤(gn:Int):=by omega
  clear hL hG hpn hgn hrow hB hsz
  go_enter Tryz.func107,Tryz.ntmps107
  go_wp2
  go_loopw [17] (fun i wr=>∃ j:Nat,j≤gn∧i=.int .i64 j∧PnR w wr (pnum k l gv) j) (fun i _=>gn - (intOf i).toNat)
  case atStart=>exact ⟨0,by omega,rfl,P0.out⟩
  case round =>
    obtain ⟨j,hj,rfl,hP⟩:=hrel
    have P:=hid_as hP
    clear hP P0
    by_cases hjn:j < gn
    · have hj2:(j:Int) < (gn:Int):=by omega
      have hj3:j < pn:=by omega
      have hj3':(j:Int) < (pn:Int):=by omega
      have hj4:j < gn:=by omega
      have hj4':(j:Int) < (gn:Int):=by omega
      have hjl:j < l.length:=by rw [← HP.out];exact hj3
      have hjp:j < (pnum k l gv).length:=by rw [pnum_len];exact hjl
      obtain ⟨ga',go',rfl,cG⟩:=sl64_at G.out (k:=j) (by rw [← HG.out];exact hj4)
      have cS:=L.out j _ (strs_at l j hjl)
      rw [Nat.zero_add] at cS
      have ltG:ga' < w.heap.size:=lt_of_cell cG
      have ltS:b < w.heap.size:=lt_of_cell cS
      have PA:=hid_as (pnum_at k l gv j hjl)
      generalize (l.getD j ([],0)).1=q at *
      generalize gv.getD j 0=x at *
      have CA:=hid_as (fun W (h:Below wr.heap.size wr W)=>(⟨(h.cell (p:=⟨b,j,none⟩) (by have:=P.out.sz;simp;omega)).trans ((P.out.kb.cell (p:=⟨b,j,none⟩) ltS).trans cS),(h.cell (p:=⟨ga',go'+j,none⟩) (by have:=P.out.sz;simp;omega)).trans ((P.out.kb.cell (p:=⟨ga',go'+j,none⟩) ltG).trans cG)⟩:W.cell? ⟨b,j,none⟩=some (.string (tx q))∧W.cell? ⟨ga',go'+j,none⟩=some (.int .i64 x)))
      have CB:=hid_as (fun W (h:Below wr.heap.size wr W)=>(⟨⟨_,cell_row ((h.block _ P.out.sz).trans P.out.row) (i64s_at _ j (by rw [part_len];exact hjp))⟩,frozen_row ((h.block _ P.out.sz).trans P.out.row)⟩:(∃ z,W.cell? ⟨w.heap.size,j,none⟩=some (.int .i64 z))∧W.frozen? ⟨w.heap.size,j,none⟩=false))
      have NX:=hid_as (fun W (h:Below wr.heap.size wr W)=>P.out.next hjp h PA.out.symm)
      have PN:=hid_as (fun W=>pin_c k hk q W)
      have WR:=hid_as (fun W=>wrap_c (kdf q (pI k ++ pO k)) x W)
      have hne1:b ≠ w.heap.size:=by omega
      have hne2:ga' ≠ w.heap.size:=by omega
      generalize wkd (kdf q (pI k ++ pO k)) x=y at *
      generalize kdf q (pI k ++ pO k)=kd at *
      clear cG cS PA L G
      go_upto_region 5 with fail
      go_region_held3 (fun W=>W.cell? ⟨b,j,none⟩=some (.string (tx q))∧W.cell? ⟨ga',go'+j,none⟩=some (.int .i64 x)) (first | exact CA.out _ (Same.trans (Same.drewN _ _) (Same.drew _)).below | exact CA.out _ (Same.drewN _ _).below | exact CA.out _ (Same.drew _).below | exact CA.out _ (Below.refl _ _) | exact c3z | exact ⟨set_farK c3z.1 hne1,set_farK c3z.2 hne2⟩) (first | (go_at_call 129;(with_reducible refine (PN.out _).mono ?_);rintro e w3 ⟨rfl,b3⟩;have b4:=(Same.drew wr).below.trans (b3.mono (Nat.le_refl _));have c3z:=CA.out _ b4;obtain ⟨⟨z,cz⟩,cf⟩:=CB.out _ b4) | (go_at_call 108;(with_reducible refine (WR.out _).mono ?_);rintro e w4 ⟨rfl,hw⟩;subst w4))
      go_wp2
      go_roundw
      case rel=>exact ⟨j+1,by omega,by go_num,NX.out _ b4⟩
      case measure=>simp [intOf];omega
    · obtain rfl:j=gn:=by omega
      go_wp2
      go_ret
      refine ⟨rfl,?_,P.out.kb⟩
      have:=P.out.row
      rwa [FIN.out] at this
theorem pinNumbers_c (k:Nat) (hk:k < 10) (l:List (List UInt8 × Int)) (gv:List Int) (ga:Option Addr) (gn gc:Nat) (b pn pc:Nat) (w:World) (hpn:pn=l.length) (hpn9:pn≤8) (hL:Lies w b 0 (strs l)) (hgn:gn=gv.length) (hg9:gn≤9223372036854775807) (hG:Sl w (.slice ga gn gc) (i64s gv)) :
    Calls Tryz.prog 107 #[.string (nm k),.slice (some ⟨b,0,none⟩) pn pc,.slice ga gn gc] w fun e w'=>e=.returned (.slice (some ⟨w.heap.size,0,none⟩) pn pn)∧Row64 w' w.heap.size (pnum k l gv)∧Below w.heap.size w w':=by
  by_cases hc:pn≤gn
  · exact pinNumbers_more k hk l gv ga gn gc b pn pc w hpn hpn9 hL hgn hg9 hG hc
  · exact pinNumbers_less k hk l gv ga gn gc b pn pc w hpn hpn9 hL hgn hg9 hG (by omega)
end Go.Proofs.YthjclogkcmomkaaGreatDoor
namespace Go.Proofs.YthjclogkcmomkaaGreatDoor
open Go.RowKit
open Fb
theorem b01_ok (b:Bool):-2147483648≤b01 b∧b01 b≤2147483647:=by cases b <;> decide
theorem el_ok {pt nw k:Int} (h:0≤pt∧pt≤2147483647):-2147483648≤el pt nw k∧el pt nw k≤2147483647:=by
  unfold el since;omega
theorem two_ok {x y:Int} (hx:-2147483648≤x∧x≤2147483647) (hy:-2147483648≤y∧y≤2147483647):∀ z ∈ [x,y],-2147483648≤z∧z≤2147483647:=by
  intro z hz
  simp only [List.mem_cons,List.not_mem_nil,or_false] at hz
  rcases hz with rfl | rfl
  · exact hx
  · exact hy
theorem pt_ok (x:Int):0≤max (w32 x) 0∧max (w32 x) 0≤2147483647:=by have:=w32_ok x;omega
theorem one_ok {x:Int} (hx:-2147483648≤x∧x≤2147483647):∀ z ∈ [x],-2147483648≤z∧z≤2147483647:=by
  intro z hz
  simp only [List.mem_cons,List.not_mem_nil,or_false] at hz
  rw [hz];exact hx
theorem ton_ok {a:Bool} {pt k0 k1 k2 nw:Int} (h:0≤pt∧pt≤2147483647):∀ z ∈ (ton a pt k0 k1 k2 nw).o,-2147483648≤z∧z≤2147483647:=by
  unfold ton
  dsimp only
  repeat' split
  all_goals (first | exact two_ok (by omega) (by omega) | exact two_ok (b01_ok _) (el_ok h))
theorem tof_ok {a:Bool} {pt et k0 k1 k2 nw:Int} (h:0≤pt∧pt≤2147483647) (he:-2147483648≤et∧et≤2147483647):∀ z ∈ (tof a pt et k0 k1 k2 nw).o,-2147483648≤z∧z≤2147483647:=by
  unfold tof
  dsimp only
  repeat' split
  all_goals (first | exact two_ok (by omega) (by omega) | exact two_ok (by omega) he | exact two_ok (b01_ok _) (el_ok h))
theorem tp_ok {a:Bool} {pt et k0 k1 k2 nw:Int} (h:0≤pt∧pt≤2147483647) (he:-2147483648≤et∧et≤2147483647):∀ z ∈ (tp a pt et k0 k1 k2 nw).o,-2147483648≤z∧z≤2147483647:=by
  unfold tp
  dsimp only
  repeat' split
  all_goals (first | exact two_ok (b01_ok _) (by omega) | exact two_ok (b01_ok _) (el_ok h) | exact two_ok (b01_ok _) he)
theorem ctu_ok {a b:Bool} {pv cv k0 k1 k2:Int} (hc:-32768≤cv∧cv≤32767):∀ z ∈ (ctu a b pv cv k0 k1 k2).o,-2147483648≤z∧z≤2147483647:=by
  unfold ctu
  dsimp only
  refine two_ok (b01_ok _) ?_
  split
  · omega
  · split <;> omega
theorem ctd_ok {a b:Bool} {pv cv k0 k1 k2:Int} (hp:-32768≤pv∧pv≤32767) (hc:-32768≤cv∧cv≤32767):∀ z ∈ (ctd a b pv cv k0 k1 k2).o,-2147483648≤z∧z≤2147483647:=by
  unfold ctd
  dsimp only
  refine two_ok (b01_ok _) ?_
  split
  · omega
  · split <;> omega
theorem ctud_ok {a b r l:Bool} {pv cv k0 k1 k2:Int} (hp:-32768≤pv∧pv≤32767) (hc:-32768≤cv∧cv≤32767):∀ z ∈ (ctud a b r l pv cv k0 k1 k2).o,-2147483648≤z∧z≤2147483647:=by
  unfold ctud
  dsimp only
  intro z hz
  rw [List.mem_cons] at hz
  rcases hz with rfl | hz
  · exact b01_ok _
  · revert z
    refine two_ok (b01_ok _) ?_
    split
    · omega
    · split
      · omega
      · split
        · omega
        · split <;> omega
theorem stp_ok (k:Nat) (l q:List Int) (p0 p1 p2 t:Int):∀ z ∈ (stp k l q p0 p1 p2 t).o,-2147483648≤z∧z≤2147483647:=by
  match k with
  | 0=>exact ton_ok (pt_ok _)
  | 1=>exact tof_ok (pt_ok _) (w32_ok _)
  | 2=>exact tp_ok (pt_ok _) (w32_ok _)
  | 3=>exact ctu_ok (w16_ok _)
  | 4=>exact ctd_ok (w16_ok _) (w16_ok _)
  | 5=>exact ctud_ok (w16_ok _) (w16_ok _)
  | 6=>exact one_ok (b01_ok _)
  | 7=>exact one_ok (b01_ok _)
  | 8=>exact one_ok (b01_ok _)
  | 9=>exact one_ok (b01_ok _)
  | k+10=>intro z hz;cases hz
theorem stp_len (k:Nat) (l q:List Int) (p0 p1 p2 t:Int):(stp k l q p0 p1 p2 t).o.length=(pO k).length:=by
  match k with
  | 0 =>
    simp only [stp,ton]
    repeat' split
    all_goals rfl
  | 1 =>
    simp only [stp,tof]
    repeat' split
    all_goals rfl
  | 2 =>
    simp only [stp,tp]
    repeat' split
    all_goals rfl
  | 3=>rfl
  | 4=>rfl
  | 5=>rfl
  | 6=>rfl
  | 7=>rfl
  | 8=>rfl
  | 9=>rfl
  | k+10=>rfl
end Go.Proofs.YthjclogkcmomkaaGreatDoor
