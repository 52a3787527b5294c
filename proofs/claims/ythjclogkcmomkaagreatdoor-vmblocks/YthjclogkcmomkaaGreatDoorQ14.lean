/- The walks of small functions: bit, wrap, machineOf (stage 21, after stage 17). · The walk of pinNumbers (stage 21, after stage 17). · The reference's Wrap of INT, DINT, TIME; help's Place (stage 21, after stage 17). -/
import Derived.Test.YthjclogkcmomkaaGreatDoorQ1
import Derived.Test.YthjclogkcmomkaaGreatDoorQ7
namespace Go.Proofs.YthjclogkcmomkaaGreatDoor
open Go.RowKit
open Fb
theorem bit_c (b:Bool) (w:World):Calls Tryz.prog 130 #[.bool b] w fun e w'=>e=.returned (.int .i64 (b01 b))∧w'=w:=by
  cases b
  · go_enter Tryz.func130,Tryz.ntmps130
    go_wp2
    go_ret
    exact ⟨rfl,rfl⟩
  · go_enter Tryz.func130,Tryz.ntmps130
    go_wp2
    go_ret
    exact ⟨rfl,rfl⟩
theorem i16_is0 (n:Int):IntKind.i16.wrap n=w16 n:=by
  simp only [IntKind.wrap,IntKind.bits,IntKind.signed,w16]
  simp
  omega
theorem i16_is (n:Int):wrap64 (IntKind.i16.wrap n)=w16 n:=by
  rw [i16_is0];unfold w16 wrap64;omega
theorem i32_is (n:Int):wrap64 (wrap32 n)=w32 n:=by unfold wrap64 wrap32 w32;omega
set_option maxHeartbeats 400000 in
theorem wrap_bool (n:Int) (w:World):Calls Tryz.prog 108 #[.int .i64 1,.int .i64 n] w fun e w'=>e=.returned (.int .i64 (b01 (tr n)))∧w'=w:=by
  cases h:tr n with
  | false =>
    have h1:(n != 0)=false:=h
    have C:=hid_as (bit_c false w)
    have h:=hid_as h
    go_enter Tryz.func108,Tryz.ntmps108
    go_wp2_with (go_at_call 130;refine C.out.mono ?_;rintro e w' ⟨rfl,hw⟩;subst w')
    go_ret
    exact ⟨rfl,rfl⟩
  | true =>
    have h1:(n != 0)=true:=h
    have C:=hid_as (bit_c true w)
    have h:=hid_as h
    go_enter Tryz.func108,Tryz.ntmps108
    go_wp2_with (go_at_call 130;refine C.out.mono ?_;rintro e w' ⟨rfl,hw⟩;subst w')
    go_ret
    exact ⟨rfl,rfl⟩
set_option maxHeartbeats 400000 in
theorem wrap_int (n:Int) (w:World):Calls Tryz.prog 108 #[.int .i64 3,.int .i64 n] w fun e w'=>e=.returned (.int .i64 (w16 n))∧w'=w:=by
  have h:=hid_as (i16_is n)
  go_enter Tryz.func108,Tryz.ntmps108
  go_wp2
  go_ret
  exact ⟨ret_int h.out,rfl⟩
set_option maxHeartbeats 400000 in
theorem wrap_else (k n:Int) (h1:(k == 1)=false) (h3:(k == 3)=false) (w:World):Calls Tryz.prog 108 #[.int .i64 k,.int .i64 n] w fun e w'=>e=.returned (.int .i64 (w32 n))∧w'=w:=by
  have h:=hid_as (i32_is n)
  go_enter Tryz.func108,Tryz.ntmps108
  go_wp2
  go_ret
  exact ⟨ret_int h.out,rfl⟩
theorem wrap_c (k n:Int) (w:World):Calls Tryz.prog 108 #[.int .i64 k,.int .i64 n] w fun e w'=>e=.returned (.int .i64 (wkd k n))∧w'=w:=by
  unfold wkd
  by_cases h1:k=1
  · subst h1;rw [if_pos rfl];exact wrap_bool n w
  · rw [if_neg h1]
    by_cases h3:k=3
    · subst h3;rw [if_pos rfl];exact wrap_int n w
    · rw [if_neg h3];exact wrap_else k n (by rw [beq_eq_false_iff_ne];exact h1) (by rw [beq_eq_false_iff_ne];exact h3) w
open Fb
set_option maxHeartbeats 400000 in
theorem mach_0 (w:World):Calls Tryz.prog 105 #[.string (nm 0)] w fun e w'=>e=.returned (.iface 211 (.agg #[]))∧w'=w:=by
  unfold nm nml tx
  go_enter Tryz.func105,Tryz.ntmps105
  go_wp2
  go_ret
  exact ⟨rfl,rfl⟩
set_option maxHeartbeats 400000 in
theorem mach_1 (w:World):Calls Tryz.prog 105 #[.string (nm 1)] w fun e w'=>e=.returned (.iface 212 (.agg #[]))∧w'=w:=by
  unfold nm nml tx
  go_enter Tryz.func105,Tryz.ntmps105
  go_wp2
  go_ret
  exact ⟨rfl,rfl⟩
set_option maxHeartbeats 400000 in
theorem mach_2 (w:World):Calls Tryz.prog 105 #[.string (nm 2)] w fun e w'=>e=.returned (.iface 213 (.agg #[]))∧w'=w:=by
  unfold nm nml tx
  go_enter Tryz.func105,Tryz.ntmps105
  go_wp2
  go_ret
  exact ⟨rfl,rfl⟩
set_option maxHeartbeats 400000 in
theorem mach_3 (w:World):Calls Tryz.prog 105 #[.string (nm 3)] w fun e w'=>e=.returned (.iface 208 (.agg #[]))∧w'=w:=by
  unfold nm nml tx
  go_enter Tryz.func105,Tryz.ntmps105
  go_wp2
  go_ret
  exact ⟨rfl,rfl⟩
set_option maxHeartbeats 400000 in
theorem mach_4 (w:World):Calls Tryz.prog 105 #[.string (nm 4)] w fun e w'=>e=.returned (.iface 209 (.agg #[]))∧w'=w:=by
  unfold nm nml tx
  go_enter Tryz.func105,Tryz.ntmps105
  go_wp2
  go_ret
  exact ⟨rfl,rfl⟩
set_option maxHeartbeats 400000 in
theorem mach_5 (w:World):Calls Tryz.prog 105 #[.string (nm 5)] w fun e w'=>e=.returned (.iface 210 (.agg #[]))∧w'=w:=by
  unfold nm nml tx
  go_enter Tryz.func105,Tryz.ntmps105
  go_wp2
  go_ret
  exact ⟨rfl,rfl⟩
set_option maxHeartbeats 400000 in
theorem mach_6 (w:World):Calls Tryz.prog 105 #[.string (nm 6)] w fun e w'=>e=.returned (.iface 204 (.agg #[]))∧w'=w:=by
  unfold nm nml tx
  go_enter Tryz.func105,Tryz.ntmps105
  go_wp2
  go_ret
  exact ⟨rfl,rfl⟩
set_option maxHeartbeats 400000 in
theorem mach_7 (w:World):Calls Tryz.prog 105 #[.string (nm 7)] w fun e w'=>e=.returned (.iface 205 (.agg #[]))∧w'=w:=by
  unfold nm nml tx
  go_enter Tryz.func105,Tryz.ntmps105
  go_wp2
  go_ret
  exact ⟨rfl,rfl⟩
set_option maxHeartbeats 400000 in
theorem mach_8 (w:World):Calls Tryz.prog 105 #[.string (nm 8)] w fun e w'=>e=.returned (.iface 206 (.agg #[]))∧w'=w:=by
  unfold nm nml tx
  go_enter Tryz.func105,Tryz.ntmps105
  go_wp2
  go_ret
  exact ⟨rfl,rfl⟩
set_option maxHeartbeats 400000 in
theorem mach_9 (w:World):Calls Tryz.prog 105 #[.string (nm 9)] w fun e w'=>e=.returned (.iface 207 (.agg #[]))∧w'=w:=by
  unfold nm nml tx
  go_enter Tryz.func105,Tryz.ntmps105
  go_wp2
  go_ret
  exact ⟨rfl,rfl⟩
open Fb
open Fb
end Go.Proofs.YthjclogkcmomkaaGreatDoor
namespace Go.Proofs.YthjclogkcmomkaaGreatDoor
open Go.RowKit
open Fb
/-- The numbers of these pins, out of what is given. -/
def pnum (k:Nat) (l:List (List UInt8 × Int)) (gv:List Int):List Int:=(List.range l.length).map fun j=>wkd (kdf (l.getD j ([],0)).1 (pI k ++ pO k)) (gv.getD j 0)
theorem pnum_len (k:Nat) (l:List (List UInt8 × Int)) (gv:List Int):(pnum k l gv).length=l.length:=by simp [pnum]
theorem pnum_at (k:Nat) (l:List (List UInt8 × Int)) (gv:List Int) (j:Nat) (h:j < l.length):(pnum k l gv).getD j 0=wkd (kdf (l.getD j ([],0)).1 (pI k ++ pO k)) (gv.getD j 0):=by
  simp [pnum,List.getD_eq_getElem?_getD,h]
abbrev Row64 (w:World) (g:Nat) (l:List Int):Prop:=w.heap[g]?=some (.cells (i64s l).toArray 2 (0,0))
theorem part_rest (l:List Int) (k:Nat) (hz:∀ j,k≤j→l.getD j 0=0):part l k=l:=by
  apply List.ext_getElem?
  intro j
  rw [part_at]
  by_cases hl:j < l.length
  · rw [if_pos hl]
    by_cases hj:j < k
    · rw [if_pos hj]
    · rw [if_neg hj]
      have:=hz j (by omega)
      rw [List.getD_eq_getElem?_getD,List.getElem?_eq_getElem hl] at this
      rw [List.getElem?_eq_getElem hl,← this];rfl
  · rw [if_neg hl,List.getElem?_eq_none (by omega)]
theorem Tryz.info64:(Tryz.prog.info? 2).map (fun i=>(i.zero,i.size,i.bytes))=some (some (.int .i64 0),1,8):=by kernel_rfl
theorem mk_run (W:World) (n:Nat) (hn:n≤1000000):∃ W',(Instr.makeSlice 26 (.int .i64 (n:Int)) (.int .i64 (n:Int))).run Tryz.prog W=.ok (.slice (some ⟨W.heap.size,0,none⟩) n n) W'∧Row64 W' W.heap.size (List.replicate n 0)∧Below W.heap.size W W'∧W'.heap.size=W.heap.size+1:=by
  obtain ⟨i0,hi0,hz0,hz1,hz2⟩:=info_parts Tryz.info64
  have h:=run_make (P:=Tryz.prog) W 26 2 i0 (.int .i64 0) Tryz.underlying26 hi0 hz0 .i64 .i64 n n (by omega) (by omega) (by rw [hz2];omega) (by omega)
  rw [hz1] at h
  simp only [Int.toNat_natCast,Nat.mul_one] at h
  refine ⟨_,h,?_,below_new (Below.refl _ W) _,World.size_alloc ..⟩
  have e:madeCells (Value.cells (.int .i64 0)) n=(i64s (List.replicate n 0)).toArray:=by
    apply Array.ext'
    rw [show Value.cells (.int .i64 0)=#[.int .i64 0] from rfl,toList_madeCells_one]
    simp [i64s]
  have r:=heap_alloc_new W (.cells (i64s (List.replicate n 0)).toArray 2)
  rw [← e] at r
  rw [e] at r ⊢
  exact r
theorem strs_at (l:List (List UInt8 × Int)) (j:Nat) (h:j < l.length):(strs l)[j]?=some (.string (tx (l.getD j ([],0)).1)):=by simp [strs,List.getD_eq_getElem?_getD,h]
theorem set_farK {w:World} {g k b o:Nat} {v u:Value} (h:w.cell? ⟨b,o,none⟩=some u) (hne:b ≠ g):(w.setCell ⟨g,k,none⟩ v).cell? ⟨b,o,none⟩=some u :=
  (World.cell?_of_block (w:=w) (a:=⟨b,o,none⟩) (Below.heap_setCell _ _ _ _ (fun e=>hne e))).trans h
/-- While numbers are written. -/
structure PnR (w wr:World) (L:List Int) (j:Nat):Prop where
  row:Row64 wr w.heap.size (part L j)
  sz:w.heap.size < wr.heap.size
  kb:Below w.heap.size w wr
theorem PnR.next {w wr W:World} {L:List Int} {j:Nat} (h:PnR w wr L j) (hj:j < L.length) (k:Below wr.heap.size wr W) {x:Int} (hx:x=L.getD j 0):PnR w (W.setCell ⟨w.heap.size,j,none⟩ (.int .i64 x)) L (j+1):=by
  have r:Row64 W w.heap.size (part L j):=(k.block _ h.sz).trans h.row
  have s:w.heap.size < W.heap.size:=Nat.lt_of_lt_of_le h.sz k.size
  subst hx
  refine ⟨?_,by simpa using s,?_⟩
  · show _=_
    rw [set_row r,← i64s_set,part_next L j hj]
  · exact ((h.kb.trans (k.mono h.kb.size)).trans (((Turn.refl w.heap.size W).set j _).below (Nat.le_refl _) (Nat.le_of_lt s)))
theorem pnum_rest (k:Nat) (l:List (List UInt8 × Int)) (gv:List Int) (n:Nat) (hn:gv.length≤n) (j:Nat) (hj:n≤j):(pnum k l gv).getD j 0=0:=by
  by_cases h:j < l.length
  · rw [pnum_at k l gv j h,show gv.getD j 0=0 by rw [List.getD_eq_getElem?_getD,List.getElem?_eq_none (show gv.length≤j by omega)];rfl]
    exact wkd_0 _
  · rw [List.getD_eq_getElem?_getD,List.getElem?_eq_none (by rw [pnum_len];omega)]
    rfl
set_option maxHeartbeats 1600000 in
theorem pinNumbers_more (k:Nat) (hk:k < 10) (l:List (List UInt8 × Int)) (gv:List Int) (ga:Option Addr) (gn gc:Nat) (b pn pc:Nat) (w:World) (hpn:pn=l.length) (hpn9:pn≤8) (hL:Lies w b 0 (strs l)) (hgn:gn=gv.length) (hg9:gn≤9223372036854775807) (hG:Sl w (.slice ga gn gc) (i64s gv)) (hc:pn≤gn) :
    Calls Tryz.prog 107 #[.string (nm k),.slice (some ⟨b,0,none⟩) pn pc,.slice ga gn gc] w fun e w'=>e=.returned (.slice (some ⟨w.heap.size,0,none⟩) pn pn)∧Row64 w' w.heap.size (pnum k l gv)∧Below w.heap.size w w':=by
  obtain ⟨W0,hrun,hrow,hB,hsz⟩:=mk_run w pn (by omega)
  have L:=hid_as hL
  have G:=hid_as hG
  have HP:=hid_as hpn
  have HG:=hid_as hgn
  have P0:Hid (PnR w W0 (pnum k l gv) 0):=⟨by rw [part_zero,pnum_len,← hpn];exact hrow,by omega,hB⟩
  have FIN:Hid (part (pnum k l gv) pn=pnum k l gv):=part_all _ _ (by rw [pnum_len];omega)
  have ci:(pn:Int)≤(gn:Int):=by omega
  clear hL hG hpn hgn hrow hB hsz
  go_enter Tryz.func107,Tryz.ntmps107
  go_wp2
  go_loopw [17] (fun i wr=>∃ j:Nat,j≤pn∧i=.int .i64 j∧PnR w wr (pnum k l gv) j) (fun i _=>pn - (intOf i).toNat)
  case atStart=>exact ⟨0,by omega,rfl,P0.out⟩
  case round =>
    obtain ⟨j,hj,rfl,hP⟩:=hrel
    have P:=hid_as hP
    clear hP P0
    by_cases hjn:j < pn
    · have hj2:(j:Int) < (pn:Int):=by omega
      have hj3:j < pn:=by omega
      have hj3':(j:Int) < (pn:Int):=by omega
      have hj4:j < gn:=by omega
      have hj4':(j:Int) < (gn:Int):=by omega
      have hjl:j < l.length:=by rw [← HP.out];exact hj3
      have hjp:j < (pnum k l gv).length:=by rw [pnum_len];exact hjl
      obtain ⟨ga',go',rfl,cG⟩:=sl64_at G.out (k:=j) (by rw [← HG.out];exact hj4)
      have cS:=L.out j _ (strs_at l j hjl)
      rw [Nat.zero_add] at cS
      have ltG:ga' < w.heap.size:=lt_of_cell cG
      have ltS:b < w.heap.size:=lt_of_cell cS
      have PA:=hid_as (pnum_at k l gv j hjl)
      generalize (l.getD j ([],0)).1=q at *
      generalize gv.getD j 0=x at *
      have CA:=hid_as (fun W (h:Below wr.heap.size wr W)=>(⟨(h.cell (p:=⟨b,j,none⟩) (by have:=P.out.sz;simp;omega)).trans ((P.out.kb.cell (p:=⟨b,j,none⟩) ltS).trans cS),(h.cell (p:=⟨ga',go'+j,none⟩) (by have:=P.out.sz;simp;omega)).trans ((P.out.kb.cell (p:=⟨ga',go'+j,none⟩) ltG).trans cG)⟩:W.cell? ⟨b,j,none⟩=some (.string (tx q))∧W.cell? ⟨ga',go'+j,none⟩=some (.int .i64 x)))
      have CB:=hid_as (fun W (h:Below wr.heap.size wr W)=>(⟨⟨_,cell_row ((h.block _ P.out.sz).trans P.out.row) (i64s_at _ j (by rw [part_len];exact hjp))⟩,frozen_row ((h.block _ P.out.sz).trans P.out.row)⟩:(∃ z,W.cell? ⟨w.heap.size,j,none⟩=some (.int .i64 z))∧W.frozen? ⟨w.heap.size,j,none⟩=false))
      have NX:=hid_as (fun W (h:Below wr.heap.size wr W)=>P.out.next hjp h PA.out.symm)
      have PN:=hid_as (fun W=>pin_c k hk q W)
      have WR:=hid_as (fun W=>wrap_c (kdf q (pI k ++ pO k)) x W)
      have hne1:b ≠ w.heap.size:=by omega
      have hne2:ga' ≠ w.heap.size:=by omega
      generalize wkd (kdf q (pI k ++ pO k)) x=y at *
      generalize kdf q (pI k ++ pO k)=kd at *
      clear cG cS PA L G
      go_upto_region 5 with fail
      go_region_held3 (fun W=>W.cell? ⟨b,j,none⟩=some (.string (tx q))∧W.cell? ⟨ga',go'+j,none⟩=some (.int .i64 x)) (first | exact CA.out _ (Same.trans (Same.drewN _ _) (Same.drew _)).below | exact CA.out _ (Same.drewN _ _).below | exact CA.out _ (Same.drew _).below | exact CA.out _ (Below.refl _ _) | exact c3z | exact ⟨set_farK c3z.1 hne1,set_farK c3z.2 hne2⟩) (first | (go_at_call 129;(with_reducible refine (PN.out _).mono ?_);rintro e w3 ⟨rfl,b3⟩;have b4:=(Same.drew wr).below.trans (b3.mono (Nat.le_refl _));have c3z:=CA.out _ b4;obtain ⟨⟨z,cz⟩,cf⟩:=CB.out _ b4) | (go_at_call 108;(with_reducible refine (WR.out _).mono ?_);rintro e w4 ⟨rfl,hw⟩;subst w4))
      go_wp2
      go_roundw
      case rel=>exact ⟨j+1,by omega,by go_num,NX.out _ b4⟩
      case measure=>simp [intOf];omega
    · obtain rfl:j=pn:=by omega
      go_wp2
      go_ret
      refine ⟨rfl,?_,P.out.kb⟩
      have:=P.out.row
      rwa [FIN.out] at this
set_option maxHeartbeats 1600000 in
theorem pinNumbers_less (k:Nat) (hk:k < 10) (l:List (List UInt8 × Int)) (gv:List Int) (ga:Option Addr) (gn gc:Nat) (b pn pc:Nat) (w:World) (hpn:pn=l.length) (hpn9:pn≤8) (hL:Lies w b 0 (strs l)) (hgn:gn=gv.length) (hg9:gn≤9223372036854775807) (hG:Sl w (.slice ga gn gc) (i64s gv)) (hc:gn < pn) :
    Calls Tryz.prog 107 #[.string (nm k),.slice (some ⟨b,0,none⟩) pn pc,.slice ga gn gc] w fun e w'=>e=.returned (.slice (some ⟨w.heap.size,0,none⟩) pn pn)∧Row64 w' w.heap.size (pnum k l gv)∧Below w.heap.size w w':=by
  obtain ⟨W0,hrun,hrow,hB,hsz⟩:=mk_run w pn (by omega)
  have L:=hid_as hL
  have G:=hid_as hG
  have HP:=hid_as hpn
  have HG:=hid_as hgn
  have P0:Hid (PnR w W0 (pnum k l gv) 0):=⟨by rw [part_zero,pnum_len,← hpn];exact hrow,by omega,hB⟩
  have FIN:Hid (part (pnum k l gv) gn=pnum k l gv):=part_rest _ _ (pnum_rest k l gv gn (by omega))
  have ci:¬ (pn:Int)≤(gn:Int):=by omega
  clear hL hG hpn hgn hrow hB hsz
  go_enter Tryz.func107,Tryz.ntmps107
  go_wp2
  go_loopw [17] (fun i wr=>∃ j:Nat,j≤gn∧i=.int .i64 j∧PnR w wr (pnum k l gv) j) (fun i _=>gn - (intOf i).toNat)
  case atStart=>exact ⟨0,by omega,rfl,P0.out⟩
  case round =>
    obtain ⟨j,hj,rfl,hP⟩:=hrel
    have P:=hid_as hP
    clear hP P0
    by_cases hjn:j < gn
    · have hj2:(j:Int) < (gn:Int):=by omega
      have hj3:j < pn:=by omega
      have hj3':(j:Int) < (pn:Int):=by omega
      have hj4:j < gn:=by omega
      have hj4':(j:Int) < (gn:Int):=by omega
      have hjl:j < l.length:=by rw [← HP.out];exact hj3
      have hjp:j < (pnum k l gv).length:=by rw [pnum_len];exact hjl
      obtain ⟨ga',go',rfl,cG⟩:=sl64_at G.out (k:=j) (by rw [← HG.out];exact hj4)
      have cS:=L.out j _ (strs_at l j hjl)
      rw [Nat.zero_add] at cS
      have ltG:ga' < w.heap.size:=lt_of_cell cG
      have ltS:b < w.heap.size:=lt_of_cell cS
      have PA:=hid_as (pnum_at k l gv j hjl)
      generalize (l.getD j ([],0)).1=q at *
      generalize gv.getD j 0=x at *
      have CA:=hid_as (fun W (h:Below wr.heap.size wr W)=>(⟨(h.cell (p:=⟨b,j,none⟩) (by have:=P.out.sz;simp;omega)).trans ((P.out.kb.cell (p:=⟨b,j,none⟩) ltS).trans cS),(h.cell (p:=⟨ga',go'+j,none⟩) (by have:=P.out.sz;simp;omega)).trans ((P.out.kb.cell (p:=⟨ga',go'+j,none⟩) ltG).trans cG)⟩:W.cell? ⟨b,j,none⟩=some (.string (tx q))∧W.cell? ⟨ga',go'+j,none⟩=some (.int .i64 x)))
      have CB:=hid_as (fun W (h:Below wr.heap.size wr W)=>(⟨⟨_,cell_row ((h.block _ P.out.sz).trans P.out.row) (i64s_at _ j (by rw [part_len];exact hjp))⟩,frozen_row ((h.block _ P.out.sz).trans P.out.row)⟩:(∃ z,W.cell? ⟨w.heap.size,j,none⟩=some (.int .i64 z))∧W.frozen? ⟨w.heap.size,j,none⟩=false))
      have NX:=hid_as (fun W (h:Below wr.heap.size wr W)=>P.out.next hjp h PA.out.symm)
      have PN:=hid_as (fun W=>pin_c k hk q W)
      have WR:=hid_as (fun W=>wrap_c (kdf q (pI k ++ pO k)) x W)
      have hne1:b ≠ w.heap.size:=by omega
      have hne2:ga' ≠ w.heap.size:=by omega
      generalize wkd (kdf q (pI k ++ pO k)) x=y at *
      generalize kdf q (pI k ++ pO k)=kd at *
      clear cG cS PA L G
      go_upto_region 5 with fail
      go_region_held3 (fun W=>W.cell? ⟨b,j,none⟩=some (.string (tx q))∧W.cell? ⟨ga',go'+j,none⟩=some (.int .i64 x)) (first | exact CA.out _ (Same.trans (Same.drewN _ _) (Same.drew _)).below | exact CA.out _ (Same.drewN _ _).below | exact CA.out _ (Same.drew _).below | exact CA.out _ (Below.refl _ _) | exact c3z | exact ⟨set_farK c3z.1 hne1,set_farK c3z.2 hne2⟩) (first | (go_at_call 129;(with_reducible refine (PN.out _).mono ?_);rintro e w3 ⟨rfl,b3⟩;have b4:=(Same.drew wr).below.trans (b3.mono (Nat.le_refl _));have c3z:=CA.out _ b4;obtain ⟨⟨z,cz⟩,cf⟩:=CB.out _ b4) | (go_at_call 108;(with_reducible refine (WR.out _).mono ?_);rintro e w4 ⟨rfl,hw⟩;subst w4))
      go_wp2
      go_roundw
      case rel=>exact ⟨j+1,by omega,by go_num,NX.out _ b4⟩
      case measure=>simp [intOf];omega
    · obtain rfl:j=gn:=by omega
      go_wp2
      go_ret
      refine ⟨rfl,?_,P.out.kb⟩
      have:=P.out.row
      rwa [FIN.out] at this
theorem pinNumbers_c (k:Nat) (hk:k < 10) (l:List (List UInt8 × Int)) (gv:List Int) (ga:Option Addr) (gn gc:Nat) (b pn pc:Nat) (w:World) (hpn:pn=l.length) (hpn9:pn≤8) (hL:Lies w b 0 (strs l)) (hgn:gn=gv.length) (hg9:gn≤9223372036854775807) (hG:Sl w (.slice ga gn gc) (i64s gv)) :
    Calls Tryz.prog 107 #[.string (nm k),.slice (some ⟨b,0,none⟩) pn pc,.slice ga gn gc] w fun e w'=>e=.returned (.slice (some ⟨w.heap.size,0,none⟩) pn pn)∧Row64 w' w.heap.size (pnum k l gv)∧Below w.heap.size w w':=by
  by_cases hc:pn≤gn
  · exact pinNumbers_more k hk l gv ga gn gc b pn pc w hpn hpn9 hL hgn hg9 hG hc
  · exact pinNumbers_less k hk l gv ga gn gc b pn pc w hpn hpn9 hL hgn hg9 hG (by omega)
end Go.Proofs.YthjclogkcmomkaaGreatDoor
namespace Go.Proofs.YthjclogkcmomkaaGreatDoor
open Go.RowKit
open Fb
/-- Any number with the lowest bits kept: the number modulo two to their count. -/
theorem and_mask (n:Int) (j:Nat) (hj:j < 63):bits .and .i64 n (2 ^ j - 1)=n % 2 ^ j:=by
  show IntKind.i64.wrap ((BitVec.ofInt 64 n &&& BitVec.ofInt 64 (2 ^ j - 1)).toNat:Int)=_
  have hp:(2:Nat) ^ j < 2 ^ 63:=Nat.pow_lt_pow_of_lt (by decide) hj
  have hq:0 < (2:Nat) ^ j:=Nat.two_pow_pos _
  have e1:((2:Int) ^ j - 1)=((2 ^ j - 1:Nat):Int):=by
    rw [Int.natCast_sub hq];simp
  have h2:(BitVec.ofInt 64 ((2:Int) ^ j - 1)).toNat=2 ^ j - 1:=by
    rw [e1,BitVec.ofInt_natCast,BitVec.toNat_ofNat];exact Nat.mod_eq_of_lt (by omega)
  rw [BitVec.toNat_and,h2,Nat.and_two_pow_sub_one_eq_mod,BitVec.toNat_ofInt]
  have h3:(n % ((2 ^ 64:Nat):Int)).toNat % 2 ^ j=(n % 2 ^ j).toNat:=by
    have hd:((2:Int) ^ j) ∣ ((2 ^ 64:Nat):Int):=by
      exact ⟨2 ^ (64 - j),by rw [← Int.pow_add,show j+(64 - j)=64 by omega];rfl⟩
    have hn:0≤n % ((2 ^ 64:Nat):Int):=Int.emod_nonneg _ (by decide)
    have hpz:((2 ^ j:Nat):Int)=(2:Int) ^ j:=by simp
    have:(((n % ((2 ^ 64:Nat):Int)).toNat % 2 ^ j:Nat):Int)=n % 2 ^ j:=by
      rw [Int.natCast_emod,Int.toNat_of_nonneg hn,hpz,Int.emod_emod_of_dvd _ hd]
    rw [← this,Int.toNat_natCast]
  rw [h3]
  have hz:(0:Int) < 2 ^ j:=Int.pow_pos (by decide)
  have h4:0≤n % 2 ^ j:=Int.emod_nonneg _ (by omega)
  have h5:n % 2 ^ j < 2 ^ j:=Int.emod_lt_of_pos _ hz
  have h6:(2:Int) ^ j < 9223372036854775808:=by
    have:((2 ^ j:Nat):Int) < ((2 ^ 63:Nat):Int):=Int.ofNat_lt.2 hp
    simpa using this
  rw [Int.toNat_of_nonneg h4,IntKind.wrap_i64]
  omega
theorem and16 (n:Int):bits .and .i64 n 65535=n % 65536:=and_mask n 16 (by decide)
theorem and32 (n:Int):bits .and .i64 n 4294967295=n % 4294967296:=and_mask n 32 (by decide)
theorem down16 (n:Int) (h:32767 < n % 65536):n % 65536 - 65536=w16 n:=by unfold w16;omega
theorem down32 (n:Int) (h:2147483647 < n % 4294967296):n % 4294967296 - 4294967296=w32 n:=by unfold w32;omega
theorem stay16 (n:Int) (h:¬ 32767 < n % 65536):n % 65536=w16 n:=by unfold w16;omega
theorem stay32 (n:Int) (h:¬ 2147483647 < n % 4294967296):n % 4294967296=w32 n:=by unfold w32;omega
theorem below_drew {B:Nat} {a w:World} (h:Below B a w):Below B a w.drew:=⟨h.os,h.tape,h.output,h.size,h.block⟩
set_option maxHeartbeats 1000000 in
theorem rwidth_3 (w:World):Calls Tryz.prog 38 #[.int .i64 3] w fun e w'=>e=.returned (.int .i64 16)∧Below w.heap.size w w':=by
  go_enter Tryz.func38,Tryz.ntmps38
  go_wp2
  go_ret
  exact ⟨rfl,below_new (Below.refl _ _) _⟩
set_option maxHeartbeats 2000000 in
theorem rrange_3 (w:World):Calls Tryz.prog 39 #[.int .i64 3] w fun e w'=>e=.returned (.tuple #[.int .i64 (-32768),.int .i64 32767])∧Below w.heap.size w w':=by
  go_enter Tryz.func39,Tryz.ntmps39
  go_wp2
  go_region
  all_goals go_wp2
  all_goals go_ret2
  all_goals exact ⟨rfl,below_drew (below_new (Below.refl _ _) _)⟩
set_option maxHeartbeats 2000000 in
theorem rwrap_3 (n:Int) (w:World):Calls Tryz.prog 19 #[.int .i64 3,.int .i64 n] w fun e w'=>e=.returned (.int .i64 (w16 n))∧Below w.heap.size w w':=by
  have e:=and16 n
  have X:=hid_as (rwidth_3 w)
  have Y:=hid_as (fun U=>rrange_3 U)
  by_cases h:32767 < n % 65536
  · go_enter Tryz.func19,Tryz.ntmps19
    go_wp2_with (first | (go_at_call 38;refine X.out.mono ?_;rintro e w1 ⟨rfl,k1⟩) | (go_at_call 39;refine (Y.out _).mono ?_;rintro e w2 ⟨rfl,k2⟩))
    go_ret
    exact ⟨ret_int (down16 n h),below_and k1 k2⟩
  · go_enter Tryz.func19,Tryz.ntmps19
    go_wp2_with (first | (go_at_call 38;refine X.out.mono ?_;rintro e w1 ⟨rfl,k1⟩) | (go_at_call 39;refine (Y.out _).mono ?_;rintro e w2 ⟨rfl,k2⟩))
    go_ret
    exact ⟨ret_int (stay16 n (by omega)),below_and k1 k2⟩
set_option maxHeartbeats 1000000 in
theorem rwidth_4 (w:World):Calls Tryz.prog 38 #[.int .i64 4] w fun e w'=>e=.returned (.int .i64 32)∧Below w.heap.size w w':=by
  go_enter Tryz.func38,Tryz.ntmps38
  go_wp2
  go_ret
  exact ⟨rfl,below_new (Below.refl _ _) _⟩
set_option maxHeartbeats 2000000 in
theorem rrange_4 (w:World):Calls Tryz.prog 39 #[.int .i64 4] w fun e w'=>e=.returned (.tuple #[.int .i64 (-2147483648),.int .i64 2147483647])∧Below w.heap.size w w':=by
  go_enter Tryz.func39,Tryz.ntmps39
  go_wp2
  go_region
  all_goals go_wp2
  all_goals go_ret2
  all_goals exact ⟨rfl,below_drew (below_new (Below.refl _ _) _)⟩
set_option maxHeartbeats 2000000 in
theorem rwrap_4 (n:Int) (w:World):Calls Tryz.prog 19 #[.int .i64 4,.int .i64 n] w fun e w'=>e=.returned (.int .i64 (w32 n))∧Below w.heap.size w w':=by
  have e:=and32 n
  have X:=hid_as (rwidth_4 w)
  have Y:=hid_as (fun U=>rrange_4 U)
  by_cases h:2147483647 < n % 4294967296
  · go_enter Tryz.func19,Tryz.ntmps19
    go_wp2_with (first | (go_at_call 38;refine X.out.mono ?_;rintro e w1 ⟨rfl,k1⟩) | (go_at_call 39;refine (Y.out _).mono ?_;rintro e w2 ⟨rfl,k2⟩))
    go_ret
    exact ⟨ret_int (down32 n h),below_and k1 k2⟩
  · go_enter Tryz.func19,Tryz.ntmps19
    go_wp2_with (first | (go_at_call 38;refine X.out.mono ?_;rintro e w1 ⟨rfl,k1⟩) | (go_at_call 39;refine (Y.out _).mono ?_;rintro e w2 ⟨rfl,k2⟩))
    go_ret
    exact ⟨ret_int (stay32 n (by omega)),below_and k1 k2⟩
set_option maxHeartbeats 1000000 in
theorem rwidth_11 (w:World):Calls Tryz.prog 38 #[.int .i64 11] w fun e w'=>e=.returned (.int .i64 32)∧Below w.heap.size w w':=by
  go_enter Tryz.func38,Tryz.ntmps38
  go_wp2
  go_ret
  exact ⟨rfl,below_new (Below.refl _ _) _⟩
set_option maxHeartbeats 2000000 in
theorem rrange_11 (w:World):Calls Tryz.prog 39 #[.int .i64 11] w fun e w'=>e=.returned (.tuple #[.int .i64 (-2147483648),.int .i64 2147483647])∧Below w.heap.size w w':=by
  go_enter Tryz.func39,Tryz.ntmps39
  go_wp2
  go_region
  all_goals go_wp2
  all_goals go_ret2
  all_goals exact ⟨rfl,below_drew (below_new (Below.refl _ _) _)⟩
set_option maxHeartbeats 2000000 in
theorem rwrap_11 (n:Int) (w:World):Calls Tryz.prog 19 #[.int .i64 11,.int .i64 n] w fun e w'=>e=.returned (.int .i64 (w32 n))∧Below w.heap.size w w':=by
  have e:=and32 n
  have X:=hid_as (rwidth_11 w)
  have Y:=hid_as (fun U=>rrange_11 U)
  by_cases h:2147483647 < n % 4294967296
  · go_enter Tryz.func19,Tryz.ntmps19
    go_wp2_with (first | (go_at_call 38;refine X.out.mono ?_;rintro e w1 ⟨rfl,k1⟩) | (go_at_call 39;refine (Y.out _).mono ?_;rintro e w2 ⟨rfl,k2⟩))
    go_ret
    exact ⟨ret_int (down32 n h),below_and k1 k2⟩
  · go_enter Tryz.func19,Tryz.ntmps19
    go_wp2_with (first | (go_at_call 38;refine X.out.mono ?_;rintro e w1 ⟨rfl,k1⟩) | (go_at_call 39;refine (Y.out _).mono ?_;rintro e w2 ⟨rfl,k2⟩))
    go_ret
    exact ⟨ret_int (stay32 n (by omega)),below_and k1 k2⟩
end Go.Proofs.YthjclogkcmomkaaGreatDoor
