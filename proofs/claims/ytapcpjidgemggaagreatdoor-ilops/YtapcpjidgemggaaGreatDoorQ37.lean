/- Numbers as digits: the law's digits and hex; help's Place (stage 12, carried over). · Texts in order: the library's Sort, by its contract (stage 14). · Which operators there are (stage 14). -/
import Derived.Test.YtapcpjidgemggaaGreatDoorProg
import Derived.Shelf.Sort.Plain
import Derived.KernelRfl
import Derived.Sort.OwnSorted
import Derived.Test.YtapcpjidgemggaaGreatDoorQ1
import Derived.Test.YtapcpjidgemggaaGreatDoorQ3
import Derived.Test.YtapcpjidgemggaaGreatDoorQ18
namespace Go.Proofs.YtapcpjidgemggaaGreatDoor
open Go.RowKit
open Adr Lx
theorem tx_app (a b:List UInt8):tx a ++ tx b=tx (a ++ b):=by simp [tx,ByteArray.mk_append_mk]
/-- help's Place: the number modulo another above 0. -/
theorem hplace_c (k m:Int) (h:0 < m) (hm:m≤3000000000) (b0:-9223372036854775808≤k) (b1:k≤9223372036854775807) (w:World):Calls Tryz.prog 7 #[.int .i64 k,.int .i64 m] w fun e w'=>e=.returned (.int .i64 (k % m))∧w'=w:=by
  have hne:¬ m=0:=by omega
  have ht:Int.tmod k m=if k % m=0 ∨ 0≤k then k % m else k % m - m:=by
    by_cases hk:0≤k
    · rw [if_pos (Or.inr hk),Int.tmod_eq_emod_of_nonneg hk]
    · rw [Int.tmod_eq_emod]
      by_cases hz:k % m=0
      · rw [if_pos (Or.inl hz),if_pos (Or.inr (Int.dvd_of_emod_eq_zero hz))];omega
      · rw [if_neg (show ¬ (0≤k ∨ m ∣ k) from fun q=>q.elim hk (fun d=>hz (Int.emod_eq_zero_of_dvd d))),if_neg (show ¬ (k % m=0 ∨ 0≤k) by omega)];omega
  have r0:=Int.emod_nonneg k hne
  have r1:=Int.emod_lt_of_pos k h
  by_cases hk:k % m=0 ∨ 0≤k
  · rw [if_pos hk] at ht
    have hn:¬ Int.tmod k m < 0:=by omega
    have e:=hid_as ht
    clear ht hk
    go_enter Tryz.func7,Tryz.ntmps7
    go_wp2
    go_ret
    exact ⟨ret_int e.out,rfl⟩
  · rw [if_neg hk] at ht
    have hn:Int.tmod k m < 0:=by omega
    have e:=hid_as (show Int.tmod k m+m=k % m by omega)
    have hw:=hid_as (show wrap64 (Int.tmod k m+m)=Int.tmod k m+m by unfold wrap64;omega)
    clear ht hk
    go_enter Tryz.func7,Tryz.ntmps7
    go_wp2
    go_ret
    exact ⟨ret_int (hw.out.trans e.out),rfl⟩
end Go.Proofs.YtapcpjidgemggaaGreatDoor
namespace Go.Proofs.YtapcpjidgemggaaGreatDoor
open Go.Shelf Go.RowKit Go.Sort
/-- Which numbers of ours the library's names have. -/
def renS:Ren where
  f:=fun
    | 125=>28
    | 128=>66
    | 129=>67
    | 190=>14
    | 258=>27
    | 302=>57
    | 303=>58
    | 304=>59
    | 305=>60
    | 306=>61
    | 307=>62
    | 308=>63
    | 309=>64
    | 310=>65
    | 329=>104
    | 330=>105
    | 333=>103
    | 334=>106
    | 335=>107
    | 336=>108
    | 344=>139
    | n=>n
  t:=fun
    | 0=>0
    | 3=>3
    | 4=>4
    | 5=>5
    | 9=>9
    | 31=>23
    | 46=>86
    | 51=>141
    | 53=>143
    | 131=>138
    | 182=>133
    | 183=>134
    | 218=>179
    | 222=>183
    | 228=>204
    | 229=>46
    | n=>n
  g:=fun
    | n=>n
theorem renS_n190:Lays.n190 Tryz.prog renS where
  mixed:=by kernel_rfl
  f125:=Tryz.func28.trans (congrArg some (by kernel_rfl))
  f128:=Tryz.func66.trans (congrArg some (by kernel_rfl))
  f129:=Tryz.func67.trans (congrArg some (by kernel_rfl))
  f190:=Tryz.func14.trans (congrArg some (by kernel_rfl))
  f258:=Tryz.func27.trans (congrArg some (by kernel_rfl))
  f302:=Tryz.func57.trans (congrArg some (by kernel_rfl))
  f303:=Tryz.func58.trans (congrArg some (by kernel_rfl))
  f304:=Tryz.func59.trans (congrArg some (by kernel_rfl))
  f305:=Tryz.func60.trans (congrArg some (by kernel_rfl))
  f306:=Tryz.func61.trans (congrArg some (by kernel_rfl))
  f307:=Tryz.func62.trans (congrArg some (by kernel_rfl))
  f308:=Tryz.func63.trans (congrArg some (by kernel_rfl))
  f309:=Tryz.func64.trans (congrArg some (by kernel_rfl))
  f310:=Tryz.func65.trans (congrArg some (by kernel_rfl))
  f329:=Tryz.func104.trans (congrArg some (by kernel_rfl))
  f330:=Tryz.func105.trans (congrArg some (by kernel_rfl))
  f333:=Tryz.func103.trans (congrArg some (by kernel_rfl))
  f334:=Tryz.func106.trans (congrArg some (by kernel_rfl))
  f335:=Tryz.func107.trans (congrArg some (by kernel_rfl))
  f336:=Tryz.func108.trans (congrArg some (by kernel_rfl))
  f344:=Tryz.func139.trans (congrArg some (by kernel_rfl))
  t0:=by kernel_rfl
  a0:=fun w=>by kernel_rfl
  z0:=fun w=>by kernel_rfl
  v0:=fun w=>by kernel_rfl
  t3:=by kernel_rfl
  a3:=fun w=>by kernel_rfl
  z3:=fun w=>by kernel_rfl
  v3:=fun w=>by kernel_rfl
  t4:=by kernel_rfl
  a4:=fun w=>by kernel_rfl
  z4:=fun w=>by kernel_rfl
  v4:=fun w=>by kernel_rfl
  t5:=by kernel_rfl
  a5:=fun w=>by kernel_rfl
  z5:=fun w=>by kernel_rfl
  v5:=fun w=>by kernel_rfl
  t9:=by kernel_rfl
  a9:=fun w=>by kernel_rfl
  z9:=fun w=>by kernel_rfl
  v9:=fun w=>by kernel_rfl
  t31:=by kernel_rfl
  a31:=fun w=>by kernel_rfl
  z31:=fun w=>by kernel_rfl
  v31:=fun w=>by kernel_rfl
  t46:=by kernel_rfl
  a46:=fun w=>by kernel_rfl
  z46:=fun w=>by kernel_rfl
  v46:=fun w=>by kernel_rfl
  t51:=by kernel_rfl
  a51:=fun w=>by kernel_rfl
  z51:=fun w=>by kernel_rfl
  v51:=fun w=>by kernel_rfl
  t53:=by kernel_rfl
  a53:=fun w=>by kernel_rfl
  z53:=fun w=>by kernel_rfl
  v53:=fun w=>by kernel_rfl
  t131:=by kernel_rfl
  a131:=fun w=>by kernel_rfl
  z131:=fun w=>by kernel_rfl
  v131:=fun w=>by kernel_rfl
  t182:=by kernel_rfl
  a182:=fun w=>by kernel_rfl
  z182:=fun w=>by kernel_rfl
  v182:=fun w=>by kernel_rfl
  t183:=by kernel_rfl
  a183:=fun w=>by kernel_rfl
  z183:=fun w=>by kernel_rfl
  v183:=fun w=>by kernel_rfl
  t218:=by kernel_rfl
  a218:=fun w=>by kernel_rfl
  z218:=fun w=>by kernel_rfl
  v218:=fun w=>by kernel_rfl
  t222:=by kernel_rfl
  a222:=fun w=>by kernel_rfl
  z222:=fun w=>by kernel_rfl
  v222:=fun w=>by kernel_rfl
  t228:=by kernel_rfl
  a228:=fun w=>by kernel_rfl
  z228:=fun w=>by kernel_rfl
  v228:=fun w=>by kernel_rfl
  t229:=by kernel_rfl
  a229:=fun w=>by kernel_rfl
  z229:=fun w=>by kernel_rfl
  v229:=fun w=>by kernel_rfl
theorem sorted_c (blk cap:Nat) (ss:List (List UInt8)) (w:World) (hH:Holds encStr w blk 0 ss.toArray) (hblk:blk < w.heap.size) (hsz:ss.length < 4611686018427387904) :
    Calls Tryz.prog 14 #[.slice (some ⟨blk,0,none⟩) ss.length cap] w fun e w' =>
      e=.returned (.tuple #[])∧∃ n os,w'=grow (putRow encStr (Sort.ahead w n) blk 0 (ss.mergeSort fun x y=>decide (x≤y)).toArray) os :=
  Any.slices_Sort_string renS_n190 blk 0 cap ss w hH hblk hsz
end Go.Proofs.YtapcpjidgemggaaGreatDoor
namespace Go.Proofs.YtapcpjidgemggaaGreatDoor
open Go.RowKit Go.Sort
open Adr Lx Sx
theorem infoStr:(Tryz.prog.info? 9).map (fun i=>(i.zero,i.size,i.bytes))=some (some (.string ⟨#[]⟩),1,16):=by kernel_rfl
/-- Some texts more at the end of a row. -/
theorem push_str {base k:Nat} {W:World} {v:Value} {m:Nat} {xs:List Value} {cs:Array Value} (o:W.ownsRow base 9 1 v m xs) (hm:m+k≤1000000) (hbase:base≤W.heap.size) (hc:cs.toList.length=k) (h1:∀ u ∈ cs.toList,u.oneCell'=true) :
    ∃ v' w',(Builtin.append_ #[23,23] 23 #[v,.slice (some ⟨W.heap.size,0,none⟩) k k]).run Tryz.prog (W.alloc (.cells cs 9))=.ok v' w'∧w'.ownsRow base 9 1 v' (m+k) (xs ++ cs.toList)∧(W.alloc (.cells cs 9)).grownBy w' v.ownBlock:=by
  obtain ⟨i0,hi,hz0,hz1,hz2⟩:=info_parts infoStr
  have oA:(W.alloc (.cells cs 9)).ownsRow base 9 1 v m xs:=by
    refine ⟨o.1,?_⟩
    rcases o.2 with h' | ⟨g,cap,cur,rfl,hb,hg,r⟩
    · exact Or.inl h'
    · exact Or.inr ⟨g,cap,cur,rfl,hb,((below_new1 W (.cells cs 9)).block g (World.ownsRow.lt o g rfl).2).trans hg,r⟩
  have hF:=Bk.fresh W cs 9
  obtain ⟨v',w',hr,hown,hg,_⟩:=run_append_own_at (P:=Tryz.prog) (W.alloc (.cells cs 9)) base 23 23 9 i0 (.string ⟨#[]⟩) 1 16 Tryz.underlying23 hi hz0 hz1 hz2 rfl (by decide) v m xs oA ⟨W.heap.size,0,none⟩ k k cs.toList (by rw [hc,Nat.mul_one])
    (fun j u hj=>by rw [show (⟨W.heap.size,0,none⟩:Addr).add j=⟨W.heap.size,j,none⟩ by (simp [Addr.add];omega),hF.cell j,← Array.getElem?_toList];exact hj) h1 (by simp only [maxLen];omega) (by omega) (by rw [World.size_alloc];omega)
  exact ⟨v',w',hr,hown,hg⟩
/-- Each with a bracket behind it, too. -/
def brk (l:List (List UInt8)):List (List UInt8):=l.flatMap fun z=>[z,z ++ [40]]
theorem brk_snoc (l:List (List UInt8)) (z:List UInt8):brk (l ++ [z])=brk l ++ [z,z ++ [40]]:=by simp [brk]
set_option maxHeartbeats 2000000 in
set_option maxRecDepth 100000 in
theorem bracketed_c (b:Nat) (zs:List (List UInt8)) (w:World) (hb:b < w.heap.size) (hn:zs.length≤100) (hz:∀ z ∈ zs,z.length≤100) (hc:∀ j z,zs[j]?=some z→w.cell? ⟨b,j,none⟩=some (.string (tx z))) (cp:Nat):Calls Tryz.prog 13 #[.slice (some ⟨b,0,none⟩) zs.length cp] w fun e w'=>∃ v,e=.returned v∧w'.ownsRow w.heap.size 9 1 v (2 * zs.length) ((brk zs).map encStr)∧Below w.heap.size w w':=by
  obtain ⟨n,hnn⟩:∃ n,n=zs.length:=⟨_,rfl⟩
  have hn2:n≤100:=by omega
  rw [← hnn]
  replace hnn:=hid_as hnn
  have HC:=hid_as hc
  have HZ:=hid_as hz
  clear hc hz hn
  go_enter Tryz.func13,Tryz.ntmps13
  go_wp2
  go_loopw [3,8] (fun v i wr=>∃ k:Nat,k≤n∧i=.int .i64 k∧Hid (Below w.heap.size w wr)∧Hid (wr.ownsRow w.heap.size 9 1 v (2 * k) ((brk (zs.take k)).map encStr))) (fun _ i _=>n - (intOf i).toNat)
  case atStart=>exact ⟨0,by omega,rfl,hid_as (Below.refl _ _),hid_as (World.ownsRow_nil _ _ _ _)⟩
  case round =>
    obtain ⟨k,hk,rfl,K,O⟩:=hrel
    by_cases hlt:k < n
    · have hlt2:(k:Int) < n:=by omega
      have hkl:k < zs.length:=by rw [← hnn.out];exact hlt
      have c0:=(K.out.cell (p:=⟨b,k,none⟩) hb).trans (HC.out k _ (List.getElem?_eq_getElem hkl))
      have hzl:=HZ.out _ (List.getElem_mem hkl)
      have tk1:Hid (zs.take (k+1)=zs.take k ++ [zs[k]]):=hid_as (List.take_succ_eq_append_getElem hkl)
      have ap:=tx_app zs[k] [40]
      generalize zs[k]=z at *
      have hsz:(tx z).size≤100:=by rw [Lib.size_eq,tx_list];exact hzl
      have hnb:¬ 9223372036854775807 < (tx z).size+1:=by omega
      have zs:=K.out.size
      obtain ⟨v6,w6,hr6,ho6,hg6⟩:=push_str (k:=2) (cs:=#[.string (tx z),.string (tx z ++ ⟨#[40]⟩)]) O.out (by omega) zs rfl (by intro u hu;simp at hu;rcases hu with rfl | rfl <;> rfl)
      have K6:=hid_as ((K.out.alloc zs (.cells #[.string (tx z),.string (tx z ++ ⟨#[40]⟩)] 9)).grown hg6 (by rw [World.size_alloc];omega) (fun k hk=>(World.ownsRow.lt O.out k hk).1))
      replace hr6:=hid_as hr6
      replace ap:=hid_as ap
      have ho6:=hid_as ho6
      clear hg6
      go_wp2_with (at_builtin;refine Lib.wpList_append_run _ rfl _ _ _ _ rfl _ _ rfl rfl _ _ hr6.out ?_)
      go_roundw
      case rel =>
        refine ⟨k+1,by omega,by first | rfl | go_num,K6,hid_as ?_⟩
        have q:=ho6.out
        rw [tk1.out,brk_snoc,List.map_append,show 2 * (k+1)=2 * k+2 by omega]
        have e:[z,z ++ [40]].map encStr=[.string (tx z),.string (tx z ++ ⟨#[40]⟩)]:=by
          show [Value.string (tx z),Value.string (tx (z ++ [40]))]=_
          rw [← ap.out]
          rfl
        rw [e]
        exact q
      case measure=>simp [intOf];omega
    · have hlt2:¬ (k:Int) < n:=by omega
      go_wp2
      go_ret
      have ek:k=n:=by omega
      have q:=O.out
      rw [ek,List.take_of_length_le (by rw [← hnn.out];omega)] at q
      exact ⟨_,rfl,q,K.out⟩
def opsB:List (List UInt8):=[[65,68,68],[65,78,68],[65,78,68,78],[68,73,86],[69,81],[71,69],[71,84],[76,69],[76,84],[77,79,68],[77,85,76],[78,69],[79,82],[79,82,78],[83,85,66],[88,79,82],[88,79,82,78]]
def opsP:List (List UInt8):=[[41],[67,65,76],[67,65,76,67],[67,65,76,67,78],[74,77,80],[74,77,80,67],[74,77,80,67,78],[76,68],[76,68,78],[78,79,84],[82],[82,69,84],[82,69,84,67],[82,69,84,67,78],[83],[83,84],[83,84,78]]
def opsS:List (List UInt8):=[[41],[65,68,68],[65,68,68,40],[65,78,68],[65,78,68,40],[65,78,68,78],[65,78,68,78,40],[67,65,76],[67,65,76,67],[67,65,76,67,78],[68,73,86],[68,73,86,40],[69,81],[69,81,40],[71,69],[71,69,40],[71,84],[71,84,40],[74,77,80],[74,77,80,67],[74,77,80,67,78],[76,68],[76,68,78],[76,69],[76,69,40],[76,84],[76,84,40],[77,79,68],[77,79,68,40],[77,85,76],[77,85,76,40],[78,69],[78,69,40],[78,79,84],[79,82],[79,82,40],[79,82,78],[79,82,78,40],[82],[82,69,84],[82,69,84,67],[82,69,84,67,78],[83],[83,84],[83,84,78],[83,85,66],[83,85,66,40],[88,79,82],[88,79,82,40],[88,79,82,78],[88,79,82,78,40]]
theorem ops_sorted:(brk opsB ++ opsP).mergeSort (fun x y=>decide (x≤y))=opsS:=by
  have h1:=List.pairwise_mergeSort (le:=fun (x y:List UInt8)=>decide (x≤y)) (fun a b c h k=>decide_eq_true (List.le_trans (of_decide_eq_true h) (of_decide_eq_true k))) (fun a b=>by rw [Bool.or_eq_true,decide_eq_true_eq,decide_eq_true_eq];exact List.le_total a b) (brk opsB ++ opsP)
  have h2:opsS.Pairwise (fun a b=>decide (a≤b)=true):=by decide +kernel
  refine List.Perm.eq_of_pairwise (le:=fun a b=>decide (a≤b)=true) (fun a b _ _ h k=>List.le_antisymm (of_decide_eq_true h) (of_decide_eq_true k)) h1 h2 ((List.mergeSort_perm _ _).trans ?_)
  have h3:(brk opsB ++ opsP).isPerm opsS=true:=by decide +kernel
  exact List.isPerm_iff.1 h3
theorem cells_lit (w:World) (cs:Array Value) (t:TypeId) (zs:List (List UInt8)) (h:cs.toList=zs.map fun z=>.string (tx z)):∀ j z,zs[j]?=some z→(w.alloc (.cells cs t)).cell? ⟨w.heap.size,j,none⟩=some (.string (tx z)):=by
  intro j z hj
  rw [(Bk.fresh w cs t).cell j,← Array.getElem?_toList,h,List.getElem?_map,hj]
  rfl
set_option maxHeartbeats 2000000 in
set_option maxRecDepth 100000 in
theorem ops_c (w:World):Calls Tryz.prog 6 #[] w fun e w'=>∃ g cap:Nat,e=.returned (.slice (some ⟨g,0,none⟩) 51 cap)∧w'.ownsRow w.heap.size 9 1 (.slice (some ⟨g,0,none⟩) 51 cap) 51 (opsS.map encStr)∧Below w.heap.size w w':=by
  have BC:=hid_as (bracketed_c w.heap.size opsB (w.alloc (.cells #[.string ⟨#[65,68,68]⟩,.string ⟨#[65,78,68]⟩,.string ⟨#[65,78,68,78]⟩,.string ⟨#[68,73,86]⟩,.string ⟨#[69,81]⟩,.string ⟨#[71,69]⟩,.string ⟨#[71,84]⟩,.string ⟨#[76,69]⟩,.string ⟨#[76,84]⟩,.string ⟨#[77,79,68]⟩,.string ⟨#[77,85,76]⟩,.string ⟨#[78,69]⟩,.string ⟨#[79,82]⟩,.string ⟨#[79,82,78]⟩,.string ⟨#[83,85,66]⟩,.string ⟨#[88,79,82]⟩,.string ⟨#[88,79,82,78]⟩] 9)) (by rw [World.size_alloc];omega) (by decide) (by decide) (cells_lit w _ _ _ rfl) 17)
  have K0:=hid_as (below_new1 w (.cells #[.string ⟨#[65,68,68]⟩,.string ⟨#[65,78,68]⟩,.string ⟨#[65,78,68,78]⟩,.string ⟨#[68,73,86]⟩,.string ⟨#[69,81]⟩,.string ⟨#[71,69]⟩,.string ⟨#[71,84]⟩,.string ⟨#[76,69]⟩,.string ⟨#[76,84]⟩,.string ⟨#[77,79,68]⟩,.string ⟨#[77,85,76]⟩,.string ⟨#[78,69]⟩,.string ⟨#[79,82]⟩,.string ⟨#[79,82,78]⟩,.string ⟨#[83,85,66]⟩,.string ⟨#[88,79,82]⟩,.string ⟨#[88,79,82,78]⟩] 9))
  rw [show opsB.length=17 from rfl,World.size_alloc] at BC
  go_enter Tryz.func6,Tryz.ntmps6
  go_upto_region 2 with (go_at_call 13;(with_reducible refine BC.out.mono ?_);rintro e w1 ⟨v1,rfl,o1,b1⟩;have O1:=hid_as o1;have z1:=b1.size;rw [World.size_alloc] at z1;have K1:=hid_as (below_and K0.out (b1.mono (by rw [World.size_alloc];omega)));clear o1 b1)
  obtain ⟨v2,w2,hr2,ho2,hg2⟩:=push_str (k:=17) (cs:=#[.string ⟨#[41]⟩,.string ⟨#[67,65,76]⟩,.string ⟨#[67,65,76,67]⟩,.string ⟨#[67,65,76,67,78]⟩,.string ⟨#[74,77,80]⟩,.string ⟨#[74,77,80,67]⟩,.string ⟨#[74,77,80,67,78]⟩,.string ⟨#[76,68]⟩,.string ⟨#[76,68,78]⟩,.string ⟨#[78,79,84]⟩,.string ⟨#[82]⟩,.string ⟨#[82,69,84]⟩,.string ⟨#[82,69,84,67]⟩,.string ⟨#[82,69,84,67,78]⟩,.string ⟨#[83]⟩,.string ⟨#[83,84]⟩,.string ⟨#[83,84,78]⟩]) O1.out (by omega) z1 rfl (by intro u hu;simp at hu;rcases hu with rfl | rfl | rfl | rfl | rfl | rfl | rfl | rfl | rfl | rfl | rfl | rfl | rfl | rfl | rfl | rfl | rfl <;> rfl)
  have ho2:w2.ownsRow (w.heap.size+1) 9 1 v2 51 ((brk opsB ++ opsP).map encStr):=by
    rw [List.map_append]
    exact ho2
  have K2:=hid_as (((K1.out.alloc (by omega) (.cells #[.string ⟨#[41]⟩,.string ⟨#[67,65,76]⟩,.string ⟨#[67,65,76,67]⟩,.string ⟨#[67,65,76,67,78]⟩,.string ⟨#[74,77,80]⟩,.string ⟨#[74,77,80,67]⟩,.string ⟨#[74,77,80,67,78]⟩,.string ⟨#[76,68]⟩,.string ⟨#[76,68,78]⟩,.string ⟨#[78,79,84]⟩,.string ⟨#[82]⟩,.string ⟨#[82,69,84]⟩,.string ⟨#[82,69,84,67]⟩,.string ⟨#[82,69,84,67,78]⟩,.string ⟨#[83]⟩,.string ⟨#[83,84]⟩,.string ⟨#[83,84,78]⟩] 9)).grown hg2 (by rw [World.size_alloc];omega) (fun k hk=>by have:=(World.ownsRow.lt O1.out k hk).1;omega)))
  replace hr2:=hid_as hr2
  clear hg2
  go_upto_region 3 with (at_builtin;refine Lib.wpList_append_run _ rfl _ _ _ _ rfl _ _ rfl rfl _ _ hr2.out ?_)
  clear hr2 O1 K1 BC
  obtain ⟨hx,⟨_,h0⟩ | ⟨g,cap,cur,rfl,hbase,hb,h1,h2,h3,h4⟩⟩:=ho2
  · omega
  have hgl:=(Array.getElem?_eq_some_iff.1 hb).1
  have SC:Hid (Calls Tryz.prog 14 #[.slice (some ⟨g,0,none⟩) 51 cap] w2 fun e w'=>e=.returned (.tuple #[])∧∃ n os,w'=grow (putRow encStr (Sort.ahead w2 n) g 0 opsS.toArray) os):=by
    have q:=sorted_c g cap (brk opsB ++ opsP) w2 (holds_of_block hb (by rw [Nat.mul_one] at h4;exact h4)) hgl (by decide)
    rw [ops_sorted] at q
    exact hid_as q
  have OW:Hid (∀ n os,(grow (putRow encStr (Sort.ahead w2 n) g 0 opsS.toArray) os).ownsRow w.heap.size 9 1 (.slice (some ⟨g,0,none⟩) 51 cap) 51 (opsS.map encStr)):=hid_as fun n os=>ownsRow_sorted (ss:=brk opsB ++ opsP) (ts:=opsS) rfl (by omega) hb h1 h2 h3
  have KW:Hid (∀ n os,Below w.heap.size w (grow (putRow encStr (Sort.ahead w2 n) g 0 opsS.toArray) os)):=hid_as fun n os=>K2.out.grown (grownBy_sorted _) (by omega) (fun k hk=>by obtain rfl:=Option.some.inj hk;omega)
  clear hb h1 h2 h3 h4 hx
  go_wp2_with (go_at_call 14;(with_reducible refine SC.out.mono ?_);rintro e w3 ⟨rfl,n3,os3,e3⟩;replace e3:=hid_as e3)
  go_ret
  rw [e3.out]
  exact ⟨g,cap,rfl,OW.out n3 os3,KW.out n3 os3⟩
end Go.Proofs.YtapcpjidgemggaaGreatDoor
