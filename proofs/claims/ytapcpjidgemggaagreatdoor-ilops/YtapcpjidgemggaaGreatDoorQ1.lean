/- Numbers of at most three digits, in plain mathematics (stage 12, carried over). · Numbers of at most three digits: the project's readNumber, the reference's number, of any text (stage 12, carried over). · Where the end of a comment stands: the library's Index, by its contract (stage 12, carried over). · Texts cut at a head and at a point: the library's CutPrefix and Cut (stage 12, carried over). · The table of areas, in plain mathematics and in memory; Size, has (stage 12, carried over). · What stands behind an area's name: the project's readPlace; Parse (stage 12, carried over). · Parse, of any text that isn't too long (stage 12, carried over). · What a text's tokens are, in plain mathematics (stage 12, carried over). · The tables in memory (stage 12, carried over). -/
import Derived.Test.YtapcpjidgemggaaGreatDoorProg
import Derived.WalkKit
import Derived.WalkSpells
import Derived.WalkLawsBesides
import Derived.Lib.Strings
import Derived.Lib.Bytealg
import Derived.Lib.Walk
import Derived.Shelf.Strings.Search2
import Derived.KernelRfl
import Derived.Deep.QuietTactic
import Derived.BigQuiet
import Derived.Lib.Index
namespace Go.Proofs.YtapcpjidgemggaaGreatDoor
open Go.RowKit
namespace Adr
/-- A digit's sign. -/
def dgt (c:UInt8):Bool:=decide (48≤c.toNat) && decide (c.toNat≤57)
/-- The number that these digits write. -/
def vl:List UInt8→Nat:=List.foldl (fun n c=>10 * n+(c.toNat - 48)) 0
/-- Digits alone, one to three, with no nought ahead of others. -/
def nb (l:List UInt8):Bool:=decide (1≤l.length) && decide (l.length≤3) && (decide (l.length≤1) || !(l.head? == some 48)) && l.all dgt
def nv (l:List UInt8):Nat:=if nb l then vl l else 0
/-- The same, as one number: -1 for none. -/
def nm (l:List UInt8):Int:=if nb l then (vl l:Int) else -1
theorem val_snoc (l:List UInt8) (c:UInt8):vl (l ++ [c])=10 * vl l+(c.toNat - 48):=by simp [vl]
theorem val_lt:∀ (n:Nat) (l:List UInt8),l.length=n→l.all dgt=true→vl l < 10 ^ n
  | 0,l,h,_=>by
    obtain rfl:=List.length_eq_zero_iff.1 h
    decide
  | n+1,l,h,hd=>by
    have hne:l ≠ []:=by intro e;subst e;simp at h
    obtain ⟨q,c,rfl⟩:∃ q c,l=q ++ [c]:=⟨l.dropLast,l.getLast hne,(List.dropLast_concat_getLast hne).symm⟩
    rw [List.all_append,Bool.and_eq_true] at hd
    have hq:=val_lt n q (by simpa using h) hd.1
    have hc:c.toNat≤57:=by have:=hd.2;simp [dgt] at this;exact this.2
    rw [val_snoc,Nat.pow_succ]
    omega
theorem val_999 {l:List UInt8} (h:l.length≤3) (hd:l.all dgt=true):vl l < 1000:=by
  have:=val_lt l.length l rfl hd
  have h2:10 ^ l.length≤10 ^ 3:=Nat.pow_le_pow_right (by decide) h
  omega
theorem nb_4 {l:List UInt8} (h:3 < l.length):nb l=false:=by unfold nb;rw [decide_eq_false (p:=l.length≤3) (by omega)];simp
theorem nb_nought {l:List UInt8} (h:1 < l.length) (h0:l.head?=some 48):nb l=false:=by unfold nb;rw [decide_eq_false (p:=l.length≤1) (by omega),h0];simp
theorem nb_odd {l:List UInt8} (h:l.all dgt=false):nb l=false:=by unfold nb;rw [h];simp
theorem nb_yes {l:List UInt8} (h1:1≤l.length) (h3:l.length≤3) (h0:l.length≤1 ∨ ¬ l.head?=some 48) (hd:l.all dgt=true):nb l=true:=by
  unfold nb
  rw [decide_eq_true h1,decide_eq_true h3,hd]
  rcases h0 with h0 | h0
  · rw [decide_eq_true h0];rfl
  · rw [show (l.head? == some 48)=false from beq_eq_false_iff_ne.2 h0];simp
theorem nb_len {l:List UInt8} (h:nb l=true):1≤l.length∧l.length≤3∧l.all dgt=true:=by
  unfold nb at h
  simp only [Bool.and_eq_true,decide_eq_true_eq] at h
  exact ⟨h.1.1.1,h.1.1.2,h.2⟩
theorem nv_lt (l:List UInt8):nv l < 1000:=by
  unfold nv
  split
  · rename_i h;obtain ⟨_,h3,hd⟩:=nb_len h;exact val_999 h3 hd
  · decide
theorem nv_no {l:List UInt8} (h:nb l=false):nv l=0:=by unfold nv;rw [h];rfl
theorem nv_yes {l:List UInt8} (h:nb l=true):nv l=vl l:=by unfold nv;rw [h];rfl
theorem take_at {l:List UInt8} {k:Nat} (h:k < l.length):l.take (k+1)=l.take k ++ [l[k]]:=by rw [List.take_add_one,List.getElem?_eq_getElem h];rfl
theorem all_at {l:List UInt8} {k:Nat} (h:k < l.length) (hd:(l.take k).all dgt=true) (hc:dgt l[k]=true):(l.take (k+1)).all dgt=true:=by rw [take_at h,List.all_append,hd];simp [hc]
theorem all_odd {l:List UInt8} {k:Nat} (h:k < l.length) (hc:dgt l[k]=false):l.all dgt=false:=by
  cases e:l.all dgt with
  | false=>rfl
  | true =>
    have:=List.all_eq_true.1 e l[k] (List.getElem_mem h)
    rw [hc] at this
    cases this
theorem val_at {l:List UInt8} {k:Nat} (h:k < l.length):vl (l.take (k+1))=10 * vl (l.take k)+(l[k].toNat - 48):=by rw [take_at h,val_snoc]
end Adr
open Go.RowKit
open Adr
theorem hid_as {p:Prop} (h:p):Hid p:=h
theorem bytes_at (s:ByteArray) (k:Nat) (h:k < s.size):s[k]=s.data.toList[k]'(by rw [← Lib.size_eq];exact h):=rfl
theorem text_0 {s:ByteArray} (h:0 < s.size):(s.toList == [])=false:=by
  rw [Lib.toList_data]
  cases e:s.data.toList with
  | nil=>rw [Lib.size_eq,e] at h;simp at h
  | cons=>rfl
theorem head_at {s:ByteArray} (h:0 < s.size):s.data.toList.head?=some s[0]:=by
  rw [bytes_at s 0 h,List.head?_eq_getElem?,List.getElem?_eq_getElem]
theorem not_48 {c:UInt8} (h:¬ c.toNat=48):¬ c=48:=fun e=>h (by rw [e];rfl)
theorem is_48 {c:UInt8} (h:c.toNat=48):c=48:=UInt8.toNat_inj.1 h
theorem dgt_yes {c:UInt8} (h:48≤c.toNat) (h2:c.toNat≤57):dgt c=true:=by unfold dgt;rw [decide_eq_true h,decide_eq_true h2];rfl
theorem dgt_lo {c:UInt8} (h:c.toNat < 48):dgt c=false:=by unfold dgt;rw [decide_eq_false (p:=48≤c.toNat) (by omega)];rfl
theorem dgt_hi {c:UInt8} (h:57 < c.toNat):dgt c=false:=by unfold dgt;rw [decide_eq_false (p:=c.toNat≤57) (by omega)];simp

theorem rn_none {s:ByteArray} (h:nb s.data.toList=false):Ending.returned (.tuple #[.int .i64 0,.bool false])=.returned (.tuple #[.int .i64 (nv s.data.toList),.bool (nb s.data.toList)]):=by rw [nv_no h,h];rfl
theorem rn_some {s:ByteArray} {k:Nat} (h:nb s.data.toList=true) (hk:¬ k < s.size):Ending.returned (.tuple #[.int .i64 (vl (s.data.toList.take k)),.bool true])=.returned (.tuple #[.int .i64 (nv s.data.toList),.bool (nb s.data.toList)]):=by
  rw [List.take_of_length_le (by rw [← Lib.size_eq];omega),nv_yes h,h]

set_option maxHeartbeats 800000 in
theorem rn_0 (s:ByteArray) (w:World) (h:s=⟨#[]⟩):Calls Tryz.prog 165 #[.string s] w fun e w'=>e=.returned (.tuple #[.int .i64 (nv s.data.toList),.bool (nb s.data.toList)])∧w'=w:=by
  subst h
  go_enter Tryz.func165,Tryz.ntmps165
  go_wp2
  go_ret2
  refine ⟨?_,rfl⟩
  exact rn_none (s:=⟨#[]⟩) rfl

set_option maxHeartbeats 800000 in
theorem rn_4 (s:ByteArray) (w:World) (h:3 < s.size):Calls Tryz.prog 165 #[.string s] w fun e w'=>e=.returned (.tuple #[.int .i64 (nv s.data.toList),.bool (nb s.data.toList)])∧w'=w:=by
  have e0:=text_0 (s:=s) (by omega)
  have h0:0 < s.size:=by omega
  have h1':¬ (s.size:Int) < 1:=by omega
  have h3':(3:Int) < s.size:=by omega
  have hn:=hid_as (nb_4 (l:=s.data.toList) (by rw [← Lib.size_eq];exact h))
  go_enter Tryz.func165,Tryz.ntmps165
  go_wp2
  go_ret2
  refine ⟨?_,rfl⟩
  exact rn_none hn.out

set_option maxHeartbeats 800000 in
theorem rn_00 (s:ByteArray) (w:World) (h1:1 < s.size) (h3:s.size≤3) (h0:s[0].toNat=48):Calls Tryz.prog 165 #[.string s] w fun e w'=>e=.returned (.tuple #[.int .i64 (nv s.data.toList),.bool (nb s.data.toList)])∧w'=w:=by
  have e0:=text_0 (s:=s) (by omega)
  have hp:0 < s.size:=by omega
  have e1:((s[0].toNat:Int) == 48)=true:=by rw [beq_iff_eq];omega
  have h1':¬ (s.size:Int) < 1:=by omega
  have h3':(s.size:Int)≤3:=by omega
  have h1'':(1:Int) < s.size:=by omega
  have hn:=hid_as (nb_nought (l:=s.data.toList) (by rw [← Lib.size_eq];exact h1) (by rw [head_at hp,is_48 h0]))
  go_enter Tryz.func165,Tryz.ntmps165
  go_wp2
  go_ret2
  refine ⟨?_,rfl⟩
  exact rn_none hn.out

set_option maxHeartbeats 800000 in
theorem rn_1 (s:ByteArray) (w:World) (h1:s.size=1):Calls Tryz.prog 165 #[.string s] w fun e w'=>e=.returned (.tuple #[.int .i64 (nv s.data.toList),.bool (nb s.data.toList)])∧w'=w:=by
  have hp:0 < s.size:=by omega
  have h3:s.size≤3:=by omega
  have h1'':¬ (1:Int) < s.size:=by omega
  have hh:s.data.toList.length≤1 ∨ ¬ s.data.toList.head?=some 48:=Or.inl (by rw [← Lib.size_eq];omega)
  have e0:=text_0 hp
  have h1':¬ (s.size:Int) < 1:=by omega
  have h3':(s.size:Int)≤3:=by omega
  replace hh:=hid_as hh
  go_enter Tryz.func165,Tryz.ntmps165
  go_wp2
  go_loop [4,25] (fun n i=>∃ k:Nat,k≤s.size∧i=.int .i64 k∧n=.int .i64 (vl (s.data.toList.take k))∧Hid ((s.data.toList.take k).all dgt=true)) (fun _ i=>s.size - (intOf i).toNat)
  case atStart=>exact ⟨0,by omega,rfl,rfl,hid_as rfl⟩
  case round =>
    obtain ⟨k,hk,rfl,rfl,hd⟩:=hrel
    by_cases hlt:k < s.size
    · have hv:=val_999 (l:=s.data.toList.take k) (by rw [List.length_take];omega) hd.out
      by_cases hlo:(s[k].toNat:Int) < 48
      · go_wp2
        go_ret2
        exact ⟨rn_none (nb_odd (all_odd (k:=k) (by rw [← Lib.size_eq];exact hlt) (dgt_lo (by rw [← bytes_at s k hlt];omega)))),rfl⟩
      · by_cases hhi:57 < (s[k].toNat:Int)
        · go_wp2
          go_ret2
          exact ⟨rn_none (nb_odd (all_odd (k:=k) (by rw [← Lib.size_eq];exact hlt) (dgt_hi (by rw [← bytes_at s k hlt];omega)))),rfl⟩
        · have hda:=all_at (k:=k) (by rw [← Lib.size_eq];exact hlt) hd.out (dgt_yes (by rw [← bytes_at s k hlt];omega) (by rw [← bytes_at s k hlt];omega))
          have hva:=val_at (l:=s.data.toList) (k:=k) (by rw [← Lib.size_eq];exact hlt)
          rw [← bytes_at s k hlt] at hva
          replace hva:=hid_as hva
          replace hda:=hid_as hda
          go_wp2
          go_round
          case rel=>exact ⟨k+1,by omega,by go_num,by rw [hva.out];go_num,hda⟩
          case measure=>simp [intOf];omega
    · have hall:s.data.toList.all dgt=true:=by
        have h:=hd.out
        rw [List.take_of_length_le (by rw [← Lib.size_eq];omega)] at h
        exact h
      go_wp2
      go_ret2
      exact ⟨rn_some (nb_yes (by rw [← Lib.size_eq];omega) (by rw [← Lib.size_eq];omega) hh.out hall) hlt,rfl⟩

set_option maxHeartbeats 800000 in
theorem rn_2 (s:ByteArray) (w:World) (h1:1 < s.size) (h3:s.size≤3) (h0:¬ s[0].toNat=48):Calls Tryz.prog 165 #[.string s] w fun e w'=>e=.returned (.tuple #[.int .i64 (nv s.data.toList),.bool (nb s.data.toList)])∧w'=w:=by
  have hp:0 < s.size:=by omega
  have e1:((s[0].toNat:Int) == 48)=false:=by rw [beq_eq_false_iff_ne];omega
  have h1'':(1:Int) < s.size:=by omega
  have hh:s.data.toList.length≤1 ∨ ¬ s.data.toList.head?=some 48:=Or.inr (by rw [head_at hp];exact fun e=>not_48 h0 (Option.some.inj e))
  have e0:=text_0 hp
  have h1':¬ (s.size:Int) < 1:=by omega
  have h3':(s.size:Int)≤3:=by omega
  replace hh:=hid_as hh
  go_enter Tryz.func165,Tryz.ntmps165
  go_wp2
  go_loop [4,25] (fun n i=>∃ k:Nat,k≤s.size∧i=.int .i64 k∧n=.int .i64 (vl (s.data.toList.take k))∧Hid ((s.data.toList.take k).all dgt=true)) (fun _ i=>s.size - (intOf i).toNat)
  case atStart=>exact ⟨0,by omega,rfl,rfl,hid_as rfl⟩
  case round =>
    obtain ⟨k,hk,rfl,rfl,hd⟩:=hrel
    by_cases hlt:k < s.size
    · have hv:=val_999 (l:=s.data.toList.take k) (by rw [List.length_take];omega) hd.out
      by_cases hlo:(s[k].toNat:Int) < 48
      · go_wp2
        go_ret2
        exact ⟨rn_none (nb_odd (all_odd (k:=k) (by rw [← Lib.size_eq];exact hlt) (dgt_lo (by rw [← bytes_at s k hlt];omega)))),rfl⟩
      · by_cases hhi:57 < (s[k].toNat:Int)
        · go_wp2
          go_ret2
          exact ⟨rn_none (nb_odd (all_odd (k:=k) (by rw [← Lib.size_eq];exact hlt) (dgt_hi (by rw [← bytes_at s k hlt];omega)))),rfl⟩
        · have hda:=all_at (k:=k) (by rw [← Lib.size_eq];exact hlt) hd.out (dgt_yes (by rw [← bytes_at s k hlt];omega) (by rw [← bytes_at s k hlt];omega))
          have hva:=val_at (l:=s.data.toList) (k:=k) (by rw [← Lib.size_eq];exact hlt)
          rw [← bytes_at s k hlt] at hva
          replace hva:=hid_as hva
          replace hda:=hid_as hda
          go_wp2
          go_round
          case rel=>exact ⟨k+1,by omega,by go_num,by rw [hva.out];go_num,hda⟩
          case measure=>simp [intOf];omega
    · have hall:s.data.toList.all dgt=true:=by
        have h:=hd.out
        rw [List.take_of_length_le (by rw [← Lib.size_eq];omega)] at h
        exact h
      go_wp2
      go_ret2
      exact ⟨rn_some (nb_yes (by rw [← Lib.size_eq];omega) (by rw [← Lib.size_eq];omega) hh.out hall) hlt,rfl⟩

/-- the project's readNumber, of any text. -/
theorem rn_c (s:ByteArray) (w:World):Calls Tryz.prog 165 #[.string s] w fun e w'=>e=.returned (.tuple #[.int .i64 (nv s.data.toList),.bool (nb s.data.toList)])∧w'=w:=by
  by_cases hz:s.size=0
  · exact rn_0 s w (by cases s with | mk d=>exact congrArg ByteArray.mk (Array.eq_empty_of_size_eq_zero hz))
  · by_cases h3:3 < s.size
    · exact rn_4 s w h3
    · by_cases h1:s.size=1
      · exact rn_1 s w h1
      · by_cases h0:(s[0]'(by omega)).toNat=48
        · exact rn_00 s w (by omega) (by omega) h0
        · exact rn_2 s w (by omega) (by omega) h0

open Go.Shelf Go.RowKit
/-- Which numbers of ours the library's names have. -/
def ren:Ren where
  f:=fun
    | 217=>140
    | 219=>109
    | 224=>142
    | 225=>141
    | 266=>160
    | 267=>143
    | 314=>161
    | n=>n
  t:=fun
    | 46=>86
    | 51=>141
    | 146=>227
    | n=>n
  g:=fun
    | 1=>1
    | n=>n
theorem lies:Lays.n219 Tryz.prog ren where
  mixed:=by kernel_rfl
  f217:=Tryz.func140.trans (congrArg some (by kernel_rfl))
  f219:=Tryz.func109.trans (congrArg some (by kernel_rfl))
  f224:=Tryz.func142.trans (congrArg some (by kernel_rfl))
  f225:=Tryz.func141.trans (congrArg some (by kernel_rfl))
  f266:=Tryz.func160.trans (congrArg some (by kernel_rfl))
  f267:=Tryz.func143.trans (congrArg some (by kernel_rfl))
  f314:=Tryz.func161.trans (congrArg some (by kernel_rfl))
  t3:=by kernel_rfl
  a3:=fun w=>by kernel_rfl
  z3:=fun w=>by kernel_rfl
  v3:=fun w=>by kernel_rfl
  t4:=by kernel_rfl
  a4:=fun w=>by kernel_rfl
  z4:=fun w=>by kernel_rfl
  v4:=fun w=>by kernel_rfl
  t5:=by kernel_rfl
  a5:=fun w=>by kernel_rfl
  z5:=fun w=>by kernel_rfl
  v5:=fun w=>by kernel_rfl
  t9:=by kernel_rfl
  a9:=fun w=>by kernel_rfl
  z9:=fun w=>by kernel_rfl
  v9:=fun w=>by kernel_rfl
  t46:=by kernel_rfl
  a46:=fun w=>by kernel_rfl
  z46:=fun w=>by kernel_rfl
  v46:=fun w=>by kernel_rfl
  t51:=by kernel_rfl
  a51:=fun w=>by kernel_rfl
  z51:=fun w=>by kernel_rfl
  v51:=fun w=>by kernel_rfl
  t146:=by kernel_rfl
  a146:=fun w=>by kernel_rfl
  z146:=fun w=>by kernel_rfl
  v146:=fun w=>by kernel_rfl
  g1:=by kernel_rfl
/-- Index: where a text stands in another for the first time; -1: nowhere. -/
theorem findIn (s sub:ByteArray) (m:Int) (w:World) (hs:s.size < 4294967281) (hm:w.cell? ⟨1,0,none⟩=some (.int .i64 m)) :
    Calls Tryz.prog 109 #[.string s,.string sub] w fun e w'=>e=.returned (.int .i64 (Lib.index s.data.toList sub.data.toList))∧w'=w :=
  Any.stringslite_Index lies s sub m w hs hm
theorem findOne (s:ByteArray) (c:Int) (w:World) :
    Calls Tryz.prog 140 #[.string s,.int .u8 c] w fun e w'=>e=.returned (.int .i64 (Lib.indexByte s.data.toList c.toNat.toUInt8))∧w'=w :=
  Any.stringslite_IndexByte { lies with } s c w
theorem findOneIn (s:ByteArray) (c:UInt8) (w:World) :
    Calls Tryz.prog 109 #[.string s,.string ⟨#[c]⟩] w fun e w'=>e=.returned (.int .i64 (Lib.indexByte s.data.toList c))∧w'=w :=
  Any.stringslite_Index_one lies s c w
open Go.RowKit
open Adr
/-- Nothing but draws. -/
structure Same (w w':World):Prop where
  os:w'.os=w.os
  tape:w'.tape=w.tape
  output:w'.output=w.output
  heap:w'.heap=w.heap
theorem Same.refl (w:World):Same w w:=⟨rfl,rfl,rfl,rfl⟩
theorem Same.drewN (w:World) (d:Nat):Same w (w.drewN d):=⟨rfl,rfl,rfl,rfl⟩
theorem Same.drew (w:World):Same w w.drew:=⟨rfl,rfl,rfl,rfl⟩
theorem Same.trans {a b c:World} (h:Same a b) (k:Same b c):Same a c:=⟨k.os.trans h.os,k.tape.trans h.tape,k.output.trans h.output,k.heap.trans h.heap⟩
theorem Same.below {w w':World} (h:Same w w'):Below w.heap.size w w':=⟨h.os,h.tape,h.output,by rw [h.heap];exact Nat.le_refl _,fun j _=>by rw [h.heap]⟩
/-- A list as a text. -/
def tx (l:List UInt8):ByteArray:=⟨l.toArray⟩
theorem tx_list (l:List UInt8):(tx l).data.toList=l:=by simp [tx]
theorem tx_toList (l:List UInt8):(tx l).toList=l:=by rw [Lib.toList_data,tx_list]
theorem tx_size (l:List UInt8):(tx l).size=l.length:=by rw [Lib.size_eq,tx_list]
theorem tx_of (s:ByteArray):tx s.data.toList=s:=Lib.mk_data s
theorem tx_extract (s:ByteArray) (a b:Nat):s.extract a b=tx ((s.data.toList.drop a).take (b - a)):=Lib.extract_eq s a b
theorem tx_drop (s:ByteArray) (a:Nat):s.extract a s.size=tx (s.data.toList.drop a):=by
  rw [tx_extract,List.take_of_length_le]
  rw [List.length_drop,← Lib.size_eq]
  exact Nat.le_refl _
theorem tx_take (s:ByteArray) (a:Nat):s.extract 0 a=tx (s.data.toList.take a):=by rw [tx_extract];rfl
/-- Where the first point stands; how many signs there are, where there is none. -/
def dot:List UInt8→Nat
  | []=>0
  | b :: l=>if b == 46 then 0 else dot l+1
theorem dot_le:∀ (l:List UInt8),dot l≤l.length
  | []=>Nat.le_refl _
  | b :: l=>by
    have:=dot_le l
    unfold dot
    rw [List.length_cons]
    split <;> omega
theorem index_dot:∀ (l:List UInt8),Lib.indexByte l 46=if dot l < l.length then (dot l:Int) else -1
  | []=>rfl
  | b :: l=>by
    have ih:=index_dot l
    unfold Lib.indexByte dot
    rw [List.length_cons]
    by_cases hb:(b == 46)=true
    · rw [if_pos hb,if_pos hb,if_pos (by omega)];rfl
    · rw [if_neg hb,if_neg hb,ih]
      by_cases h:dot l < l.length
      · rw [if_pos h,if_neg (show ¬ (((dot l:Int) == -1)=true) by simp),if_pos (by omega)];omega
      · rw [if_neg h,if_pos (by rfl),if_neg (by omega)]
theorem index_c (s:ByteArray) (w:World):Calls Tryz.prog 109 #[.string s,.string ⟨#[46]⟩] w fun e w'=>e=.returned (.int .i64 (Lib.indexByte s.data.toList 46))∧w'=w :=
  findOneIn s 46 w
set_option maxHeartbeats 2000000 in
theorem cut_no (s:ByteArray) (w:World) (h:Lib.indexByte s.data.toList 46=-1):Calls Tryz.prog 182 #[.string s,.string ⟨#[46]⟩] w fun e w'=>e=.returned (.tuple #[.string s,.string ⟨#[]⟩,.bool false])∧Same w w':=by
  go_enter Tryz.func182,Tryz.ntmps182
  go_wp2_with (go_at_call 109;refine (index_c _ _).mono ?_;rintro e w' ⟨rfl,rfl⟩;rw [h])
  go_ret3
  exact ⟨rfl,Same.refl _⟩
set_option maxHeartbeats 2000000 in
theorem cut_yes (s:ByteArray) (w:World) (i:Nat) (hs:s.size≤70000) (hi:i < s.size) (h:Lib.indexByte s.data.toList 46=i):Calls Tryz.prog 182 #[.string s,.string ⟨#[46]⟩] w fun e w'=>e=.returned (.tuple #[.string (s.extract 0 i),.string (s.extract (i+1) s.size),.bool true])∧Same w w':=by
  have c1:(0:Int)≤i:=by omega
  have c2:(i:Int)≤s.size:=by omega
  have c3:(0:Int)≤(i:Int)+1:=by omega
  have c4:(i:Int)+1≤s.size:=by omega
  have c5:IntKind.i64.wrap ((i:Int)+1)=(i:Int)+1:=by rw [IntKind.wrap_i64];omega
  have c6:((i:Int)+1).toNat=i+1:=by omega
  go_enter Tryz.func182,Tryz.ntmps182
  go_wp2_with (go_at_call 109;refine (index_c _ _).mono ?_;rintro e w' ⟨rfl,rfl⟩;rw [h])
  go_region
  go_wp2
  go_ret3
  exact ⟨rfl,Same.drew _⟩
/-- Cut at the first point. -/
theorem cut_c (s:ByteArray) (w:World) (hs:s.size≤70000):Calls Tryz.prog 166 #[.string s,.string ⟨#[46]⟩] w fun e w'=>(∃ f,e=.returned (.tuple #[.string (tx (s.data.toList.take (dot s.data.toList))),.string (tx (s.data.toList.drop (dot s.data.toList+1))),.bool f]))∧Same w w':=by
  have hx:=index_dot s.data.toList
  have hle:=dot_le s.data.toList
  rw [← Lib.size_eq] at hx hle
  generalize dot s.data.toList=d at *
  by_cases h:d < s.size
  · rw [if_pos h] at hx
    replace hx:=hid_as hx
    go_enter Tryz.func166,Tryz.ntmps166
    go_wp2_with (go_at_call 182;refine (cut_yes s _ d hs h hx.out).mono ?_;rintro e w' ⟨rfl,k⟩)
    go_ret3
    exact ⟨⟨true,by rw [tx_take,tx_drop];rfl⟩,k⟩
  · rw [if_neg h] at hx
    replace hx:=hid_as hx
    go_enter Tryz.func166,Tryz.ntmps166
    go_wp2_with (go_at_call 182;refine (cut_no s _ hx.out).mono ?_;rintro e w' ⟨rfl,k⟩)
    go_ret3
    exact ⟨⟨false,by rw [List.take_of_length_le (by rw [← Lib.size_eq];omega),List.drop_eq_nil_of_le (by rw [← Lib.size_eq];omega),tx_of];rfl⟩,k⟩
set_option maxHeartbeats 2000000 in
theorem head_no (s p:ByteArray) (w:World) (h:Lib.hasPrefix s.data.toList p.data.toList=false):Calls Tryz.prog 144 #[.string s,.string p] w fun e w'=>e=.returned (.tuple #[.string s,.bool false])∧w'=w:=by
  rw [← Lib.hasPrefix_raw] at h
  by_cases h1:p.size≤s.size
  · have h2:((s.extract 0 p.size).toList == p.toList)=false:=by rw [decide_eq_true h1] at h;simpa using h
    clear h
    go_enter Tryz.func144,Tryz.ntmps144
    go_wp2
    go_ret2
    exact ⟨rfl,rfl⟩
  · clear h
    go_enter Tryz.func144,Tryz.ntmps144
    go_wp2
    go_ret2
    exact ⟨rfl,rfl⟩
set_option maxHeartbeats 2000000 in
theorem head_yes (s p:ByteArray) (w:World) (h:Lib.hasPrefix s.data.toList p.data.toList=true):Calls Tryz.prog 144 #[.string s,.string p] w fun e w'=>e=.returned (.tuple #[.string (tx (s.data.toList.drop p.data.toList.length)),.bool true])∧w'=w:=by
  rw [← Lib.hasPrefix_raw,Bool.and_eq_true,decide_eq_true_eq] at h
  obtain ⟨h1,h2⟩:=h
  rw [← Lib.size_eq,← tx_drop]
  go_enter Tryz.func144,Tryz.ntmps144
  go_wp2
  go_ret2
  exact ⟨rfl,rfl⟩
/-- A text without a head that it may have. -/
theorem head_c (s p:ByteArray) (w:World):Calls Tryz.prog 144 #[.string s,.string p] w fun e w'=>e=.returned (.tuple #[.string (if Lib.hasPrefix s.data.toList p.data.toList then tx (s.data.toList.drop p.data.toList.length) else s),.bool (Lib.hasPrefix s.data.toList p.data.toList)])∧w'=w:=by
  cases h:Lib.hasPrefix s.data.toList p.data.toList with
  | true=>exact head_yes s p w h
  | false=>exact head_no s p w h
open Go.RowKit
open Adr
namespace Adr
/-- What an area's texts begin with. -/
def hed:Nat→ByteArray
  | 1=>⟨#[37,73,88]⟩
  | 2=>⟨#[37,81,88]⟩
  | 3=>⟨#[37,77,88]⟩
  | 4=>⟨#[37,73,87]⟩
  | 5=>⟨#[37,81,87]⟩
  | 6=>⟨#[37,77,87]⟩
  | _=>⟨#[]⟩
def bt:Nat→Bool
  | 1 | 2 | 3=>true
  | _=>false
/-- How many places it has. -/
def sz:Nat→Int
  | 1 | 2 | 3=>128
  | 4 | 5 | 6=>64
  | _=>0
def tb:Nat→Int
  | 1=>2
  | 2=>1
  | 3=>1
  | 4=>4
  | 5=>3
  | 6=>3
  | _=>0
def frs:Nat→Int
  | 3=>128
  | 6=>64
  | _=>0
/-- The same of any number. -/
def szI (a:Int):Int:=if 1≤a∧a≤6 then sz a.toNat else 0
def hasI (a n:Int):Bool:=decide (0≤n) && decide (n < szI a)
theorem szI_nat (k:Nat) (h:k < 7):szI k=sz k:=by
  have hc:k=0 ∨ k=1 ∨ k=2 ∨ k=3 ∨ k=4 ∨ k=5 ∨ k=6:=by omega
  rcases hc with rfl | rfl | rfl | rfl | rfl | rfl | rfl <;> decide
theorem szI_out {a:Int} (h:a < 0 ∨ 7≤a):szI a=0:=by unfold szI;rw [if_neg (by omega)]
theorem hasI_lo {a n:Int} (h:n < 0):hasI a n=false:=by unfold hasI;rw [decide_eq_false (p:=0≤n) (by omega)];rfl
end Adr
def cells35:Array Value:=#[.string ⟨#[]⟩,.int .i64 0,.bool false,.int .i64 0,.int .i64 0,.string ⟨#[37,73,88]⟩,.int .i64 128,.bool true,.int .i64 2,.int .i64 0,.string ⟨#[37,81,88]⟩,.int .i64 128,.bool true,.int .i64 1,.int .i64 0,.string ⟨#[37,77,88]⟩,.int .i64 128,.bool true,.int .i64 1,.int .i64 128,.string ⟨#[37,73,87]⟩,.int .i64 64,.bool false,.int .i64 4,.int .i64 0,.string ⟨#[37,81,87]⟩,.int .i64 64,.bool false,.int .i64 3,.int .i64 0,.string ⟨#[37,77,87]⟩,.int .i64 64,.bool false,.int .i64 3,.int .i64 64]
/-- The table of areas lies in the program's fifth block. -/
def AreasAt (w:World):Prop:=∃ t fr,w.heap[4]?=some (.cells cells35 t fr)
theorem AreasAt.same {w w':World} (h:AreasAt w) (k:Same w w'):AreasAt w':=by
  obtain ⟨t,fr,h⟩:=h
  exact ⟨t,fr,by rw [k.heap];exact h⟩
theorem AreasAt.below {w w':World} (h:AreasAt w) (k:Below w.heap.size w w'):AreasAt w':=by
  obtain ⟨t,fr,h⟩:=h
  have hs:4 < w.heap.size:=by
    by_cases hz:4 < w.heap.size
    · exact hz
    · rw [Array.getElem?_eq_none (by omega)] at h;cases h
  exact ⟨t,fr,(Below.block k 4 hs).trans h⟩
theorem AreasAt.cell {w:World} (h:AreasAt w) (j:Nat):w.cell? ⟨4,j,none⟩=cells35[j]?:=by
  obtain ⟨t,fr,h⟩:=h
  exact cell_of_row w 4 j cells35 t fr h
theorem seven {p:Nat→Prop} (h0:p 0) (h1:p 1) (h2:p 2) (h3:p 3) (h4:p 4) (h5:p 5) (h6:p 6) (k:Nat) (h:k < 7):p k:=by
  have hc:k=0 ∨ k=1 ∨ k=2 ∨ k=3 ∨ k=4 ∨ k=5 ∨ k=6:=by omega
  rcases hc with rfl | rfl | rfl | rfl | rfl | rfl | rfl <;> assumption
theorem row35 (k:Nat) (h:k < 7):cells35[k * 5]?=some (.string (hed k))∧cells35[k * 5+1]?=some (.int .i64 (sz k))∧cells35[k * 5+2]?=some (.bool (bt k))∧cells35[k * 5+3]?=some (.int .i64 (tb k))∧cells35[k * 5+4]?=some (.int .i64 (frs k)):=by
  have hc:k=0 ∨ k=1 ∨ k=2 ∨ k=3 ∨ k=4 ∨ k=5 ∨ k=6:=by omega
  rcases hc with rfl | rfl | rfl | rfl | rfl | rfl | rfl
  all_goals exact ⟨rfl,rfl,rfl,rfl,rfl⟩
theorem AreasAt.row {w:World} (h:AreasAt w) (k:Nat) (hk:k < 7):w.cell? ⟨4,k * 5,none⟩=some (.string (hed k))∧w.cell? ⟨4,k * 5+1,none⟩=some (.int .i64 (sz k))∧w.cell? ⟨4,k * 5+2,none⟩=some (.bool (bt k))∧w.cell? ⟨4,k * 5+3,none⟩=some (.int .i64 (tb k))∧w.cell? ⟨4,k * 5+4,none⟩=some (.int .i64 (frs k)):=by
  obtain ⟨a,b,c,d,e⟩:=row35 k hk
  exact ⟨(h.cell _).trans a,(h.cell _).trans b,(h.cell _).trans c,(h.cell _).trans d,(h.cell _).trans e⟩
set_option maxHeartbeats 800000 in
theorem size_in (k:Nat) (hk:k < 7) (w:World) (hA:AreasAt w):Calls Tryz.prog 167 #[.int .i64 k] w fun e w'=>e=.returned (.int .i64 (sz k))∧w'=w:=by
  obtain ⟨c0,c1,c2,c3,c4⟩:=hA.row k hk
  have hk':(k:Int) < 7:=by omega
  have hd:decide ((7:Int)≤k)=false:=decide_eq_false (by omega)
  go_enter Tryz.func167,Tryz.ntmps167
  go_wp2
  go_ret
  exact ⟨rfl,rfl⟩
theorem size_out (a:Int) (h:a < 0 ∨ 7≤a) (w:World):Calls Tryz.prog 167 #[.int .i64 a] w fun e w'=>e=.returned (.int .i64 0)∧w'=w:=by
  rcases h with h | h
  · go_enter Tryz.func167,Tryz.ntmps167
    go_wp2
    go_ret
    exact ⟨rfl,rfl⟩
  · have h2:¬ a < 0:=by omega
    go_enter Tryz.func167,Tryz.ntmps167
    go_wp2
    go_ret
    exact ⟨rfl,rfl⟩
theorem int_cases (a:Int):(∃ k:Nat,k < 7∧a=k) ∨ (a < 0 ∨ 7≤a):=by
  by_cases h:0≤a∧a < 7
  · exact Or.inl ⟨a.toNat,by omega,by omega⟩
  · exact Or.inr (by omega)
/-- Size, of any number. -/
theorem size_c (a:Int) (w:World) (hA:AreasAt w):Calls Tryz.prog 167 #[.int .i64 a] w fun e w'=>e=.returned (.int .i64 (szI a))∧w'=w:=by
  rcases int_cases a with ⟨k,hk,rfl⟩ | h
  · rw [szI_nat k hk];exact size_in k hk w hA
  · rw [szI_out h];exact size_out a h w
set_option maxHeartbeats 800000 in
/-- has, of any numbers. -/
theorem has_c (a n:Int) (w:World) (hA:AreasAt w):Calls Tryz.prog 149 #[.int .i64 a,.int .i64 n] w fun e w'=>e=.returned (.bool (hasI a n))∧w'=w:=by
  by_cases h:0≤n
  · unfold hasI
    rw [decide_eq_true h]
    go_enter Tryz.func149,Tryz.ntmps149
    go_wp2_with (go_at_call 167;refine (size_c _ _ hA).mono ?_;rintro e w' ⟨rfl,hw⟩;subst w')
    go_ret
    exact ⟨rfl,rfl⟩
  · rw [hasI_lo (by omega)]
    go_enter Tryz.func149,Tryz.ntmps149
    go_wp2
    go_ret
    exact ⟨rfl,rfl⟩
open Go.RowKit
open Adr
namespace Adr
/-- What stands ahead of the first point, and behind it. -/
def bef (l:List UInt8):List UInt8:=l.take (dot l)
def aft (l:List UInt8):List UInt8:=l.drop (dot l+1)
/-- The place that a text behind a name tells, if it tells one. -/
def pv (b:Bool) (l:List UInt8):Nat:=if b then nv (bef l) * 8+nv (aft l) else nv l
def pb (b:Bool) (l:List UInt8):Bool:=if b then nb (bef l) && nb (aft l) && decide ((nv (aft l):Int) < 8) else nb l
end Adr
theorem rn_t (l:List UInt8) (w:World):Calls Tryz.prog 165 #[.string (tx l)] w fun e w'=>e=.returned (.tuple #[.int .i64 (nv l),.bool (nb l)])∧w'=w:=by
  have h:=rn_c (tx l) w
  rw [tx_list] at h
  exact h
theorem ret_nb {a c:Int} {b d:Bool} (h:a=c) (k:b=d):Ending.returned (.tuple #[.int .i64 a,.bool b])=.returned (.tuple #[.int .i64 c,.bool d]):=by rw [h,k]
theorem place_reg (s:ByteArray) (w:World):Calls Tryz.prog 148 #[.string s,.bool false] w fun e w'=>e=.returned (.tuple #[.int .i64 (nv s.data.toList),.bool (nb s.data.toList)])∧Same w w':=by
  go_enter Tryz.func148,Tryz.ntmps148
  go_wp2_with (go_at_call 165;refine (rn_c _ _).mono ?_;rintro e w' ⟨rfl,hw⟩;subst w')
  go_ret2
  exact ⟨rfl,Same.refl _⟩
set_option maxHeartbeats 800000 in
theorem place_bit0 (s B A:ByteArray) (x y:Nat) (p q:Bool) (hx:x < 1000) (hy:y < 1000)
    (C:Hid (∀ w,Calls Tryz.prog 166 #[.string s,.string ⟨#[46]⟩] w fun e w'=>(∃ f,e=.returned (.tuple #[.string B,.string A,.bool f]))∧Same w w'))
    (X:Hid (∀ w,Calls Tryz.prog 165 #[.string B] w fun e w'=>e=.returned (.tuple #[.int .i64 x,.bool p])∧w'=w))
    (Y:Hid (∀ w,Calls Tryz.prog 165 #[.string A] w fun e w'=>e=.returned (.tuple #[.int .i64 y,.bool q])∧w'=w))
    (w:World):Calls Tryz.prog 148 #[.string s,.bool true] w fun e w'=>e=.returned (.tuple #[.int .i64 ((x:Int) * 8+y),.bool (p && q && decide ((y:Int) < 8))])∧Same w w':=by
  cases p <;> cases q
  all_goals
    go_enter Tryz.func148,Tryz.ntmps148
    go_wp2_with (first | (go_at_call 166;refine (C.out _).mono ?_;rintro e w1 ⟨⟨f,rfl⟩,k1⟩) | (go_at_call 165;(first | (with_reducible refine (X.out _).mono ?_) | (with_reducible refine (Y.out _).mono ?_));rintro e w' ⟨rfl,hw⟩;subst w'))
    go_ret2
    exact ⟨ret_nb rfl rfl,k1⟩
/-- readPlace, of any text that isn't too long. -/
theorem readPlace_c (s:ByteArray) (b:Bool) (hs:s.size≤70000) (w:World):Calls Tryz.prog 148 #[.string s,.bool b] w fun e w'=>e=.returned (.tuple #[.int .i64 (pv b s.data.toList),.bool (pb b s.data.toList)])∧Same w w':=by
  cases b
  · exact place_reg s w
  · exact place_bit0 s (tx (bef s.data.toList)) (tx (aft s.data.toList)) (nv (bef s.data.toList)) (nv (aft s.data.toList)) (nb (bef s.data.toList)) (nb (aft s.data.toList)) (nv_lt _) (nv_lt _) (hid_as fun w=>cut_c s w hs) (hid_as fun w=>rn_t _ w) (hid_as fun w=>rn_t _ w) w
open Go.RowKit
open Adr
namespace Adr
/-- What stands behind an area's name. -/
def rst (k:Nat) (l:List UInt8):List UInt8:=l.drop (hed k).data.toList.length
/-- The text names a place of this area. -/
def hit (k:Nat) (l:List UInt8):Bool:=Lib.hasPrefix l (hed k).data.toList && (pb (bt k) (rst k l) && hasI k (pv (bt k) (rst k l)))
def fnd (l:List UInt8):Option Nat:=(List.range 7).find? fun k=>hit k l
def pa (l:List UInt8):Nat:=(fnd l).getD 0
def pn (l:List UInt8):Nat:=match fnd l with
  | some k=>pv (bt k) (rst k l)
  | none=>0
def pe (l:List UInt8):Nat:=if (fnd l).isSome then 0 else 100
theorem fnd_at {l:List UInt8} {k:Nat} (hk:k < 7) (h:hit k l=true) (hs:∀ j,j < k→hit j l=false):fnd l=some k:=by
  unfold fnd
  rw [List.find?_range_eq_some]
  exact ⟨h,by simpa using hk,fun j hj=>by rw [hs j hj];rfl⟩
theorem fnd_none {l:List UInt8} (hs:∀ j,j < 7→hit j l=false):fnd l=none:=by
  unfold fnd
  rw [List.find?_eq_none]
  intro j hj
  rw [hs j (by simpa using hj)]
  exact Bool.false_ne_true
theorem hit_no {k:Nat} {l:List UInt8} (h:Lib.hasPrefix l (hed k).data.toList=false):hit k l=false:=by unfold hit;rw [h];rfl
theorem hit_odd {k:Nat} {l:List UInt8} (h:pb (bt k) (rst k l)=false):hit k l=false:=by unfold hit;rw [h];simp
theorem hit_far {k:Nat} {l:List UInt8} (h:hasI k (pv (bt k) (rst k l))=false):hit k l=false:=by unfold hit;rw [h];simp
theorem hit_yes {k:Nat} {l:List UInt8} (h:Lib.hasPrefix l (hed k).data.toList=true) (h1:pb (bt k) (rst k l)=true) (h2:hasI k (pv (bt k) (rst k l))=true):hit k l=true:=by unfold hit;rw [h,h1,h2];rfl
theorem none_yet {l:List UInt8} {k:Nat} (hs:∀ j,j < k→hit j l=false) (h:hit k l=false):∀ j,j < k+1→hit j l=false:=fun j hj=>by
  by_cases e:j=k
  · subst e;exact h
  · exact hs j (by omega)
end Adr
theorem ret_three {a b c x y z:Int} (h:a=x) (k:b=y) (m:c=z):Ending.returned (.tuple #[.int .i64 a,.int .i64 b,.int .i64 c])=.returned (.tuple #[.int .i64 x,.int .i64 y,.int .i64 z]):=by rw [h,k,m]
theorem rest_size (k:Nat) (s:ByteArray):(tx (rst k s.data.toList)).size≤s.size:=by
  rw [tx_size,Lib.size_eq]
  unfold rst
  rw [List.length_drop]
  omega
theorem readPlace_t (b:Bool) (l:List UInt8) (hs:(tx l).size≤70000) (w:World):Calls Tryz.prog 148 #[.string (tx l),.bool b] w fun e w'=>e=.returned (.tuple #[.int .i64 (pv b l),.bool (pb b l)])∧Same w w':=by
  have h:=readPlace_c (tx l) b hs w
  rw [tx_list] at h
  exact h
set_option maxHeartbeats 2000000 in
/-- Parse. -/
theorem parse_c (s:ByteArray) (hs:s.size≤70000) (w:World) (hA:AreasAt w):Calls Tryz.prog 119 #[.string s] w fun e w'=>e=.returned (.tuple #[.int .i64 (pa s.data.toList),.int .i64 (pn s.data.toList),.int .i64 (pe s.data.toList)])∧Same w w':=by
  go_enter Tryz.func119,Tryz.ntmps119
  go_wp2
  go_loopw [10] (fun i wr=>∃ k:Nat,k≤7∧i=.int .i64 k∧Hid (Same w wr)∧Hid (∀ j,j < k→hit j s.data.toList=false)) (fun i wr=>7 - (intOf i).toNat)
  case atStart=>exact ⟨0,by omega,rfl,hid_as (Same.refl _),hid_as (fun j hj=>by omega)⟩
  case round =>
    obtain ⟨k,hk,rfl,hw,hn⟩:=hrel
    have hB:=hA.same hw.out
    by_cases hlt:k < 7
    · obtain ⟨c0,c1,c2,c3,c4⟩:=hB.row k hlt
      have hlt':(k:Int) < 7:=by omega
      cases hp:Lib.hasPrefix s.data.toList (hed k).data.toList with
      | false =>
        have hs2:=hid_as (none_yet hn.out (hit_no hp))
        go_wp2_with (go_at_call 144;refine (head_no _ _ _ hp).mono ?_;rintro e w' ⟨rfl,hw⟩;subst w')
        go_roundw
        case rel=>exact ⟨k+1,by omega,by go_num,hw,hs2⟩
        case measure=>simp [intOf];omega
      | true =>
        have R:=hid_as (readPlace_t (bt k) (rst k s.data.toList) (by have:=rest_size k s;omega))
        have P:=hid_as (fun W=>(show Calls Tryz.prog 144 #[.string s,.string (hed k)] W fun e w'=>e=.returned (.tuple #[.string (tx (rst k s.data.toList)),.bool true])∧w'=W from head_yes s (hed k) W hp))
        cases hq:pb (bt k) (rst k s.data.toList) with
        | false =>
          rw [hq] at R
          have hs2:=hid_as (none_yet hn.out (hit_odd hq))
          clear hp hq
          go_wp2_with (first | (go_at_call 144;refine (P.out _).mono ?_;rintro e w' ⟨rfl,hw⟩;subst w') | (go_at_call 148;refine (R.out _).mono ?_;rintro e w2 ⟨rfl,k2⟩))
          go_roundw
          case rel=>exact ⟨k+1,by omega,by go_num,hid_as (hw.out.trans k2),hs2⟩
          case measure=>simp [intOf];omega
        | true =>
          rw [hq] at R
          cases hh:hasI k (pv (bt k) (rst k s.data.toList)) with
          | false =>
            have hs2:=hid_as (none_yet hn.out (hit_far hh))
            clear hp hq
            go_wp2_with (first | (go_at_call 144;refine (P.out _).mono ?_;rintro e w' ⟨rfl,hw⟩;subst w') | (go_at_call 148;refine (R.out _).mono ?_;rintro e w2 ⟨rfl,k2⟩;have hC:=hB.same k2) | (go_at_call 149;refine (has_c _ _ _ hC).mono ?_;rintro e w' ⟨rfl,hw⟩;subst w';rw [hh]))
            go_roundw
            case rel=>exact ⟨k+1,by omega,by go_num,hid_as (hw.out.trans k2),hs2⟩
            case measure=>simp [intOf];omega
          | true =>
            have e:=hid_as (fnd_at hlt (hit_yes hp hq hh) hn.out)
            clear hp hq
            go_wp2_with (first | (go_at_call 144;refine (P.out _).mono ?_;rintro e w' ⟨rfl,hw⟩;subst w') | (go_at_call 148;refine (R.out _).mono ?_;rintro e w2 ⟨rfl,k2⟩;have hC:=hB.same k2) | (go_at_call 149;refine (has_c _ _ _ hC).mono ?_;rintro e w' ⟨rfl,hw⟩;subst w';rw [hh]))
            go_ret3
            exact ⟨ret_three (by unfold pa;rw [e.out];rfl) (by unfold pn;rw [e.out]) (by unfold pe;rw [e.out];rfl),hw.out.trans k2⟩
    · have e:=hid_as (fnd_none (l:=s.data.toList) (fun j hj=>hn.out j (by omega)))
      go_wp2
      go_ret3
      exact ⟨ret_three (by unfold pa;rw [e.out];rfl) (by unfold pn;rw [e.out];rfl) (by unfold pe;rw [e.out];rfl),hw.out⟩
open Go.RowKit
open Adr
namespace Lx
/-- Letters, and the low line. -/
def isL (c:UInt8):Bool:=(decide (97≤c.toNat) && decide (c.toNat≤122)) || (decide (65≤c.toNat) && decide (c.toNat≤90)) || decide (c.toNat=95)
def inW (c:UInt8):Bool:=isL c || dgt c
def inA (c:UInt8):Bool:=(!decide (c.toNat=95) && inW c) || decide (c.toNat=46)
/-- What a digit counts; -1: it is none. -/
def dv (c:UInt8):Int:=if dgt c then (c.toNat:Int) - 48 else if decide (65≤c.toNat) && decide (c.toNat≤70) then (c.toNat:Int) - 55 else -1
/-- A digit of this base. -/
def okd (b:Nat) (c:UInt8):Bool:=decide (0≤dv c) && decide (dv c < b)
/-- Digits with single low lines between them: the number, how many signs; n, z so far, i signs behind. -/
def rdl (b:Nat):List UInt8→Nat→Nat→Nat→Nat × Nat
  | [],n,z,_=>(n,z)
  | c :: l,n,z,i=>if decide (c.toNat=95) && (decide (0 < i) && decide (i=z)) then rdl b l n z (i+1) else if okd b c then rdl b l (min (n * b+(dv c).toNat) 8589934592) (i+1) (i+1) else (n,z)
def rd (b:Nat) (l:List UInt8):Nat × Nat:=rdl b l 0 0 0
/-- How many signs ahead are of this sort. -/
def cz (p:UInt8→Bool) (l:List UInt8):Nat:=(l.takeWhile p).length
/-- The kinds. -/
def kn:Nat→ByteArray
  | 1=>⟨#[66,79,79,76]⟩
  | 2=>⟨#[83,73,78,84]⟩
  | 3=>⟨#[73,78,84]⟩
  | 4=>⟨#[68,73,78,84]⟩
  | 5=>⟨#[85,83,73,78,84]⟩
  | 6=>⟨#[85,73,78,84]⟩
  | 7=>⟨#[85,68,73,78,84]⟩
  | 8=>⟨#[66,89,84,69]⟩
  | 9=>⟨#[87,79,82,68]⟩
  | 10=>⟨#[68,87,79,82,68]⟩
  | 11=>⟨#[84,73,77,69]⟩
  | _=>⟨#[]⟩
def klo:Nat→Int
  | 1=>0
  | 2=>-128
  | 3=>-32768
  | 4=>-2147483648
  | 5=>0
  | 6=>0
  | 7=>0
  | 8=>0
  | 9=>0
  | 10=>0
  | 11=>-2147483648
  | _=>0
def khi:Nat→Int
  | 1=>1
  | 2=>127
  | 3=>32767
  | 4=>2147483647
  | 5=>255
  | 6=>65535
  | 7=>4294967295
  | 8=>255
  | 9=>65535
  | 10=>4294967295
  | 11=>2147483647
  | _=>0
def isK (l:List UInt8) (k:Nat):Bool:=decide (0 < k) && ((kn k).data.toList == l)
/-- The kind of this name; 0: none. -/
def kf (l:List UInt8):Nat:=((List.range 12).find? (isK l)).getD 0
/-- Bases, units. -/
def bn:Nat→ByteArray
  | 0=>⟨#[50,35]⟩
  | 1=>⟨#[56,35]⟩
  | _=>⟨#[49,54,35]⟩
def bo:Nat→Nat
  | 0=>2
  | 1=>8
  | _=>16
def uN:Nat→ByteArray
  | 0=>⟨#[100]⟩
  | 1=>⟨#[104]⟩
  | 2=>⟨#[109]⟩
  | 3=>⟨#[115]⟩
  | 4=>⟨#[109,115]⟩
  | _=>⟨#[]⟩
def uM:Nat→Nat
  | 0=>86400000
  | 1=>3600000
  | 2=>60000
  | 3=>1000
  | 4=>1
  | _=>0
/-- Which unit stands ahead; 5: none. -/
def un:List UInt8→Nat
  | 100 :: _=>0
  | 104 :: _=>1
  | 109 :: 115 :: _=>4
  | 109 :: _=>2
  | 115 :: _=>3
  | _=>5
def hp (l p:List UInt8):Bool:=Lib.hasPrefix l p
/-- A number by a base, or without one: what it is, how many signs. -/
def byB (k:Nat) (l:List UInt8):Nat × Nat:=if (rd (bo k) (l.drop (bn k).data.toList.length)).2=0 then (0,0) else ((rd (bo k) (l.drop (bn k).data.toList.length)).1,(bn k).data.toList.length+(rd (bo k) (l.drop (bn k).data.toList.length)).2)
def num (l:List UInt8):Nat × Nat:=if hp l (bn 0).data.toList then byB 0 l else if hp l (bn 1).data.toList then byB 1 l else if hp l (bn 2).data.toList then byB 2 l else rd 10 l
/-- One unit more of a time. -/
def prt (l:List UInt8) (k:Nat) (s:Nat × Nat):Nat × Nat:=if decide (0 < (rd 10 (l.drop s.2)).2) && decide (un (l.drop (s.2+(rd 10 (l.drop s.2)).2))=k) then (s.1+(rd 10 (l.drop s.2)).1 * uM k,s.2+((rd 10 (l.drop s.2)).2+(uN k).size)) else s
/-- What k units make. -/
def spanK (l:List UInt8):Nat→Nat × Nat
  | 0=>(0,0)
  | k+1=>prt l k (spanK l k)
def span (l:List UInt8):Nat × Nat:=spanK l 5
/-- A token: its sort, kind, number, text. -/
structure Tk where
  tok:Nat
  kind:Nat
  n:Int
  text:List UInt8
/-- A token, how many signs it has, the error. -/
structure R where
  t:Tk
  z:Nat
  e:Nat
def nul:Tk:=⟨0,0,0,[]⟩
def er (e:Nat):R:=⟨nul,0,e⟩
def tru (n:Int):Tk:=⟨3,1,n,[]⟩
def ltR (tok k:Nat) (n:Int) (a z:Nat):R:=if z=0 then er 120 else if decide (n < klo k) || decide (khi k < n) then er 163 else ⟨⟨tok,k,n,[]⟩,a+z,0⟩
def tyR (l:List UInt8) (a k:Nat):R :=
  if decide (k=1) && hp (l.drop a) [84,82,85,69] then ⟨tru 1,a+4,0⟩
  else if decide (k=1) && hp (l.drop a) [70,65,76,83,69] then ⟨tru 0,a+5,0⟩
  else if hp (l.drop a) [45] && decide (klo k < 0) then ltR 3 k (-((rd 10 ((l.drop a).drop 1)).1:Int)) (a+1) (rd 10 ((l.drop a).drop 1)).2
  else ltR 3 k (num (l.drop a)).1 a (num (l.drop a)).2
def tmR (l:List UInt8) (a:Nat):R :=
  if hp (l.drop a) [45] then ltR 4 11 (-((span ((l.drop a).drop 1)).1:Int)) (a+1) (span ((l.drop a).drop 1)).2
  else ltR 4 11 (span (l.drop a)).1 a (span (l.drop a)).2
def words:List (List UInt8):=[[80,82,79,71,82,65,77],[69,78,68,95,80,82,79,71,82,65,77],[86,65,82],[82,69,84,65,73,78],[69,78,68,95,86,65,82],[84,89,80,69],[69,78,68,95,84,89,80,69],[83,84,82,85,67,84],[69,78,68,95,83,84,82,85,67,84],[65,82,82,65,89],[79,70],[65,84],[73,70],[84,72,69,78],[69,76,83,73,70],[69,76,83,69],[69,78,68,95,73,70],[67,65,83,69],[69,78,68,95,67,65,83,69],[70,79,82],[84,79],[66,89],[68,79],[69,78,68,95,70,79,82],[87,72,73,76,69],[69,78,68,95,87,72,73,76,69],[82,69,80,69,65,84],[85,78,84,73,76],[69,78,68,95,82,69,80,69,65,84],[69,88,73,84],[82,69,84,85,82,78],[65,78,68],[79,82],[88,79,82],[78,79,84],[77,79,68]]
def wrd (l:List UInt8):Bool:=words.contains l || !decide (kf l=0)
/-- A word, behind which no literal begins. -/
def plainW (w:List UInt8):R :=
  if w == [84,82,85,69] then ⟨tru 1,w.length,0⟩
  else if w == [70,65,76,83,69] then ⟨tru 0,w.length,0⟩
  else if wrd w then ⟨⟨1,0,0,w⟩,w.length,0⟩
  else if 32 < w.length then er 121
  else ⟨⟨2,0,0,w⟩,w.length,0⟩
def wdR (l:List UInt8):R :=
  if hp (l.drop (cz inW l)) [35] && (decide (kf (l.take (cz inW l))=11) || (l.take (cz inW l) == [84])) then tmR l (cz inW l+1)
  else if hp (l.drop (cz inW l)) [35] && !decide (kf (l.take (cz inW l))=0) then tyR l (cz inW l+1) (kf (l.take (cz inW l)))
  else plainW (l.take (cz inW l))
def unR (l:List UInt8):R:=if (num l).2=0 then er 120 else if 4294967295 < (num l).1 then er 121 else ⟨⟨3,0,(num l).1,[]⟩,(num l).2,0⟩
def adz (l:List UInt8):Nat:=1+cz inA (l.drop 1)
def adR (l:List UInt8):R:=if pe (l.take (adz l))=0 then ⟨⟨5,0,0,l.take (adz l)⟩,adz l,0⟩ else er (pe (l.take (adz l)))
def two:List (List UInt8):=[[58,61],[46,46],[60,61],[62,61],[60,62],[61,62]]
def one:List UInt8:=[58,59,44,46,40,41,91,93,61,60,62,43,45,42,47]
def sgz (l:List UInt8):Nat:=if decide (1 < l.length) && two.contains (l.take 2) then 2 else if (l.take 1).all one.contains then 1 else 0
def sgR (l:List UInt8):R:=if sgz l=0 then er 120 else ⟨⟨6,0,0,l.take (sgz l)⟩,sgz l,0⟩
def nx:List UInt8→R
  | []=>er 120
  | c :: l=>if isL c then wdR (c :: l) else if dgt c then unR (c :: l) else if decide (c.toNat=37) then adR (c :: l) else if decide (c.toNat=10) then ⟨⟨7,0,0,[10]⟩,1,0⟩ else sgR (c :: l)
/-- A comment's signs; 0: it isn't ended. -/
def csz (l:List UInt8):Nat:=if Lib.index (l.drop 2) [42,41] < 0 then 0 else (Lib.index (l.drop 2) [42,41]).toNat+4
def blk (c:UInt8) (il:Bool):Bool:=decide (c.toNat=32) || (decide (c.toNat=9) || (decide (c.toNat=13) || (decide (c.toNat=10) && !il)))
/-- The tokens of a text, behind those so far; or where the first is that can't be, and why. -/
def scn (il:Bool):Nat→List UInt8→Nat→List (Tk × Nat)→List (Tk × Nat) × Option (Nat × Nat)
  | 0,_,_,acc=>(acc,none)
  | _+1,[],_,acc=>(acc,none)
  | f+1,c :: l,a,acc =>
    if blk c il then scn il f l (a+1) acc
    else if hp (c :: l) [40,42] then (if csz (c :: l)=0 then ([],some (a,120)) else scn il f ((c :: l).drop (csz (c :: l))) (a+csz (c :: l)) acc)
    else if (nx (c :: l)).e=0 then scn il f ((c :: l).drop (nx (c :: l)).z) (a+(nx (c :: l)).z) (acc ++ [((nx (c :: l)).t,a)])
    else ([],some (a,(nx (c :: l)).e))
/-- What Tokens tells. -/
def toks (l:List UInt8) (il:Bool):List (Tk × Nat) × Option (Nat × Nat):=if 65536 < l.length then ([],some (65536,121)) else ((scn il l.length l 0 []).1 ++ [(nul,l.length)],(scn il l.length l 0 []).2)
end Lx
open Go.RowKit
open Adr Lx
def cells36:Array Value:=#[.string ⟨#[]⟩,.int .i64 0,.int .i64 0,.string ⟨#[66,79,79,76]⟩,.int .i64 0,.int .i64 1,.string ⟨#[83,73,78,84]⟩,.int .i64 (-128),.int .i64 127,.string ⟨#[73,78,84]⟩,.int .i64 (-32768),.int .i64 32767,.string ⟨#[68,73,78,84]⟩,.int .i64 (-2147483648),.int .i64 2147483647,.string ⟨#[85,83,73,78,84]⟩,.int .i64 0,.int .i64 255,.string ⟨#[85,73,78,84]⟩,.int .i64 0,.int .i64 65535,.string ⟨#[85,68,73,78,84]⟩,.int .i64 0,.int .i64 4294967295,.string ⟨#[66,89,84,69]⟩,.int .i64 0,.int .i64 255,.string ⟨#[87,79,82,68]⟩,.int .i64 0,.int .i64 65535,.string ⟨#[68,87,79,82,68]⟩,.int .i64 0,.int .i64 4294967295,.string ⟨#[84,73,77,69]⟩,.int .i64 (-2147483648),.int .i64 2147483647]
def cells6:Array Value:=#[.string (bn 0),.int .i64 2,.string (bn 1),.int .i64 8,.string (bn 2),.int .i64 16]
def cells10:Array Value:=#[.string (uN 0),.int .i64 86400000,.string (uN 1),.int .i64 3600000,.string (uN 2),.int .i64 60000,.string (uN 3),.int .i64 1000,.string (uN 4),.int .i64 1]
/-- A table lies in this block. -/
def RowAt (w:World) (g:Nat) (cs:Array Value):Prop:=∃ t fr,w.heap[g]?=some (.cells cs t fr)
theorem RowAt.lt {w:World} {g:Nat} {cs:Array Value} (h:RowAt w g cs):g < w.heap.size:=by
  obtain ⟨t,fr,h⟩:=h
  by_cases hz:g < w.heap.size
  · exact hz
  · rw [Array.getElem?_eq_none (by omega)] at h;cases h
theorem RowAt.below {w w':World} {g:Nat} {cs:Array Value} (h:RowAt w g cs) (k:Below w.heap.size w w'):RowAt w' g cs:=by
  have hs:=h.lt
  obtain ⟨t,fr,h⟩:=h
  exact ⟨t,fr,(Below.block k g hs).trans h⟩
theorem RowAt.cell {w:World} {g:Nat} {cs:Array Value} (h:RowAt w g cs) (j:Nat):w.cell? ⟨g,j,none⟩=cs[j]?:=by
  obtain ⟨t,fr,h⟩:=h
  exact cell_of_row w g j cs t fr h
theorem below_new1 (w:World) (o:Obj):Below w.heap.size w (w.alloc o):=Below.alloc (Below.refl _ _) (Nat.le_refl _) _
/-- The tables lie, and what else a walk asks of the program's variables. -/
structure Tabs (w:World):Prop where
  kinds:RowAt w 2 cells36
  err:w.cell? ⟨0,0,none⟩=some (.iface 166 (.agg #[.pointer (some ⟨6,35,none⟩)]))
  max:∃ m,w.cell? ⟨1,0,none⟩=some (.int .i64 m)
  bases:RowAt w 3 cells6
  areas:AreasAt w
  units:RowAt w 5 cells10
theorem Tabs.five {w:World} (h:Tabs w):5 < w.heap.size:=h.units.lt
theorem Tabs.below {w w':World} (h:Tabs w) (k:Below w.heap.size w w'):Tabs w':=by
  have h5:=h.five
  obtain ⟨m,hm⟩:=h.max
  exact ⟨h.kinds.below k,(k.cell (p:=⟨0,0,none⟩) (show 0 < _ by omega)).trans h.err,⟨m,(k.cell (p:=⟨1,0,none⟩) (show 1 < _ by omega)).trans hm⟩,h.bases.below k,h.areas.below k,h.units.below k⟩
theorem Tabs.same {w w':World} (h:Tabs w) (k:Same w w'):Tabs w':=h.below k.below
theorem row36 (k:Nat) (h:k < 12):cells36[k * 3]?=some (.string (kn k))∧cells36[k * 3+1]?=some (.int .i64 (klo k))∧cells36[k * 3+2]?=some (.int .i64 (khi k)):=by
  have hc:k=0 ∨ k=1 ∨ k=2 ∨ k=3 ∨ k=4 ∨ k=5 ∨ k=6 ∨ k=7 ∨ k=8 ∨ k=9 ∨ k=10 ∨ k=11:=by omega
  rcases hc with rfl | rfl | rfl | rfl | rfl | rfl | rfl | rfl | rfl | rfl | rfl | rfl
  all_goals exact ⟨rfl,rfl,rfl⟩
theorem Tabs.kind {w:World} (h:Tabs w) (k:Nat) (hk:k < 12):w.cell? ⟨2,k * 3,none⟩=some (.string (kn k))∧w.cell? ⟨2,k * 3+1,none⟩=some (.int .i64 (klo k))∧w.cell? ⟨2,k * 3+2,none⟩=some (.int .i64 (khi k)):=by
  obtain ⟨a,b,c⟩:=row36 k hk
  exact ⟨(h.kinds.cell _).trans a,(h.kinds.cell _).trans b,(h.kinds.cell _).trans c⟩
theorem isK_of {l:List UInt8} {k:Nat} (h0:0 < k) (h:((kn k).data.toList == l)=true):isK l k=true:=by unfold isK;rw [decide_eq_true h0,h];rfl
theorem isK_no {l:List UInt8} {k:Nat} (h:((kn k).data.toList == l)=false):isK l k=false:=by unfold isK;rw [h];simp
theorem kf_at {l:List UInt8} {k:Nat} (hk:k < 12) (h:isK l k=true) (hs:∀ j,j < k→isK l j=false):kf l=k:=by
  have e:(List.range 12).find? (isK l)=some k:=by
    rw [List.find?_range_eq_some]
    exact ⟨h,by simpa using hk,fun j hj=>by rw [hs j hj];rfl⟩
  unfold kf
  rw [e]
  rfl
theorem kf_none {l:List UInt8} (hs:∀ j,j < 12→isK l j=false):kf l=0:=by
  have e:(List.range 12).find? (isK l)=none:=by
    rw [List.find?_eq_none]
    intro j hj
    rw [hs j (by simpa using hj)]
    exact Bool.false_ne_true
  unfold kf
  rw [e]
  rfl
theorem kf_lt (l:List UInt8):kf l < 12:=by
  unfold kf
  cases e:(List.range 12).find? (isK l) with
  | none=>decide
  | some k=>have:=List.mem_of_find?_eq_some e;simpa using this
end Go.Proofs.YtapcpjidgemggaaGreatDoor
