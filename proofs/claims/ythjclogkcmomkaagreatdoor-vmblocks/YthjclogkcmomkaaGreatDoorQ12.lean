/- Kinds in plain mathematics (stage 21, after stage 1). -/
import Derived.Test.YthjclogkcmomkaaGreatDoorProg
import Derived.WalkKit
import Derived.WalkSpells
import Derived.WalkLawsBesides
namespace Go.Proofs.YthjclogkcmomkaaGreatDoor
open Go.RowKit
namespace Nm



/-- A kind's number is one of eleven, or below, or above. -/
theorem kind_cases (k:Int):k=1 ∨ k=2 ∨ k=3 ∨ k=4 ∨ k=5 ∨ k=6 ∨ k=7 ∨ k=8 ∨ k=9 ∨ k=10 ∨ k=11 ∨ k < 1 ∨ 11 < k:=by omega

def wd (k:Int):Int:=if k=1 then 1 else if k=2 ∨ k=5 ∨ k=8 then 8 else if k=3 ∨ k=6 ∨ k=9 then 16 else if k=4 ∨ k=7 ∨ k=10 ∨ k=11 then 32 else 0
def sc (k:Int):Bool:=decide (1≤k∧k≤11)
def lo (k:Int):Int:=if k=2 then -128 else if k=3 then -32768 else if k=4 ∨ k=11 then -2147483648 else 0
def hi (k:Int):Int:=if k=1 then 1 else if k=2 then 127 else if k=3 then 32767 else if k=4 ∨ k=11 then 2147483647 else if k=5 ∨ k=8 then 255 else if k=6 ∨ k=9 then 65535 else if k=7 ∨ k=10 then 4294967295 else 0
def uw (m n:Int):Int:=n % m
def sw (m n:Int):Int:=(n+m / 2) % m - m / 2
def wr (k n:Int):Int :=
  if k=1 then (if n=0 then 0 else 1)
  else if k=2 then sw 256 n else if k=3 then sw 65536 n else if k=4 then sw 4294967296 n
  else if k=5 then uw 256 n else if k=6 then uw 65536 n else if k=7 then uw 4294967296 n
  else if k=8 then uw 256 n else if k=9 then uw 65536 n else if k=10 then uw 4294967296 n
  else if k=11 then sw 4294967296 n else 0

theorem wd_none {k:Int} (h:k < 1 ∨ 11 < k):wd k=0:=by
  unfold wd;rw [if_neg (by omega),if_neg (by omega),if_neg (by omega),if_neg (by omega)]
theorem sc_none {k:Int} (h:k < 1 ∨ 11 < k):sc k=false:=by
  unfold sc;exact decide_eq_false (by omega)
theorem lo_none {k:Int} (h:k < 1 ∨ 11 < k):lo k=0:=by
  unfold lo;rw [if_neg (by omega),if_neg (by omega),if_neg (by omega)]
theorem hi_none {k:Int} (h:k < 1 ∨ 11 < k):hi k=0:=by
  unfold hi;rw [if_neg (by omega),if_neg (by omega),if_neg (by omega),if_neg (by omega),if_neg (by omega),if_neg (by omega),if_neg (by omega)]
theorem wr_none {k:Int} (h:k < 1 ∨ 11 < k) (n:Int):wr k n=0:=by
  unfold wr
  rw [if_neg (by omega),if_neg (by omega),if_neg (by omega),if_neg (by omega),if_neg (by omega),if_neg (by omega),if_neg (by omega),if_neg (by omega),if_neg (by omega),if_neg (by omega),if_neg (by omega)]

/- How the program's shifts come to the wraps. -/
theorem s8 (n:Int):wrap64 (n * 72057594037927936) / 72057594037927936=sw 256 n:=by unfold wrap64 sw;omega
theorem s16 (n:Int):wrap64 (n * 281474976710656) / 281474976710656=sw 65536 n:=by unfold wrap64 sw;omega
theorem s32 (n:Int):wrap64 (n * 4294967296) / 4294967296=sw 4294967296 n:=by unfold wrap64 sw;omega
theorem u8 (n:Int):wrap64 (IntKind.u64.wrap (IntKind.u64.wrap n * 72057594037927936) / 72057594037927936)=uw 256 n:=by
  rw [IntKind.wrap_u64,IntKind.wrap_u64];unfold wrap64 uw;omega
theorem u16 (n:Int):wrap64 (IntKind.u64.wrap (IntKind.u64.wrap n * 281474976710656) / 281474976710656)=uw 65536 n:=by
  rw [IntKind.wrap_u64,IntKind.wrap_u64];unfold wrap64 uw;omega
theorem u32 (n:Int):wrap64 (IntKind.u64.wrap (IntKind.u64.wrap n * 4294967296) / 4294967296)=uw 4294967296 n:=by
  rw [IntKind.wrap_u64,IntKind.wrap_u64];unfold wrap64 uw;omega

/-- Any number with the lowest bits kept: the number modulo two to their count. -/
theorem and_mask (n:Int) (j:Nat) (hj:j < 63):bits .and .i64 n (2 ^ j - 1)=n % 2 ^ j:=by
  show IntKind.i64.wrap ((BitVec.ofInt 64 n &&& BitVec.ofInt 64 (2 ^ j - 1)).toNat:Int)=_
  have hp:(2:Nat) ^ j < 2 ^ 63:=Nat.pow_lt_pow_of_lt (by decide) hj
  have hq:0 < (2:Nat) ^ j:=Nat.two_pow_pos _
  have e1:((2:Int) ^ j - 1)=((2 ^ j - 1:Nat):Int):=by
    rw [Int.natCast_sub hq];simp
  have h2:(BitVec.ofInt 64 ((2:Int) ^ j - 1)).toNat=2 ^ j - 1:=by
    rw [e1,BitVec.ofInt_natCast,BitVec.toNat_ofNat];exact Nat.mod_eq_of_lt (by omega)
  rw [BitVec.toNat_and,h2,Nat.and_two_pow_sub_one_eq_mod,BitVec.toNat_ofInt]
  have h3:(n % ((2 ^ 64:Nat):Int)).toNat % 2 ^ j=(n % 2 ^ j).toNat:=by
    have hd:((2:Int) ^ j) ∣ ((2 ^ 64:Nat):Int):=by
      exact ⟨2 ^ (64 - j),by rw [← Int.pow_add,show j+(64 - j)=64 by omega];rfl⟩
    have hn:0≤n % ((2 ^ 64:Nat):Int):=Int.emod_nonneg _ (by decide)
    have hpz:((2 ^ j:Nat):Int)=(2:Int) ^ j:=by simp
    have:(((n % ((2 ^ 64:Nat):Int)).toNat % 2 ^ j:Nat):Int)=n % 2 ^ j:=by
      rw [Int.natCast_emod,Int.toNat_of_nonneg hn,hpz,Int.emod_emod_of_dvd _ hd]
    rw [← this,Int.toNat_natCast]
  rw [h3]
  have hz:(0:Int) < 2 ^ j:=Int.pow_pos (by decide)
  have h4:0≤n % 2 ^ j:=Int.emod_nonneg _ (by omega)
  have h5:n % 2 ^ j < 2 ^ j:=Int.emod_lt_of_pos _ hz
  have h6:(2:Int) ^ j < 9223372036854775808:=by
    have:((2 ^ j:Nat):Int) < ((2 ^ 63:Nat):Int):=Int.ofNat_lt.2 hp
    simpa using this
  rw [Int.toNat_of_nonneg h4,IntKind.wrap_i64]
  omega
theorem and8 (n:Int):bits .and .i64 n 255=n % 256:=and_mask n 8 (by decide)
theorem and16 (n:Int):bits .and .i64 n 65535=n % 65536:=and_mask n 16 (by decide)
theorem and32 (n:Int):bits .and .i64 n 4294967295=n % 4294967296:=and_mask n 32 (by decide)


theorem ret_int {k:IntKind} {a b:Int} (h:a=b):Ending.returned (.int k a)=.returned (.int k b):=by rw [h]
theorem ret_bool {a b:Bool} (h:a=b):Ending.returned (.bool a)=.returned (.bool b):=by rw [h]
theorem ret_two {k j:IntKind} {a b c d:Int} (h:a=b) (h':c=d):Ending.returned (.tuple #[.int k a,.int j c])=.returned (.tuple #[.int k b,.int j d]):=by rw [h,h']

/-- What a call makes of the world where it changes nothing that was there. -/
def Kept (w w':World):Prop:=Below w.heap.size w w'
theorem Kept.refl (w:World):Kept w w:=Below.refl _ _
theorem Kept.trans {a b c:World} (h:Kept a b) (k:Kept b c):Kept a c:=Below.trans h (Below.mono k h.size)
theorem Kept.alloc {a w:World} (h:Kept a w) (o:Obj):Kept a (w.alloc o):=Below.alloc h h.size o
theorem Kept.drew {a w:World} (h:Kept a w):Kept a w.drew:=Below.drew h



/-- Of two wrapped numbers, what an operator makes: the number ahead of its last wrap is in all 64 bits. -/
def tr (b:Bool):Int:=if b then 1 else 0
def opv (op k x y:Int):Int :=
  if op=5 then wr k (wrap64 (x * y))
  else if op=6 then (if y=0 then 0 else wr k (wrap64 (x.tdiv y)))
  else if op=7 then (if y=0 then 0 else wr k (x.tmod y))
  else if op=8 then wr k (wrap64 (x+y))
  else if op=9 then wr k (wrap64 (x - y))
  else if op=10 then tr (decide (x < y))
  else if op=11 then tr (decide (y < x))
  else if op=12 then tr (decide (x≤y))
  else if op=13 then tr (decide (y≤x))
  else if op=14 then tr (x == y)
  else if op=15 then tr (x != y)
  else if op=16 then wr k (bits .and .i64 x y)
  else if op=17 then wr k (bits .xor .i64 x y)
  else if op=18 then wr k (bits .or .i64 x y)
  else 0
def opf (op y:Int):Int:=if (op=6 ∨ op=7)∧y=0 then 1 else 0
def apv (op k a b:Int):Int:=if sc k then opv op k (wr k a) (wr k b) else 0
def apf (op k b:Int):Int:=if sc k then opf op (wr k b) else 0
theorem op_cases (o:Int):o=5 ∨ o=6 ∨ o=7 ∨ o=8 ∨ o=9 ∨ o=10 ∨ o=11 ∨ o=12 ∨ o=13 ∨ o=14 ∨ o=15 ∨ o=16 ∨ o=17 ∨ o=18 ∨ o < 5 ∨ 18 < o:=by omega
theorem wr_zero (k:Int):wr k 0=0:=by
  rcases kind_cases k with rfl | rfl | rfl | rfl | rfl | rfl | rfl | rfl | rfl | rfl | rfl | h | h
  all_goals first | rfl | exact wr_none (by omega) 0
theorem opv_none {op:Int} (h:op < 5 ∨ 18 < op) (k x y:Int):opv op k x y=0:=by
  unfold opv
  rw [if_neg (by omega),if_neg (by omega),if_neg (by omega),if_neg (by omega),if_neg (by omega),if_neg (by omega),if_neg (by omega),if_neg (by omega),if_neg (by omega),if_neg (by omega),if_neg (by omega),if_neg (by omega),if_neg (by omega),if_neg (by omega)]
theorem opf_none {op:Int} (h:¬ (op=6 ∨ op=7)) (y:Int):opf op y=0:=by
  unfold opf;rw [if_neg (fun q=>h q.1)]
theorem opf_not {op y:Int} (h:¬ y=0):opf op y=0:=by unfold opf;rw [if_neg (fun q=>h q.2)]
theorem opv_div {y:Int} (h:¬ y=0) (k x:Int):opv 6 k x y=wr k (wrap64 (x.tdiv y)):=by
  show (if y=0 then 0 else _)=_;rw [if_neg h]
theorem opv_mod {y:Int} (h:¬ y=0) (k x:Int):opv 7 k x y=wr k (x.tmod y):=by
  show (if y=0 then 0 else _)=_;rw [if_neg h]



theorem not64 (a:Int):bits .xor .i64 (-1) a=wrap64 (-1 - a):=by
  show IntKind.i64.wrap ((BitVec.ofInt 64 (-1) ^^^ BitVec.ofInt 64 a).toNat:Int)=_
  have h1:BitVec.ofInt 64 (-1)=BitVec.allOnes 64:=by decide
  rw [h1,BitVec.allOnes_xor,BitVec.toNat_not,BitVec.toNat_ofInt,IntKind.wrap_i64]
  unfold wrap64
  have:=Int.emod_nonneg a (show ((2 ^ 64:Nat):Int) ≠ 0 by decide)
  omega
/-- A number and its wrap to 64 bits are wrapped alike. -/
theorem wr_wrap64 (k n:Int) (h:k ≠ 1):wr k (wrap64 n)=wr k n:=by
  rcases kind_cases k with rfl | rfl | rfl | rfl | rfl | rfl | rfl | rfl | rfl | rfl | rfl | h | h
  · exact absurd rfl h
  any_goals (show sw _ _=sw _ _;unfold sw wrap64;omega)
  any_goals (show uw _ _=uw _ _;unfold uw wrap64;omega)
  all_goals rw [wr_none (by omega),wr_none (by omega)]
def ngv (k a:Int):Int:=wr k (wrap64 (-a))
def ntv (k a:Int):Int:=if k=1 then tr (a == 0) else wr k (-1 - a)
theorem wr1 (a:Int):wr 1 a=if a=0 then 0 else 1:=rfl
theorem not_n (k a:Int) (h:k ≠ 1):wr k (bits .xor .i64 (-1) a)=ntv k a:=by
  unfold ntv;rw [if_neg h,not64,wr_wrap64 k _ h]
theorem text_inj {a b:ByteArray} (h:a.toList=b.toList):a=b:=by
  rw [ByteArray.toList_eq,ByteArray.toList_eq] at h
  cases a;cases b
  exact congrArg ByteArray.mk (Array.toList_inj.1 h)


theorem wr_lo (k n:Int):lo k≤wr k n:=by
  rcases kind_cases k with rfl | rfl | rfl | rfl | rfl | rfl | rfl | rfl | rfl | rfl | rfl | h | h
  · show 0≤(if n=0 then (0:Int) else 1);split <;> omega
  any_goals (show _≤sw _ _;unfold sw lo;simp;omega)
  any_goals (show _≤uw _ _;unfold uw lo;simp;omega)
  all_goals rw [wr_none (by omega),lo_none (by omega)];exact Int.le_refl _
theorem wr_hi (k n:Int):wr k n≤hi k:=by
  rcases kind_cases k with rfl | rfl | rfl | rfl | rfl | rfl | rfl | rfl | rfl | rfl | rfl | h | h
  · show (if n=0 then (0:Int) else 1)≤1;split <;> omega
  any_goals (show sw _ _≤_;unfold sw hi;simp;omega)
  any_goals (show uw _ _≤_;unfold uw hi;simp;omega)
  all_goals rw [wr_none (by omega),hi_none (by omega)];exact Int.le_refl _
theorem wr_wr (k n:Int):wr k (wr k n)=wr k n:=by
  rcases kind_cases k with rfl | rfl | rfl | rfl | rfl | rfl | rfl | rfl | rfl | rfl | rfl | h | h
  · by_cases h:n=0
    · subst h;rfl
    · have e:wr 1 n=1:=by show (if n=0 then (0:Int) else 1)=1;rw [if_neg h]
      rw [e];rfl
  any_goals (show sw _ (sw _ _)=sw _ _;unfold sw;omega)
  any_goals (show uw _ (uw _ _)=uw _ _;unfold uw;omega)
  all_goals rw [wr_none (by omega),wr_none (by omega)]
/- The difference of a number and its wrap, moved up by what the width leaves, is nothing. -/
def tSHL:ByteArray:=⟨#[83,72,76]⟩
def tSHR:ByteArray:=⟨#[83,72,82]⟩
def tROL:ByteArray:=⟨#[82,79,76]⟩
def tROR:ByteArray:=⟨#[82,79,82]⟩
def shlv (k x m:Int):Int:=if wd k≤m then 0 else wr k (wrap64 (x * 2 ^ m.toNat))
def shrv (k x m:Int):Int:=if wd k≤m then 0 else x / 2 ^ m.toNat
def rolv (k x m:Int):Int:=wr k (bits .or .i64 (wrap64 (x * 2 ^ (m % wd k).toNat)) (x / 2 ^ (wd k - m % wd k).toNat))
def rorv (k x m:Int):Int:=wr k (bits .or .i64 (x / 2 ^ (m % wd k).toNat) (wrap64 (x * 2 ^ (wd k - m % wd k).toNat)))
def shv (s:ByteArray) (k a n:Int):Int :=
  if k=8 ∨ k=9 ∨ k=10 then
    (if s=tSHL then shlv k (wr k a) (max n 0) else if s=tSHR then shrv k (wr k a) (max n 0)
     else if s=tROL then rolv k (wr k a) (max n 0) else if s=tROR then rorv k (wr k a) (max n 0) else 0)
  else 0
theorem or_comm64 (a b:Int):bits .or .i64 a b=bits .or .i64 b a:=by
  show IntKind.i64.wrap ((BitVec.ofInt 64 a ||| BitVec.ofInt 64 b).toNat:Int)=IntKind.i64.wrap ((BitVec.ofInt 64 b ||| BitVec.ofInt 64 a).toNat:Int)
  rw [BitVec.or_comm]
theorem shv_none (s:ByteArray) {k:Int} (h:¬ (k=8 ∨ k=9 ∨ k=10)) (a n:Int):shv s k a n=0:=by unfold shv;rw [if_neg h]
theorem shv_other {s:ByteArray} (h1:¬ s=tSHL) (h2:¬ s=tSHR) (h3:¬ s=tROL) (h4:¬ s=tROR) (k a n:Int):shv s k a n=0:=by
  unfold shv
  by_cases hk:k=8 ∨ k=9 ∨ k=10
  · rw [if_pos hk,if_neg h1,if_neg h2,if_neg h3,if_neg h4]
  · rw [if_neg hk]
theorem shv_SHL {k:Int} (h:k=8 ∨ k=9 ∨ k=10) (a n:Int):shv tSHL k a n=shlv k (wr k a) (max n 0):=by
  unfold shv;rw [if_pos h,if_pos rfl]
theorem shv_SHR {k:Int} (h:k=8 ∨ k=9 ∨ k=10) (a n:Int):shv tSHR k a n=shrv k (wr k a) (max n 0):=by
  unfold shv;rw [if_pos h,if_neg (by decide),if_pos rfl]
theorem shv_ROL {k:Int} (h:k=8 ∨ k=9 ∨ k=10) (a n:Int):shv tROL k a n=rolv k (wr k a) (max n 0):=by
  unfold shv;rw [if_pos h,if_neg (by decide),if_neg (by decide),if_pos rfl]
theorem shv_ROR {k:Int} (h:k=8 ∨ k=9 ∨ k=10) (a n:Int):shv tROR k a n=rorv k (wr k a) (max n 0):=by
  unfold shv;rw [if_pos h,if_neg (by decide),if_neg (by decide),if_neg (by decide),if_pos rfl]
theorem wd_bits {k:Int} (h:k=8 ∨ k=9 ∨ k=10):8≤wd k∧wd k≤32:=by
  rcases h with rfl | rfl | rfl
  all_goals decide
theorem max_neg {n:Int} (h:n < 0):max n 0=0:=by omega
theorem max_pos {n:Int} (h:0≤n):max n 0=n:=by omega
theorem shl_neg {k:Int} (hk:k=8 ∨ k=9 ∨ k=10) (a:Int) {n:Int} (h:n < 0):wr k (wrap64 (wr k a))=shv tSHL k a n:=by
  have:=wd_bits hk
  rw [shv_SHL hk,max_neg h];unfold shlv;rw [if_neg (by omega)];simp
theorem shl_in {k:Int} (hk:k=8 ∨ k=9 ∨ k=10) (a:Int) {n:Int} (h:0≤n) (h':n < wd k):wr k (wrap64 (wr k a * 2 ^ n.toNat))=shv tSHL k a n:=by
  rw [shv_SHL hk,max_pos h];unfold shlv;rw [if_neg (by omega)]
theorem shl_out {k:Int} (hk:k=8 ∨ k=9 ∨ k=10) (a:Int) {n:Int} (h':wd k≤n):0=shv tSHL k a n:=by
  have:=wd_bits hk
  rw [shv_SHL hk,max_pos (by omega)];unfold shlv;rw [if_pos h']
theorem shl_out8 (a:Int) {n:Int} (h':8≤n):wr 8 (wrap64 (wr 8 a * 256))=shv tSHL 8 a n:=by
  rw [← shl_out (k:=8) (by decide) a (n:=n) h'];show uw 256 (wrap64 (uw 256 a * 256))=0;unfold uw wrap64;omega
theorem shl_out9 (a:Int) {n:Int} (h':16≤n):wr 9 (wrap64 (wr 9 a * 65536))=shv tSHL 9 a n:=by
  rw [← shl_out (k:=9) (by decide) a (n:=n) h'];show uw 65536 (wrap64 (uw 65536 a * 65536))=0;unfold uw wrap64;omega
theorem shl_out10 (a:Int) {n:Int} (h':32≤n):wr 10 (wrap64 (wr 10 a * 4294967296))=shv tSHL 10 a n:=by
  rw [← shl_out (k:=10) (by decide) a (n:=n) h'];show uw 4294967296 (wrap64 (uw 4294967296 a * 4294967296))=0;unfold uw wrap64;omega
theorem shr_neg {k:Int} (hk:k=8 ∨ k=9 ∨ k=10) (a:Int) {n:Int} (h:n < 0):wr k a=shv tSHR k a n:=by
  have:=wd_bits hk
  rw [shv_SHR hk,max_neg h];unfold shrv;rw [if_neg (by omega)];simp
theorem shr_in {k:Int} (hk:k=8 ∨ k=9 ∨ k=10) (a:Int) {n:Int} (h:0≤n) (h':n < wd k):wr k a / 2 ^ n.toNat=shv tSHR k a n:=by
  rw [shv_SHR hk,max_pos h];unfold shrv;rw [if_neg (by omega)]
theorem shr_out {k:Int} (hk:k=8 ∨ k=9 ∨ k=10) (a:Int) {n:Int} (h':wd k≤n):0=shv tSHR k a n:=by
  have:=wd_bits hk
  rw [shv_SHR hk,max_pos (by omega)];unfold shrv;rw [if_pos h']
theorem shr_out8 (a:Int) {n:Int} (h':8≤n):wr 8 a / 256=shv tSHR 8 a n:=by
  rw [← shr_out (k:=8) (by decide) a (n:=n) h'];show uw 256 a / 256=0;unfold uw;omega
theorem shr_out9 (a:Int) {n:Int} (h':16≤n):wr 9 a / 65536=shv tSHR 9 a n:=by
  rw [← shr_out (k:=9) (by decide) a (n:=n) h'];show uw 65536 a / 65536=0;unfold uw;omega
theorem shr_out10 (a:Int) {n:Int} (h':32≤n):wr 10 a / 4294967296=shv tSHR 10 a n:=by
  rw [← shr_out (k:=10) (by decide) a (n:=n) h'];show uw 4294967296 a / 4294967296=0;unfold uw;omega
theorem rol_in {k:Int} (hk:k=8 ∨ k=9 ∨ k=10) (a:Int) {n:Int} (h:0≤n):wr k (bits .or .i64 (wrap64 (wr k a * 2 ^ (n % wd k).toNat)) (wr k a / 2 ^ (wd k - n % wd k).toNat))=shv tROL k a n:=by
  rw [shv_ROL hk,max_pos h];rfl
theorem rol_neg {k:Int} (hk:k=8 ∨ k=9 ∨ k=10) (a:Int) {n:Int} (h:n < 0):wr k (bits .or .i64 (wrap64 (wr k a)) (wr k a / 2 ^ (wd k).toNat))=shv tROL k a n:=by
  rw [shv_ROL hk,max_neg h];unfold rolv;simp
theorem ror_r {k:Int} (hk:k=8 ∨ k=9 ∨ k=10) (a:Int) {n:Int} (h:0≤n):wr k (bits .or .i64 (wr k a / 2 ^ (n % wd k).toNat) (wrap64 (wr k a * 2 ^ (wd k - n % wd k).toNat)))=shv tROR k a n:=by
  rw [shv_ROR hk,max_pos h];rfl
theorem ror_rneg {k:Int} (hk:k=8 ∨ k=9 ∨ k=10) (a:Int) {n:Int} (h:n < 0):wr k (bits .or .i64 (wr k a) (wrap64 (wr k a * 2 ^ (wd k).toNat)))=shv tROR k a n:=by
  rw [shv_ROR hk,max_neg h];unfold rorv;simp
theorem ror_n {k:Int} (hk:k=8 ∨ k=9 ∨ k=10) (a:Int) {n:Int} (h:0≤n):wr k (bits .or .i64 (wrap64 (wr k a * 2 ^ (wd k - n % wd k).toNat)) (wr k a / 2 ^ (wd k - (wd k - n % wd k)).toNat))=shv tROR k a n:=by
  rw [← ror_r hk a h,or_comm64,show wd k - (wd k - n % wd k)=n % wd k by omega]
theorem ror_nneg {k:Int} (hk:k=8 ∨ k=9 ∨ k=10) (a:Int) {n:Int} (h:n < 0):wr k (bits .or .i64 (wrap64 (wr k a * 2 ^ (wd k).toNat)) (wr k a))=shv tROR k a n:=by
  rw [← ror_rneg hk a h,or_comm64]

/- Turned round and back. -/
end Nm
end Go.Proofs.YthjclogkcmomkaaGreatDoor
