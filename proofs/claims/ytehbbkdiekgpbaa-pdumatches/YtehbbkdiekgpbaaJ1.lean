/- Requests and replies in plain mathematics: words, bits, bytes. · Requests and replies in plain mathematics: which there are, their bytes. · Requests read out of bytes, in plain mathematics. · Slices in memory: bytes, words, bits; what of them stays. · The walks: small functions. · The walks: words laid behind bytes. · The walks: words laid behind bytes, the document's. · The walks: bits packed into bytes. · The walks: bits taken out of bytes. · The walks: bits taken out of bytes, the document's. · The walks: words taken out of bytes. · The walks: lists held against one another; copies. · The walks: counted bits and words laid behind bytes. -/
import Derived.Test.YtehbbkdiekgpbaaProg
import Derived.WalkKit
import Derived.WalkSpells
import Derived.WalkLawsBesides
import Derived.Laws.NewBlocks
import Derived.Laws.AppendOwnNone
import Derived.OwnWalk
import Derived.BigQuiet
import Derived.Deep.QuietTactic
import Derived.Deep.RegionLaw
import Derived.Laws.BytesArg
namespace Go.Proofs.Ytehbbkdiekgpbaa
namespace Pdu
/-- A number of two bytes, the higher one first. -/
def wd (x : Nat) : List Nat := [x / 256, x % 256]
def wds (l : List Nat) : List Nat := l.flatMap wd
def packed (n : Nat) : Nat := (n + 7) / 8
/-- The bytes behind the first k bits. -/
def pk (l : List Bool) (m : Nat) : Nat → List Nat
  | 0 => List.replicate m 0
  | k + 1 => if l.getD k false then (pk l m k).set (k / 8) ((pk l m k).getD (k / 8) 0 ||| 2 ^ (k % 8)) else pk l m k
def pack (l : List Bool) : List Nat := pk l (packed l.length) l.length
/-- The first n bits of b. -/
def ub (b : List Nat) (n : Nat) : List Bool := (List.range n).map fun i => (b.getD (i / 8) 0).testBit (i % 8)
def wordAt (b : List Nat) (i : Nat) : Nat := 256 * b.getD i 0 + b.getD (i + 1) 0
def ws (b : List Nat) : List Nat := (List.range (b.length / 2)).map fun i => wordAt b (2 * i)
def Bytes (bs : List Nat) : Prop := ∀ x ∈ bs, x < 256
def Words (l : List Nat) : Prop := ∀ x ∈ l, x < 65536

theorem Bytes.at {bs : List Nat} (h : Bytes bs) (k : Nat) : bs.getD k 0 < 256 := by
  by_cases hk : k < bs.length
  · rw [List.getD_eq_getElem?_getD, List.getElem?_eq_getElem hk]
    exact h _ (List.getElem_mem hk)
  · rw [List.getD_eq_getElem?_getD, List.getElem?_eq_none (by omega)]
    decide
theorem Words.at {bs : List Nat} (h : Words bs) (k : Nat) : bs.getD k 0 < 65536 := by
  by_cases hk : k < bs.length
  · rw [List.getD_eq_getElem?_getD, List.getElem?_eq_getElem hk]
    exact h _ (List.getElem_mem hk)
  · rw [List.getD_eq_getElem?_getD, List.getElem?_eq_none (by omega)]
    decide
theorem Bytes.nil : Bytes [] := fun _ h => by simp at h
theorem Bytes.app {a b : List Nat} (ha : Bytes a) (hb : Bytes b) : Bytes (a ++ b) := fun x hx => (List.mem_append.1 hx).elim (ha x) (hb x)
theorem Bytes.cons {a : Nat} {b : List Nat} (ha : a < 256) (hb : Bytes b) : Bytes (a :: b) := fun x hx => by
  rcases List.mem_cons.1 hx with rfl | hx
  · exact ha
  · exact hb x hx
theorem Bytes.take {bs : List Nat} (h : Bytes bs) (k : Nat) : Bytes (bs.take k) := fun x hx => h x (List.mem_of_mem_take hx)
theorem Bytes.drop {bs : List Nat} (h : Bytes bs) (k : Nat) : Bytes (bs.drop k) := fun x hx => h x (List.mem_of_mem_drop hx)
theorem wd_bytes {x : Nat} (h : x < 65536) : Bytes (wd x) := by
  intro y hy
  simp only [wd, List.mem_cons, List.not_mem_nil, or_false] at hy
  omega
theorem wds_bytes {l : List Nat} (h : Words l) : Bytes (wds l) := by
  intro y hy
  simp only [wds, List.mem_flatMap] at hy
  obtain ⟨x, hx, hy⟩ := hy
  exact wd_bytes (h x hx) y hy
theorem wds_length (l : List Nat) : (wds l).length = 2 * l.length := by
  induction l with
  | nil => rfl
  | cons a l ih => simp only [wds, List.flatMap_cons, List.length_append, List.length_cons] at *; rw [ih]; simp only [wd, List.length_cons, List.length_nil]; omega
theorem wds_cons (a : Nat) (l : List Nat) : wds (a :: l) = wd a ++ wds l := by simp [wds]
theorem wds_app (a b : List Nat) : wds (a ++ b) = wds a ++ wds b := by simp [wds]
theorem wds_one (a : Nat) : wds [a] = wd a := by simp [wds]
theorem wds_two (a b : Nat) : wds [a, b] = wd a ++ wd b := by simp [wds]
theorem wds_three (a b c : Nat) : wds [a, b, c] = wd a ++ (wd b ++ wd c) := by simp [wds]
theorem wds_take_succ (l : List Nat) (k : Nat) (h : k < l.length) : wds (l.take (k + 1)) = wds (l.take k) ++ wd (l.getD k 0) := by
  rw [List.take_add_one, List.getElem?_eq_getElem h, wds_app, List.getD_eq_getElem?_getD, List.getElem?_eq_getElem h]
  simp [wds]

theorem pk_length (l : List Bool) (m k : Nat) : (pk l m k).length = m := by
  induction k with
  | zero => simp [pk]
  | succ k ih =>
    simp only [pk]
    split
    · rw [List.length_set, ih]
    · exact ih
theorem pk_bytes (l : List Bool) (m k : Nat) : Bytes (pk l m k) := by
  induction k with
  | zero =>
    intro x hx
    simp only [pk, List.mem_replicate] at hx
    omega
  | succ k ih =>
    simp only [pk]
    split
    · intro x hx
      rcases List.mem_or_eq_of_mem_set hx with hx | rfl
      · exact ih x hx
      · exact Nat.or_lt_two_pow (n := 8) (ih.at _) (Nat.pow_lt_pow_right (by decide) (by omega))
    · exact ih
theorem pack_length (l : List Bool) : (pack l).length = packed l.length := pk_length ..
theorem pack_bytes (l : List Bool) : Bytes (pack l) := pk_bytes l _ _
theorem getD_set (l : List Nat) (i j x : Nat) : (l.set i x).getD j 0 = if i = j ∧ j < l.length then x else l.getD j 0 := by
  simp only [List.getD_eq_getElem?_getD, List.getElem?_set]
  by_cases h : i = j
  · subst h
    by_cases hj : i < l.length
    · simp [hj]
    · rw [if_pos rfl, if_neg hj, if_neg (by omega), List.getElem?_eq_none (by omega)]
  · rw [if_neg h, if_neg (by omega)]
theorem pk_bit (l : List Bool) (m k i : Nat) (hi : i < 8 * m) : ((pk l m k).getD (i / 8) 0).testBit (i % 8) = (decide (i < k) && l.getD i false) := by
  induction k with
  | zero =>
    have : (pk l m 0).getD (i / 8) 0 = 0 := by
      simp only [pk, List.getD_eq_getElem?_getD, List.getElem?_replicate]
      split <;> rfl
    rw [this]
    simp
  | succ k ih =>
    simp only [pk]
    by_cases hl : l.getD k false = true
    · rw [if_pos hl, getD_set, pk_length]
      by_cases hk : k / 8 = i / 8
      · rw [if_pos ⟨hk, by omega⟩, Nat.testBit_or, hk, ih, Nat.testBit_two_pow]
        by_cases he : i = k
        · subst he
          rw [decide_eq_true (show i % 8 = i % 8 from rfl), decide_eq_true (show i < i + 1 by omega), hl]
          simp
        · have h1 : ¬ k % 8 = i % 8 := by omega
          have h2 : decide (i < k) = decide (i < k + 1) := by rw [decide_eq_decide]; omega
          rw [decide_eq_false h1, Bool.or_false, h2]
      · rw [if_neg (by omega), ih]
        have h2 : decide (i < k) = decide (i < k + 1) := by rw [decide_eq_decide]; omega
        rw [h2]
    · rw [if_neg hl, ih]
      by_cases he : i = k
      · subst he
        simp only [Bool.not_eq_true] at hl
        rw [hl, Bool.and_false, Bool.and_false]
      · have h2 : decide (i < k) = decide (i < k + 1) := by rw [decide_eq_decide]; omega
        rw [h2]
theorem pack_bit (l : List Bool) (i : Nat) (hi : i < 8 * packed l.length) : ((pack l).getD (i / 8) 0).testBit (i % 8) = (decide (i < l.length) && l.getD i false) := pk_bit l _ _ i hi
theorem ub_length (b : List Nat) (n : Nat) : (ub b n).length = n := by simp [ub]
theorem ub_at (b : List Nat) (n i : Nat) (h : i < n) : (ub b n).getD i false = (b.getD (i / 8) 0).testBit (i % 8) := by
  simp [ub, List.getD_eq_getElem?_getD, h]
theorem ub_pack (l : List Bool) : ub (pack l) l.length = l := by
  apply List.ext_getElem?
  intro i
  by_cases hi : i < l.length
  · have h1 := ub_at (pack l) l.length i hi
    rw [pack_bit l i (by unfold packed; omega), decide_eq_true hi, Bool.true_and] at h1
    rw [List.getD_eq_getElem?_getD, List.getD_eq_getElem?_getD, List.getElem?_eq_getElem hi, List.getElem?_eq_getElem (by rw [ub_length]; exact hi)] at h1
    rw [List.getElem?_eq_getElem hi, List.getElem?_eq_getElem (by rw [ub_length]; exact hi)]
    simpa using h1
  · rw [List.getElem?_eq_none (by rw [ub_length]; omega), List.getElem?_eq_none (by omega)]
theorem ub_succ (b : List Nat) (n : Nat) : ub b (n + 1) = ub b n ++ [(b.getD (n / 8) 0).testBit (n % 8)] := by
  simp [ub, List.range_succ]
theorem byte_ext {x y : Nat} (hx : x < 256) (hy : y < 256) (h : ∀ r, r < 8 → x.testBit r = y.testBit r) : x = y := by
  apply Nat.eq_of_testBit_eq
  intro r
  by_cases hr : r < 8
  · exact h r hr
  · have h2 : 256 ≤ 2 ^ r := by
      have := Nat.pow_le_pow_right (n := 2) (by decide) (show 8 ≤ r by omega)
      simpa using this
    rw [Nat.testBit_lt_two_pow (by omega), Nat.testBit_lt_two_pow (by omega)]
/-- What is packed again of a list's bits is the list but for its last byte. -/
theorem pack_ub (b : List Nat) (n j : Nat) (hb : Bytes b) (hj : 8 * j + 8 ≤ n) : (pack (ub b n)).getD j 0 = b.getD j 0 := by
  apply byte_ext ((pack_bytes _).at j) (hb.at j)
  intro r hr
  have h1 := pack_bit (ub b n) (8 * j + r) (by rw [ub_length]; unfold packed; omega)
  rw [ub_length, ub_at _ _ _ (by omega), show (8 * j + r) / 8 = j by omega, show (8 * j + r) % 8 = r by omega, decide_eq_true (by omega), Bool.true_and] at h1
  exact h1

theorem ws_length (b : List Nat) : (ws b).length = b.length / 2 := by simp [ws]
theorem wordAt_lt {b : List Nat} (h : Bytes b) (i : Nat) : wordAt b i < 65536 := by
  have h1 := h.at i
  have h2 := h.at (i + 1)
  unfold wordAt
  omega
theorem ws_words {b : List Nat} (h : Bytes b) : Words (ws b) := by
  intro x hx
  simp only [ws, List.mem_map] at hx
  obtain ⟨i, _, rfl⟩ := hx
  exact wordAt_lt h _
theorem ws_cons (x y : Nat) (b : List Nat) : ws (x :: y :: b) = (256 * x + y) :: ws b := by
  unfold ws
  rw [show (x :: y :: b).length / 2 = b.length / 2 + 1 by simp only [List.length_cons]; omega, List.range_succ_eq_map]
  simp only [List.map_cons, List.map_map]
  congr 1
theorem ws_wds (l : List Nat) : ws (wds l) = l := by
  induction l with
  | nil => rfl
  | cons a l ih =>
    rw [wds_cons]
    simp only [wd, List.cons_append, List.nil_append]
    rw [ws_cons, ih]
    congr 1
    omega
theorem wds_ws : ∀ (b : List Nat), Bytes b → b.length % 2 = 0 → wds (ws b) = b
  | [], _, _ => rfl
  | [_], _, h => by simp at h
  | x :: y :: b, hb, h => by
    rw [ws_cons, wds_cons, wds_ws b (fun z hz => hb z (by simp [hz])) (by simp only [List.length_cons] at h; omega)]
    have hx := hb x (by simp)
    have hy := hb y (by simp)
    simp only [wd, List.cons_append, List.nil_append, List.cons.injEq, and_true]
    omega
end Pdu
namespace Pdu
structure Rq where
  fn : Nat
  addr : Nat
  n : Nat
  addr2 : Nat
  bits : List Bool
  regs : List Nat
structure Rq.Ok (q : Rq) : Prop where
  fn : q.fn < 256
  addr : q.addr < 65536
  n : q.n < 65536
  addr2 : q.addr2 < 65536
  regs : Words q.regs
abbrev FitsN (fn n a2 nb nr : Nat) : Prop :=
  ((fn = 1 ∨ fn = 2) ∧ 1 ≤ n ∧ n ≤ 2000 ∧ nb = 0 ∧ nr = 0 ∧ a2 = 0) ∨ ((fn = 3 ∨ fn = 4) ∧ 1 ≤ n ∧ n ≤ 125 ∧ nb = 0 ∧ nr = 0 ∧ a2 = 0) ∨ (fn = 5 ∧ n = 0 ∧ nb = 1 ∧ nr = 0 ∧ a2 = 0) ∨ (fn = 6 ∧ n = 0 ∧ nb = 0 ∧ nr = 1 ∧ a2 = 0) ∨ (fn = 15 ∧ n = 0 ∧ 1 ≤ nb ∧ nb ≤ 1968 ∧ nr = 0 ∧ a2 = 0) ∨ (fn = 16 ∧ n = 0 ∧ nb = 0 ∧ 1 ≤ nr ∧ nr ≤ 123 ∧ a2 = 0) ∨ (fn = 22 ∧ n = 0 ∧ nb = 0 ∧ nr = 2 ∧ a2 = 0) ∨ (fn = 23 ∧ 1 ≤ n ∧ n ≤ 125 ∧ nb = 0 ∧ 1 ≤ nr ∧ nr ≤ 121)
abbrev Rq.Fits (q : Rq) : Prop := FitsN q.fn q.n q.addr2 q.bits.length q.regs.length
def coil (on : Bool) : Nat := if on then 65280 else 0
theorem coil_lt (on : Bool) : coil on < 65536 := by cases on <;> decide
def tail (q : Rq) : List Nat :=
  if q.fn = 5 then wd (coil (q.bits.getD 0 false))
  else if q.fn = 6 ∨ q.fn = 22 then wds q.regs
  else if q.fn = 15 then wd q.bits.length ++ ((pack q.bits).length % 256 :: pack q.bits)
  else if q.fn = 16 then wd q.regs.length ++ (2 * q.regs.length % 256 :: wds q.regs)
  else if q.fn = 23 then wd q.n ++ (wd q.addr2 ++ (wd q.regs.length ++ (2 * q.regs.length % 256 :: wds q.regs)))
  else wd q.n
def reqBytes (q : Rq) : List Nat := q.fn :: (wd q.addr ++ tail q)
structure Rp where
  fn : Nat
  exc : Nat
  addr : Nat
  n : Nat
  bits : List Bool
  regs : List Nat
structure Rp.Ok (q : Rp) : Prop where
  fn : q.fn < 256
  exc : q.exc < 256
  addr : q.addr < 65536
  n : q.n < 65536
  regs : Words q.regs
abbrev RFitsN (fn exc addr n nb nr : Nat) : Prop :=
  (exc ≠ 0 ∧ fn < 128 ∧ addr = 0 ∧ n = 0 ∧ nb = 0 ∧ nr = 0) ∨ (exc = 0 ∧ (((fn = 1 ∨ fn = 2) ∧ 1 ≤ nb ∧ nb ≤ 2000 ∧ nr = 0 ∧ n = 0 ∧ addr = 0) ∨ ((fn = 3 ∨ fn = 4 ∨ fn = 23) ∧ 1 ≤ nr ∧ nr ≤ 125 ∧ nb = 0 ∧ n = 0 ∧ addr = 0) ∨ (fn = 5 ∧ nb = 1 ∧ nr = 0 ∧ n = 0) ∨ (fn = 6 ∧ nr = 1 ∧ nb = 0 ∧ n = 0) ∨ (fn = 15 ∧ 1 ≤ n ∧ n ≤ 1968 ∧ nb = 0 ∧ nr = 0) ∨ (fn = 16 ∧ 1 ≤ n ∧ n ≤ 123 ∧ nb = 0 ∧ nr = 0) ∨ (fn = 22 ∧ nr = 2 ∧ nb = 0 ∧ n = 0)))
abbrev Rp.Fits (r : Rp) : Prop := RFitsN r.fn r.exc r.addr r.n r.bits.length r.regs.length
def rtail (r : Rp) : List Nat :=
  if r.fn = 5 then wd r.addr ++ wd (coil (r.bits.getD 0 false))
  else if r.fn = 6 ∨ r.fn = 22 then wd r.addr ++ wds r.regs
  else if r.fn = 15 ∨ r.fn = 16 then wd r.addr ++ wd r.n
  else if r.fn = 1 ∨ r.fn = 2 then (pack r.bits).length % 256 :: pack r.bits
  else 2 * r.regs.length % 256 :: wds r.regs
def repBytes (r : Rp) : List Nat := if r.exc = 0 then r.fn :: rtail r else [r.fn + 128, r.exc]
theorem wd_length (x : Nat) : (wd x).length = 2 := rfl
theorem reqBytes_bytes {q : Rq} (h : q.Ok) (hb : q.bits.length < 65536) (hr : q.regs.length < 65536) : Bytes (reqBytes q) := by
  refine Bytes.cons h.fn ((wd_bytes h.addr).app ?_)
  unfold tail
  split
  · exact wd_bytes (coil_lt _)
  split
  · exact wds_bytes h.regs
  split
  · exact (wd_bytes hb).app (Bytes.cons (Nat.mod_lt _ (by decide)) (pack_bytes _))
  split
  · exact (wd_bytes hr).app (Bytes.cons (Nat.mod_lt _ (by decide)) (wds_bytes h.regs))
  split
  · exact (wd_bytes h.n).app ((wd_bytes h.addr2).app ((wd_bytes hr).app (Bytes.cons (Nat.mod_lt _ (by decide)) (wds_bytes h.regs))))
  · exact wd_bytes h.n
theorem repBytes_bytes {r : Rp} (h : r.Ok) (hf : r.Fits) : Bytes (repBytes r) := by
  unfold repBytes
  split
  · refine Bytes.cons h.fn ?_
    unfold rtail
    split
    · exact (wd_bytes h.addr).app (wd_bytes (coil_lt _))
    split
    · exact (wd_bytes h.addr).app (wds_bytes h.regs)
    split
    · exact (wd_bytes h.addr).app (wd_bytes h.n)
    split
    · exact Bytes.cons (Nat.mod_lt _ (by decide)) (pack_bytes _)
    · exact Bytes.cons (Nat.mod_lt _ (by decide)) (wds_bytes h.regs)
  · have : r.fn < 128 := by unfold Rp.Fits RFitsN at hf; omega
    exact Bytes.cons (by omega) (Bytes.cons h.exc Bytes.nil)
end Pdu
namespace Pdu
/-- These bytes are a request. -/
def IsReq (bs : List Nat) : Prop :=
  5 ≤ bs.length ∧ bs.length ≤ 253 ∧
  (((bs.getD 0 0 = 1 ∨ bs.getD 0 0 = 2) ∧ bs.length = 5 ∧ 1 ≤ wordAt bs 3 ∧ wordAt bs 3 ≤ 2000) ∨
   ((bs.getD 0 0 = 3 ∨ bs.getD 0 0 = 4) ∧ bs.length = 5 ∧ 1 ≤ wordAt bs 3 ∧ wordAt bs 3 ≤ 125) ∨
   (bs.getD 0 0 = 5 ∧ bs.length = 5 ∧ (wordAt bs 3 = 65280 ∨ wordAt bs 3 = 0)) ∨
   (bs.getD 0 0 = 6 ∧ bs.length = 5) ∨
   (bs.getD 0 0 = 15 ∧ 1 ≤ wordAt bs 3 ∧ wordAt bs 3 ≤ 1968 ∧ bs.length = 6 + packed (wordAt bs 3) ∧ bs.getD 5 0 = packed (wordAt bs 3)) ∨
   (bs.getD 0 0 = 16 ∧ 1 ≤ wordAt bs 3 ∧ wordAt bs 3 ≤ 123 ∧ bs.length = 6 + 2 * wordAt bs 3 ∧ bs.getD 5 0 = 2 * wordAt bs 3) ∨
   (bs.getD 0 0 = 22 ∧ bs.length = 7) ∨
   (bs.getD 0 0 = 23 ∧ 10 ≤ bs.length ∧ 1 ≤ wordAt bs 3 ∧ wordAt bs 3 ≤ 125 ∧ 1 ≤ wordAt bs 7 ∧ wordAt bs 7 ≤ 121 ∧ bs.length = 10 + 2 * wordAt bs 7 ∧ bs.getD 9 0 = 2 * wordAt bs 7))
def readReq (bs : List Nat) : Rq :=
  { fn := bs.getD 0 0
    addr := wordAt bs 1
    n := if bs.getD 0 0 ≤ 4 ∨ bs.getD 0 0 = 23 then wordAt bs 3 else 0
    addr2 := if bs.getD 0 0 = 23 then wordAt bs 5 else 0
    bits := if bs.getD 0 0 = 5 then [decide (wordAt bs 3 = 65280)] else if bs.getD 0 0 = 15 then ub (bs.drop 6) (wordAt bs 3) else []
    regs := if bs.getD 0 0 = 6 ∨ bs.getD 0 0 = 22 then ws (bs.drop 3) else if bs.getD 0 0 = 16 then ws (bs.drop 6) else if bs.getD 0 0 = 23 then ws (bs.drop 10) else [] }
theorem isReq_bytes {q : Rq} (hf : q.Fits) (ok : q.Ok) : IsReq (reqBytes q) ∧ readReq (reqBytes q) = q := by
  obtain ⟨fn, addr, n, addr2, bits, regs⟩ := q
  have hA : 256 * (addr / 256) + addr % 256 = addr := by omega
  have hN : 256 * (n / 256) + n % 256 = n := by omega
  have hA2 : 256 * (addr2 / 256) + addr2 % 256 = addr2 := by omega
  have hf' : FitsN fn n addr2 bits.length regs.length := hf
  unfold FitsN at hf'
  rcases hf' with ⟨h, h1, h2, hb, hr, ha⟩ | ⟨h, h1, h2, hb, hr, ha⟩ | ⟨rfl, h1, hb, hr, ha⟩ | ⟨rfl, h1, hb, hr, ha⟩ | ⟨rfl, h1, hb, hb2, hr, ha⟩ | ⟨rfl, h1, hb, hr, hr2, ha⟩ | ⟨rfl, h1, hb, hr, ha⟩ | ⟨rfl, h1, h2, hb, hr, hr2⟩
  · have hb := List.length_eq_zero_iff.1 hb
    have hr := List.length_eq_zero_iff.1 hr
    subst hb hr ha
    rcases h with rfl | rfl <;> exact ⟨⟨by simp [reqBytes, tail, wd], by simp [reqBytes, tail, wd], Or.inl (by simp [reqBytes, tail, wd, wordAt, hN]; omega)⟩, by simp [readReq, reqBytes, tail, wd, wordAt, hA, hN]⟩
  · have hb := List.length_eq_zero_iff.1 hb
    have hr := List.length_eq_zero_iff.1 hr
    subst hb hr ha
    rcases h with rfl | rfl <;> exact ⟨⟨by simp [reqBytes, tail, wd], by simp [reqBytes, tail, wd], Or.inr (Or.inl (by simp [reqBytes, tail, wd, wordAt, hN]; omega))⟩, by simp [readReq, reqBytes, tail, wd, wordAt, hA, hN]⟩
  · have hr := List.length_eq_zero_iff.1 hr
    obtain ⟨on, rfl⟩ := List.length_eq_one_iff.1 hb
    subst hr ha h1
    cases on <;> exact ⟨⟨by simp [reqBytes, tail, wd], by simp [reqBytes, tail, wd], Or.inr (Or.inr (Or.inl (by simp [reqBytes, tail, wd, wordAt, coil])))⟩, by simp [readReq, reqBytes, tail, wd, wordAt, hA, coil]⟩
  · have hb := List.length_eq_zero_iff.1 hb
    obtain ⟨x, rfl⟩ := List.length_eq_one_iff.1 hr
    subst hb ha h1
    have e := ws_wds [x]
    exact ⟨⟨by simp [reqBytes, tail, wd, wds], by simp [reqBytes, tail, wd, wds], Or.inr (Or.inr (Or.inr (Or.inl (by simp [reqBytes, tail, wd, wds]))))⟩, by simp [readReq, reqBytes, tail, wd, wordAt, hA]; exact e⟩
  · have hr := List.length_eq_zero_iff.1 hr
    subst hr ha h1
    have hL : 256 * (bits.length / 256) + bits.length % 256 = bits.length := by omega
    have hp : (pack bits).length = packed bits.length := pack_length bits
    have hp2 : packed bits.length ≤ 246 := by unfold packed; omega
    have hp3 : packed bits.length % 256 = packed bits.length := by omega
    refine ⟨⟨by simp [reqBytes, tail, wd], by simp [reqBytes, tail, wd, hp]; omega, Or.inr (Or.inr (Or.inr (Or.inr (Or.inl ?_))))⟩, ?_⟩
    · simp [reqBytes, tail, wd, wordAt, hL, hp, hp3]
      omega
    · simp [readReq, reqBytes, tail, wd, wordAt, hA, hL, ub_pack]
  · have hb := List.length_eq_zero_iff.1 hb
    subst hb ha h1
    have hL : 256 * (regs.length / 256) + regs.length % 256 = regs.length := by omega
    have hp : (wds regs).length = 2 * regs.length := wds_length regs
    have hp3 : 2 * regs.length % 256 = 2 * regs.length := by omega
    refine ⟨⟨by simp [reqBytes, tail, wd], by simp [reqBytes, tail, wd, hp]; omega, Or.inr (Or.inr (Or.inr (Or.inr (Or.inr (Or.inl ?_)))))⟩, ?_⟩
    · simp [reqBytes, tail, wd, wordAt, hL, hp, hp3]
      omega
    · simp [readReq, reqBytes, tail, wd, wordAt, hA, ws_wds]
  · have hb := List.length_eq_zero_iff.1 hb
    subst hb ha h1
    have hp : (wds regs).length = 2 * regs.length := wds_length regs
    refine ⟨⟨by simp [reqBytes, tail, wd, hp]; omega, by simp [reqBytes, tail, wd, hp]; omega, Or.inr (Or.inr (Or.inr (Or.inr (Or.inr (Or.inr (Or.inl ?_))))))⟩, ?_⟩
    · simp [reqBytes, tail, wd, hp]
      omega
    · simp [readReq, reqBytes, tail, wd, wordAt, hA, ws_wds]
  · have hb := List.length_eq_zero_iff.1 hb
    subst hb
    have hL : 256 * (regs.length / 256) + regs.length % 256 = regs.length := by omega
    have hp : (wds regs).length = 2 * regs.length := wds_length regs
    have hp3 : 2 * regs.length % 256 = 2 * regs.length := by omega
    refine ⟨⟨by simp [reqBytes, tail, wd], by simp [reqBytes, tail, wd, hp]; omega, Or.inr (Or.inr (Or.inr (Or.inr (Or.inr (Or.inr (Or.inr ?_))))))⟩, ?_⟩
    · simp [reqBytes, tail, wd, wordAt, hL, hN, hp, hp3]
      omega
    · simp [readReq, reqBytes, tail, wd, wordAt, hA, hN, hA2, ws_wds]
theorem read_fits {bs : List Nat} (h : IsReq bs) : (readReq bs).Fits := by
  obtain ⟨h5, _, h⟩ := h
  unfold Rq.Fits FitsN
  rcases h with ⟨h | h, h1, h2, h3⟩ | ⟨h | h, h1, h2, h3⟩ | ⟨h, h1, h2⟩ | ⟨h, h1⟩ | ⟨h, h1, h2, h3, h4⟩ | ⟨h, h1, h2, h3, h4⟩ | ⟨h, h1⟩ | ⟨h, h0, h1, h2, h3, h4, h6, h7⟩
  all_goals simp only [readReq, h]
  all_goals simp [ub_length, ws_length]
  all_goals omega
theorem read_ok {bs : List Nat} (hB : Bytes bs) : (readReq bs).Ok := by
  refine ⟨hB.at 0, wordAt_lt hB 1, ?_, ?_, ?_⟩
  · show (if _ then _ else _) < 65536
    split
    · exact wordAt_lt hB 3
    · decide
  · show (if _ then _ else _) < 65536
    split
    · exact wordAt_lt hB 5
    · decide
  · show Words (if _ then _ else _)
    split
    · exact ws_words (hB.drop 3)
    split
    · exact ws_words (hB.drop 6)
    split
    · exact ws_words (hB.drop 10)
    · exact fun _ h => by simp at h
end Pdu
open Go.RowKit
open Pdu
def u8s (bs : List Nat) : List Value := bs.map fun (x : Nat) => Value.int .u8 (x : Int)
def u16s (bs : List Nat) : List Value := bs.map fun (x : Nat) => Value.int .u16 (x : Int)
def bls (bs : List Bool) : List Value := bs.map Value.bool
theorem u8s_len (bs : List Nat) : (u8s bs).length = bs.length := by simp [u8s]
theorem u16s_len (bs : List Nat) : (u16s bs).length = bs.length := by simp [u16s]
theorem bls_len (bs : List Bool) : (bls bs).length = bs.length := by simp [bls]
theorem u8s_app (a b : List Nat) : u8s (a ++ b) = u8s a ++ u8s b := by simp [u8s]
theorem u16s_app (a b : List Nat) : u16s (a ++ b) = u16s a ++ u16s b := by simp [u16s]
theorem bls_app (a b : List Bool) : bls (a ++ b) = bls a ++ bls b := by simp [bls]
theorem u8s_at (bs : List Nat) (k : Nat) (h : k < bs.length) : (u8s bs)[k]? = some (.int .u8 (bs.getD k 0 : Nat)) := by simp [u8s, List.getD_eq_getElem?_getD, List.getElem?_eq_getElem h]
theorem u16s_at (bs : List Nat) (k : Nat) (h : k < bs.length) : (u16s bs)[k]? = some (.int .u16 (bs.getD k 0 : Nat)) := by simp [u16s, List.getD_eq_getElem?_getD, List.getElem?_eq_getElem h]
theorem bls_at (bs : List Bool) (k : Nat) (h : k < bs.length) : (bls bs)[k]? = some (.bool (bs.getD k false)) := by simp [bls, List.getD_eq_getElem?_getD, List.getElem?_eq_getElem h]
theorem u8s_one (bs : List Nat) : ∀ u ∈ u8s bs, u.oneCell' = true := by
  intro u hu
  simp only [u8s, List.mem_map] at hu
  obtain ⟨x, _, rfl⟩ := hu
  rfl
theorem u16s_one (bs : List Nat) : ∀ u ∈ u16s bs, u.oneCell' = true := by
  intro u hu
  simp only [u16s, List.mem_map] at hu
  obtain ⟨x, _, rfl⟩ := hu
  rfl
theorem bls_one (bs : List Bool) : ∀ u ∈ bls bs, u.oneCell' = true := by
  intro u hu
  simp only [bls, List.mem_map] at hu
  obtain ⟨x, _, rfl⟩ := hu
  rfl
theorem u8s_set (l : List Nat) (i x : Nat) : u8s (l.set i x) = (u8s l).set i (.int .u8 (x : Int)) := by simp [u8s, List.map_set]
theorem u16s_set (l : List Nat) (i x : Nat) : u16s (l.set i x) = (u16s l).set i (.int .u16 (x : Int)) := by simp [u16s, List.map_set]
theorem bls_set (l : List Bool) (i : Nat) (x : Bool) : bls (l.set i x) = (bls l).set i (.bool x) := by simp [bls, List.map_set]
/-- The values vs lie in block b from off on. -/
def Lies (w : World) (b off : Nat) (vs : List Value) : Prop := ∀ k u, vs[k]? = some u → w.cell? ⟨b, off + k, none⟩ = some u
/-- A slice value of these values, in this world. -/
def Sl (w : World) (v : Value) (vs : List Value) : Prop := (vs = [] ∧ ∃ ao cap, v = .slice ao 0 cap ∧ (ao = none → cap = 0)) ∨ ∃ b off cap, v = .slice (some ⟨b, off, none⟩) vs.length cap ∧ vs.length ≤ cap ∧ Lies w b off vs
theorem lt_of_cell {w : World} {a : Addr} {v : Value} (h : w.cell? a = some v) : a.block < w.heap.size := World.block_lt_of_cell? w a h
theorem Lies.below {w u : World} {b off : Nat} {vs : List Value} (h : Lies w b off vs) (k : Below w.heap.size w u) : Lies u b off vs := fun i x hx => (k.cell (p := ⟨b, off + i, none⟩) (lt_of_cell (h i x hx))).trans (h i x hx)
theorem Lies.kept {w u : World} {b off : Nat} {vs : List Value} (h : Lies w b off vs) (k : u.heap[b]? = w.heap[b]?) : Lies u b off vs := fun i x hx => (World.cell?_of_block (w := w) (a := ⟨b, off + i, none⟩) k).trans (h i x hx)
theorem Sl.below {w u : World} {v : Value} {vs : List Value} (h : Sl w v vs) (k : Below w.heap.size w u) : Sl u v vs := by
  rcases h with h | ⟨b, off, cap, rfl, hcap, hc⟩
  · exact Or.inl h
  · exact Or.inr ⟨b, off, cap, rfl, hcap, hc.below k⟩
theorem Sl.shape {w : World} {v : Value} {vs : List Value} (h : Sl w v vs) : ∃ ao c, v = .slice ao vs.length c := by
  rcases h with ⟨rfl, ao, cap, rfl, _⟩ | ⟨b, off, cap, rfl, _⟩
  · exact ⟨ao, cap, rfl⟩
  · exact ⟨_, _, rfl⟩
theorem Sl.nil (w : World) : Sl w (.slice none 0 0) [] := Or.inl ⟨rfl, none, 0, rfl, fun _ => rfl⟩
theorem own_sl {w : World} {base n : Nat} {e : TypeId} {v : Value} {vs : List Value} (h : w.ownsRow base e 1 v n vs) : Sl w v vs := by
  have hl : vs.length = n := by simpa using h.1
  rcases h.2 with ⟨rfl, h0⟩ | ⟨g, cap, cur, rfl, hb, hg, hn, hm, hs, ht⟩
  · have : vs = [] := List.length_eq_zero_iff.1 (by omega)
    subst this
    exact Sl.nil w
  · refine Or.inr ⟨g, 0, cap, by rw [hl], by omega, fun j u hj => ?_⟩
    have hlt : j < n := by have := (List.getElem?_eq_some_iff.1 hj).1; omega
    rw [Nat.zero_add, h.cellAt j (by omega), hj]
theorem own_below {w u : World} {base n B : Nat} {e : TypeId} {v : Value} {vs : List Value} (h : w.ownsRow base e 1 v n vs) (k : Below B w u) (hB : w.heap.size ≤ B) : u.ownsRow base e 1 v n vs := by
  refine ⟨h.1, ?_⟩
  rcases h.2 with h' | ⟨g, cap, cur, rfl, hb, hg, r⟩
  · exact Or.inl h'
  · have hlt : g < w.heap.size := (h.lt g rfl).2
    exact Or.inr ⟨g, cap, cur, rfl, hb, (k.block g (by omega)).trans hg, r⟩
theorem own_base {w : World} {base base' n : Nat} {e : TypeId} {v : Value} {vs : List Value} (h : w.ownsRow base e 1 v n vs) (hb : base' ≤ base) : w.ownsRow base' e 1 v n vs := by
  refine ⟨h.1, ?_⟩
  rcases h.2 with h' | ⟨g, cap, cur, rfl, hb', r⟩
  · exact Or.inl h'
  · exact Or.inr ⟨g, cap, cur, rfl, by omega, r⟩
theorem Lies.news {w : World} {b off : Nat} {vs : List Value} (hc : Lies w b off vs) : ∀ j u, vs[j]? = some u → w.cell? ((⟨b, off, none⟩ : Addr).add j) = some u := by
  intro j u hj
  have hplain : (⟨b, off, none⟩ : Addr).add j = ⟨b, off + j, none⟩ := by unfold Addr.add; split <;> simp_all
  rw [hplain]
  exact hc j u hj
theorem Lies.drop {w : World} {b off : Nat} {vs : List Value} (hc : Lies w b off vs) (k : Nat) : Lies w b (off + k) (vs.drop k) := by
  intro j u hj
  rw [List.getElem?_drop] at hj
  rw [Nat.add_assoc]
  exact hc _ u hj
theorem Lies.u8 {w : World} {b off : Nat} {bs : List Nat} (hc : Lies w b off (u8s bs)) (k : Nat) (h : k < bs.length) : w.cell? ⟨b, off + k, none⟩ = some (.int .u8 (bs.getD k 0 : Nat)) := hc k _ (u8s_at bs k h)
theorem Lies.u16 {w : World} {b off : Nat} {bs : List Nat} (hc : Lies w b off (u16s bs)) (k : Nat) (h : k < bs.length) : w.cell? ⟨b, off + k, none⟩ = some (.int .u16 (bs.getD k 0 : Nat)) := hc k _ (u16s_at bs k h)
theorem Lies.bl {w : World} {b off : Nat} {bs : List Bool} (hc : Lies w b off (bls bs)) (k : Nat) (h : k < bs.length) : w.cell? ⟨b, off + k, none⟩ = some (.bool (bs.getD k false)) := hc k _ (bls_at bs k h)
theorem below_new {a w : World} (h : Below a.heap.size a w) (o : Obj) : Below a.heap.size a (w.alloc o) := h.alloc h.size o
theorem int_is {k : IntKind} {a b : Int} (h : a = b) : Value.int k a = .int k b := by rw [h]
theorem Try.infoByte : (Try.prog.info? 5).map (fun i => (i.zero, i.size, i.bytes)) = some (some (.int .u8 0), 1, 1) := by kernel_rfl
theorem Try.infoBool : (Try.prog.info? 4).map (fun i => (i.zero, i.size, i.bytes)) = some (some (.bool false), 1, 1) := by kernel_rfl
theorem Try.infoWord : (Try.prog.info? 22).map (fun i => (i.zero, i.size, i.bytes)) = some (some (.int .u16 0), 1, 2) := by kernel_rfl
open Go.RowKit
open Pdu
theorem or_16 {x y : Nat} (hx : x < 256) (hy : y < 256) : bits .or .u16 ((x : Int) * 256) (y : Int) = ((256 * x + y : Nat) : Int) := by
  rw [show (x : Int) * 256 = ((256 * x : Nat) : Int) by omega]
  show IntKind.u16.wrap ((BitVec.ofInt 16 ((256 * x : Nat) : Int) ||| BitVec.ofInt 16 (y : Int)).toNat : Int) = _
  have h : (BitVec.ofInt 16 ((256 * x : Nat) : Int) ||| BitVec.ofInt 16 (y : Int)).toNat = 256 * x + y := by
    rw [BitVec.toNat_or, BitVec.ofInt_natCast, BitVec.toNat_ofNat, BitVec.ofInt_natCast, BitVec.toNat_ofNat, Nat.mod_eq_of_lt (by omega), Nat.mod_eq_of_lt (by omega)]
    have := Nat.two_pow_add_eq_or_of_lt (i := 8) (b := y) (by omega) x
    simpa using this.symm
  rw [h, IntKind.wrap_u16]
  omega
set_option maxHeartbeats 1600000 in
theorem packed_c (n : Nat) (hn : n ≤ 1000000) (w : World) : Calls Try.prog 47 #[.int .i64 n] w fun e w' => e = .returned (.int .i64 (packed n : Nat)) ∧ w' = w := by
  have h : ((n : Int) + 7).tdiv 8 = ((packed n : Nat) : Int) := by rw [Int.tdiv_eq_ediv_of_nonneg (by omega)]; unfold packed; omega
  have hb : packed n ≤ 1000000 := by unfold packed; omega
  go_enter Try.func47, Try.ntmps47
  go_wp2
  go_ret
  exact ⟨rfl, rfl⟩
set_option maxHeartbeats 1600000 in
theorem coil_c (on : Bool) (w : World) : Calls Try.prog 33 #[.bool on] w fun e w' => e = .returned (.int .u16 (coil on : Nat)) ∧ w' = w := by
  cases on
  · go_enter Try.func33, Try.ntmps33
    go_wp2
    go_ret
    exact ⟨rfl, rfl⟩
  · go_enter Try.func33, Try.ntmps33
    go_wp2
    go_ret
    exact ⟨rfl, rfl⟩
set_option maxHeartbeats 1600000 in
theorem one_c (on : Bool) (w : World) : Calls Try.prog 38 #[.bool on] w fun e w' => e = .returned (.int .u16 (coil on : Nat)) ∧ w' = w := by
  cases on
  · go_enter Try.func38, Try.ntmps38
    go_wp2
    go_ret
    exact ⟨rfl, rfl⟩
  · go_enter Try.func38, Try.ntmps38
    go_wp2
    go_ret
    exact ⟨rfl, rfl⟩
set_option maxHeartbeats 1600000 in
theorem word_c (b off n cap x y : Nat) (w : World) (hn : 2 ≤ n) (hx : x < 256) (hy : y < 256) (h0 : w.cell? ⟨b, off, none⟩ = some (.int .u8 x)) (h1 : w.cell? ⟨b, off + 1, none⟩ = some (.int .u8 y)) :
    Calls Try.prog 51 #[.slice (some ⟨b, off, none⟩) n cap] w fun e w' => e = .returned (.int .u16 (256 * x + y : Nat)) ∧ ∃ m, w' = w.drewN m := by
  have hor := or_16 hx hy
  go_enter Try.func51, Try.ntmps51
  go_wp2
  go_quiet (fail)
  go_wp2
  go_ret
  exact ⟨congrArg (fun t : Int => Ending.returned (.int .u16 t)) (show 256 * (x : Int) + y = ((256 * x + y : Nat) : Int) by omega), _, rfl⟩
open Go.RowKit
open Pdu
/-- append to a row of the call's own, as one step of a region that draws. -/
theorem step_append_own {P : Program} {ops : Array Oper} {o : Oper} {a : Act} {w : World} {K : Act → World → Prop} {Q : Exit → Act → World → Prop} {E : Prop}
    (hg : o.guard = none) (s x : Operand) (t : TypeId) (ho : o.op = .call { callee := .builtin .append, args := #[s, x], argTypes := #[t, t] })
    (base : Nat) (e : TypeId) (i : TypeInfo) (z : Value) (size bytes : Nat) (ht : P.underlying t = some (.slice e)) (hi : P.info? e = some i) (hz : i.zero = some z)
    (hsize : i.size = size) (hby : i.bytes = bytes) (hzs : z.cells.size = size) (hsz : 0 < size)
    (v : Value) (n : Nat) (xs : List Value) (hs : a.eval s = v) (hown : w.ownsRow base e size v n xs)
    (ad : Addr) (m c : Nat) (news : List Value) (hx : a.eval x = .slice (some ad) m c) (hl : news.length = m * size) (hnews : ∀ j u, news[j]? = some u → w.cell? (ad.add j) = some u) (h1 : ∀ u ∈ news, u.oneCell' = true)
    (h63 : n + m ≤ maxLen) (hbytes : (n + m) * bytes ≤ 140737488355328) (hbase : base ≤ w.heap.size)
    (h : ∀ v' w', w'.ownsRow base e size v' (n + m) (xs ++ news) → w.grownBy w' v.ownBlock → (v' = .slice none 0 0 ↔ v = .slice none 0 0 ∧ m = 0) → K (a.put o.dst v') w') :
    if Region.wanted o (yielded ops a.tmps) = true then Oper.wp P o a w K Q else E := by
  rw [if_pos (by simp [Region.wanted, hg])]
  exact wp_append_own w s x t ho base e i z size bytes ht hi hz hsize hby hzs hsz v n xs hs hown ad m c news hx hl hnews h1 h63 hbytes hbase h
/-- What the loop keeps: the bytes so far, all below base as it was, the words' block as it was. -/
def Put (base lb : Nat) (w wr : World) (v : Value) (bs l : List Nat) (k : Nat) : Prop := wr.ownsRow base 5 1 v (bs.length + 2 * k) (u8s (bs ++ wds (l.take k))) ∧ Below base w wr ∧ wr.heap[lb]? = w.heap[lb]?
theorem put_step {base lb k x : Nat} {w wr w1 : World} {v v' : Value} {bs l : List Nat} {o : Obj} (hoff : lb < base ∨ ∃ cs fl, w.heap[lb]? = some (.cells cs 22 fl)) (hlb : lb < w.heap.size) (hbase : base ≤ w.heap.size) (hk : k < l.length) (hx : x = l.getD k 0)
    (h : Put base lb w wr v bs l k) (hown : w1.ownsRow base 5 1 v' (bs.length + 2 * k + 2) (u8s (bs ++ wds (l.take k)) ++ u8s (wd x))) (hg : (wr.alloc o).grownBy w1 v.ownBlock) : Put base lb w w1 v' bs l (k + 1) := by
  obtain ⟨h1, h2, h3⟩ := h
  have hs := h2.size
  refine ⟨?_, (h2.alloc (by omega) o).grown hg (by simp; omega) (fun g hg' => (h1.lt g hg').1), ?_⟩
  · rw [← u8s_app, List.append_assoc, hx, ← wds_take_succ l k hk] at hown
    exact hown
  · rw [hg.block lb (by simp; omega) ?_, Below.heap_alloc wr o lb (by omega), h3]
    intro e
    rcases h1.2 with ⟨rfl, _⟩ | ⟨g, cap, cur, rfl, hb, hg', _⟩
    · simp [Value.ownBlock] at e
    · simp [Value.ownBlock] at e
      subst e
      rcases hoff with hoff | ⟨cs, fl, hc⟩
      · omega
      · rw [h3, hc] at hg'
        simp at hg'
theorem wd_u8s (x : Nat) : u8s (wd x) = [.int .u8 ((x : Int) / 256), .int .u8 ((x : Int) % 256)] := by simp [u8s, wd]
theorem two_cells (w : World) (e : TypeId) (x y : Value) : ∀ j u, [x, y][j]? = some u → (w.alloc (.cells #[x, y] e)).cell? ((⟨w.heap.size, 0, none⟩ : Addr).add j) = some u := by
  intro j u hj
  match j, hj with
  | 0, hj => simp at hj; subst hj; simp [Addr.add]
  | 1, hj => simp at hj; subst hj; simp [Addr.add]
theorem two_one (k : IntKind) (x y : Int) : ∀ u ∈ [Value.int k x, Value.int k y], u.oneCell' = true := by
  intro u hu
  simp at hu
  rcases hu with rfl | rfl <;> rfl

set_option maxHeartbeats 1600000 in
theorem putWords_at (base lb lo m lc : Nat) (bv : Value) (bs l : List Nat) (w : World) (hl : m = l.length) (hw : Words l) (hsz : bs.length + 2 * m ≤ 1000000)
    (hown : w.ownsRow base 5 1 bv bs.length (u8s bs)) (hlies : Lies w lb lo (u16s l)) (hoff : lb < base ∨ ∃ cs fl, w.heap[lb]? = some (.cells cs 22 fl)) (hlb : lb < w.heap.size) (hbase : base ≤ w.heap.size) :
    Calls Try.prog 32 #[bv, .slice (some ⟨lb, lo, none⟩) m lc] w fun e w' => ∃ v', e = .returned v' ∧ w'.ownsRow base 5 1 v' (bs.length + 2 * m) (u8s (bs ++ wds l)) ∧ Below base w w' := by
  obtain ⟨i0, hi, hz0, hz1, hz2⟩ := info_parts Try.infoByte
  have HN : Hid (m = l.length) := hl
  have HL : Hid (Lies w lb lo (u16s l)) := hlies
  have HO : Hid (w.ownsRow base 5 1 bv bs.length (u8s bs)) := hown
  have HF : Hid (lb < base ∨ ∃ cs fl, w.heap[lb]? = some (.cells cs 22 fl)) := hoff
  clear hl hlies hown hoff
  go_enter Try.func32, Try.ntmps32
  go_wp2
  go_loopw [0, 9] (fun v i wr => ∃ k : Nat, k ≤ m ∧ i = .int .i64 k ∧ Put base lb w wr v bs l k) (fun _ i _ => m - (intOf i).toNat)
  case atStart => exact ⟨0, by omega, rfl, by simpa [wds] using HO.out, Below.refl _ _, rfl⟩
  case round =>
    obtain ⟨k, hk, rfl, HP⟩ := hrel
    obtain ⟨x, hx⟩ : ∃ x, x = l.getD k 0 := ⟨_, rfl⟩
    have hx16 : x < 65536 := by rw [hx]; exact hw.at k
    have hcell : k < m → wr.cell? ⟨lb, lo + k, none⟩ = some (.int .u16 x) := fun h => by
      have hk' : k < l.length := by rw [← (show m = _ from HN)]; exact h
      rw [hx, World.cell?_of_block (w := w) (a := ⟨lb, lo + k, none⟩) HP.2.2]
      exact HL.out.u16 k hk'
    have HX : Hid (x = l.getD k 0) := hx
    have HP : Hid (Put base lb w wr u0 bs l k) := HP
    clear hx
    have hsize : base ≤ wr.heap.size := by have := HP.out.2.1.size; omega
    go_wp2_with (at_builtin; refine wpList_append_own _ rfl _ _ 29 rfl base 5 i0 (.int .u8 0) 1 1 Try.underlying29 hi hz0 hz1 hz2 rfl (by decide) _ (bs.length + 2 * k) _ rfl (HP.out.1.alloc _) ⟨wr.heap.size, 0, none⟩ 2 2 [.int .u8 ((x : Int) / 256), .int .u8 ((x : Int) % 256)] rfl rfl (two_cells _ _ _ _) (two_one _ _ _) (by unfold maxLen; omega) (by omega) (by simp; omega) ?_; intro v' w1 hown' hgrow _)
    · have hk' : k < l.length := by have : k < m := (by assumption); rw [← (show m = _ from HN)]; exact this
      have HR : Hid (Put base lb w w1 v' bs l (k + 1)) := put_step HF hlb hbase hk' HX HP (by rw [wd_u8s]; exact hown') hgrow
      clear hown' hgrow HP hcell
      go_wp2
      go_roundw
      case rel => exact ⟨k + 1, by omega, by go_num, HR⟩
      case measure => simp [intOf]; omega
    · obtain rfl : k = m := by omega
      go_ret
      have hm : k = l.length := HN
      refine ⟨_, rfl, ?_, HP.out.2.1⟩
      have h1 := HP.out.1
      rw [hm, List.take_length, ← hm] at h1
      exact h1
set_option maxHeartbeats 1600000 in
theorem putWords_none (bv : Value) (ao : Option Addr) (c : Nat) (w : World) : Calls Try.prog 32 #[bv, .slice ao 0 c] w fun e w' => e = .returned bv ∧ w' = w := by
  go_enter Try.func32, Try.ntmps32
  go_wp2
  go_loop [0, 9] (fun v i => i = .int .i64 0 ∧ v = bv) (fun _ _ => 0)
  case atStart => exact ⟨rfl, rfl⟩
  case round =>
    obtain ⟨rfl, rfl⟩ := hrel
    go_wp2
    go_ret
    exact ⟨rfl, rfl⟩
/-- The words lie where bytes are not laid: below base, or in a block of words. -/
def Off (base : Nat) (w : World) (v : Value) (vs : List Value) : Prop := vs ≠ [] → ∀ a n c, v = .slice (some a) n c → a.block < base ∨ ∃ cs fl, w.heap[a.block]? = some (.cells cs 22 fl)
theorem putWords_c {base : Nat} {bv v : Value} {bs l : List Nat} {w : World} (hw : Words l) (hsz : bs.length + 2 * l.length ≤ 1000000)
    (hown : w.ownsRow base 5 1 bv bs.length (u8s bs)) (hl : Sl w v (u16s l)) (hoff : Off base w v (u16s l)) (hbase : base ≤ w.heap.size) :
    Calls Try.prog 32 #[bv, v] w fun e w' => ∃ v', e = .returned v' ∧ w'.ownsRow base 5 1 v' (bs ++ wds l).length (u8s (bs ++ wds l)) ∧ Below base w w' := by
  have hlen : (bs ++ wds l).length = bs.length + 2 * l.length := by rw [List.length_append, wds_length]
  by_cases hne : l = []
  · subst hne
    obtain ⟨ao, c, rfl⟩ := hl.shape
    refine (putWords_none bv ao c w).mono ?_
    rintro e w' ⟨rfl, rfl⟩
    exact ⟨_, rfl, by simpa [wds] using hown, Below.refl _ _⟩
  · have h0 : 0 < l.length := List.length_pos_iff.2 hne
    rcases hl with ⟨h, _⟩ | ⟨b, off, cap, rfl, _, hc⟩
    · have := congrArg List.length h; rw [u16s_len] at this; simp at this; exact absurd this hne
    · have hne' : u16s l ≠ [] := fun e => by have := congrArg List.length e; rw [u16s_len] at this; simp at this; exact hne this
      rw [hlen]
      rw [u16s_len]
      exact putWords_at base b off l.length cap bv bs l w rfl hw hsz hown hc (hoff hne' _ _ _ rfl) (lt_of_cell (hc.u16 0 h0)) hbase
open Go.RowKit
open Pdu
theorem Put.drew {base lb k : Nat} {w wr : World} {v : Value} {bs l : List Nat} (h : Put base lb w wr v bs l k) : Put base lb w wr.drew v bs l k := ⟨h.1.drew, h.2.1.drew, h.2.2⟩
set_option maxHeartbeats 1600000 in
theorem two_at (base lb lo m lc : Nat) (bv : Value) (bs l : List Nat) (w : World) (hl : m = l.length) (hw : Words l) (hsz : bs.length + 2 * m ≤ 1000000)
    (hown : w.ownsRow base 5 1 bv bs.length (u8s bs)) (hlies : Lies w lb lo (u16s l)) (hoff : lb < base ∨ ∃ cs fl, w.heap[lb]? = some (.cells cs 22 fl)) (hlb : lb < w.heap.size) (hbase : base ≤ w.heap.size) :
    Calls Try.prog 36 #[bv, .slice (some ⟨lb, lo, none⟩) m lc] w fun e w' => ∃ v', e = .returned v' ∧ w'.ownsRow base 5 1 v' (bs.length + 2 * m) (u8s (bs ++ wds l)) ∧ Below base w w' := by
  obtain ⟨i0, hi, hz0, hz1, hz2⟩ := info_parts Try.infoByte
  have HN : Hid (m = l.length) := hl
  have HL : Hid (Lies w lb lo (u16s l)) := hlies
  have HO : Hid (w.ownsRow base 5 1 bv bs.length (u8s bs)) := hown
  have HF : Hid (lb < base ∨ ∃ cs fl, w.heap[lb]? = some (.cells cs 22 fl)) := hoff
  clear hl hlies hown hoff
  go_enter Try.func36, Try.ntmps36
  go_wp2
  go_loopw [0, 5] (fun v i wr => ∃ k : Nat, k ≤ m ∧ i = .int .i64 k ∧ Put base lb w wr v bs l k) (fun _ i _ => m - (intOf i).toNat)
  case atStart => exact ⟨0, by omega, rfl, by simpa [wds] using HO.out, Below.refl _ _, rfl⟩
  case round =>
    obtain ⟨k, hk, rfl, HP⟩ := hrel
    obtain ⟨x, hx⟩ : ∃ x, x = l.getD k 0 := ⟨_, rfl⟩
    have hx16 : x < 65536 := by rw [hx]; exact hw.at k
    have hcell : k < m → wr.cell? ⟨lb, lo + k, none⟩ = some (.int .u16 x) := fun h => by
      have hk' : k < l.length := by rw [← (show m = _ from HN)]; exact h
      rw [hx, World.cell?_of_block (w := w) (a := ⟨lb, lo + k, none⟩) HP.2.2]
      exact HL.out.u16 k hk'
    have HX : Hid (x = l.getD k 0) := hx
    have HP : Hid (Put base lb w wr u0 bs l k) := HP
    clear hx
    have hsize : base ≤ wr.heap.size := by have := HP.out.2.1.size; omega
    go_wp2
    · have hkm : k < m := by assumption
      have hc := hcell hkm
      have e1 : IntKind.u8.wrap ((x : Int) / 256) = (x : Int) / 256 := by rw [IntKind.wrap_u8]; omega
      have e2 : IntKind.u8.wrap (x : Int) = (x : Int) % 256 := by rw [IntKind.wrap_u8]
      clear hcell
      go_region_law (refine step_append_own rfl (.tmp 12) (.tmp 24) 29 rfl base 5 i0 (.int .u8 0) 1 1 Try.underlying29 hi hz0 hz1 hz2 rfl (by decide) _ (bs.length + 2 * k) _ rfl (HP.out.1.alloc _).drew ⟨wr.heap.size, 0, none⟩ 2 2 [.int .u8 ((x : Int) / 256), .int .u8 ((x : Int) % 256)] rfl rfl (two_cells wr _ _ _) (two_one _ _ _) (by unfold maxLen; omega) (by omega) (by simp; omega) ?_; intro v' w1 hown' hgrow hnil)
      all_goals
        have hg : (wr.alloc (.cells #[.int .u8 ((x : Int) / 256), .int .u8 ((x : Int) % 256)] 5)).grownBy w1 u0.ownBlock := ⟨hgrow.os, hgrow.tape, hgrow.output, hgrow.size, hgrow.block⟩
        have HR : Hid (Put base lb w w1 v' bs l (k + 1)) := put_step HF hlb hbase (by rw [← (show m = _ from HN)]; exact hkm) HX HP (by rw [wd_u8s]; exact hown') hg
        clear hown' hgrow hg hnil HP hc
        go_wp2
        go_roundw
        case rel => exact ⟨k + 1, by omega, by go_num, HR⟩
        case measure => simp [intOf]; omega
    · obtain rfl : k = m := by omega
      go_ret
      have hm : k = l.length := HN
      refine ⟨_, rfl, ?_, HP.out.2.1⟩
      have h1 := HP.out.1
      rw [hm, List.take_length, ← hm] at h1
      exact h1
set_option maxHeartbeats 1600000 in
theorem two_none (bv : Value) (ao : Option Addr) (c : Nat) (w : World) : Calls Try.prog 36 #[bv, .slice ao 0 c] w fun e w' => e = .returned bv ∧ w' = w := by
  go_enter Try.func36, Try.ntmps36
  go_wp2
  go_loop [0, 5] (fun v i => i = .int .i64 0 ∧ v = bv) (fun _ _ => 0)
  case atStart => exact ⟨rfl, rfl⟩
  case round =>
    obtain ⟨rfl, rfl⟩ := hrel
    go_wp2
    go_ret
    exact ⟨rfl, rfl⟩
theorem two_c {base : Nat} {bv v : Value} {bs l : List Nat} {w : World} (hw : Words l) (hsz : bs.length + 2 * l.length ≤ 1000000)
    (hown : w.ownsRow base 5 1 bv bs.length (u8s bs)) (hl : Sl w v (u16s l)) (hoff : Off base w v (u16s l)) (hbase : base ≤ w.heap.size) :
    Calls Try.prog 36 #[bv, v] w fun e w' => ∃ v', e = .returned v' ∧ w'.ownsRow base 5 1 v' (bs ++ wds l).length (u8s (bs ++ wds l)) ∧ Below base w w' := by
  have hlen : (bs ++ wds l).length = bs.length + 2 * l.length := by rw [List.length_append, wds_length]
  by_cases hne : l = []
  · subst hne
    obtain ⟨ao, c, rfl⟩ := hl.shape
    refine (two_none bv ao c w).mono ?_
    rintro e w' ⟨rfl, rfl⟩
    exact ⟨_, rfl, by simpa [wds] using hown, Below.refl _ _⟩
  · have h0 : 0 < l.length := List.length_pos_iff.2 hne
    rcases hl with ⟨h, _⟩ | ⟨b, off, cap, rfl, _, hc⟩
    · have := congrArg List.length h; rw [u16s_len] at this; simp at this; exact absurd this hne
    · have hne' : u16s l ≠ [] := fun e => by have := congrArg List.length e; rw [u16s_len] at this; simp at this; exact hne this
      rw [hlen]
      rw [u16s_len]
      exact two_at base b off l.length cap bv bs l w rfl hw hsz hown hc (hoff hne' _ _ _ rfl) (lt_of_cell (hc.u16 0 h0)) hbase
open Go.RowKit
open Pdu
theorem pow_8 {r : Nat} (hr : r < 8) : 2 ^ r < 256 := Nat.pow_lt_pow_right (a := 2) (m := r) (n := 8) (by decide) hr
theorem or_8 {a b : Nat} (ha : a < 256) (hb : b < 256) : bits .or .u8 (a : Int) (b : Int) = ((a ||| b : Nat) : Int) := by
  show IntKind.u8.wrap ((BitVec.ofInt 8 (a : Int) ||| BitVec.ofInt 8 (b : Int)).toNat : Int) = _
  have h : (BitVec.ofInt 8 (a : Int) ||| BitVec.ofInt 8 (b : Int)).toNat = a ||| b := by
    rw [BitVec.toNat_or, BitVec.ofInt_natCast, BitVec.toNat_ofNat, BitVec.ofInt_natCast, BitVec.toNat_ofNat, Nat.mod_eq_of_lt ha, Nat.mod_eq_of_lt hb]
  have hlt : a ||| b < 2 ^ 8 := Nat.or_lt_two_pow ha hb
  rw [h, IntKind.wrap_u8]
  omega
theorem or_bit {x r : Nat} (hx : x < 256) (hr : r < 8) : bits .or .u8 (x : Int) (2 ^ r % 256) = ((x ||| 2 ^ r : Nat) : Int) := by
  have h := pow_8 hr
  have e : ((2 : Int) ^ r) = ((2 ^ r : Nat) : Int) := by simp
  have e2 : ((2 : Int) ^ r % 256) = ((2 ^ r : Nat) : Int) := by
    rw [e]
    generalize 2 ^ r = z at h
    omega
  rw [e2]
  exact or_8 hx h
/-- The bytes so far, in a row of the call's own. -/
def Packing (w wr : World) (g m : Nat) (l : List Bool) (k : Nat) : Prop := wr.ownsRow w.heap.size 5 1 (.slice (some ⟨g, 0, none⟩) m m) m (u8s (pk l m k)) ∧ Below w.heap.size w wr
theorem packing_off {w wr : World} {g m k : Nat} {l : List Bool} (h : Packing w wr g m l k) (hb : l.getD k false = false) : Packing w wr g m l (k + 1) := by
  refine ⟨?_, h.2⟩
  simp only [pk]
  rw [if_neg (by rw [hb]; decide)]
  exact h.1
theorem packing_on {w wr : World} {g m k j r x : Nat} {l : List Bool} (h : Packing w wr g m l k) (hb : l.getD k false = true) (hj : j = k / 8) (hr : r = k % 8) (hx : x = (pk l m k).getD j 0) :
    Packing w ((wr.setCell ⟨g, j, none⟩ (.int .u8 (bits .or .u8 (x : Int) (2 ^ r % 256)))).drew) g m l (k + 1) := by
  have hx8 : x < 256 := by rw [hx]; exact (pk_bytes l m k).at j
  rw [or_bit hx8 (by omega)]
  have own := h.1
  refine ⟨?_, (h.2.setCell (p := ⟨g, j, none⟩) (own.lt g rfl).1 _).drew⟩
  have := (own.stored j (.int .u8 ((x ||| 2 ^ r : Nat) : Int))).1.drew
  simp only [pk]
  rw [if_pos hb, u8s_set, ← hj, ← hr, ← hx]
  exact this
theorem made_u8s (n : Nat) : (madeCells (Value.cells (.int .u8 0)) (n * 1)).toList = u8s (List.replicate n 0) := by
  apply List.ext_getElem?
  intro i
  by_cases h : i < n <;> simp [madeCells, Value.cells, u8s, h, Nat.mod_one]
set_option maxHeartbeats 1600000 in
theorem pack_at (b off n cap : Nat) (l : List Bool) (w : World) (hl : n = l.length) (hsz : n ≤ 1000000) (hlies : Lies w b off (bls l)) :
    Calls Try.prog 24 #[.slice (some ⟨b, off, none⟩) n cap] w fun e w' => ∃ v', e = .returned v' ∧ v' = .slice (some ⟨w.heap.size, 0, none⟩) (packed n) (packed n) ∧ w'.ownsRow w.heap.size 5 1 v' (packed n) (u8s (pack l)) ∧ Below w.heap.size w w' := by
  obtain ⟨i0, hi, hz0, hz1, hz2⟩ := info_parts Try.infoByte
  have HN : Hid (n = l.length) := hl
  have HL : Hid (Lies w b off (bls l)) := hlies
  have hpk : packed n ≤ 1000000 := by unfold packed; omega
  obtain ⟨m, hm⟩ : ∃ m, m = packed n := ⟨_, rfl⟩
  have hm8 : n ≤ 8 * m := by rw [hm]; unfold packed; omega
  rw [← hm] at hpk
  have HM : Hid (m = packed n) := hm
  have hpc : Calls Try.prog 47 #[.int .i64 n] w fun e w' => e = .returned (.int .i64 (m : Nat)) ∧ w' = w := by rw [hm]; exact packed_c n hsz w
  clear hl hlies hm
  go_enter Try.func24, Try.ntmps24
  go_wp2_with (first | (go_at_call 47; refine hpc.mono ?_; rintro e w' ⟨rfl, hw⟩; subst w') | (at_make; refine wpList_make_full _ rfl _ _ 29 rfl w.heap.size 5 i0 (.int .u8 0) 1 Try.underlying29 hi hz0 hz1 _ _ _ _ m rfl rfl rfl rfl (by rw [hz2]; omega) (by unfold maxLen; omega) (Nat.le_refl _) ?_; intro w1 hown1 hgrow1))
  have HP : Hid (Packing w w1 w.heap.size m l 0) := ⟨by rw [made_u8s] at hown1; exact hown1, (Below.refl _ w).grown hgrow1 (Nat.le_refl _) fun k hk => by cases (show (none : Option Nat) = some k from hk)⟩
  clear hown1 hgrow1
  go_loopw [12] (fun i wr => ∃ k : Nat, k ≤ n ∧ i = .int .i64 k ∧ Packing w wr w.heap.size m l k) (fun i _ => n - (intOf i).toNat)
  case atStart => exact ⟨0, by omega, rfl, HP⟩
  case round =>
    obtain ⟨k, hk, rfl, HP⟩ := hrel
    obtain ⟨on, hon⟩ : ∃ on, on = l.getD k false := ⟨_, rfl⟩
    have hcell : k < n → wr.cell? ⟨b, off + k, none⟩ = some (.bool on) := fun h => by
      have hk' : k < l.length := by rw [← (show n = _ from HN)]; exact h
      have h0 := HL.out.bl k hk'
      rw [hon, HP.2.cell (p := ⟨b, off + k, none⟩) (lt_of_cell h0)]
      exact h0
    have HON : Hid (on = l.getD k false) := hon
    have HP : Hid (Packing w wr w.heap.size m l k) := HP
    clear hon
    go_wp2
    · have hkn : k < n := by assumption
      have hb : on = true := by assumption
      have own := HP.out.1
      obtain ⟨j, hj⟩ : ∃ j, j = k / 8 := ⟨_, rfl⟩
      obtain ⟨r, hr⟩ : ∃ r, r = k % 8 := ⟨_, rfl⟩
      obtain ⟨x, hx⟩ : ∃ x, x = (pk l m k).getD j 0 := ⟨_, rfl⟩
      have hjm : j < m := by omega
      have hx8 : x < 256 := by rw [hx]; exact (pk_bytes l m k).at j
      have hc : wr.cell? ⟨w.heap.size, j, none⟩ = some (.int .u8 x) := by rw [own.cellAt j (by omega), hx]; exact u8s_at _ j (by rw [pk_length]; exact hjm)
      have hfz : wr.frozen? ⟨w.heap.size, j, none⟩ = false := own.frozenAt j
      have e2 : (k : Int).tdiv 8 = (j : Int) := by rw [hj, Int.tdiv_eq_ediv_of_nonneg (by omega)]; omega
      have e3 : (k : Int).tmod 8 = (r : Int) := by rw [hr, Int.tmod_eq_emod_of_nonneg (by omega)]; omega
      have hr8 : r < 8 := by omega
      have HR : Hid (_) := packing_on HP (by rw [← (show on = _ from HON)]; exact hb) hj hr hx
      clear own HP hx hj hr hcell
      go_region
      go_wp2
      go_roundw
      case rel => exact ⟨k + 1, by omega, by go_num, HR⟩
      case measure => simp [intOf]; omega
    · have hb : on = false := by assumption
      go_roundw
      case rel => exact ⟨k + 1, by omega, by go_num, packing_off HP (by rw [← (show on = _ from HON)]; exact hb)⟩
      case measure => simp [intOf]; omega
    · obtain rfl : k = n := by omega
      go_ret
      refine ⟨_, rfl, congrArg (fun t => Value.slice (some ⟨w.heap.size, 0, none⟩) t t) HM.out, ?_, HP.out.2⟩
      have h1 := HP.out.1
      rw [show m = _ from HM] at h1 ⊢
      unfold pack
      rw [← (show k = _ from HN)]
      exact h1
set_option maxHeartbeats 1600000 in
theorem rpack_at (b off n cap : Nat) (l : List Bool) (w : World) (hl : n = l.length) (hsz : n ≤ 1000000) (hlies : Lies w b off (bls l)) :
    Calls Try.prog 25 #[.slice (some ⟨b, off, none⟩) n cap] w fun e w' => ∃ v', e = .returned v' ∧ v' = .slice (some ⟨w.heap.size, 0, none⟩) (packed n) (packed n) ∧ w'.ownsRow w.heap.size 5 1 v' (packed n) (u8s (pack l)) ∧ Below w.heap.size w w' := by
  obtain ⟨i0, hi, hz0, hz1, hz2⟩ := info_parts Try.infoByte
  have HN : Hid (n = l.length) := hl
  have HL : Hid (Lies w b off (bls l)) := hlies
  have hpk : packed n ≤ 1000000 := by unfold packed; omega
  obtain ⟨m, hm⟩ : ∃ m, m = packed n := ⟨_, rfl⟩
  have hm8 : n ≤ 8 * m := by rw [hm]; unfold packed; omega
  rw [← hm] at hpk
  have HM : Hid (m = packed n) := hm
  have hq : ((n : Int) + 7).tdiv 8 = (m : Int) := by rw [hm, Int.tdiv_eq_ediv_of_nonneg (by omega)]; unfold packed; omega
  clear hl hlies hm
  go_enter Try.func25, Try.ntmps25
  go_wp2_with (first | (at_make; refine wpList_make_full _ rfl _ _ 29 rfl w.heap.size 5 i0 (.int .u8 0) 1 Try.underlying29 hi hz0 hz1 _ _ _ _ m rfl rfl rfl rfl (by rw [hz2]; omega) (by unfold maxLen; omega) (Nat.le_refl _) ?_; intro w1 hown1 hgrow1))
  have HP : Hid (Packing w w1 w.heap.size m l 0) := ⟨by rw [made_u8s] at hown1; exact hown1, (Below.refl _ w).grown hgrow1 (Nat.le_refl _) fun k hk => by cases (show (none : Option Nat) = some k from hk)⟩
  clear hown1 hgrow1
  go_loopw [4] (fun i wr => ∃ k : Nat, k ≤ n ∧ i = .int .i64 k ∧ Packing w wr w.heap.size m l k) (fun i _ => n - (intOf i).toNat)
  case atStart => exact ⟨0, by omega, rfl, HP⟩
  case round =>
    obtain ⟨k, hk, rfl, HP⟩ := hrel
    obtain ⟨on, hon⟩ : ∃ on, on = l.getD k false := ⟨_, rfl⟩
    have hcell : k < n → wr.cell? ⟨b, off + k, none⟩ = some (.bool on) := fun h => by
      have hk' : k < l.length := by rw [← (show n = _ from HN)]; exact h
      have h0 := HL.out.bl k hk'
      rw [hon, HP.2.cell (p := ⟨b, off + k, none⟩) (lt_of_cell h0)]
      exact h0
    have HON : Hid (on = l.getD k false) := hon
    have HP : Hid (Packing w wr w.heap.size m l k) := HP
    clear hon
    go_wp2
    · have hkn : k < n := by assumption
      have hb : on = true := by assumption
      have own := HP.out.1
      obtain ⟨j, hj⟩ : ∃ j, j = k / 8 := ⟨_, rfl⟩
      obtain ⟨r, hr⟩ : ∃ r, r = k % 8 := ⟨_, rfl⟩
      obtain ⟨x, hx⟩ : ∃ x, x = (pk l m k).getD j 0 := ⟨_, rfl⟩
      have hjm : j < m := by omega
      have hx8 : x < 256 := by rw [hx]; exact (pk_bytes l m k).at j
      have hc : wr.cell? ⟨w.heap.size, j, none⟩ = some (.int .u8 x) := by rw [own.cellAt j (by omega), hx]; exact u8s_at _ j (by rw [pk_length]; exact hjm)
      have hfz : wr.frozen? ⟨w.heap.size, j, none⟩ = false := own.frozenAt j
      have e2 : (k : Int).tdiv 8 = (j : Int) := by rw [hj, Int.tdiv_eq_ediv_of_nonneg (by omega)]; omega
      have e3 : (k : Int).tmod 8 = (r : Int) := by rw [hr, Int.tmod_eq_emod_of_nonneg (by omega)]; omega
      have hr8 : r < 8 := by omega
      have HR : Hid (_) := packing_on HP (by rw [← (show on = _ from HON)]; exact hb) hj hr hx
      clear own HP hx hj hr hcell
      go_region
      go_wp2
      go_roundw
      case rel => exact ⟨k + 1, by omega, by go_num, HR⟩
      case measure => simp [intOf]; omega
    · have hb : on = false := by assumption
      go_roundw
      case rel => exact ⟨k + 1, by omega, by go_num, packing_off HP (by rw [← (show on = _ from HON)]; exact hb)⟩
      case measure => simp [intOf]; omega
    · obtain rfl : k = n := by omega
      go_ret
      refine ⟨_, rfl, congrArg (fun t => Value.slice (some ⟨w.heap.size, 0, none⟩) t t) HM.out, ?_, HP.out.2⟩
      have h1 := HP.out.1
      rw [show m = _ from HM] at h1 ⊢
      unfold pack
      rw [← (show k = _ from HN)]
      exact h1
set_option maxHeartbeats 1600000 in
theorem pack_none (ao : Option Addr) (cap : Nat) (w : World) : Calls Try.prog 24 #[.slice ao 0 cap] w fun e w' => ∃ v', e = .returned v' ∧ v' = .slice (some ⟨w.heap.size, 0, none⟩) 0 0 ∧ w'.ownsRow w.heap.size 5 1 v' 0 (u8s (pack [])) ∧ Below w.heap.size w w' := by
  obtain ⟨i0, hi, hz0, hz1, hz2⟩ := info_parts Try.infoByte
  have hpc : Calls Try.prog 47 #[.int .i64 0] w fun e w' => e = .returned (.int .i64 (0 : Nat)) ∧ w' = w := packed_c 0 (by decide) w
  go_enter Try.func24, Try.ntmps24
  go_wp2_with (first | (go_at_call 47; refine hpc.mono ?_; rintro e w' ⟨rfl, hw⟩; subst w') | (at_make; refine wpList_make_full _ rfl _ _ 29 rfl w.heap.size 5 i0 (.int .u8 0) 1 Try.underlying29 hi hz0 hz1 _ _ _ _ 0 rfl rfl rfl rfl (by rw [hz2]; omega) (by unfold maxLen; omega) (Nat.le_refl _) ?_; intro w1 hown1 hgrow1))
  have HP : Hid (w1.ownsRow w.heap.size 5 1 (.slice (some ⟨w.heap.size, 0, none⟩) 0 0) 0 (u8s (pack [])) ∧ Below w.heap.size w w1) := ⟨by rw [made_u8s] at hown1; exact hown1, (Below.refl _ w).grown hgrow1 (Nat.le_refl _) fun k hk => by cases (show (none : Option Nat) = some k from hk)⟩
  clear hown1 hgrow1
  go_loop [12] (fun i => i = .int .i64 0) (fun _ => 0)
  case atStart => rfl
  case round =>
    obtain rfl := hrel
    go_wp2
    go_ret
    exact ⟨_, rfl, rfl, HP.out.1, HP.out.2⟩
set_option maxHeartbeats 1600000 in
theorem rpack_none (ao : Option Addr) (cap : Nat) (w : World) : Calls Try.prog 25 #[.slice ao 0 cap] w fun e w' => ∃ v', e = .returned v' ∧ v' = .slice (some ⟨w.heap.size, 0, none⟩) 0 0 ∧ w'.ownsRow w.heap.size 5 1 v' 0 (u8s (pack [])) ∧ Below w.heap.size w w' := by
  obtain ⟨i0, hi, hz0, hz1, hz2⟩ := info_parts Try.infoByte
  go_enter Try.func25, Try.ntmps25
  go_wp2_with (at_make; refine wpList_make_full _ rfl _ _ 29 rfl w.heap.size 5 i0 (.int .u8 0) 1 Try.underlying29 hi hz0 hz1 _ _ _ _ 0 rfl rfl rfl rfl (by rw [hz2]; omega) (by unfold maxLen; omega) (Nat.le_refl _) ?_; intro w1 hown1 hgrow1)
  have HP : Hid (w1.ownsRow w.heap.size 5 1 (.slice (some ⟨w.heap.size, 0, none⟩) 0 0) 0 (u8s (pack [])) ∧ Below w.heap.size w w1) := ⟨by rw [made_u8s] at hown1; exact hown1, (Below.refl _ w).grown hgrow1 (Nat.le_refl _) fun k hk => by cases (show (none : Option Nat) = some k from hk)⟩
  clear hown1 hgrow1
  go_loop [4] (fun i => i = .int .i64 0) (fun _ => 0)
  case atStart => rfl
  case round =>
    obtain rfl := hrel
    go_wp2
    go_ret
    exact ⟨_, rfl, rfl, HP.out.1, HP.out.2⟩
theorem bls_nil {l : List Bool} (h : bls l = []) : l = [] := by
  have := congrArg List.length h
  rw [bls_len] at this
  exact List.length_eq_zero_iff.1 (by simpa using this)
theorem pack_c {v : Value} {l : List Bool} {w : World} (h : Sl w v (bls l)) (hsz : l.length ≤ 1000000) :
    Calls Try.prog 24 #[v] w fun e w' => ∃ v', e = .returned v' ∧ v' = .slice (some ⟨w.heap.size, 0, none⟩) (pack l).length (pack l).length ∧ w'.ownsRow w.heap.size 5 1 v' (pack l).length (u8s (pack l)) ∧ Below w.heap.size w w' := by
  rw [pack_length]
  rcases h with ⟨h, ao, cap, rfl, _⟩ | ⟨b, off, cap, rfl, _, hc⟩
  · obtain rfl := bls_nil h
    exact pack_none ao cap w
  · rw [bls_len]
    exact pack_at b off _ cap l w rfl hsz hc
theorem rpack_c {v : Value} {l : List Bool} {w : World} (h : Sl w v (bls l)) (hsz : l.length ≤ 1000000) :
    Calls Try.prog 25 #[v] w fun e w' => ∃ v', e = .returned v' ∧ v' = .slice (some ⟨w.heap.size, 0, none⟩) (pack l).length (pack l).length ∧ w'.ownsRow w.heap.size 5 1 v' (pack l).length (u8s (pack l)) ∧ Below w.heap.size w w' := by
  rw [pack_length]
  rcases h with ⟨h, ao, cap, rfl, _⟩ | ⟨b, off, cap, rfl, _, hc⟩
  · obtain rfl := bls_nil h
    exact rpack_none ao cap w
  · rw [bls_len]
    exact rpack_at b off _ cap l w rfl hsz hc
open Go.RowKit
open Pdu
theorem and1_8 (a : Nat) : bits .and .u8 (a : Int) 1 = ((a % 2 : Nat) : Int) := by
  show IntKind.u8.wrap ((BitVec.ofInt 8 (a : Int) &&& BitVec.ofInt 8 1).toNat : Int) = _
  have h : (BitVec.ofInt 8 (a : Int) &&& BitVec.ofInt 8 1).toNat = a % 2 := by
    rw [BitVec.toNat_and, BitVec.ofInt_natCast, BitVec.toNat_ofNat, show (BitVec.ofInt 8 1).toNat = 1 from rfl, Nat.and_one_is_mod]
    omega
  rw [h, IntKind.wrap_u8]
  omega
theorem bit_8 (x r : Nat) : (bits .and .u8 ((x : Int) / 2 ^ r) 1 == 1) = x.testBit r := by
  rw [show (x : Int) / 2 ^ r = ((x / 2 ^ r : Nat) : Int) by simp, and1_8, Nat.testBit_eq_decide_div_mod_eq]
  generalize x / 2 ^ r % 2 = y
  by_cases h : y = 1
  · subst h; rfl
  · rw [decide_eq_false h, beq_eq_false_iff_ne]
    omega
/-- The bits so far, in a row of the call's own. -/
def Bitting (w wr : World) (g m : Nat) (bs : List Nat) (k : Nat) : Prop := wr.ownsRow w.heap.size 4 1 (.slice (some ⟨g, 0, none⟩) m m) m (bls (ub bs k ++ List.replicate (m - k) false)) ∧ Below w.heap.size w wr
theorem bitting_step {w wr : World} {g m k : Nat} {bs : List Nat} {t : Bool} (h : Bitting w wr g m bs k) (hk : k < m) (ht : t = (bs.getD (k / 8) 0).testBit (k % 8)) :
    Bitting w (wr.setCell ⟨g, k, none⟩ (.bool t)) g m bs (k + 1) := by
  have own := h.1
  refine ⟨?_, h.2.setCell (p := ⟨g, k, none⟩) (own.lt g rfl).1 _⟩
  have := (own.stored k (.bool t)).1
  rw [← bls_set] at this
  rw [ub_succ, ← ht]
  rw [List.set_append_right _ _ (by rw [ub_length]; omega), ub_length, Nat.sub_self, show m - k = (m - (k + 1)) + 1 by omega, List.replicate_succ, List.set_cons_zero] at this
  rw [List.append_assoc]
  exact this
theorem made_bls (n : Nat) : (madeCells (Value.cells (.bool false)) (n * 1)).toList = bls (List.replicate n false) := by
  apply List.ext_getElem?
  intro i
  by_cases h : i < n <;> simp [madeCells, Value.cells, bls, h, Nat.mod_one]
def cut (z : Int) : Nat := (min (max z 0) 2000).toNat
theorem cut_nat (n : Nat) : cut n = min n 2000 := by unfold cut; omega
set_option maxHeartbeats 1600000 in
theorem bits_at (b off n cap : Nat) (bs : List Nat) (z : Int) (w : World) (hl : n = bs.length) (hlies : Lies w b off (u8s bs)) :
    Calls Try.prog 27 #[.slice (some ⟨b, off, none⟩) n cap, .int .i64 z] w fun e w' => ∃ v', e = .returned v' ∧ w'.ownsRow w.heap.size 4 1 v' (cut z) (bls (ub bs (cut z))) ∧ Below w.heap.size w w' := by
  obtain ⟨i0, hi, hz0, hz1, hz2⟩ := info_parts Try.infoBool
  have HN : Hid (n = bs.length) := hl
  have HL : Hid (Lies w b off (u8s bs)) := hlies
  obtain ⟨m, hm⟩ : ∃ m, m = cut z := ⟨_, rfl⟩
  have hmz : min (max z 0) 2000 = (m : Int) := by rw [hm]; unfold cut; omega
  have hm2 : m ≤ 2000 := by omega
  rw [← hm]
  clear hl hlies hm
  go_enter Try.func27, Try.ntmps27
  go_wp2_with (at_make; refine wpList_make_full _ rfl _ _ 23 rfl w.heap.size 4 i0 (.bool false) 1 Try.underlying23 hi hz0 hz1 _ _ _ _ m rfl rfl (by omega) (by omega) (by rw [hz2]; omega) (by unfold maxLen; omega) (Nat.le_refl _) ?_; intro w1 hown1 hgrow1)
  all_goals
    have HP : Hid (Bitting w w1 w.heap.size m bs 0) := ⟨by rw [made_bls] at hown1; exact hown1, (Below.refl _ w).grown hgrow1 (Nat.le_refl _) fun k hk => by cases (show (none : Option Nat) = some k from hk)⟩
    clear hown1 hgrow1
    go_loopw [13] (fun i wr => ∃ k : Nat, k ≤ m ∧ i = .int .i64 k ∧ Bitting w wr w.heap.size m bs k) (fun i _ => m - (intOf i).toNat)
    case atStart => exact ⟨0, by omega, rfl, HP⟩
    case round =>
      obtain ⟨k, hk, rfl, HP⟩ := hrel
      by_cases hkm : k < m
      · obtain ⟨j, hj⟩ : ∃ j, j = k / 8 := ⟨_, rfl⟩
        obtain ⟨r, hr⟩ : ∃ r, r = k % 8 := ⟨_, rfl⟩
        obtain ⟨x, hx⟩ : ∃ x, x = bs.getD j 0 := ⟨_, rfl⟩
        have own := HP.1
        have hcl : wr.cell? ⟨w.heap.size, k, none⟩ = some (.bool false) := by
          rw [own.cellAt k (by omega), bls_at _ k (by rw [List.length_append, ub_length, List.length_replicate]; omega), List.getD_eq_getElem?_getD, List.getElem?_append_right (by rw [ub_length]; omega), ub_length, Nat.sub_self, List.getElem?_replicate, if_pos (by omega)]
          rfl
        have hfz : wr.frozen? ⟨w.heap.size, k, none⟩ = false := own.frozenAt k
        have e2 : (k : Int).tdiv 8 = (j : Int) := by rw [hj, Int.tdiv_eq_ediv_of_nonneg (by omega)]; omega
        have e3 : (k : Int).tmod 8 = (r : Int) := by rw [hr, Int.tmod_eq_emod_of_nonneg (by omega)]; omega
        have hr8 : r < 8 := by omega
        have hj' : j ≤ 2000 := by omega
        by_cases hjn : j < n
        · have hjl : j < bs.length := by rw [← (show n = _ from HN)]; exact hjn
          have h0 := HL.out.u8 j hjl
          have hc : wr.cell? ⟨b, off + j, none⟩ = some (.int .u8 x) := by rw [hx, HP.2.cell (p := ⟨b, off + j, none⟩) (lt_of_cell h0)]; exact h0
          have hb8 := bit_8 x r
          have HR : Hid (Bitting w (wr.setCell ⟨w.heap.size, k, none⟩ (.bool (x.testBit r))) w.heap.size m bs (k + 1)) := bitting_step HP hkm (by rw [hx, hj, hr])
          clear own HP h0 hx hj hr
          go_wp2
          first | omega | skip
          all_goals go_roundw
          all_goals first | exact ⟨k + 1, by omega, by go_num, HR⟩ | (simp [intOf]; omega)
        · have hjl : ¬ j < bs.length := by rw [← (show n = _ from HN)]; exact hjn
          have HR : Hid (Bitting w (wr.setCell ⟨w.heap.size, k, none⟩ (.bool false)) w.heap.size m bs (k + 1)) := bitting_step HP hkm (by rw [← hj, List.getD_eq_getElem?_getD, List.getElem?_eq_none (by omega)]; simp)
          clear own HP hx hj hr
          go_wp2
          first | omega | skip
          all_goals go_roundw
          all_goals first | exact ⟨k + 1, by omega, by go_num, HR⟩ | (simp [intOf]; omega)
      · obtain rfl : k = m := by omega
        have HP : Hid (Bitting w wr w.heap.size k bs k) := HP
        go_wp2
        go_ret
        have h1 := HP.out.1
        rw [Nat.sub_self, List.replicate_zero, List.append_nil] at h1
        exact ⟨_, rfl, h1, HP.out.2⟩
set_option maxHeartbeats 1600000 in
theorem bits_none (ao : Option Addr) (cap : Nat) (z : Int) (w : World) :
    Calls Try.prog 27 #[.slice ao 0 cap, .int .i64 z] w fun e w' => ∃ v', e = .returned v' ∧ w'.ownsRow w.heap.size 4 1 v' (cut z) (bls (ub [] (cut z))) ∧ Below w.heap.size w w' := by
  obtain ⟨i0, hi, hz0, hz1, hz2⟩ := info_parts Try.infoBool
  obtain ⟨m, hm⟩ : ∃ m, m = cut z := ⟨_, rfl⟩
  have hmz : min (max z 0) 2000 = (m : Int) := by rw [hm]; unfold cut; omega
  have hm2 : m ≤ 2000 := by omega
  rw [← hm]
  clear hm
  go_enter Try.func27, Try.ntmps27
  go_wp2_with (at_make; refine wpList_make_full _ rfl _ _ 23 rfl w.heap.size 4 i0 (.bool false) 1 Try.underlying23 hi hz0 hz1 _ _ _ _ m rfl rfl (by omega) (by omega) (by rw [hz2]; omega) (by unfold maxLen; omega) (Nat.le_refl _) ?_; intro w1 hown1 hgrow1)
  all_goals
    have HP : Hid (Bitting w w1 w.heap.size m [] 0) := ⟨by rw [made_bls] at hown1; exact hown1, (Below.refl _ w).grown hgrow1 (Nat.le_refl _) fun k hk => by cases (show (none : Option Nat) = some k from hk)⟩
    clear hown1 hgrow1
    go_loopw [13] (fun i wr => ∃ k : Nat, k ≤ m ∧ i = .int .i64 k ∧ Bitting w wr w.heap.size m [] k) (fun i _ => m - (intOf i).toNat)
    case atStart => exact ⟨0, by omega, rfl, HP⟩
    case round =>
      obtain ⟨k, hk, rfl, HP⟩ := hrel
      by_cases hkm : k < m
      · obtain ⟨j, hj⟩ : ∃ j, j = k / 8 := ⟨_, rfl⟩
        have own := HP.1
        have hcl : wr.cell? ⟨w.heap.size, k, none⟩ = some (.bool false) := by
          rw [own.cellAt k (by omega), bls_at _ k (by rw [List.length_append, ub_length, List.length_replicate]; omega), List.getD_eq_getElem?_getD, List.getElem?_append_right (by rw [ub_length]; omega), ub_length, Nat.sub_self, List.getElem?_replicate, if_pos (by omega)]
          rfl
        have hfz : wr.frozen? ⟨w.heap.size, k, none⟩ = false := own.frozenAt k
        have e2 : (k : Int).tdiv 8 = (j : Int) := by rw [hj, Int.tdiv_eq_ediv_of_nonneg (by omega)]; omega
        have hj' : j ≤ 2000 := by omega
        have HR : Hid (Bitting w (wr.setCell ⟨w.heap.size, k, none⟩ (.bool false)) w.heap.size m [] (k + 1)) := bitting_step HP hkm (by simp)
        clear own HP hj
        go_wp2
        first | omega | skip
        all_goals go_roundw
        all_goals first | exact ⟨k + 1, by omega, by go_num, HR⟩ | (simp [intOf]; omega)
      · obtain rfl : k = m := by omega
        have HP : Hid (Bitting w wr w.heap.size k [] k) := HP
        go_wp2
        go_ret
        have h1 := HP.out.1
        rw [Nat.sub_self, List.replicate_zero, List.append_nil] at h1
        exact ⟨_, rfl, h1, HP.out.2⟩
theorem u8s_nil {l : List Nat} (h : u8s l = []) : l = [] := by
  have := congrArg List.length h
  rw [u8s_len] at this
  exact List.length_eq_zero_iff.1 (by simpa using this)
theorem bits_c {v : Value} {bs : List Nat} {w : World} (z : Int) (h : Sl w v (u8s bs)) :
    Calls Try.prog 27 #[v, .int .i64 z] w fun e w' => ∃ v', e = .returned v' ∧ w'.ownsRow w.heap.size 4 1 v' (cut z) (bls (ub bs (cut z))) ∧ Below w.heap.size w w' := by
  rcases h with ⟨h, ao, cap, rfl, _⟩ | ⟨b, off, cap, rfl, _, hc⟩
  · obtain rfl := u8s_nil h
    exact bits_none ao cap z w
  · rw [u8s_len]
    exact bits_at b off _ cap bs z w rfl hc
open Go.RowKit
open Pdu
def Gather (w wr : World) (v : Value) (bs : List Nat) (k : Nat) : Prop := wr.ownsRow w.heap.size 4 1 v k (bls (ub bs k)) ∧ Below w.heap.size w wr
theorem one_cell (w : World) (e : TypeId) (x : Value) : ∀ j u, [x][j]? = some u → (w.alloc (.cells #[x] e)).cell? ((⟨w.heap.size, 0, none⟩ : Addr).add j) = some u := by
  intro j u hj
  match j, hj with
  | 0, hj => simp at hj; subst hj; simp [Addr.add]
theorem one_bool (x : Bool) : ∀ u ∈ [Value.bool x], u.oneCell' = true := by
  intro u hu
  simp at hu
  subst hu
  rfl
theorem one_int (k : IntKind) (x : Int) : ∀ u ∈ [Value.int k x], u.oneCell' = true := by
  intro u hu
  simp at hu
  subst hu
  rfl
theorem gather_step {w wr w1 : World} {v v' : Value} {bs : List Nat} {k : Nat} {t : Bool} {o : Obj} (h : Gather w wr v bs k) (ht : t = (bs.getD (k / 8) 0).testBit (k % 8)) (hown : w1.ownsRow w.heap.size 4 1 v' (k + 1) (bls (ub bs k) ++ [.bool t])) (hg : (wr.alloc o).grownBy w1 v.ownBlock) : Gather w w1 v' bs (k + 1) := by
  obtain ⟨h1, h2⟩ := h
  have hs := h2.size
  refine ⟨?_, (h2.alloc (by omega) o).grown hg (by simp; omega) (fun g hg' => (h1.lt g hg').1)⟩
  rw [ub_succ, ← ht, bls_app]
  exact hown
set_option maxHeartbeats 1600000 in
theorem rbits_at (b off n cap : Nat) (bs : List Nat) (z : Int) (w : World) (hl : n = bs.length) (hlies : Lies w b off (u8s bs)) :
    Calls Try.prog 30 #[.slice (some ⟨b, off, none⟩) n cap, .int .i64 z] w fun e w' => ∃ v', e = .returned v' ∧ w'.ownsRow w.heap.size 4 1 v' (cut z) (bls (ub bs (cut z))) ∧ Below w.heap.size w w' := by
  obtain ⟨i0, hi, hz0, hz1, hz2⟩ := info_parts Try.infoBool
  have HN : Hid (n = bs.length) := hl
  have HL : Hid (Lies w b off (u8s bs)) := hlies
  obtain ⟨m, hm⟩ : ∃ m, m = cut z := ⟨_, rfl⟩
  have hmz : min (max z 0) 2000 = (m : Int) := by rw [hm]; unfold cut; omega
  have hm2 : m ≤ 2000 := by omega
  rw [← hm]
  clear hl hlies hm
  go_enter Try.func30, Try.ntmps30
  go_wp2
  go_loopw [5, 6] (fun v i wr => ∃ k : Nat, k ≤ m ∧ i = .int .i64 k ∧ Gather w wr v bs k) (fun _ i _ => m - (intOf i).toNat)
  case atStart => exact ⟨0, by omega, rfl, World.ownsRow_nil .., Below.refl _ _⟩
  case round =>
    obtain ⟨k, hk, rfl, HP⟩ := hrel
    have hsize : w.heap.size ≤ wr.heap.size := HP.2.size
    by_cases hkm : k < m
    · obtain ⟨j, hj⟩ : ∃ j, j = k / 8 := ⟨_, rfl⟩
      obtain ⟨r, hr⟩ : ∃ r, r = k % 8 := ⟨_, rfl⟩
      obtain ⟨x, hx⟩ : ∃ x, x = bs.getD j 0 := ⟨_, rfl⟩
      have e2 : (k : Int).tdiv 8 = (j : Int) := by rw [hj, Int.tdiv_eq_ediv_of_nonneg (by omega)]; omega
      have e3 : (k : Int).tmod 8 = (r : Int) := by rw [hr, Int.tmod_eq_emod_of_nonneg (by omega)]; omega
      have hr8 : r < 8 := by omega
      have hj' : j ≤ 2000 := by omega
      have hkz : (k : Int) < z := by omega
      by_cases hjn : j < n
      · have hjl : j < bs.length := by rw [← (show n = _ from HN)]; exact hjn
        have h0 := HL.out.u8 j hjl
        have hc : wr.cell? ⟨b, off + j, none⟩ = some (.int .u8 x) := by rw [hx, HP.2.cell (p := ⟨b, off + j, none⟩) (lt_of_cell h0)]; exact h0
        have hb8 := bit_8 x r
        have HT : Hid (x.testBit r = (bs.getD (k / 8) 0).testBit (k % 8)) := by rw [hx, hj, hr]; exact rfl
        have HP : Hid (Gather w wr u5 bs k) := HP
        clear h0 hx hj hr
        go_wp2_with (at_builtin; refine wpList_append_own _ rfl (.tmp 13) (.tmp 31) 23 rfl w.heap.size 4 i0 (.bool false) 1 1 Try.underlying23 hi hz0 hz1 hz2 rfl (by decide) _ k _ rfl (HP.out.1.alloc _) ⟨wr.heap.size, 0, none⟩ 1 1 [.bool (x.testBit r)] rfl rfl (one_cell _ _ _) (one_bool _) (by unfold maxLen; omega) (by omega) (by simp; omega) ?_; intro v' w1 hown' hgrow _)
        all_goals
          have HR : Hid (Gather w w1 v' bs (k + 1)) := gather_step HP HT hown' hgrow
          clear hown' hgrow HP
          go_wp2
          go_roundw
          all_goals first | exact ⟨k + 1, by omega, by go_num, HR⟩ | (simp [intOf]; omega)
      · have hjl : ¬ j < bs.length := by rw [← (show n = _ from HN)]; exact hjn
        have HT : Hid (false = (bs.getD (k / 8) 0).testBit (k % 8)) := show false = _ by rw [← hj, List.getD_eq_getElem?_getD, List.getElem?_eq_none (by omega)]; simp
        have HP : Hid (Gather w wr u5 bs k) := HP
        clear hx hj hr
        go_wp2_with (at_builtin; refine wpList_append_own _ rfl (.tmp 13) (.tmp 31) 23 rfl w.heap.size 4 i0 (.bool false) 1 1 Try.underlying23 hi hz0 hz1 hz2 rfl (by decide) _ k _ rfl (HP.out.1.alloc _) ⟨wr.heap.size, 0, none⟩ 1 1 [.bool false] rfl rfl (one_cell _ _ _) (one_bool _) (by unfold maxLen; omega) (by omega) (by simp; omega) ?_; intro v' w1 hown' hgrow _)
        all_goals
          have HR : Hid (Gather w w1 v' bs (k + 1)) := gather_step HP HT hown' hgrow
          clear hown' hgrow HP
          go_wp2
          go_roundw
          all_goals first | exact ⟨k + 1, by omega, by go_num, HR⟩ | (simp [intOf]; omega)
    · obtain rfl : k = m := by omega
      have HP : Hid (Gather w wr u5 bs k) := HP
      go_wp2
      all_goals first | omega | skip
      all_goals go_ret
      all_goals exact ⟨_, rfl, HP.out.1, HP.out.2⟩
set_option maxHeartbeats 1600000 in
theorem rbits_none (ao : Option Addr) (cap : Nat) (z : Int) (w : World) :
    Calls Try.prog 30 #[.slice ao 0 cap, .int .i64 z] w fun e w' => ∃ v', e = .returned v' ∧ w'.ownsRow w.heap.size 4 1 v' (cut z) (bls (ub [] (cut z))) ∧ Below w.heap.size w w' := by
  obtain ⟨i0, hi, hz0, hz1, hz2⟩ := info_parts Try.infoBool
  obtain ⟨m, hm⟩ : ∃ m, m = cut z := ⟨_, rfl⟩
  have hmz : min (max z 0) 2000 = (m : Int) := by rw [hm]; unfold cut; omega
  have hm2 : m ≤ 2000 := by omega
  rw [← hm]
  clear hm
  go_enter Try.func30, Try.ntmps30
  go_wp2
  go_loopw [5, 6] (fun v i wr => ∃ k : Nat, k ≤ m ∧ i = .int .i64 k ∧ Gather w wr v [] k) (fun _ i _ => m - (intOf i).toNat)
  case atStart => exact ⟨0, by omega, rfl, World.ownsRow_nil .., Below.refl _ _⟩
  case round =>
    obtain ⟨k, hk, rfl, HP⟩ := hrel
    have hsize : w.heap.size ≤ wr.heap.size := HP.2.size
    by_cases hkm : k < m
    · obtain ⟨j, hj⟩ : ∃ j, j = k / 8 := ⟨_, rfl⟩
      have e2 : (k : Int).tdiv 8 = (j : Int) := by rw [hj, Int.tdiv_eq_ediv_of_nonneg (by omega)]; omega
      have hj' : j ≤ 2000 := by omega
      have hkz : (k : Int) < z := by omega
      have HT : Hid (false = (([] : List Nat).getD (k / 8) 0).testBit (k % 8)) := show false = _ by simp
      have HP : Hid (Gather w wr u5 [] k) := HP
      clear hj
      go_wp2_with (at_builtin; refine wpList_append_own _ rfl (.tmp 13) (.tmp 31) 23 rfl w.heap.size 4 i0 (.bool false) 1 1 Try.underlying23 hi hz0 hz1 hz2 rfl (by decide) _ k _ rfl (HP.out.1.alloc _) ⟨wr.heap.size, 0, none⟩ 1 1 [.bool false] rfl rfl (one_cell _ _ _) (one_bool _) (by unfold maxLen; omega) (by omega) (by simp; omega) ?_; intro v' w1 hown' hgrow _)
      all_goals
        have HR : Hid (Gather w w1 v' [] (k + 1)) := gather_step HP HT hown' hgrow
        clear hown' hgrow HP
        go_wp2
        go_roundw
        all_goals first | exact ⟨k + 1, by omega, by go_num, HR⟩ | (simp [intOf]; omega)
    · obtain rfl : k = m := by omega
      have HP : Hid (Gather w wr u5 [] k) := HP
      go_wp2
      all_goals first | omega | skip
      all_goals go_ret
      all_goals exact ⟨_, rfl, HP.out.1, HP.out.2⟩
theorem rbits_c {v : Value} {bs : List Nat} {w : World} (z : Int) (h : Sl w v (u8s bs)) :
    Calls Try.prog 30 #[v, .int .i64 z] w fun e w' => ∃ v', e = .returned v' ∧ w'.ownsRow w.heap.size 4 1 v' (cut z) (bls (ub bs (cut z))) ∧ Below w.heap.size w w' := by
  rcases h with ⟨h, ao, cap, rfl, _⟩ | ⟨b, off, cap, rfl, _, hc⟩
  · obtain rfl := u8s_nil h
    exact rbits_none ao cap z w
  · rw [u8s_len]
    exact rbits_at b off _ cap bs z w rfl hc
open Go.RowKit
open Pdu
set_option maxHeartbeats 1600000 in
theorem at_c (b off n cap i x y : Nat) (w : World) (hn : i + 1 < n) (hm : n ≤ 1000000) (hx : x < 256) (hy : y < 256) (h0 : w.cell? ⟨b, off + i, none⟩ = some (.int .u8 x)) (h1 : w.cell? ⟨b, off + (i + 1), none⟩ = some (.int .u8 y)) :
    Calls Try.prog 41 #[.slice (some ⟨b, off, none⟩) n cap, .int .i64 i] w fun e w' => e = .returned (.int .u16 (256 * x + y : Nat)) ∧ ∃ m, w' = w.drewN m := by
  have hor := or_16 hx hy
  have e1 : IntKind.i64.wrap ((i : Int) + 1) = ((i + 1 : Nat) : Int) := by rw [IntKind.wrap_i64]; omega
  go_enter Try.func41, Try.ntmps41
  go_wp2
  go_quiet (fail)
  go_wp2
  go_ret
  exact ⟨congrArg (fun t : Int => Ending.returned (.int .u16 t)) (show 256 * (x : Int) + y = ((256 * x + y : Nat) : Int) by omega), _, rfl⟩
theorem ws_at (b : List Nat) (k : Nat) (h : k < b.length / 2) : (ws b).getD k 0 = wordAt b (2 * k) := by
  simp [ws, List.getD_eq_getElem?_getD, h]
theorem ws_take (b : List Nat) (k : Nat) (h : k < b.length / 2) : (ws b).take (k + 1) = (ws b).take k ++ [wordAt b (2 * k)] := by
  have hl : k < (ws b).length := by rw [ws_length]; exact h
  rw [List.take_add_one, List.getElem?_eq_getElem hl, ← ws_at b k h, List.getD_eq_getElem?_getD, List.getElem?_eq_getElem hl]
  rfl
theorem made_u16s (n : Nat) : (madeCells (Value.cells (.int .u16 0)) (n * 1)).toList = u16s (List.replicate n 0) := by
  apply List.ext_getElem?
  intro i
  by_cases h : i < n <;> simp [madeCells, Value.cells, u16s, h, Nat.mod_one]
/-- The words so far, in a row of the call's own. -/
def Wording (w wr : World) (g m : Nat) (bs : List Nat) (k : Nat) : Prop := wr.ownsRow w.heap.size 22 1 (.slice (some ⟨g, 0, none⟩) m m) m (u16s ((ws bs).take k ++ List.replicate (m - k) 0)) ∧ Below w.heap.size w wr
theorem wording_step {w wr : World} {g m k t d : Nat} {bs : List Nat} (h : Wording w wr g m bs k) (hk : k < m) (hm : m = bs.length / 2) (ht : t = wordAt bs (2 * k)) :
    Wording w ((wr.drewN d).setCell ⟨g, k, none⟩ (.int .u16 t)) g m bs (k + 1) := by
  have own := h.1
  have hl : ((ws bs).take k).length = k := by rw [List.length_take, ws_length]; omega
  have h' := below_drewN h.2 d
  refine ⟨?_, h'.setCell (p := ⟨g, k, none⟩) (own.lt g rfl).1 _⟩
  have own' : (wr.drewN d).ownsRow w.heap.size 22 1 (.slice (some ⟨g, 0, none⟩) m m) m (u16s ((ws bs).take k ++ List.replicate (m - k) 0)) := own
  have := (own'.stored k (.int .u16 t)).1
  rw [← u16s_set] at this
  rw [ws_take _ _ (by omega), ← ht]
  rw [List.set_append_right _ _ (by omega), hl, Nat.sub_self, show m - k = (m - (k + 1)) + 1 by omega, List.replicate_succ, List.set_cons_zero] at this
  rw [List.append_assoc]
  exact this
set_option maxHeartbeats 1600000 in
theorem words_at (b off n cap : Nat) (bs : List Nat) (w : World) (hl : n = bs.length) (hcap : n ≤ cap) (hsz : n ≤ 1000000) (hb : Bytes bs) (hlies : Lies w b off (u8s bs)) :
    Calls Try.prog 52 #[.slice (some ⟨b, off, none⟩) n cap] w fun e w' => ∃ v', e = .returned v' ∧ w'.ownsRow w.heap.size 22 1 v' (n / 2) (u16s (ws bs)) ∧ Below w.heap.size w w' := by
  obtain ⟨i0, hi, hz0, hz1, hz2⟩ := info_parts Try.infoWord
  have HN : Hid (n = bs.length) := hl
  have HL : Hid (Lies w b off (u8s bs)) := hlies
  obtain ⟨m, hm⟩ : ∃ m, m = n / 2 := ⟨_, rfl⟩
  have hq : (n : Int).tdiv 2 = (m : Int) := by rw [hm, Int.tdiv_eq_ediv_of_nonneg (by omega)]; omega
  have hm2 : 2 * m ≤ n := by omega
  have HM : Hid (m = bs.length / 2) := by rw [hm, hl]; exact rfl
  rw [← hm]
  clear hl hlies hm
  go_enter Try.func52, Try.ntmps52
  go_wp2_with (at_make; refine wpList_make_full _ rfl _ _ 24 rfl w.heap.size 22 i0 (.int .u16 0) 1 Try.underlying24 hi hz0 hz1 _ _ _ _ m rfl rfl rfl rfl (by rw [hz2]; omega) (by unfold maxLen; omega) (Nat.le_refl _) ?_; intro w1 hown1 hgrow1)
  have HP : Hid (Wording w w1 w.heap.size m bs 0) := ⟨by rw [made_u16s] at hown1; exact hown1, (Below.refl _ w).grown hgrow1 (Nat.le_refl _) fun k hk => by cases (show (none : Option Nat) = some k from hk)⟩
  clear hown1 hgrow1
  go_loopw [11] (fun i wr => ∃ k : Nat, k ≤ m ∧ i = .int .i64 k ∧ Wording w wr w.heap.size m bs k) (fun i _ => m - (intOf i).toNat)
  case atStart => exact ⟨0, by omega, rfl, HP⟩
  case round =>
    obtain ⟨k, hk, rfl, HP⟩ := hrel
    by_cases hkm : k < m
    · obtain ⟨x, hx⟩ : ∃ x, x = bs.getD (2 * k) 0 := ⟨_, rfl⟩
      obtain ⟨y, hy⟩ : ∃ y, y = bs.getD (2 * k + 1) 0 := ⟨_, rfl⟩
      have hx8 : x < 256 := by rw [hx]; exact hb.at _
      have hy8 : y < 256 := by rw [hy]; exact hb.at _
      have hlen : 2 * k + 1 < bs.length := by have := (show n = _ from HN); omega
      have c0 := HL.out.u8 (2 * k) (by omega)
      have c1 := HL.out.u8 (2 * k + 1) hlen
      have hc0 : wr.cell? ⟨b, off + 2 * k, none⟩ = some (.int .u8 x) := by rw [hx, HP.2.cell (p := ⟨b, off + 2 * k, none⟩) (lt_of_cell c0)]; exact c0
      have hc1 : wr.cell? ⟨b, off + 2 * k + 1, none⟩ = some (.int .u8 y) := by rw [hy, HP.2.cell (p := ⟨b, off + 2 * k + 1, none⟩) (lt_of_cell c1)]; exact c1
      have own := HP.1
      have hcl : ∃ v, wr.cell? ⟨w.heap.size, k, none⟩ = some v := by
        rw [own.cellAt k (by omega), u16s_at _ k (by rw [List.length_append, List.length_take, List.length_replicate, ws_length, ← (show m = _ from HM)]; omega)]
        exact ⟨_, rfl⟩
      obtain ⟨v0, hcl⟩ := hcl
      have hfz : wr.frozen? ⟨w.heap.size, k, none⟩ = false := own.frozenAt k
      have HR : Hid (∀ d, Wording w ((wr.drewN d).setCell ⟨w.heap.size, k, none⟩ (.int .u16 (256 * x + y : Nat))) w.heap.size m bs (k + 1)) := fun d => wording_step HP hkm HM (by rw [hx, hy]; rfl)
      clear own HP c0 c1 hx hy hlen
      go_wp2_with (go_at_call 51; refine (word_c b (off + 2 * k) _ _ x y wr (by omega) hx8 hy8 hc0 hc1).mono ?_; rintro e w' ⟨rfl, d, hw⟩; subst w')
      go_roundw
      case rel => exact ⟨k + 1, by omega, by go_num, HR.out _⟩
      case measure => simp [intOf]; omega
    · obtain rfl : k = m := by omega
      have HP : Hid (Wording w wr w.heap.size k bs k) := HP
      go_wp2
      go_ret
      have h1 := HP.out.1
      rw [Nat.sub_self, List.replicate_zero, List.append_nil, List.take_of_length_le (by rw [ws_length]; exact Nat.le_of_eq HM.out.symm)] at h1
      exact ⟨_, rfl, h1, HP.out.2⟩
set_option maxHeartbeats 1600000 in
theorem words_none (ao : Option Addr) (cap : Nat) (w : World) :
    Calls Try.prog 52 #[.slice ao 0 cap] w fun e w' => ∃ v', e = .returned v' ∧ w'.ownsRow w.heap.size 22 1 v' 0 (u16s []) ∧ Below w.heap.size w w' := by
  obtain ⟨i0, hi, hz0, hz1, hz2⟩ := info_parts Try.infoWord
  go_enter Try.func52, Try.ntmps52
  go_wp2_with (at_make; refine wpList_make_full _ rfl _ _ 24 rfl w.heap.size 22 i0 (.int .u16 0) 1 Try.underlying24 hi hz0 hz1 _ _ _ _ 0 rfl rfl rfl rfl (by rw [hz2]; omega) (by unfold maxLen; omega) (Nat.le_refl _) ?_; intro w1 hown1 hgrow1)
  have HP : Hid (w1.ownsRow w.heap.size 22 1 (.slice (some ⟨w.heap.size, 0, none⟩) 0 0) 0 (u16s []) ∧ Below w.heap.size w w1) := ⟨by rw [made_u16s] at hown1; exact hown1, (Below.refl _ w).grown hgrow1 (Nat.le_refl _) fun k hk => by cases (show (none : Option Nat) = some k from hk)⟩
  clear hown1 hgrow1
  go_loop [11] (fun i => i = .int .i64 0) (fun _ => 0)
  case atStart => rfl
  case round =>
    obtain rfl := hrel
    go_wp2
    go_ret
    exact ⟨_, rfl, HP.out.1, HP.out.2⟩
theorem words_c {v : Value} {bs : List Nat} {w : World} (hb : Bytes bs) (h : Sl w v (u8s bs)) (hsz : bs.length ≤ 1000000) :
    Calls Try.prog 52 #[v] w fun e w' => ∃ v', e = .returned v' ∧ w'.ownsRow w.heap.size 22 1 v' (ws bs).length (u16s (ws bs)) ∧ Below w.heap.size w w' := by
  rw [ws_length]
  rcases h with ⟨h, ao, cap, rfl, _⟩ | ⟨b, off, cap, rfl, hcap, hc⟩
  · obtain rfl := u8s_nil h
    exact words_none ao cap w
  · rw [u8s_len] at hcap ⊢
    exact words_at b off _ cap bs w rfl hcap hsz hb hc
def Regging (w wr : World) (v : Value) (bs : List Nat) (k : Nat) : Prop := wr.ownsRow w.heap.size 22 1 v k (u16s ((ws bs).take k)) ∧ Below w.heap.size w wr
theorem regging_step {w wr w1 : World} {v v' : Value} {bs : List Nat} {k t d : Nat} {o : Obj} (h : Regging w wr v bs k) (hk : k < bs.length / 2) (ht : t = wordAt bs (2 * k)) (hown : w1.ownsRow w.heap.size 22 1 v' (k + 1) (u16s ((ws bs).take k) ++ [.int .u16 (t : Int)])) (hg : ((wr.drewN d).alloc o).grownBy w1 v.ownBlock) : Regging w w1 v' bs (k + 1) := by
  obtain ⟨h1, h2⟩ := h
  have hs := h2.size
  refine ⟨?_, ((below_drewN h2 d).alloc (by show w.heap.size ≤ wr.heap.size; omega) o).grown hg (by simp; omega) (fun g hg' => (h1.lt g hg').1)⟩
  rw [ws_take _ _ hk, ← ht, u16s_app]
  exact hown
set_option maxHeartbeats 1600000 in
theorem regs_at (b off n cap : Nat) (bs : List Nat) (w : World) (hl : n = bs.length) (hsz : n ≤ 1000000) (hb : Bytes bs) (hlies : Lies w b off (u8s bs)) :
    Calls Try.prog 42 #[.slice (some ⟨b, off, none⟩) n cap] w fun e w' => ∃ v', e = .returned v' ∧ w'.ownsRow w.heap.size 22 1 v' (n / 2) (u16s (ws bs)) ∧ Below w.heap.size w w' := by
  obtain ⟨i0, hi, hz0, hz1, hz2⟩ := info_parts Try.infoWord
  have HN : Hid (n = bs.length) := hl
  have HL : Hid (Lies w b off (u8s bs)) := hlies
  obtain ⟨m, hm⟩ : ∃ m, m = n / 2 := ⟨_, rfl⟩
  have hm2 : 2 * m ≤ n := by omega
  have hm3 : n ≤ 2 * m + 1 := by omega
  have HM : Hid (m = bs.length / 2) := by rw [hm, hl]; exact rfl
  rw [← hm]
  clear hl hlies hm
  go_enter Try.func42, Try.ntmps42
  go_wp2
  go_loopw [3, 4] (fun v i wr => ∃ k : Nat, k ≤ m ∧ i = .int .i64 (2 * k : Nat) ∧ Regging w wr v bs k) (fun _ i _ => 2 * m - (intOf i).toNat)
  case atStart => exact ⟨0, by omega, rfl, World.ownsRow_nil .., Below.refl _ _⟩
  case round =>
    obtain ⟨k, hk, rfl, HP⟩ := hrel
    have hsize : w.heap.size ≤ wr.heap.size := HP.2.size
    by_cases hkm : k < m
    · obtain ⟨x, hx⟩ : ∃ x, x = bs.getD (2 * k) 0 := ⟨_, rfl⟩
      obtain ⟨y, hy⟩ : ∃ y, y = bs.getD (2 * k + 1) 0 := ⟨_, rfl⟩
      have hx8 : x < 256 := by rw [hx]; exact hb.at _
      have hy8 : y < 256 := by rw [hy]; exact hb.at _
      have hlen : 2 * k + 1 < bs.length := by have := (show n = _ from HN); omega
      have c0 := HL.out.u8 (2 * k) (by omega)
      have c1 := HL.out.u8 (2 * k + 1) hlen
      have hc0 : wr.cell? ⟨b, off + 2 * k, none⟩ = some (.int .u8 x) := by rw [hx, HP.2.cell (p := ⟨b, off + 2 * k, none⟩) (lt_of_cell c0)]; exact c0
      have hc1 : wr.cell? ⟨b, off + (2 * k + 1), none⟩ = some (.int .u8 y) := by rw [hy, HP.2.cell (p := ⟨b, off + (2 * k + 1), none⟩) (lt_of_cell c1)]; exact c1
      have HT : Hid (256 * x + y = wordAt bs (2 * k)) := by rw [hx, hy]; exact rfl
      have hkl : Hid (k < bs.length / 2) := by rw [← (show m = _ from HM)]; exact hkm
      have HP : Hid (Regging w wr u3 bs k) := HP
      have hat := at_c b off n cap (2 * k) x y wr (by omega) hsz hx8 hy8 hc0 hc1
      clear c0 c1 hx hy hlen
      go_wp2_with (first | (go_at_call 41; refine hat.mono ?_; rintro e w' ⟨rfl, d, hw⟩; subst w') | (at_builtin; refine wpList_append_own _ rfl (.tmp 12) (.tmp 16) 24 rfl w.heap.size 22 i0 (.int .u16 0) 1 2 Try.underlying24 hi hz0 hz1 hz2 rfl (by decide) _ k _ rfl (World.ownsRow.alloc (w := wr.drewN d) HP.out.1 _) ⟨wr.heap.size, 0, none⟩ 1 1 [.int .u16 (256 * (x : Int) + (y : Int))] rfl rfl (one_cell (wr.drewN d) _ _) (one_int _ _) (by unfold maxLen; omega) (by omega) (by show w.heap.size ≤ ((wr.drewN d).alloc _).heap.size; simp; omega) ?_; intro v' w1 hown' hgrow _))
      have HR : Hid (Regging w w1 v' bs (k + 1)) := regging_step (d := d) HP hkl HT (by rw [show ((256 * x + y : Nat) : Int) = 256 * (x : Int) + y by omega]; exact hown') hgrow
      clear hown' hgrow HP
      go_wp2
      go_roundw
      all_goals first | exact ⟨k + 1, by omega, by go_num, HR⟩ | (simp [intOf]; omega)
    · obtain rfl : k = m := by omega
      have HP : Hid (Regging w wr u3 bs k) := HP
      go_wp2
      go_ret
      have h1 := HP.out.1
      rw [List.take_of_length_le (by rw [ws_length]; exact Nat.le_of_eq HM.out.symm)] at h1
      exact ⟨_, rfl, h1, HP.out.2⟩
set_option maxHeartbeats 1600000 in
theorem regs_none (ao : Option Addr) (cap : Nat) (w : World) :
    Calls Try.prog 42 #[.slice ao 0 cap] w fun e w' => e = .returned (.slice none 0 0) ∧ w' = w := by
  go_enter Try.func42, Try.ntmps42
  go_wp2
  go_loop [3, 4] (fun v i => i = .int .i64 0 ∧ v = .slice none 0 0) (fun _ _ => 0)
  case atStart => exact ⟨rfl, rfl⟩
  case round =>
    obtain ⟨rfl, rfl⟩ := hrel
    go_wp2
    go_ret
    exact ⟨rfl, rfl⟩
theorem regs_c {v : Value} {bs : List Nat} {w : World} (hb : Bytes bs) (h : Sl w v (u8s bs)) (hsz : bs.length ≤ 1000000) :
    Calls Try.prog 42 #[v] w fun e w' => ∃ v', e = .returned v' ∧ w'.ownsRow w.heap.size 22 1 v' (ws bs).length (u16s (ws bs)) ∧ Below w.heap.size w w' := by
  rw [ws_length]
  rcases h with ⟨h, ao, cap, rfl, _⟩ | ⟨b, off, cap, rfl, hcap, hc⟩
  · obtain rfl := u8s_nil h
    refine (regs_none ao cap w).mono ?_
    rintro e w' ⟨rfl, rfl⟩
    exact ⟨_, rfl, World.ownsRow_nil .., Below.refl _ _⟩
  · rw [u8s_len] at hcap ⊢
    exact regs_at b off _ cap bs w rfl hsz hb hc
open Go.RowKit
open Pdu
def ints (bs : List Nat) : List Int := bs.map fun (x : Nat) => (x : Int)
theorem str_none (a : Addr) (c : Nat) (w : World) : (convert 29 9 (.slice (some a) 0 c)).run Try.prog w = .ok (.string (strOfNums [])) w := by
  rw [run_convert_bytes_string w 29 9 5 _ 0 c Try.underlying29 Try.underlying5 Try.underlying9]
  have hl : (loadCells a 0).run Try.prog w = .ok (([] : List Int).map (Value.int .u8)).toArray w := rfl
  rw [run_bytesToString w _ 0 c [] hl]
  rfl
theorem str_c {v : Value} {bs : List Nat} {w : World} (h : Sl w v (u8s bs)) : (convert 29 9 v).run Try.prog w = .ok (.string (strOfNums (ints bs))) w := by
  rcases h with ⟨h, ao, cap, rfl, h0⟩ | ⟨c, off, cap, rfl, _, hc⟩
  · obtain rfl := u8s_nil h
    match ao with
    | none => exact run_convert_bytes_nil w 29 5 Try.underlying29 Try.underlying5 0 cap 9 Try.underlying9
    | some a => exact str_none a cap w
  · rw [u8s_len]
    refine run_convert_bytes_arg w 29 5 Try.underlying29 Try.underlying5 c off bs.length cap (ints bs) (by simp [ints]) (fun i hi => ?_) 9 Try.underlying9
    rw [hc.u8 i hi]
    simp [ints, List.getD, List.getElem?_eq_getElem hi]
theorem str_eq {xs ys : List Nat} (ha : Bytes xs) (hb : Bytes ys) : ((strOfNums (ints xs)).toList == (strOfNums (ints ys)).toList) = decide (xs = ys) := by
  have h : ∀ zs : List Nat, Bytes zs → (zs.map fun x => UInt8.ofNat x).map UInt8.toNat = zs := by
    intro zs hz
    rw [List.map_map]
    conv => rhs; rw [← List.map_id zs]
    apply List.map_congr_left
    intro x hx
    have := hz x hx
    simp [UInt8.toNat_ofNat']
    omega
  have e : ∀ zs : List Nat, (strOfNums (ints zs)).toList = zs.map fun x => UInt8.ofNat x := by
    intro zs
    rw [ByteArray.toList_eq, strOfNums_data]
    simp [ints]
  rw [e, e]
  by_cases hxy : xs = ys
  · subst hxy; simp
  · rw [decide_eq_false hxy, beq_eq_false_iff_ne]
    intro h'
    apply hxy
    rw [← h xs ha, ← h ys hb, h']
theorem take_same {α : Type} {xs ys : List α} {k : Nat} {d : α} (hx : k < xs.length) (hy : k < ys.length) (h : xs.take k = ys.take k) (e : xs.getD k d = ys.getD k d) : xs.take (k + 1) = ys.take (k + 1) := by
  rw [List.take_add_one, List.take_add_one, h]
  simp only [List.getD_eq_getElem?_getD, List.getElem?_eq_getElem hx, List.getElem?_eq_getElem hy, Option.getD_some] at e ⊢
  rw [e]
set_option maxHeartbeats 1600000 in
theorem bytes_c {v u : Value} {xs ys : List Nat} {w : World} (h : Sl w v (u8s xs)) (k : Sl w u (u8s ys)) (ha : Bytes xs) (hb : Bytes ys) : Calls Try.prog 13 #[v, u] w fun e w' => e = .returned (.bool (decide (xs = ys))) ∧ w' = w := by
  have h1 := str_c h
  have h2 := str_c k
  have h3 := str_eq ha hb
  clear h k
  go_enter Try.func13, Try.ntmps13
  go_wp2
  go_ret
  exact ⟨rfl, rfl⟩
set_option maxHeartbeats 1600000 in
theorem rsame_c {v u : Value} {xs ys : List Nat} {w : World} (h : Sl w v (u8s xs)) (k : Sl w u (u8s ys)) (ha : Bytes xs) (hb : Bytes ys) : Calls Try.prog 46 #[v, u] w fun e w' => e = .returned (.bool (decide (xs = ys))) ∧ w' = w := by
  have h1 := str_c h
  have h2 := str_c k
  have h3 := str_eq ha hb
  clear h k
  go_enter Try.func46, Try.ntmps46
  go_wp2
  go_ret
  exact ⟨rfl, rfl⟩
set_option maxHeartbeats 1600000 in
theorem equal_c {v u : Value} {xs ys : List Nat} {w : World} (h : Sl w v (u8s xs)) (k : Sl w u (u8s ys)) (ha : Bytes xs) (hb : Bytes ys) : Calls Try.prog 58 #[v, u] w fun e w' => e = .returned (.bool (decide (xs = ys))) ∧ w' = w := by
  have h1 := str_c h
  have h2 := str_c k
  have h3 := str_eq ha hb
  clear h k
  go_enter Try.func58, Try.ntmps58
  go_wp2
  go_ret
  exact ⟨rfl, rfl⟩
set_option maxHeartbeats 1600000 in
theorem hbits_at (b off b' off' n cap cap' : Nat) (xs ys : List Bool) (w : World) (hx : n = xs.length) (hy : n = ys.length) (hm : n ≤ 9223372036854775807) (lx : Lies w b off (bls xs)) (ly : Lies w b' off' (bls ys)) :
    Calls Try.prog 26 #[.slice (some ⟨b, off, none⟩) n cap, .slice (some ⟨b', off', none⟩) n cap'] w fun e w' => e = .returned (.bool (decide (xs = ys))) ∧ ∃ m, w' = w.drewN m := by
  have HX : Hid (n = xs.length) := hx
  have HY : Hid (n = ys.length) := hy
  have LX : Hid (Lies w b off (bls xs)) := lx
  have LY : Hid (Lies w b' off' (bls ys)) := ly
  clear hx hy lx ly
  go_enter Try.func26, Try.ntmps26
  go_wp2
  go_loopw [5] (fun i wr => ∃ k : Nat, k ≤ n ∧ i = .int .i64 k ∧ xs.take k = ys.take k ∧ ∃ d, wr = w.drewN d) (fun i _ => n - (intOf i).toNat)
  case atStart => exact ⟨0, by omega, rfl, by simp, 0, rfl⟩
  case round =>
    obtain ⟨k, hk, rfl, HT, d, rfl⟩ := hrel
    have HT : Hid (xs.take k = ys.take k) := HT
    by_cases hkn : k < n
    · obtain ⟨x, ex⟩ : ∃ x, x = xs.getD k false := ⟨_, rfl⟩
      obtain ⟨y, ey⟩ : ∃ y, y = ys.getD k false := ⟨_, rfl⟩
      have hcx : w.cell? ⟨b, off + k, none⟩ = some (.bool x) := by rw [ex]; exact LX.out.bl k (by rw [← (show n = _ from HX)]; exact hkn)
      have hcy : w.cell? ⟨b', off' + k, none⟩ = some (.bool y) := by rw [ey]; exact LY.out.bl k (by rw [← (show n = _ from HY)]; exact hkn)
      have EX : Hid (x = xs.getD k false) := ex
      have EY : Hid (y = ys.getD k false) := ey
      clear ex ey
      by_cases hxy : x = y
      · subst hxy
        go_wp2
        go_quiet (fail)
        go_wp2
        go_roundw
        case rel => exact ⟨k + 1, by omega, by go_num, take_same (by rw [← (show n = _ from HX)]; exact hkn) (by rw [← (show n = _ from HY)]; exact hkn) HT (EX.out.symm.trans EY.out), _, rfl⟩
        case measure => simp [intOf]; omega
      · have hne : (x == y) = false := by simpa using hxy
        have hd : ¬ xs = ys := fun h => by rw [h] at EX; exact hxy (EX.out.trans EY.out.symm)
        go_wp2
        go_quiet (fail)
        go_wp2
        go_ret
        rw [decide_eq_false hd]
        exact ⟨rfl, d + nq, by simp⟩
    · obtain rfl : k = n := by omega
      go_wp2
      go_ret
      have h1 : xs = ys := by
        have := HT.out
        rw [List.take_of_length_le (Nat.le_of_eq HX.out.symm), List.take_of_length_le (Nat.le_of_eq HY.out.symm)] at this
        exact this
      rw [decide_eq_true h1]
      exact ⟨rfl, _, rfl⟩
set_option maxHeartbeats 1600000 in
theorem hregs_at (b off b' off' n cap cap' : Nat) (xs ys : List Nat) (w : World) (hx : n = xs.length) (hy : n = ys.length) (hm : n ≤ 9223372036854775807) (lx : Lies w b off (u16s xs)) (ly : Lies w b' off' (u16s ys)) :
    Calls Try.prog 40 #[.slice (some ⟨b, off, none⟩) n cap, .slice (some ⟨b', off', none⟩) n cap'] w fun e w' => e = .returned (.bool (decide (xs = ys))) ∧ ∃ m, w' = w.drewN m := by
  have HX : Hid (n = xs.length) := hx
  have HY : Hid (n = ys.length) := hy
  have LX : Hid (Lies w b off (u16s xs)) := lx
  have LY : Hid (Lies w b' off' (u16s ys)) := ly
  clear hx hy lx ly
  go_enter Try.func40, Try.ntmps40
  go_wp2
  go_loopw [5] (fun i wr => ∃ k : Nat, k ≤ n ∧ i = .int .i64 k ∧ xs.take k = ys.take k ∧ ∃ d, wr = w.drewN d) (fun i _ => n - (intOf i).toNat)
  case atStart => exact ⟨0, by omega, rfl, by simp, 0, rfl⟩
  case round =>
    obtain ⟨k, hk, rfl, HT, d, rfl⟩ := hrel
    have HT : Hid (xs.take k = ys.take k) := HT
    by_cases hkn : k < n
    · obtain ⟨x, ex⟩ : ∃ x, x = xs.getD k 0 := ⟨_, rfl⟩
      obtain ⟨y, ey⟩ : ∃ y, y = ys.getD k 0 := ⟨_, rfl⟩
      have hcx : w.cell? ⟨b, off + k, none⟩ = some (.int .u16 x) := by rw [ex]; exact LX.out.u16 k (by rw [← (show n = _ from HX)]; exact hkn)
      have hcy : w.cell? ⟨b', off' + k, none⟩ = some (.int .u16 y) := by rw [ey]; exact LY.out.u16 k (by rw [← (show n = _ from HY)]; exact hkn)
      have EX : Hid (x = xs.getD k 0) := ex
      have EY : Hid (y = ys.getD k 0) := ey
      clear ex ey
      by_cases hxy : x = y
      · subst hxy
        go_wp2
        go_quiet (fail)
        go_wp2
        go_roundw
        case rel => exact ⟨k + 1, by omega, by go_num, take_same (by rw [← (show n = _ from HX)]; exact hkn) (by rw [← (show n = _ from HY)]; exact hkn) HT (EX.out.symm.trans EY.out), _, rfl⟩
        case measure => simp [intOf]; omega
      · have hne : ((x : Int) == (y : Int)) = false := by rw [beq_eq_false_iff_ne]; omega
        have hd : ¬ xs = ys := fun h => by rw [h] at EX; exact hxy (EX.out.trans EY.out.symm)
        go_wp2
        go_quiet (fail)
        go_wp2
        go_ret
        rw [decide_eq_false hd]
        exact ⟨rfl, d + nq, by simp⟩
    · obtain rfl : k = n := by omega
      go_wp2
      go_ret
      have h1 : xs = ys := by
        have := HT.out
        rw [List.take_of_length_le (Nat.le_of_eq HX.out.symm), List.take_of_length_le (Nat.le_of_eq HY.out.symm)] at this
        exact this
      rw [decide_eq_true h1]
      exact ⟨rfl, _, rfl⟩
set_option maxHeartbeats 1600000 in
theorem hbits_none (ao bo : Option Addr) (cap cap' : Nat) (w : World) : Calls Try.prog 26 #[.slice ao 0 cap, .slice bo 0 cap'] w fun e w' => e = .returned (.bool true) ∧ w' = w := by
  go_enter Try.func26, Try.ntmps26
  go_wp2
  go_loop [5] (fun i => i = .int .i64 0) (fun _ => 0)
  case atStart => rfl
  case round =>
    obtain rfl := hrel
    go_wp2
    go_ret
    exact ⟨rfl, rfl⟩
set_option maxHeartbeats 1600000 in
theorem hbits_other (ao bo : Option Addr) (n n' cap cap' : Nat) (w : World) (h : n ≠ n') : Calls Try.prog 26 #[.slice ao n cap, .slice bo n' cap'] w fun e w' => e = .returned (.bool false) ∧ w' = w := by
  have h' : ((n : Int) == (n' : Int)) = false := by rw [beq_eq_false_iff_ne]; omega
  go_enter Try.func26, Try.ntmps26
  go_wp2
  go_ret
  exact ⟨rfl, rfl⟩
theorem hbits_c {v u : Value} {xs ys : List Bool} {w : World} (h : Sl w v (bls xs)) (k : Sl w u (bls ys)) (hm : xs.length ≤ 1000000) : Calls Try.prog 26 #[v, u] w fun e w' => e = .returned (.bool (decide (xs = ys))) ∧ ∃ m, w' = w.drewN m := by
  by_cases hl : xs.length = ys.length
  · rcases h with ⟨h, ao, cap, rfl, _⟩ | ⟨b, off, cap, rfl, _, hc⟩
    · have hx : xs = [] := List.length_eq_zero_iff.1 (by rw [← bls_len, h]; rfl)
      subst hx
      have hy : ys = [] := List.length_eq_zero_iff.1 hl.symm
      subst hy
      obtain ⟨bo, cap', rfl⟩ := k.shape
      refine (hbits_none ao bo cap cap' w).mono ?_
      rintro e w' ⟨rfl, rfl⟩
      exact ⟨rfl, 0, rfl⟩
    · rcases k with ⟨k, bo, cap', rfl, _⟩ | ⟨b', off', cap', rfl, _, hc'⟩
      · have hy : ys = [] := List.length_eq_zero_iff.1 (by rw [← bls_len, k]; rfl)
        subst hy
        have hx : xs = [] := List.length_eq_zero_iff.1 hl
        subst hx
        refine (hbits_none _ bo cap cap' w).mono ?_
        rintro e w' ⟨rfl, rfl⟩
        exact ⟨rfl, 0, rfl⟩
      · rw [bls_len, bls_len, ← hl]
        exact hbits_at b off b' off' xs.length cap cap' xs ys w rfl hl (by omega) hc hc'
  · obtain ⟨ao, cap, rfl⟩ := h.shape
    obtain ⟨bo, cap', rfl⟩ := k.shape
    rw [bls_len, bls_len]
    refine (hbits_other ao bo _ _ cap cap' w hl).mono ?_
    rintro e w' ⟨rfl, rfl⟩
    rw [decide_eq_false (fun h => hl (by rw [h]))]
    exact ⟨rfl, 0, rfl⟩
set_option maxHeartbeats 1600000 in
theorem hregs_none (ao bo : Option Addr) (cap cap' : Nat) (w : World) : Calls Try.prog 40 #[.slice ao 0 cap, .slice bo 0 cap'] w fun e w' => e = .returned (.bool true) ∧ w' = w := by
  go_enter Try.func40, Try.ntmps40
  go_wp2
  go_loop [5] (fun i => i = .int .i64 0) (fun _ => 0)
  case atStart => rfl
  case round =>
    obtain rfl := hrel
    go_wp2
    go_ret
    exact ⟨rfl, rfl⟩
set_option maxHeartbeats 1600000 in
theorem hregs_other (ao bo : Option Addr) (n n' cap cap' : Nat) (w : World) (h : n ≠ n') : Calls Try.prog 40 #[.slice ao n cap, .slice bo n' cap'] w fun e w' => e = .returned (.bool false) ∧ w' = w := by
  have h' : ((n : Int) == (n' : Int)) = false := by rw [beq_eq_false_iff_ne]; omega
  go_enter Try.func40, Try.ntmps40
  go_wp2
  go_ret
  exact ⟨rfl, rfl⟩
theorem hregs_c {v u : Value} {xs ys : List Nat} {w : World} (h : Sl w v (u16s xs)) (k : Sl w u (u16s ys)) (hm : xs.length ≤ 1000000) : Calls Try.prog 40 #[v, u] w fun e w' => e = .returned (.bool (decide (xs = ys))) ∧ ∃ m, w' = w.drewN m := by
  by_cases hl : xs.length = ys.length
  · rcases h with ⟨h, ao, cap, rfl, _⟩ | ⟨b, off, cap, rfl, _, hc⟩
    · have hx : xs = [] := List.length_eq_zero_iff.1 (by rw [← u16s_len, h]; rfl)
      subst hx
      have hy : ys = [] := List.length_eq_zero_iff.1 hl.symm
      subst hy
      obtain ⟨bo, cap', rfl⟩ := k.shape
      refine (hregs_none ao bo cap cap' w).mono ?_
      rintro e w' ⟨rfl, rfl⟩
      exact ⟨rfl, 0, rfl⟩
    · rcases k with ⟨k, bo, cap', rfl, _⟩ | ⟨b', off', cap', rfl, _, hc'⟩
      · have hy : ys = [] := List.length_eq_zero_iff.1 (by rw [← u16s_len, k]; rfl)
        subst hy
        have hx : xs = [] := List.length_eq_zero_iff.1 hl
        subst hx
        refine (hregs_none _ bo cap cap' w).mono ?_
        rintro e w' ⟨rfl, rfl⟩
        exact ⟨rfl, 0, rfl⟩
      · rw [u16s_len, u16s_len, ← hl]
        exact hregs_at b off b' off' xs.length cap cap' xs ys w rfl hl (by omega) hc hc'
  · obtain ⟨ao, cap, rfl⟩ := h.shape
    obtain ⟨bo, cap', rfl⟩ := k.shape
    rw [u16s_len, u16s_len]
    refine (hregs_other ao bo _ _ cap cap' w hl).mono ?_
    rintro e w' ⟨rfl, rfl⟩
    rw [decide_eq_false (fun h => hl (by rw [h]))]
    exact ⟨rfl, 0, rfl⟩
open Go.RowKit
open Pdu
theorem own_grow {w w1 : World} {base n : Nat} {v : Value} {xs : List Value} {o : Obj} (h : w.ownsRow base 5 1 v n xs) (hbase : base ≤ w.heap.size) (hg : (w.alloc o).grownBy w1 v.ownBlock) : Below base w w1 :=
  ((Below.refl base w).alloc hbase o).grown hg (by simp; omega) (fun g hg' => (h.lt g hg').1)
theorem Off.lower {base : Nat} {w w' : World} {v : Value} {vs : List Value} (h : Off base w v vs) (hb : ∀ a n c, v = .slice (some a) n c → vs ≠ [] → w'.heap[a.block]? = w.heap[a.block]?) : Off base w' v vs := by
  intro hne a n c hv
  rcases h hne a n c hv with h | ⟨cs, fl, h⟩
  · exact Or.inl h
  · exact Or.inr ⟨cs, fl, (hb a n c hv hne).trans h⟩
/-- A slice that lies below base. -/
def Old (base : Nat) (v : Value) (vs : List Value) : Prop := vs ≠ [] → ∀ a n c, v = .slice (some a) n c → a.block < base
theorem Old.off {base : Nat} {v : Value} {vs : List Value} (h : Old base v vs) (w : World) : Off base w v vs := fun hne a n c hv => Or.inl (h hne a n c hv)
theorem Sl.old {w : World} {v : Value} {vs : List Value} (h : Sl w v vs) {base : Nat} (hb : w.heap.size ≤ base) : Old base v vs := by
  intro hne a n c hv
  rcases h with ⟨h, _⟩ | ⟨b, off, cap, rfl, _, hc⟩
  · exact absurd h hne
  · simp only [Value.slice.injEq, Option.some.injEq] at hv
    have h0 : 0 < vs.length := List.length_pos_iff.2 hne
    have := lt_of_cell (hc 0 _ (List.getElem?_eq_getElem h0))
    rw [← hv.1]
    exact Nat.lt_of_lt_of_le this hb
theorem Sl.keep {base : Nat} {w u : World} {v : Value} {vs : List Value} (h : Sl w v vs) (ho : Old base v vs) (k : Below base w u) : Sl u v vs := by
  rcases h with h | ⟨b, off, cap, rfl, hcap, hc⟩
  · exact Or.inl h
  · by_cases hne : vs = []
    · subst hne
      exact Or.inl ⟨rfl, some ⟨b, off, none⟩, cap, rfl, fun h => by simp at h⟩
    · exact Or.inr ⟨b, off, cap, rfl, hcap, hc.kept (k.block b (ho hne _ _ _ rfl))⟩
set_option maxHeartbeats 1600000 in
theorem putRegs_c {base : Nat} {bv v : Value} {bs l : List Nat} {w : World} (hw : Words l) (hsz : bs.length + 2 * l.length ≤ 60000)
    (hown : w.ownsRow base 5 1 bv bs.length (u8s bs)) (hl : Sl w v (u16s l)) (hoff : Old base v (u16s l)) (hbase : base ≤ w.heap.size) :
    Calls Try.prog 35 #[bv, v] w fun e w' => ∃ v', e = .returned v' ∧ w'.ownsRow base 5 1 v' (bs ++ (2 * l.length % 256 :: wds l)).length (u8s (bs ++ (2 * l.length % 256 :: wds l))) ∧ Below base w w' := by
  obtain ⟨i0, hi, hz0, hz1, hz2⟩ := info_parts Try.infoByte
  obtain ⟨ao, c, rfl⟩ := hl.shape
  rw [u16s_len] at hl hoff ⊢
  obtain ⟨m, hm⟩ : ∃ m, m = l.length := ⟨_, rfl⟩
  rw [← hm] at hl hoff hsz ⊢
  have HM : Hid (m = l.length) := hm
  have HL : Hid (Sl w (.slice ao m c) (u16s l)) := hl
  have HF : Hid (Old base (.slice ao m c) (u16s l)) := hoff
  have HO : Hid (w.ownsRow base 5 1 bv bs.length (u8s bs)) := hown
  clear hl hoff hm hown
  go_enter Try.func35, Try.ntmps35
  go_wp2_with (at_builtin; refine wpList_append_own _ rfl (.tmp 5) (.tmp 10) 29 rfl base 5 i0 (.int .u8 0) 1 1 Try.underlying29 hi hz0 hz1 hz2 rfl (by decide) _ bs.length _ rfl (HO.out.alloc _) ⟨w.heap.size, 0, none⟩ 1 1 [.int .u8 (2 * (m : Int) % 256)] rfl rfl (one_cell _ _ _) (one_int _ _) (by unfold maxLen; omega) (by omega) (by simp; omega) ?_; intro v' w1 hown' hgrow _)
  have hb : Below base w w1 := own_grow HO hbase hgrow
  have e1 : u8s bs ++ [.int .u8 (2 * (m : Int) % 256)] = u8s (bs ++ [2 * m % 256]) := by rw [u8s_app]; simp [u8s]
  rw [e1] at hown'
  have hlen : (bs ++ [2 * m % 256]).length = bs.length + 1 := by simp
  refine (putWords_c (base := base) (bs := bs ++ [2 * m % 256]) (l := l) hw (by rw [hlen, ← (show m = _ from HM)]; omega) (by rw [hlen]; exact hown') (HL.out.keep HF hb) (HF.out.off _) (Nat.le_trans hbase hb.size)).mono ?_
  rintro e w2 ⟨v2, rfl, own2, hb2⟩
  rw [List.append_assoc] at own2
  have own2 : Hid (w2.ownsRow base 5 1 v2 (bs ++ (2 * m % 256 :: wds l)).length (u8s (bs ++ (2 * m % 256 :: wds l)))) := own2
  have hb2 : Hid (Below base w w2) := hb.trans hb2
  clear hown' hgrow hb e1 hlen
  go_wp2
  go_ret
  exact ⟨_, rfl, own2, hb2⟩
set_option maxHeartbeats 1600000 in
theorem putBits_c {base : Nat} {bv v : Value} {bs : List Nat} {l : List Bool} {w : World} (hsz : bs.length + l.length ≤ 60000)
    (hown : w.ownsRow base 5 1 bv bs.length (u8s bs)) (hl : Sl w v (bls l)) (hbase : base ≤ w.heap.size) :
    Calls Try.prog 34 #[bv, v] w fun e w' => ∃ v', e = .returned v' ∧ w'.ownsRow base 5 1 v' (bs ++ ((pack l).length % 256 :: pack l)).length (u8s (bs ++ ((pack l).length % 256 :: pack l))) ∧ Below base w w' := by
  obtain ⟨i0, hi, hz0, hz1, hz2⟩ := info_parts Try.infoByte
  have hpl : (pack l).length ≤ 8000 := by rw [pack_length]; unfold packed; omega
  have HO : Hid (w.ownsRow base 5 1 bv bs.length (u8s bs)) := hown
  have HL : Hid (Sl w v (bls l)) := hl
  clear hown hl
  go_enter Try.func34, Try.ntmps34
  go_wp2_with fail
  refine (pack_c HL.out (by omega)).mono ?_
  rintro e w1 ⟨v1, rfl, hv1, own1, hb1⟩
  obtain ⟨p, hp⟩ : ∃ p, p = (pack l).length := ⟨_, rfl⟩
  have hp8 : p ≤ 8000 := by rw [hp]; exact hpl
  rw [← hp] at own1 hv1
  subst hv1
  have HP : Hid (p = (pack l).length) := hp
  have HB : Hid (Below w.heap.size w w1) := hb1
  have H1 : Hid (w1.ownsRow base 5 1 bv bs.length (u8s bs)) := own_below HO.out hb1 (Nat.le_refl _)
  have OLD : Hid (∀ g, bv.ownBlock = some g → g < w.heap.size) := fun g hg => (HO.out.lt g hg).2
  have hs1 : w.heap.size ≤ w1.heap.size := hb1.size
  have HD : Hid (w1.ownsRow w.heap.size 5 1 (.slice (some ⟨w.heap.size, 0, none⟩) p p) p (u8s (pack l))) := own1
  clear own1 hb1 hp hpl HO
  go_wp2_with (at_builtin; refine wpList_append_own _ rfl (.tmp 8) (.tmp 12) 29 rfl base 5 i0 (.int .u8 0) 1 1 Try.underlying29 hi hz0 hz1 hz2 rfl (by decide) _ bs.length _ rfl (H1.out.alloc _) ⟨w1.heap.size, 0, none⟩ 1 1 [.int .u8 ((p : Int) % 256)] rfl rfl (one_cell _ _ _) (one_int _ _) (by unfold maxLen; omega) (by omega) (by simp; omega) ?_)
  intro v2 w2 hown2 hgrow2 _
  have e1 : u8s bs ++ [.int .u8 ((p : Int) % 256)] = u8s (bs ++ [p % 256]) := by rw [u8s_app]; simp [u8s]
  rw [e1] at hown2
  have hb2 : Below base w1 w2 := own_grow H1 (by omega) hgrow2
  have hd2 : w2.ownsRow w.heap.size 5 1 (.slice (some ⟨w.heap.size, 0, none⟩) p p) p (u8s (pack l)) := (HD.out.alloc _).kept hgrow2 (Or.inr fun e => by have := OLD.out w.heap.size e.symm; omega)
  have hs2 := hb2.size
  have news := hd2.cells (g := w.heap.size) rfl
  have hnl : (u8s (pack l)).length = p * 1 := by rw [u8s_len, Nat.mul_one]; exact HP.out.symm
  have K2 : Hid (Below base w1 w2) := hb2
  clear hgrow2 hd2 hb2 e1
  go_wp2_with (at_builtin; refine wpList_append_own _ rfl (.tmp 13) (.tmp 14) 29 rfl base 5 i0 (.int .u8 0) 1 1 Try.underlying29 hi hz0 hz1 hz2 rfl (by decide) _ (bs.length + 1) _ rfl hown2 ⟨w.heap.size, 0, none⟩ p p (u8s (pack l)) rfl hnl news (u8s_one _) (by unfold maxLen; omega) (by omega) (by omega) ?_; intro v3 w3 hown3 hgrow3 _)
  have hb3 : Hid (Below base w w3) := (HB.out.mono hbase).trans (K2.out.trans ((Below.refl base w2).grown hgrow3 (by omega) (fun g hg' => (hown2.lt g hg').1)))
  rw [← u8s_app, List.append_assoc] at hown3
  have own3 : Hid (w3.ownsRow base 5 1 v3 (bs ++ ((pack l).length % 256 :: pack l)).length (u8s (bs ++ ((pack l).length % 256 :: pack l)))) := by
    rw [← (show p = _ from HP), show (bs ++ p % 256 :: pack l).length = bs.length + 1 + p by rw [List.length_append, List.length_cons, ← (show p = _ from HP)]; omega]
    exact hown3
  clear hown3 hgrow3 hown2 news hnl
  go_wp2
  go_ret
  exact ⟨_, rfl, own3, hb3⟩
end Go.Proofs.Ytehbbkdiekgpbaa
