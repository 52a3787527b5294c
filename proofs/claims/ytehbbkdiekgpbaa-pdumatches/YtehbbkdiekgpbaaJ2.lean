/- Requests and replies in memory; first words. · The walks: counted bytes. · The walks: counted bits and words behind their number. · Six stores into a new block. · The walks: two requests held against one another; light ones. · One box; the same bytes. · From what is read of an argument to the values in memory. · From what is read of a request or a reply to the values in memory. · The reference's: appends as steps, limits. · The walk: words laid behind bytes, the document's: what else there was is as it was. -/
import Derived.Test.YtehbbkdiekgpbaaWk10
import Derived.Test.YtehbbkdiekgpbaaJ1
import Derived.Laws.OwnMore
import Derived.Deep.RegionWith
import Derived.Deep.RegionHeld3
import Derived.ProofKit
import Derived.OpenShut
import Derived.Deep.Matrix
import Derived.Deep.Grids
import Derived.Lib.SmallJoins
import Derived.Maps.AppendAt
namespace Go.Proofs.Ytehbbkdiekgpbaa
open Go.RowKit
open Pdu
set_option maxHeartbeats 800000 in
theorem fits_eq (fn n a2 nb nr : Nat) (h : a2 < 65536) : (known fn && inside a2 ((rlim fn).getD 2 0) ((rlim fn).getD 3 0) && inside n ((rlim fn).getD 4 0) ((rlim fn).getD 5 0) && inside nb ((rlim fn).getD 6 0) ((rlim fn).getD 7 0) && inside nr ((rlim fn).getD 8 0) ((rlim fn).getD 9 0)) = decide (FitsN fn n a2 nb nr) := by
  rw [Bool.eq_iff_iff, decide_eq_true_iff]
  simp only [Bool.and_eq_true, inside_iff]
  rcases known_cases fn with rfl | rfl | rfl | rfl | rfl | rfl | rfl | rfl | rfl | rfl | hk
  · change ((((true = true ∧ (0 ≤ a2 ∧ a2 ≤ 0)) ∧ (1 ≤ n ∧ n ≤ 2000)) ∧ (0 ≤ nb ∧ nb ≤ 0)) ∧ (0 ≤ nr ∧ nr ≤ 0)) ↔ _
    unfold FitsN
    simp
    omega
  · change ((((true = true ∧ (0 ≤ a2 ∧ a2 ≤ 0)) ∧ (1 ≤ n ∧ n ≤ 2000)) ∧ (0 ≤ nb ∧ nb ≤ 0)) ∧ (0 ≤ nr ∧ nr ≤ 0)) ↔ _
    unfold FitsN
    simp
    omega
  · change ((((true = true ∧ (0 ≤ a2 ∧ a2 ≤ 0)) ∧ (1 ≤ n ∧ n ≤ 125)) ∧ (0 ≤ nb ∧ nb ≤ 0)) ∧ (0 ≤ nr ∧ nr ≤ 0)) ↔ _
    unfold FitsN
    simp
    omega
  · change ((((true = true ∧ (0 ≤ a2 ∧ a2 ≤ 0)) ∧ (1 ≤ n ∧ n ≤ 125)) ∧ (0 ≤ nb ∧ nb ≤ 0)) ∧ (0 ≤ nr ∧ nr ≤ 0)) ↔ _
    unfold FitsN
    simp
    omega
  · change ((((true = true ∧ (0 ≤ a2 ∧ a2 ≤ 0)) ∧ (0 ≤ n ∧ n ≤ 0)) ∧ (1 ≤ nb ∧ nb ≤ 1)) ∧ (0 ≤ nr ∧ nr ≤ 0)) ↔ _
    unfold FitsN
    simp
    omega
  · change ((((true = true ∧ (0 ≤ a2 ∧ a2 ≤ 0)) ∧ (0 ≤ n ∧ n ≤ 0)) ∧ (0 ≤ nb ∧ nb ≤ 0)) ∧ (1 ≤ nr ∧ nr ≤ 1)) ↔ _
    unfold FitsN
    simp
    omega
  · change ((((true = true ∧ (0 ≤ a2 ∧ a2 ≤ 0)) ∧ (0 ≤ n ∧ n ≤ 0)) ∧ (1 ≤ nb ∧ nb ≤ 1968)) ∧ (0 ≤ nr ∧ nr ≤ 0)) ↔ _
    unfold FitsN
    simp
    omega
  · change ((((true = true ∧ (0 ≤ a2 ∧ a2 ≤ 0)) ∧ (0 ≤ n ∧ n ≤ 0)) ∧ (0 ≤ nb ∧ nb ≤ 0)) ∧ (1 ≤ nr ∧ nr ≤ 123)) ↔ _
    unfold FitsN
    simp
    omega
  · change ((((true = true ∧ (0 ≤ a2 ∧ a2 ≤ 0)) ∧ (0 ≤ n ∧ n ≤ 0)) ∧ (0 ≤ nb ∧ nb ≤ 0)) ∧ (2 ≤ nr ∧ nr ≤ 2)) ↔ _
    unfold FitsN
    simp
    omega
  · change ((((true = true ∧ (0 ≤ a2 ∧ a2 ≤ 65535)) ∧ (1 ≤ n ∧ n ≤ 125)) ∧ (0 ≤ nb ∧ nb ≤ 0)) ∧ (1 ≤ nr ∧ nr ≤ 121)) ↔ _
    unfold FitsN
    simp
    omega
  · have e : known fn = false := by unfold known; rw [decide_eq_false]; omega
    rw [e]
    constructor
    · intro h; simp at h
    · intro h; unfold FitsN at h; omega
set_option maxHeartbeats 800000 in
theorem rfits_eq (fn addr n nb nr : Nat) (h : addr < 65536) : (known fn && inside addr ((plim fn).getD 0 0) ((plim fn).getD 1 0) && inside n ((plim fn).getD 4 0) ((plim fn).getD 5 0) && inside nb ((plim fn).getD 6 0) ((plim fn).getD 7 0) && inside nr ((plim fn).getD 8 0) ((plim fn).getD 9 0)) = decide (RFitsN fn 0 addr n nb nr) := by
  rw [Bool.eq_iff_iff, decide_eq_true_iff]
  simp only [Bool.and_eq_true, inside_iff]
  rcases known_cases fn with rfl | rfl | rfl | rfl | rfl | rfl | rfl | rfl | rfl | rfl | hk
  · change ((((true = true ∧ (0 ≤ addr ∧ addr ≤ 0)) ∧ (0 ≤ n ∧ n ≤ 0)) ∧ (1 ≤ nb ∧ nb ≤ 2000)) ∧ (0 ≤ nr ∧ nr ≤ 0)) ↔ _
    unfold RFitsN
    simp
    omega
  · change ((((true = true ∧ (0 ≤ addr ∧ addr ≤ 0)) ∧ (0 ≤ n ∧ n ≤ 0)) ∧ (1 ≤ nb ∧ nb ≤ 2000)) ∧ (0 ≤ nr ∧ nr ≤ 0)) ↔ _
    unfold RFitsN
    simp
    omega
  · change ((((true = true ∧ (0 ≤ addr ∧ addr ≤ 0)) ∧ (0 ≤ n ∧ n ≤ 0)) ∧ (0 ≤ nb ∧ nb ≤ 0)) ∧ (1 ≤ nr ∧ nr ≤ 125)) ↔ _
    unfold RFitsN
    simp
    omega
  · change ((((true = true ∧ (0 ≤ addr ∧ addr ≤ 0)) ∧ (0 ≤ n ∧ n ≤ 0)) ∧ (0 ≤ nb ∧ nb ≤ 0)) ∧ (1 ≤ nr ∧ nr ≤ 125)) ↔ _
    unfold RFitsN
    simp
    omega
  · change ((((true = true ∧ (0 ≤ addr ∧ addr ≤ 65535)) ∧ (0 ≤ n ∧ n ≤ 0)) ∧ (1 ≤ nb ∧ nb ≤ 1)) ∧ (0 ≤ nr ∧ nr ≤ 0)) ↔ _
    unfold RFitsN
    simp
    omega
  · change ((((true = true ∧ (0 ≤ addr ∧ addr ≤ 65535)) ∧ (0 ≤ n ∧ n ≤ 0)) ∧ (0 ≤ nb ∧ nb ≤ 0)) ∧ (1 ≤ nr ∧ nr ≤ 1)) ↔ _
    unfold RFitsN
    simp
    omega
  · change ((((true = true ∧ (0 ≤ addr ∧ addr ≤ 65535)) ∧ (1 ≤ n ∧ n ≤ 1968)) ∧ (0 ≤ nb ∧ nb ≤ 0)) ∧ (0 ≤ nr ∧ nr ≤ 0)) ↔ _
    unfold RFitsN
    simp
    omega
  · change ((((true = true ∧ (0 ≤ addr ∧ addr ≤ 65535)) ∧ (1 ≤ n ∧ n ≤ 123)) ∧ (0 ≤ nb ∧ nb ≤ 0)) ∧ (0 ≤ nr ∧ nr ≤ 0)) ↔ _
    unfold RFitsN
    simp
    omega
  · change ((((true = true ∧ (0 ≤ addr ∧ addr ≤ 65535)) ∧ (0 ≤ n ∧ n ≤ 0)) ∧ (0 ≤ nb ∧ nb ≤ 0)) ∧ (2 ≤ nr ∧ nr ≤ 2)) ↔ _
    unfold RFitsN
    simp
    omega
  · change ((((true = true ∧ (0 ≤ addr ∧ addr ≤ 0)) ∧ (0 ≤ n ∧ n ≤ 0)) ∧ (0 ≤ nb ∧ nb ≤ 0)) ∧ (1 ≤ nr ∧ nr ≤ 125)) ↔ _
    unfold RFitsN
    simp
    omega
  · have e : known fn = false := by unfold known; rw [decide_eq_false]; omega
    rw [e]
    constructor
    · intro h; simp at h
    · intro h; unfold RFitsN at h; omega
def IsRq (w : World) (v : Value) (q : Rq) : Prop := q.Ok ∧ ∃ bv rv, v = rqV q.fn q.addr q.n q.addr2 bv rv ∧ Sl w bv (bls q.bits) ∧ Sl w rv (u16s q.regs)
def IsRp (w : World) (v : Value) (r : Rp) : Prop := r.Ok ∧ ∃ bv rv, v = rpV r.fn r.exc r.addr r.n bv rv ∧ Sl w bv (bls r.bits) ∧ Sl w rv (u16s r.regs)
theorem IsRq.below {w u : World} {v : Value} {q : Rq} (h : IsRq w v q) (k : Below w.heap.size w u) : IsRq u v q := by
  obtain ⟨ok, bv, rv, rfl, h1, h2⟩ := h
  exact ⟨ok, bv, rv, rfl, h1.below k, h2.below k⟩
theorem IsRp.below {w u : World} {v : Value} {q : Rp} (h : IsRp w v q) (k : Below w.heap.size w u) : IsRp u v q := by
  obtain ⟨ok, bv, rv, rfl, h1, h2⟩ := h
  exact ⟨ok, bv, rv, rfl, h1.below k, h2.below k⟩
theorem fits_c {v : Value} {q : Rq} {w : World} (h : IsRq w v q) : Calls Try.prog 31 #[v] w fun e w' => e = .returned (.bool (decide q.Fits)) ∧ Below w.heap.size w w' := by
  obtain ⟨ok, bv, rv, rfl, h1, h2⟩ := h
  obtain ⟨bo, bc, rfl⟩ := h1.shape
  obtain ⟨ro, rc, rfl⟩ := h2.shape
  rw [show (decide q.Fits) = decide (FitsN q.fn q.n q.addr2 q.bits.length q.regs.length) from rfl, ← fits_eq _ _ _ _ _ ok.addr2, bls_len, u16s_len]
  exact fitsq_c _ _ _ _ _ _ _ _ _ _ _
/-- The six cells of a boxed struct. -/
structure Box (w : World) (g : Nat) (x0 x1 x2 x3 x4 x5 : Value) : Prop where
  c0 : w.cell? ⟨g, 0, none⟩ = some x0
  c1 : w.cell? ⟨g, 1, none⟩ = some x1
  c2 : w.cell? ⟨g, 2, none⟩ = some x2
  c3 : w.cell? ⟨g, 3, none⟩ = some x3
  c4 : w.cell? ⟨g, 4, none⟩ = some x4
  c5 : w.cell? ⟨g, 5, none⟩ = some x5
theorem Box.below {w u : World} {g B : Nat} {x0 x1 x2 x3 x4 x5 : Value} (h : Box w g x0 x1 x2 x3 x4 x5) (k : Below B w u) (hg : g < B) : Box u g x0 x1 x2 x3 x4 x5 :=
  ⟨(k.cell (p := ⟨g, 0, none⟩) hg).trans h.c0, (k.cell (p := ⟨g, 1, none⟩) hg).trans h.c1, (k.cell (p := ⟨g, 2, none⟩) hg).trans h.c2, (k.cell (p := ⟨g, 3, none⟩) hg).trans h.c3, (k.cell (p := ⟨g, 4, none⟩) hg).trans h.c4, (k.cell (p := ⟨g, 5, none⟩) hg).trans h.c5⟩
theorem Box.new (w : World) (x0 x1 x2 x3 x4 x5 : Value) (e : TypeId) : Box (w.alloc (.cells #[x0, x1, x2, x3, x4, x5] e)) w.heap.size x0 x1 x2 x3 x4 x5 := by
  constructor <;> simp
theorem box_lt {w w1 : World} {o : Obj} {B : Nat} (h : Below B (w.alloc o) w1) : w.heap.size < w1.heap.size := by
  have := h.size
  rw [World.size_alloc] at this
  omega
theorem lit_own (w : World) (x : Nat) : (w.alloc (.cells #[.int .u8 x] 5)).ownsRow w.heap.size 5 1 (.slice (some ⟨w.heap.size, 0, none⟩) 1 1) 1 (u8s [x]) :=
  World.ownsRow_lit w #[.int .u8 (x : Int)] 1 (Nat.le_refl _) (by unfold maxLen; omega) rfl
/-- A literal of words, in a block of its own. -/
theorem lit_words (w : World) (l : List Nat) (a : Array Value) (n : Nat) (ha : a.toList = u16s l) (hn : n = l.length) : Sl (w.alloc (.cells a 22)) (.slice (some ⟨w.heap.size, 0, none⟩) n n) (u16s l) := by
  refine Or.inr ⟨w.heap.size, 0, n, by rw [u16s_len, hn], by rw [u16s_len, hn]; exact Nat.le_refl _, fun k u hk => ?_⟩
  rw [World.cell?_alloc_new, Nat.zero_add, ← Array.getElem?_toList, ha]
  exact hk
theorem lit_off (w : World) (base : Nat) (a : Array Value) (n m : Nat) (vs : List Value) : Off base (w.alloc (.cells a 22)) (.slice (some ⟨w.heap.size, 0, none⟩) n m) vs := by
  intro _ a' n' c' hv
  simp only [Value.slice.injEq, Option.some.injEq] at hv
  rw [← hv.1]
  exact Or.inr ⟨a, _, heap_alloc_new w _⟩
theorem next_put {base : Nat} {bv : Value} {bs l : List Nat} {w : World} {a : Array Value} {n : Nat} (ha : a.toList = u16s l) (hn : n = l.length) (hw : Words l) (hsz : bs.length + 2 * l.length ≤ 1000000) (hown : w.ownsRow base 5 1 bv bs.length (u8s bs)) (hbase : base ≤ w.heap.size) :
    Calls Try.prog 32 #[bv, .slice (some ⟨w.heap.size, 0, none⟩) n n] (w.alloc (.cells a 22)) fun e w' => ∃ v', e = .returned v' ∧ w'.ownsRow base 5 1 v' (bs ++ wds l).length (u8s (bs ++ wds l)) ∧ Below base w w' := by
  refine (putWords_c hw hsz (hown.alloc _) (lit_words w l a n ha hn) (lit_off w base a n n _) (by simp; omega)).mono ?_
  rintro e w' ⟨v', rfl, h1, h2⟩
  exact ⟨v', rfl, h1, ((Below.refl base w).alloc hbase _).trans h2⟩
theorem next_two {base : Nat} {bv : Value} {bs l : List Nat} {w : World} {a : Array Value} {n : Nat} (ha : a.toList = u16s l) (hn : n = l.length) (hw : Words l) (hsz : bs.length + 2 * l.length ≤ 1000000) (hown : w.ownsRow base 5 1 bv bs.length (u8s bs)) (hbase : base ≤ w.heap.size) :
    Calls Try.prog 36 #[bv, .slice (some ⟨w.heap.size, 0, none⟩) n n] (w.alloc (.cells a 22)) fun e w' => ∃ v', e = .returned v' ∧ w'.ownsRow base 5 1 v' (bs ++ wds l).length (u8s (bs ++ wds l)) ∧ Below base w w' := by
  refine (two_c hw hsz (hown.alloc _) (lit_words w l a n ha hn) (lit_off w base a n n _) (by simp; omega)).mono ?_
  rintro e w' ⟨v', rfl, h1, h2⟩
  exact ⟨v', rfl, h1, ((Below.refl base w).alloc hbase _).trans h2⟩
theorem next_put_d {base : Nat} {bv : Value} {bs l : List Nat} {w : World} {a : Array Value} {n : Nat} (ha : a.toList = u16s l) (hn : n = l.length) (hw : Words l) (hsz : bs.length + 2 * l.length ≤ 1000000) (hown : w.ownsRow base 5 1 bv bs.length (u8s bs)) (hbase : base ≤ w.heap.size) :
    Calls Try.prog 32 #[bv, .slice (some ⟨w.heap.size, 0, none⟩) n n] (w.alloc (.cells a 22)).drew fun e w' => ∃ v', e = .returned v' ∧ w'.ownsRow base 5 1 v' (bs ++ wds l).length (u8s (bs ++ wds l)) ∧ Below base w w' :=
  (next_put (w := w.drew) ha hn hw hsz hown hbase).mono fun _ _ ⟨v', h1, h2, h3⟩ => ⟨v', h1, h2, ⟨h3.os, h3.tape, h3.output, h3.size, h3.block⟩⟩
theorem words_one {x : Nat} (h : x < 65536) : Words [x] := by intro y hy; simp at hy; omega
theorem words_three {x y z : Nat} (h : x < 65536) (h2 : y < 65536) (h3 : z < 65536) : Words [x, y, z] := by intro t ht; simp at ht; omega
theorem first_put {fn addr : Nat} (ha : addr < 65536) (w : World) :
    Calls Try.prog 32 #[.slice (some ⟨w.heap.size, 0, none⟩) 1 1, .slice (some ⟨w.heap.size + 1, 0, none⟩) 1 1] ((w.alloc (.cells #[.int .u8 fn] 5)).alloc (.cells #[.int .u16 addr] 22)) fun e w' => ∃ v', e = .returned v' ∧ w'.ownsRow w.heap.size 5 1 v' (fn :: wd addr).length (u8s (fn :: wd addr)) ∧ Below w.heap.size w w' := by
  have h := next_put (base := w.heap.size) (bs := [fn]) (l := [addr]) (n := 1) (a := #[.int .u16 addr]) (w := w.alloc (.cells #[.int .u8 fn] 5)) rfl rfl (words_one ha) (by simp) (lit_own w fn) (by simp)
  rw [World.size_alloc, wds_one] at h
  refine h.mono ?_
  rintro e w' ⟨v', rfl, h1, h2⟩
  exact ⟨v', rfl, h1, ((Below.refl _ w).alloc (Nat.le_refl _) _).trans h2⟩
theorem first_two {fn addr : Nat} (ha : addr < 65536) (w : World) :
    Calls Try.prog 36 #[.slice (some ⟨w.heap.size, 0, none⟩) 1 1, .slice (some ⟨w.heap.size + 1, 0, none⟩) 1 1] ((w.alloc (.cells #[.int .u8 fn] 5)).alloc (.cells #[.int .u16 addr] 22)) fun e w' => ∃ v', e = .returned v' ∧ w'.ownsRow w.heap.size 5 1 v' (fn :: wd addr).length (u8s (fn :: wd addr)) ∧ Below w.heap.size w w' := by
  have h := next_two (base := w.heap.size) (bs := [fn]) (l := [addr]) (n := 1) (a := #[.int .u16 addr]) (w := w.alloc (.cells #[.int .u8 fn] 5)) rfl rfl (words_one ha) (by simp) (lit_own w fn) (by simp)
  rw [World.size_alloc, wds_one] at h
  refine h.mono ?_
  rintro e w' ⟨v', rfl, h1, h2⟩
  exact ⟨v', rfl, h1, ((Below.refl _ w).alloc (Nat.le_refl _) _).trans h2⟩
theorem second_put {fn : Nat} {l : List Nat} {a : Array Value} {n : Nat} (ha : a.toList = u16s l) (hn : n = l.length) (hw : Words l) (hsz : 2 * l.length ≤ 1000) (w : World) :
    Calls Try.prog 32 #[.slice (some ⟨w.heap.size, 0, none⟩) 1 1, .slice (some ⟨w.heap.size + 1, 0, none⟩) n n] ((w.alloc (.cells #[.int .u8 fn] 5)).alloc (.cells a 22)) fun e w' => ∃ v', e = .returned v' ∧ w'.ownsRow w.heap.size 5 1 v' ([fn] ++ wds l).length (u8s ([fn] ++ wds l)) ∧ Below w.heap.size (w.alloc (.cells #[.int .u8 fn] 5)) w' := by
  have h := next_put (base := w.heap.size) (bs := [fn]) (l := l) (n := n) (a := a) (w := w.alloc (.cells #[.int .u8 fn] 5)) ha hn hw (by simp; omega) (lit_own w fn) (by simp)
  rw [World.size_alloc] at h
  exact h
theorem second_put_d {fn : Nat} {l : List Nat} {a : Array Value} {n : Nat} (ha : a.toList = u16s l) (hn : n = l.length) (hw : Words l) (hsz : 2 * l.length ≤ 1000) (w : World) :
    Calls Try.prog 32 #[.slice (some ⟨w.heap.size, 0, none⟩) 1 1, .slice (some ⟨w.heap.size + 1, 0, none⟩) n n] ((w.alloc (.cells #[.int .u8 fn] 5)).alloc (.cells a 22)).drew fun e w' => ∃ v', e = .returned v' ∧ w'.ownsRow w.heap.size 5 1 v' ([fn] ++ wds l).length (u8s ([fn] ++ wds l)) ∧ Below w.heap.size (w.alloc (.cells #[.int .u8 fn] 5)) w' := by
  have h := next_put_d (base := w.heap.size) (bs := [fn]) (l := l) (n := n) (a := a) (w := w.alloc (.cells #[.int .u8 fn] 5)) ha hn hw (by simp; omega) (lit_own w fn) (by simp)
  rw [World.size_alloc] at h
  exact h
open Go.RowKit
open Pdu
set_option maxHeartbeats 1600000 in
theorem tc_other (ao : Option Addr) (n cap m : Nat) (w : World) (hm : m ≤ 1000000) (h : n ≠ 1 + m) : Calls Try.prog 56 #[.slice ao n cap, .int .i64 m] w fun e w' => e = .returned (.tuple #[.slice none 0 0, .bool false]) ∧ w' = w := by
  have h' : ((n : Int) == 1 + (m : Int)) = false := by rw [beq_eq_false_iff_ne]; omega
  go_enter Try.func56, Try.ntmps56
  go_wp2
  go_ret2
  exact ⟨rfl, rfl⟩
set_option maxHeartbeats 1600000 in
theorem tc_byte (b off cap m x : Nat) (w : World) (hm : m ≤ 1000000) (hc : w.cell? ⟨b, off, none⟩ = some (.int .u8 x)) (hx : x < 256) (h : x ≠ m) : Calls Try.prog 56 #[.slice (some ⟨b, off, none⟩) (1 + m) cap, .int .i64 m] w fun e w' => e = .returned (.tuple #[.slice none 0 0, .bool false]) ∧ w' = w := by
  have h' : ((x : Int) == (m : Int)) = false := by rw [beq_eq_false_iff_ne]; omega
  go_enter Try.func56, Try.ntmps56
  go_wp2
  go_ret2
  exact ⟨rfl, rfl⟩
/-- A slice cut at k. -/
def cutA (b off cap k : Nat) : Addr := if cap = k then ⟨b, off, none⟩ else ⟨b, off + k, none⟩
def cutV (b off n cap k : Nat) : Value := .slice (some (cutA b off cap k)) (n - k) (cap - k)
theorem cut_sl {w : World} {b off n cap k : Nat} {vs : List Value} (hn : n = vs.length) (hcap : n ≤ cap) (hk : k ≤ n) (h : Lies w b off vs) : Sl w (cutV b off n cap k) (vs.drop k) := by
  unfold cutV cutA
  by_cases hc : cap = k
  · have : vs.drop k = [] := List.drop_eq_nil_of_le (by omega)
    rw [this, show n - k = 0 by omega]
    exact Or.inl ⟨rfl, _, _, rfl, fun h => by simp at h⟩
  · rw [if_neg hc]
    exact Or.inr ⟨b, off + k, cap - k, by rw [List.length_drop, hn], by rw [List.length_drop]; omega, h.drop k⟩
set_option maxHeartbeats 1600000 in
theorem tc_yes (b off cap m : Nat) (w : World) (hm : m < 256) (hcap : 1 + m ≤ cap) (hc : w.cell? ⟨b, off, none⟩ = some (.int .u8 m)) : Calls Try.prog 56 #[.slice (some ⟨b, off, none⟩) (1 + m) cap, .int .i64 m] w fun e w' => e = .returned (.tuple #[cutV b off (1 + m) cap 1, .bool true]) ∧ w' = w := by
  have hv : cutV b off (1 + m) cap 1 = .slice (some (cutA b off cap 1)) m (cap - 1) := by unfold cutV; rw [show 1 + m - 1 = m by omega]
  rw [hv]
  by_cases h1 : cap = 1
  · subst h1
    obtain rfl : m = 0 := by omega
    go_enter Try.func56, Try.ntmps56
    go_wp2
    go_ret2
    exact ⟨rfl, rfl⟩
  · rw [show cutA b off cap 1 = ⟨b, off + 1, none⟩ from if_neg h1]
    clear hv
    go_enter Try.func56, Try.ntmps56
    go_wp2
    go_ret2
    exact ⟨rfl, rfl⟩
theorem tc_c {v : Value} {bs : List Nat} {w : World} {m : Nat} (h : Sl w v (u8s bs)) (hb : Bytes bs) (hm : m ≤ 1000000) : Calls Try.prog 56 #[v, .int .i64 m] w fun e w' => w' = w ∧ ((bs.length = 1 + m ∧ bs.getD 0 0 = m ∧ ∃ v', e = .returned (.tuple #[v', .bool true]) ∧ Sl w v' (u8s (bs.drop 1))) ∨ (¬ (bs.length = 1 + m ∧ bs.getD 0 0 = m) ∧ e = .returned (.tuple #[.slice none 0 0, .bool false]))) := by
  by_cases hl : bs.length = 1 + m
  · rcases h with ⟨h, _⟩ | ⟨b, off, cap, rfl, hcap, hc⟩
    · rw [u8s_nil h] at hl
      simp at hl
      omega
    · have c0 := hc.u8 0 (by omega)
      rw [u8s_len, hl] at hcap ⊢
      by_cases hx : bs.getD 0 0 = m
      · refine (tc_yes b off cap m w (by have := hb.at 0; omega) hcap (by rw [← hx]; exact c0)).mono ?_
        rintro e w' ⟨rfl, rfl⟩
        refine ⟨rfl, Or.inl ⟨rfl, hx, _, rfl, ?_⟩⟩
        have := cut_sl (w := w') (b := b) (off := off) (n := 1 + m) (cap := cap) (k := 1) (vs := u8s bs) (by rw [u8s_len, hl]) hcap (by omega) hc
        rw [show (u8s bs).drop 1 = u8s (bs.drop 1) by simp [u8s]] at this
        exact this
      · refine (tc_byte b off cap m (bs.getD 0 0) w hm c0 (hb.at 0) hx).mono ?_
        rintro e w' ⟨rfl, rfl⟩
        exact ⟨rfl, Or.inr ⟨fun h => hx h.2, rfl⟩⟩
  · obtain ⟨ao, cap, rfl⟩ := h.shape
    rw [u8s_len]
    refine (tc_other ao _ cap m w hm hl).mono ?_
    rintro e w' ⟨rfl, rfl⟩
    exact ⟨rfl, Or.inr ⟨fun h => hl h.1, rfl⟩⟩
theorem tc_y {v : Value} {bs : List Nat} {w : World} {m : Nat} (h : Sl w v (u8s bs)) (hb : Bytes bs) (hm : m ≤ 1000000) (hT : bs.length = 1 + m ∧ bs.getD 0 0 = m) : Calls Try.prog 56 #[v, .int .i64 m] w fun e w' => (∃ v', e = .returned (.tuple #[v', .bool true]) ∧ Sl w v' (u8s (bs.drop 1))) ∧ w' = w := by
  refine (tc_c h hb hm).mono ?_
  rintro e w' ⟨hw, ⟨_, _, v', he, hs⟩ | ⟨hn, _⟩⟩
  · exact ⟨⟨v', he, hs⟩, hw⟩
  · exact absurd hT hn
theorem tc_n {v : Value} {bs : List Nat} {w : World} {m : Nat} (h : Sl w v (u8s bs)) (hb : Bytes bs) (hm : m ≤ 1000000) (hT : ¬ (bs.length = 1 + m ∧ bs.getD 0 0 = m)) : Calls Try.prog 56 #[v, .int .i64 m] w fun e w' => e = .returned (.tuple #[.slice none 0 0, .bool false]) ∧ w' = w := by
  refine (tc_c h hb hm).mono ?_
  rintro e w' ⟨hw, ⟨h1, h2, _⟩ | ⟨_, he⟩⟩
  · exact absurd ⟨h1, h2⟩ hT
  · exact ⟨he, hw⟩
theorem Sl.heap {w W : World} {v : Value} {vs : List Value} (h : Sl w v vs) (hW : W.heap = w.heap) : Sl W v vs := by
  rcases h with h | ⟨b, off, cap, rfl, hcap, hc⟩
  · exact Or.inl h
  · exact Or.inr ⟨b, off, cap, rfl, hcap, hc.kept (by rw [hW])⟩
theorem Sl.drewN {w : World} {v : Value} {vs : List Value} (h : Sl w v vs) (d : Nat) : Sl (w.drewN d) v vs := h
theorem Sl.undrew {w : World} {v : Value} {vs : List Value} {d : Nat} (h : Sl (w.drewN d) v vs) : Sl w v vs := h
theorem u8s_drop (bs : List Nat) (k : Nat) : u8s (bs.drop k) = (u8s bs).drop k := by simp [u8s]
open Go.RowKit
open Pdu
theorem wordAt_lies {w : World} {b off : Nat} {bs : List Nat} (hl : Lies w b off (u8s bs)) (hB : Bytes bs) (hn : 2 ≤ bs.length) (cap : Nat) (W : World) (hW : ∀ k, W.cell? ⟨b, k, none⟩ = w.cell? ⟨b, k, none⟩) :
    Calls Try.prog 51 #[.slice (some ⟨b, off, none⟩) bs.length cap] W fun e w' => e = .returned (.int .u16 (wordAt bs 0 : Nat)) ∧ ∃ m, w' = W.drewN m :=
  word_c b off bs.length cap (bs.getD 0 0) (bs.getD 1 0) W hn (hB.at 0) (hB.at 1) ((hW _).trans (hl.u8 0 (by omega))) ((hW _).trans (hl.u8 1 (by omega)))
theorem cut2 {w : World} {b off cap : Nat} {bs : List Nat} (hc : cap ≠ 2) (hcap : bs.length ≤ cap) (hn : 2 ≤ bs.length) (hl : Lies w b off (u8s bs)) : Sl w (.slice (some ⟨b, off + 2, none⟩) (bs.length - 2) (cap - 2)) (u8s (bs.drop 2)) := by
  have h := cut_sl (w := w) (b := b) (off := off) (n := bs.length) (cap := cap) (k := 2) (vs := u8s bs) (by rw [u8s_len]) hcap hn hl
  rw [← u8s_drop] at h
  unfold cutV cutA at h
  rw [if_neg hc] at h
  exact h
theorem cut2e {w : World} {b off : Nat} {bs : List Nat} (hn : bs.length = 2) : Sl w (.slice (some ⟨b, off, none⟩) 0 0) (u8s (bs.drop 2)) := by
  rw [List.drop_eq_nil_of_le (by omega)]
  exact Or.inl ⟨rfl, _, _, rfl, fun h => by simp at h⟩
set_option maxHeartbeats 400000 in
theorem takeRegs_y (b off n cap N : Nat) (bs : List Nat) (w : World) (hnn : n = bs.length) (hcap : n ≤ cap) (hsz : n ≤ 1000) (hB : Bytes bs) (hL : Lies w b off (u8s bs)) (hN : N = wordAt bs 0) (h1 : n = 3 + 2 * N) (h2 : bs.getD 2 0 = 2 * N) :
    Calls Try.prog 54 #[.slice (some ⟨b, off, none⟩) n cap] w fun e w' => ∃ v', e = .returned (.tuple #[v', .bool true]) ∧ w'.ownsRow w.heap.size 22 1 v' (ws (bs.drop 3)).length (u16s (ws (bs.drop 3))) ∧ Below w.heap.size w w' := by
  have hlt := wordAt_lt hB 0
  rw [← hN] at hlt
  have hw := fun (d : Nat) => wordAt_lies hL hB (by omega) cap (w.drewN d) (fun _ => rfl)
  rw [← hN, ← hnn] at hw
  have e1 : IntKind.i64.wrap (N : Int) = (N : Int) := by rw [IntKind.wrap_i64]; omega
  have e2 : IntKind.i64.wrap (2 * (N : Int)) = 2 * (N : Int) := by rw [IntKind.wrap_i64]; omega
  have hcap2 : cap ≠ 2 := by omega
  have c2 := hL.u8 2 (by omega)
  have h8 := hB.at 2
  rw [h2] at c2 h8
  have htc := fun (d : Nat) => tc_yes b (off + 2) (cap - 2) (2 * N) (w.drewN d) h8 (by omega) c2
  rw [show 1 + 2 * N = n - 2 by omega] at htc
  have S0 : Sl w (cutV b (off + 2) (n - 2) (cap - 2) 1) (u8s (bs.drop 3)) := by
    have hS := cut2 hcap2 (by omega) (by omega) hL
    have hl2 : Lies w b (off + 2) (u8s (bs.drop 2)) := by rw [u8s_drop]; exact hL.drop 2
    have h := cut_sl (w := w) (b := b) (off := off + 2) (n := n - 2) (cap := cap - 2) (k := 1) (vs := u8s (bs.drop 2)) (by rw [u8s_len, List.length_drop, ← hnn]) (by omega) (by omega) hl2
    rw [← u8s_drop, List.drop_drop] at h
    exact h
  obtain ⟨V, hV⟩ : ∃ V, V = cutV b (off + 2) (n - 2) (cap - 2) 1 := ⟨_, rfl⟩
  rw [← hV] at S0 htc
  have HW : Hid (∀ d, Calls Try.prog 52 #[V] (w.drewN d) fun e w' => ∃ v'', e = .returned v'' ∧ w'.ownsRow w.heap.size 22 1 v'' (ws (bs.drop 3)).length (u16s (ws (bs.drop 3))) ∧ Below w.heap.size w w') := fun d => (words_c (hB.drop 3) (S0.drewN d) (by rw [List.length_drop]; omega)).mono fun e w' ⟨v'', h1, h2, h3⟩ => ⟨v'', h1, h2, ⟨h3.os, h3.tape, h3.output, h3.size, h3.block⟩⟩
  rw [show ((2 * N : Nat) : Int) = 2 * (N : Int) by omega] at htc
  have hn4 : 3 ≤ n := by omega
  have hc4 : 3 ≤ cap := by omega
  clear S0 hV c2 h8 hL hB hN h1 h2 hnn
  go_enter Try.func54, Try.ntmps54
  go_wp2
  go_quiet (first | (go_at_call 51; exact Calls.quiet_of (hw _)) | (go_at_call 56; exact Calls.quiet_of_same (htc _)))
  go_wp2_with fail
  refine (HW.out _).mono ?_
  rintro e w1 ⟨v1, rfl, own1, hb1⟩
  have own1 : Hid _ := own1
  have hb1 : Hid _ := hb1
  go_wp2
  go_ret2
  exact ⟨_, rfl, own1, hb1⟩
set_option maxHeartbeats 400000 in
theorem takeRegs_n (b off n cap N : Nat) (bs : List Nat) (w : World) (hnn : n = bs.length) (hn : 2 ≤ n) (hcap : n ≤ cap) (hsz : n ≤ 1000) (hB : Bytes bs) (hL : Lies w b off (u8s bs)) (hN : N = wordAt bs 0) (hT : ¬ (n = 3 + 2 * N ∧ bs.getD 2 0 = 2 * N)) :
    Calls Try.prog 54 #[.slice (some ⟨b, off, none⟩) n cap] w fun e w' => ∃ v', e = .returned (.tuple #[v', .bool false]) ∧ w'.ownsRow w.heap.size 22 1 v' 0 (u16s []) ∧ Below w.heap.size w w' := by
  have hlt := wordAt_lt hB 0
  rw [← hN] at hlt
  have hw := fun (d : Nat) => wordAt_lies hL hB (by omega) cap (w.drewN d) (fun _ => rfl)
  rw [← hN, ← hnn] at hw
  have e1 : IntKind.i64.wrap (N : Int) = (N : Int) := by rw [IntKind.wrap_i64]; omega
  have e2 : IntKind.i64.wrap (2 * (N : Int)) = 2 * (N : Int) := by rw [IntKind.wrap_i64]; omega
  have HW : Hid (∀ d, Calls Try.prog 52 #[.slice none 0 0] (w.drewN d) fun e w' => ∃ v'', e = .returned v'' ∧ w'.ownsRow w.heap.size 22 1 v'' 0 (u16s []) ∧ Below w.heap.size w w') := fun d => (words_none none 0 (w.drewN d)).mono fun e w' ⟨v'', h1, h2, h3⟩ => ⟨v'', h1, h2, ⟨h3.os, h3.tape, h3.output, h3.size, h3.block⟩⟩
  by_cases hcap2 : cap = 2
  · subst hcap2
    obtain rfl : n = 2 := by omega
    have htc := fun (d : Nat) => tc_other (some ⟨b, off, none⟩) 0 0 (2 * N) (w.drewN d) (by omega) (by omega)
    rw [show ((2 * N : Nat) : Int) = 2 * (N : Int) by omega] at htc
    clear hL hB hN hT hnn
    go_enter Try.func54, Try.ntmps54
    go_wp2
    go_quiet (first | (go_at_call 51; exact Calls.quiet_of (hw _)) | (go_at_call 56; exact Calls.quiet_of_same (htc _)))
    go_wp2_with fail
    refine (HW.out _).mono ?_
    rintro e w1 ⟨v1, rfl, own1, hb1⟩
    have own1 : Hid (w1.ownsRow w.heap.size 22 1 v1 0 (u16s [])) := own1
    have hb1 : Hid _ := hb1
    go_wp2
    go_ret2
    exact ⟨_, rfl, own1, hb1⟩
  · have htc : ∀ d, Calls Try.prog 56 #[.slice (some ⟨b, off + 2, none⟩) (n - 2) (cap - 2), .int .i64 ((2 * N : Nat) : Int)] (w.drewN d) fun e w' => e = .returned (.tuple #[.slice none 0 0, .bool false]) ∧ w' = w.drewN d := by
      intro d
      have hS := cut2 hcap2 (by omega) (by omega) hL
      rw [← hnn] at hS
      refine tc_n (hS.drewN d) (hB.drop 2) (by omega) ?_
      rw [List.length_drop, ← hnn, List.getD_eq_getElem?_getD, List.getElem?_drop, ← List.getD_eq_getElem?_getD]
      intro h
      exact hT ⟨by omega, h.2⟩
    rw [show ((2 * N : Nat) : Int) = 2 * (N : Int) by omega] at htc
    clear hL hB hN hT hnn
    go_enter Try.func54, Try.ntmps54
    go_wp2
    go_quiet (first | (go_at_call 51; exact Calls.quiet_of (hw _)) | (go_at_call 56; exact Calls.quiet_of_same (htc _)))
    go_wp2_with fail
    refine (HW.out _).mono ?_
    rintro e w1 ⟨v1, rfl, own1, hb1⟩
    have own1 : Hid (w1.ownsRow w.heap.size 22 1 v1 0 (u16s [])) := own1
    have hb1 : Hid _ := hb1
    go_wp2
    go_ret2
    exact ⟨_, rfl, own1, hb1⟩
theorem drew_facts {w W : World} {d : Nat} (h : W = w.drewN d) : W.heap = w.heap ∧ W.os = w.os ∧ W.tape = w.tape ∧ W.output = w.output := by
  subst h
  exact ⟨rfl, rfl, rfl, rfl⟩
set_option maxHeartbeats 400000 in
theorem takeBits_y (b off n cap N : Nat) (bs : List Nat) (w : World) (hnn : n = bs.length) (hcap : n ≤ cap) (hsz : n ≤ 1000) (hB : Bytes bs) (hL : Lies w b off (u8s bs)) (hN : N = wordAt bs 0) (h1 : n = 3 + packed N) (h2 : bs.getD 2 0 = packed N) :
    Calls Try.prog 53 #[.slice (some ⟨b, off, none⟩) n cap] w fun e w' => ∃ v', e = .returned (.tuple #[v', .bool true]) ∧ w'.ownsRow w.heap.size 4 1 v' (min N 2000) (bls (ub (bs.drop 3) (min N 2000))) ∧ Below w.heap.size w w' := by
  have hlt := wordAt_lt hB 0
  rw [← hN] at hlt
  have hw := fun (d : Nat) => wordAt_lies hL hB (by omega) cap (w.drewN d) (fun _ => rfl)
  rw [← hN, ← hnn] at hw
  have e1 : IntKind.i64.wrap (N : Int) = (N : Int) := by rw [IntKind.wrap_i64]; omega
  have hpk : packed N ≤ 10000 := by unfold packed; omega
  obtain ⟨M, hM⟩ : ∃ M, M = packed N := ⟨_, rfl⟩
  have hpc := fun (W : World) => packed_c N (by omega) W
  rw [← hM] at hpk hpc h1 h2
  have hcap2 : cap ≠ 2 := by omega
  have c2 := hL.u8 2 (by omega)
  have h8 := hB.at 2
  rw [h2] at c2 h8
  have htc := fun (W : World) (hW : W.heap = w.heap) => tc_yes b (off + 2) (cap - 2) (M) W h8 (by omega) ((World.cell?_of_block (w := w) (a := ⟨b, off + 2, none⟩) (by rw [hW])).trans c2)
  rw [show 1 + M = n - 2 by omega] at htc
  have S0 : Sl w (cutV b (off + 2) (n - 2) (cap - 2) 1) (u8s (bs.drop 3)) := by
    have hS := cut2 hcap2 (by omega) (by omega) hL
    have hl2 : Lies w b (off + 2) (u8s (bs.drop 2)) := by rw [u8s_drop]; exact hL.drop 2
    have h := cut_sl (w := w) (b := b) (off := off + 2) (n := n - 2) (cap := cap - 2) (k := 1) (vs := u8s (bs.drop 2)) (by rw [u8s_len, List.length_drop, ← hnn]) (by omega) (by omega) hl2
    rw [← u8s_drop, List.drop_drop] at h
    exact h
  obtain ⟨V, hV⟩ : ∃ V, V = cutV b (off + 2) (n - 2) (cap - 2) 1 := ⟨_, rfl⟩
  rw [← hV] at S0 htc
  have HW : Hid (∀ W : World, W.heap = w.heap → W.os = w.os → W.tape = w.tape → W.output = w.output → Calls Try.prog 27 #[V, .int .i64 N] W fun e w' => ∃ v'', e = .returned v'' ∧ w'.ownsRow w.heap.size 4 1 v'' (min N 2000) (bls (ub (bs.drop 3) (min N 2000))) ∧ Below w.heap.size w w') := fun W hW g1 g2 g3 => (show Calls _ _ _ _ (fun e w' => ∃ v'', e = .returned v'' ∧ w'.ownsRow W.heap.size 4 1 v'' (min N 2000) (bls (ub (bs.drop 3) (min N 2000))) ∧ Below W.heap.size W w') by rw [← cut_nat]; exact bits_c N (S0.heap hW)).mono fun e w' ⟨v'', h1, h2, h3⟩ => ⟨v'', h1, by rw [← hW]; exact h2, ⟨h3.os.trans g1, h3.tape.trans g2, h3.output.trans g3, by rw [← hW]; exact h3.size, fun k hk => by rw [← hW]; exact h3.block k (by rw [hW]; exact hk)⟩⟩
  have hn4 : 3 ≤ n := by omega
  have hc4 : 3 ≤ cap := by omega
  clear S0 hV c2 h8 hL hB hN h1 h2 hnn hM
  go_enter Try.func53, Try.ntmps53
  go_wp2_with (go_at_call 51; refine (hw 0).mono ?_; rintro e W ⟨rfl, d0, hW⟩; have QW : Hid _ := drew_facts hW; clear hW)
  go_quiet (first | (go_at_call 47; exact Calls.quiet_of_same (hpc _)) | (go_at_call 56; exact Calls.quiet_of_same (htc _ (by exact QW.out.1))))
  go_wp2_with fail
  refine (HW.out _ (by exact QW.out.1) (by exact QW.out.2.1) (by exact QW.out.2.2.1) (by exact QW.out.2.2.2)).mono ?_
  rintro e w1 ⟨v1, rfl, own1, hb1⟩
  have own1 : Hid (w1.ownsRow w.heap.size 4 1 v1 (min N 2000) (bls (ub (bs.drop 3) (min N 2000)))) := own1
  have hb1 : Hid _ := hb1
  go_wp2
  go_ret2
  exact ⟨_, rfl, own1, hb1⟩
set_option maxHeartbeats 400000 in
theorem takeBits_n (b off n cap N : Nat) (bs : List Nat) (w : World) (hnn : n = bs.length) (hn : 2 ≤ n) (hcap : n ≤ cap) (hsz : n ≤ 1000) (hB : Bytes bs) (hL : Lies w b off (u8s bs)) (hN : N = wordAt bs 0) (hT : ¬ (n = 3 + packed N ∧ bs.getD 2 0 = packed N)) :
    Calls Try.prog 53 #[.slice (some ⟨b, off, none⟩) n cap] w fun e w' => ∃ v', e = .returned (.tuple #[v', .bool false]) ∧ w'.ownsRow w.heap.size 4 1 v' (min N 2000) (bls (ub [] (min N 2000))) ∧ Below w.heap.size w w' := by
  have hlt := wordAt_lt hB 0
  rw [← hN] at hlt
  have hw := fun (d : Nat) => wordAt_lies hL hB (by omega) cap (w.drewN d) (fun _ => rfl)
  rw [← hN, ← hnn] at hw
  have e1 : IntKind.i64.wrap (N : Int) = (N : Int) := by rw [IntKind.wrap_i64]; omega
  have hpk : packed N ≤ 10000 := by unfold packed; omega
  obtain ⟨M, hM⟩ : ∃ M, M = packed N := ⟨_, rfl⟩
  have hpc := fun (W : World) => packed_c N (by omega) W
  rw [← hM] at hpk hpc hT
  have HW : Hid (∀ W : World, W.heap = w.heap → W.os = w.os → W.tape = w.tape → W.output = w.output → Calls Try.prog 27 #[.slice none 0 0, .int .i64 N] W fun e w' => ∃ v'', e = .returned v'' ∧ w'.ownsRow w.heap.size 4 1 v'' (min N 2000) (bls (ub [] (min N 2000))) ∧ Below w.heap.size w w') := fun W hW g1 g2 g3 => (show Calls _ _ _ _ (fun e w' => ∃ v'', e = .returned v'' ∧ w'.ownsRow W.heap.size 4 1 v'' (min N 2000) (bls (ub [] (min N 2000))) ∧ Below W.heap.size W w') by rw [← cut_nat]; exact bits_none none 0 N W).mono fun e w' ⟨v'', h1, h2, h3⟩ => ⟨v'', h1, by rw [← hW]; exact h2, ⟨h3.os.trans g1, h3.tape.trans g2, h3.output.trans g3, by rw [← hW]; exact h3.size, fun k hk => by rw [← hW]; exact h3.block k (by rw [hW]; exact hk)⟩⟩
  by_cases hcap2 : cap = 2
  · subst hcap2
    obtain rfl : n = 2 := by omega
    have htc := fun (W : World) (_ : W.heap = w.heap) => tc_other (some ⟨b, off, none⟩) 0 0 (M) W (by omega) (by omega)
    clear hL hB hN hT hnn hM
    go_enter Try.func53, Try.ntmps53
    go_wp2_with (go_at_call 51; refine (hw 0).mono ?_; rintro e W ⟨rfl, d0, hW⟩; have QW : Hid _ := drew_facts hW; clear hW)
    go_quiet (first | (go_at_call 47; exact Calls.quiet_of_same (hpc _)) | (go_at_call 56; exact Calls.quiet_of_same (htc _ (by exact QW.out.1))))
    go_wp2_with fail
    refine (HW.out _ (by exact QW.out.1) (by exact QW.out.2.1) (by exact QW.out.2.2.1) (by exact QW.out.2.2.2)).mono ?_
    rintro e w1 ⟨v1, rfl, own1, hb1⟩
    have own1 : Hid (w1.ownsRow w.heap.size 4 1 v1 (min N 2000) (bls (ub [] (min N 2000)))) := own1
    have hb1 : Hid _ := hb1
    go_wp2
    go_ret2
    exact ⟨_, rfl, own1, hb1⟩
  · have htc : ∀ W : World, W.heap = w.heap → Calls Try.prog 56 #[.slice (some ⟨b, off + 2, none⟩) (n - 2) (cap - 2), .int .i64 ((M : Nat) : Int)] W fun e w' => e = .returned (.tuple #[.slice none 0 0, .bool false]) ∧ w' = W := by
      intro W hW
      have hS := cut2 hcap2 (by omega) (by omega) hL
      rw [← hnn] at hS
      refine tc_n (hS.heap hW) (hB.drop 2) (by omega) ?_
      rw [List.length_drop, ← hnn, List.getD_eq_getElem?_getD, List.getElem?_drop, ← List.getD_eq_getElem?_getD]
      intro h
      exact hT ⟨by omega, h.2⟩
    clear hL hB hN hT hnn hM
    go_enter Try.func53, Try.ntmps53
    go_wp2_with (go_at_call 51; refine (hw 0).mono ?_; rintro e W ⟨rfl, d0, hW⟩; have QW : Hid _ := drew_facts hW; clear hW)
    go_quiet (first | (go_at_call 47; exact Calls.quiet_of_same (hpc _)) | (go_at_call 56; exact Calls.quiet_of_same (htc _ (by exact QW.out.1))))
    go_wp2_with fail
    refine (HW.out _ (by exact QW.out.1) (by exact QW.out.2.1) (by exact QW.out.2.2.1) (by exact QW.out.2.2.2)).mono ?_
    rintro e w1 ⟨v1, rfl, own1, hb1⟩
    have own1 : Hid (w1.ownsRow w.heap.size 4 1 v1 (min N 2000) (bls (ub [] (min N 2000)))) := own1
    have hb1 : Hid _ := hb1
    go_wp2
    go_ret2
    exact ⟨_, rfl, own1, hb1⟩
open Go.RowKit
open Pdu
theorem alloc_drewN (w : World) (d : Nat) (o : Obj) : (w.drewN d).alloc o = (w.alloc o).drewN d := rfl
theorem setCell_drewN (w : World) (d : Nat) (p : Addr) (v : Value) : (w.drewN d).setCell p v = (w.setCell p v).drewN d := rfl
theorem six_set (X : World) (k n : Nat) (hn : n = X.heap.size) (y0 y1 y2 y3 y4 y5 z0 z1 z2 z3 z4 z5 : Value) (t : TypeId) :
    (((((((X.alloc (.cells #[z0, z1, z2, z3, z4, z5] t)).drewN k).setCell ⟨n, 0, none⟩ y0).setCell ⟨n, 1, none⟩ y1).setCell ⟨n, 2, none⟩ y2).setCell ⟨n, 3, none⟩ y3).setCell ⟨n, 4, none⟩ y4).setCell ⟨n, 5, none⟩ y5 = (X.alloc (.cells #[y0, y1, y2, y3, y4, y5] t)).drewN k := by
  rw [setCell_drewN, setCell_drewN, setCell_drewN, setCell_drewN, setCell_drewN, setCell_drewN]
  rw [World.setCell_alloc_at _ _ _ _ _ hn, World.setCell_alloc_at _ _ _ _ _ hn, World.setCell_alloc_at _ _ _ _ _ hn, World.setCell_alloc_at _ _ _ _ _ hn, World.setCell_alloc_at _ _ _ _ _ hn, World.setCell_alloc_at _ _ _ _ _ hn]
  simp
theorem set_same {Y : World} {g i : Nat} {z y : Value} (h : Y.cell? ⟨g, i, none⟩ = some z) : (Y.setCell ⟨g, i, none⟩ y).cell? ⟨g, i, none⟩ = some y := World.cell?_setCell_same _ _ _ h
theorem set_else {Y : World} {g i j : Nat} {z y : Value} (h : Y.cell? ⟨g, i, none⟩ = some z) (hij : i ≠ j) : (Y.setCell ⟨g, j, none⟩ y).cell? ⟨g, i, none⟩ = some z := by
  rw [World.cell?_setCell_other _ _ _ _ (fun e => hij (congrArg Addr.off e).symm)]
  exact h
theorem set_box {Y : World} {g : Nat} {z0 z1 z2 z3 z4 z5 : Value} (h : Box Y g z0 z1 z2 z3 z4 z5) (y0 y1 y2 y3 y4 y5 : Value) :
    Box ((((((Y.setCell ⟨g, 0, none⟩ y0).setCell ⟨g, 1, none⟩ y1).setCell ⟨g, 2, none⟩ y2).setCell ⟨g, 3, none⟩ y3).setCell ⟨g, 4, none⟩ y4).setCell ⟨g, 5, none⟩ y5) g y0 y1 y2 y3 y4 y5 := by
  obtain ⟨h0, h1, h2, h3, h4, h5⟩ := h
  exact ⟨set_else (set_else (set_else (set_else (set_else (set_same h0) (by decide)) (by decide)) (by decide)) (by decide)) (by decide),
    set_else (set_else (set_else (set_else (set_same (set_else h1 (by decide))) (by decide)) (by decide)) (by decide)) (by decide),
    set_else (set_else (set_else (set_same (set_else (set_else h2 (by decide)) (by decide))) (by decide)) (by decide)) (by decide),
    set_else (set_else (set_same (set_else (set_else (set_else h3 (by decide)) (by decide)) (by decide))) (by decide)) (by decide),
    set_else (set_same (set_else (set_else (set_else (set_else h4 (by decide)) (by decide)) (by decide)) (by decide))) (by decide),
    set_same (set_else (set_else (set_else (set_else (set_else h5 (by decide)) (by decide)) (by decide)) (by decide)) (by decide))⟩
theorem Box.far {Y : World} {g : Nat} {z0 z1 z2 z3 z4 z5 : Value} (h : Box Y g z0 z1 z2 z3 z4 z5) {p : Addr} (hp : p.block ≠ g) (v : Value) : Box (Y.setCell p v) g z0 z1 z2 z3 z4 z5 :=
  ⟨(World.cell?_setCell_far _ _ _ _ hp).trans h.c0, (World.cell?_setCell_far _ _ _ _ hp).trans h.c1, (World.cell?_setCell_far _ _ _ _ hp).trans h.c2, (World.cell?_setCell_far _ _ _ _ hp).trans h.c3, (World.cell?_setCell_far _ _ _ _ hp).trans h.c4, (World.cell?_setCell_far _ _ _ _ hp).trans h.c5⟩
theorem Box.grow {Y : World} {g : Nat} {z0 z1 z2 z3 z4 z5 : Value} (h : Box Y g z0 z1 z2 z3 z4 z5) (o : Obj) : Box (Y.alloc o) g z0 z1 z2 z3 z4 z5 :=
  h.below (below_new (Below.refl _ Y) o) (lt_of_cell h.c0)
theorem Box.drewN {Y : World} {g : Nat} {z0 z1 z2 z3 z4 z5 : Value} (h : Box Y g z0 z1 z2 z3 z4 z5) (d : Nat) : Box (Y.drewN d) g z0 z1 z2 z3 z4 z5 := ⟨h.c0, h.c1, h.c2, h.c3, h.c4, h.c5⟩
theorem own_set {Y : World} {base n : Nat} {e : TypeId} {v : Value} {vs : List Value} {p : Addr} (h : Y.ownsRow base e 1 v n vs) (hp : p.block < base) (u : Value) : (Y.setCell p u).ownsRow base e 1 v n vs := ownsRow_setCell_below h hp u
theorem own_six {Y : World} {base n g : Nat} {e : TypeId} {v : Value} {vs : List Value} (h : Y.ownsRow base e 1 v n vs) (hp : g < base) (y0 y1 y2 y3 y4 y5 : Value) :
    (((((((Y.setCell ⟨g, 0, none⟩ y0).setCell ⟨g, 1, none⟩ y1).setCell ⟨g, 2, none⟩ y2).setCell ⟨g, 3, none⟩ y3).setCell ⟨g, 4, none⟩ y4).setCell ⟨g, 5, none⟩ y5)).ownsRow base e 1 v n vs :=
  own_set (own_set (own_set (own_set (own_set (own_set h hp _) hp _) hp _) hp _) hp _) hp _
theorem below_six {w Y : World} {g : Nat} (h : Below w.heap.size w Y) (hg : w.heap.size ≤ g) (y0 y1 y2 y3 y4 y5 : Value) :
    Below w.heap.size w ((((((Y.setCell ⟨g, 0, none⟩ y0).setCell ⟨g, 1, none⟩ y1).setCell ⟨g, 2, none⟩ y2).setCell ⟨g, 3, none⟩ y3).setCell ⟨g, 4, none⟩ y4).setCell ⟨g, 5, none⟩ y5) :=
  Below.setCell (Below.setCell (Below.setCell (Below.setCell (Below.setCell (Below.setCell h hg _) hg _) hg _) hg _) hg _) hg _
open Go.RowKit
open Pdu
theorem below_and {a b c : World} (h : Below a.heap.size a b) (k : Below b.heap.size b c) : Below a.heap.size a c := h.trans (k.mono h.size)
set_option maxRecDepth 100000 in
set_option maxHeartbeats 800000 in
theorem light_c {v : Value} {q : Rq} {w : World} (h : IsRq w v q) : Calls Try.prog 10 #[v] w fun e w' => e = .returned (.bool (decide (q.bits.length ≤ 2500 ∧ q.regs.length ≤ 200))) ∧ Below w.heap.size w w' := by
  obtain ⟨ok, bv, rv, rfl, h1, h2⟩ := h
  obtain ⟨bo, bc, rfl⟩ := h1.shape
  obtain ⟨ro, rc, rfl⟩ := h2.shape
  rw [bls_len, u16s_len]
  obtain ⟨fn, addr, n, addr2, bits, regs⟩ := q
  simp only
  generalize bits.length = nb
  generalize regs.length = nr
  unfold rqV
  clear h1 h2 ok
  by_cases hb : nb ≤ 2500
  · by_cases hr : nr ≤ 200
    · have d1 : decide ((nb : Int) ≤ 2500) = true := decide_eq_true (by omega)
      have d2 : decide ((nr : Int) ≤ 200) = true := decide_eq_true (by omega)
      rw [decide_eq_true (show nb ≤ 2500 ∧ nr ≤ 200 from ⟨hb, hr⟩)]
      go_enter Try.func10, Try.ntmps10
      go_wp2
      go_ret
      exact ⟨rfl, below_new (Below.refl _ w) _⟩
    · have d1 : decide ((nb : Int) ≤ 2500) = true := decide_eq_true (by omega)
      have d2 : decide ((nr : Int) ≤ 200) = false := decide_eq_false (by omega)
      rw [decide_eq_false (fun h : nb ≤ 2500 ∧ nr ≤ 200 => hr h.2)]
      go_enter Try.func10, Try.ntmps10
      go_wp2
      go_ret
      exact ⟨rfl, below_new (Below.refl _ w) _⟩
  · have d1 : decide ((nb : Int) ≤ 2500) = false := decide_eq_false (by omega)
    rw [decide_eq_false (fun h : nb ≤ 2500 ∧ nr ≤ 200 => hb h.1)]
    go_enter Try.func10, Try.ntmps10
    go_wp2
    go_ret
    exact ⟨rfl, below_new (Below.refl _ w) _⟩
open Go.RowKit
open Pdu
theorem bytes_t {v u : Value} {xs : List Nat} {w : World} (h : Sl w v (u8s xs)) (k : Sl w u (u8s xs)) (ha : Bytes xs) : Calls Try.prog 13 #[v, u] w fun e w' => e = .returned (.bool true) ∧ w' = w := by
  have h1 := bytes_c h k ha ha
  rw [decide_eq_true (rfl : xs = xs)] at h1
  exact h1
/-- One box, and what it holds still. -/
theorem one_box {w w1 : World} {x0 x1 x2 x3 x4 x5 : Value} {t : TypeId} (k : Below (w.alloc (.cells #[x0, x1, x2, x3, x4, x5] t)).heap.size (w.alloc (.cells #[x0, x1, x2, x3, x4, x5] t)) w1) :
    Below w.heap.size w w1 ∧ Box w1 w.heap.size x0 x1 x2 x3 x4 x5 ∧ w.heap.size < w1.heap.size := by
  have hs := k.size
  simp only [World.size_alloc] at hs
  exact ⟨below_and (below_new (Below.refl _ w) _) k, (Box.new w x0 x1 x2 x3 x4 x5 t).below k (by simp only [World.size_alloc]; omega), by omega⟩
open Go.ChangeShapes Go.WideShapes Go.ChangeAt Go.RowKit Go.Deep
open Pdu
theorem Try.own : ownKnob Try.prog.godebug = none := by kernel_rfl
theorem Try.laidOut : laidOutB Try.prog = true := by kernel_rfl
theorem Try.cellsByte : Try.prog.cellsOf 5 = 1 := by kernel_rfl
theorem Try.cellsBool : Try.prog.cellsOf 4 = 1 := by kernel_rfl
theorem Try.cellsWord : Try.prog.cellsOf 22 = 1 := by kernel_rfl
theorem u8_wf {z : Int} (h : (Lit.int .u8 z).wf = true) : 0 ≤ z ∧ z ≤ 255 := by
  simpa [Lit.wf, IntKind.min, IntKind.max, IntKind.signed, IntKind.bits] using h
def nats (zs : List Int) : List Nat := zs.map Int.toNat
theorem nats_bytes {zs : List Int} (h : ∀ n ∈ zs, (Lit.int .u8 n).wf = true) : Bytes (nats zs) := by
  intro x hx
  simp only [nats, List.mem_map] at hx
  obtain ⟨z, hz, rfl⟩ := hx
  have := u8_wf (h z hz)
  omega
/-- A slice value whose cells are these values. -/
theorem sl_of {W : World} {a : Addr} {len cap : Nat} {vs : List Value} (hl : len = vs.length) (hc : len ≤ cap) (hcell : ∀ i u, vs[i]? = some u → W.cell? (a.add i) = some u) : Sl W (.slice (some a) len cap) vs := by
  by_cases h0 : vs = []
  · subst h0
    subst hl
    exact Or.inl ⟨rfl, some a, cap, rfl, fun h => by simp at h⟩
  · obtain ⟨b, off, spot⟩ := a
    have hpos : 0 < vs.length := List.length_pos_iff.2 h0
    have hspot : spot = none := by simpa [Addr.add] using World.cell?_spot (hcell 0 _ (List.getElem?_eq_getElem hpos))
    subst hspot
    refine Or.inr ⟨b, off, cap, by rw [hl], by omega, fun k u hk => ?_⟩
    have hplain : (⟨b, off, none⟩ : Addr).add k = ⟨b, off + k, none⟩ := by unfold Addr.add; split <;> simp_all
    rw [← hplain]
    exact hcell k u hk
theorem open_bytes {H : Type} {enc : TypeId × Value → H} {W : World} {base : Nat} {v : Value} {d : DataW H} {p : List MemPlace} (hok : Value.okWide Try.prog W .any base 29 v) (h : DataW.Trod enc Try.prog W 0 (fun _ => true) true 29 v d p) :
    ∃ ao n c bs, v = .slice ao n c ∧ n = bs.length ∧ Bytes bs ∧ Sl W v (u8s bs) ∧ n ≤ 9223372036854775807 := by
  obtain ⟨a0, len, cap, rfl⟩ := okWide_slice Try.underlying29 hok
  obtain ⟨fuel, hf⟩ := h
  rcases open_ints Try.underlying29 Try.underlying5 Try.cellsByte hf with ⟨hcs, _⟩ | ⟨a, len', cap', zs, hcs, _, hl, hm, hz, _, hcell, hwz⟩
  · simp [Value.cells] at hcs
    obtain ⟨rfl, rfl, rfl⟩ := hcs
    exact ⟨none, 0, 0, [], rfl, rfl, Bytes.nil, Sl.nil W, by decide⟩
  · simp [Value.cells] at hcs
    obtain ⟨rfl, rfl, rfl⟩ := hcs
    simp only [if_true] at hz
    unfold maxLen at hm
    have hlen : (nats (zs.take len)).length = len := by simp [nats]; omega
    refine ⟨_, _, _, nats (zs.take len), rfl, hlen.symm, nats_bytes fun n hn => hwz n (List.mem_of_mem_take hn), sl_of (by rw [u8s_len, hlen]) (by omega) fun i u hi => ?_, by omega⟩
    have hil : i < len := by have := (List.getElem?_eq_some_iff.1 hi).1; rw [u8s_len, hlen] at this; exact this
    rw [u8s_at _ i (by rw [hlen]; exact hil)] at hi
    have hkz : i < zs.length := by omega
    have hw := u8_wf (hwz _ (List.getElem_mem hkz))
    have e : ((nats (zs.take len)).getD i 0 : Int) = zs.getD i 0 := by
      simp only [nats, List.getD_eq_getElem?_getD, List.getElem?_map, List.getElem?_take, if_pos hil, List.getElem?_eq_getElem hkz, Option.map_some, Option.getD_some]
      omega
    rw [hcell i (by omega), ← hi, e]
theorem open_bits {H : Type} {enc : TypeId × Value → H} {W : World} {base : Nat} {v : Value} {d : DataW H} {p : List MemPlace} (hok : Value.okWide Try.prog W .any base 23 v) (h : DataW.Trod enc Try.prog W 0 (fun _ => true) true 23 v d p) :
    ∃ ao n c l, v = .slice ao n c ∧ n = l.length ∧ Sl W v (bls l) ∧ n ≤ 9223372036854775807 := by
  obtain ⟨a0, len, cap, rfl⟩ := okWide_slice Try.underlying23 hok
  obtain ⟨fuel, hf⟩ := h
  rcases open_bools Try.underlying23 Try.underlying4 Try.cellsBool hf with ⟨hcs, _⟩ | ⟨a, len', cap', Bo, hcs, _, hl, hm, _, hr⟩
  · simp [Value.cells] at hcs
    obtain ⟨rfl, rfl, rfl⟩ := hcs
    exact ⟨none, 0, 0, [], rfl, rfl, Sl.nil W, by decide⟩
  · simp [Value.cells] at hcs
    obtain ⟨rfl, rfl, rfl⟩ := hcs
    unfold maxLen at hm
    refine ⟨_, _, _, (List.range len).map Bo, rfl, by simp, sl_of (by simp [bls]) (by omega) fun i u hi => ?_, by omega⟩
    have hil : i < len := by have := (List.getElem?_eq_some_iff.1 hi).1; rw [bls_len] at this; simpa using this
    rw [hr i (by omega), ← hi]
    simp [bls, hil]
open Go.ChangeShapes Go.WideShapes Go.ChangeAt Go.RowKit Go.Deep Go.Joins
open Pdu
theorem array6 {α : Type} {cs : Array α} (h : cs.size = 6) : ∃ c0 c1 c2 c3 c4 c5, cs = #[c0, c1, c2, c3, c4, c5] := by
  obtain ⟨l⟩ := cs
  match l, h with
  | [c0, c1, c2, c3, c4, c5], _ => exact ⟨c0, c1, c2, c3, c4, c5, rfl⟩
theorem open_six {H : Type} {enc : TypeId × Value → H} {P : Program} {w : World} {base b0 : Nat} {spare : Nat → Bool} {held : Bool} {r : Reach} {t : TypeId} {f0 f1 f2 f3 f4 f5 : Field} {v : Value} {d : DataW H} {p : List MemPlace} (hs : P.underlying t = some (.struct #[f0, f1, f2, f3, f4, f5])) (hone : oneCellFields P #[f0, f1, f2, f3, f4, f5] = true) (hC : P.cellsOf t = 6)
    (hv : Value.okWide P w r b0 t v) (h : DataW.Trod enc P w base spare held t v d p) :
    ∃ (v0 v1 v2 v3 v4 v5 : Value) (y0 y1 y2 y3 y4 y5 : DataW H × List MemPlace) (n : Nat), v = .agg #[v0, v1, v2, v3, v4, v5] ∧ DataW.trod enc P w base spare held n f0.type [v0] = some y0 ∧ DataW.trod enc P w base spare held n f1.type [v1] = some y1 ∧ DataW.trod enc P w base spare held n f2.type [v2] = some y2 ∧ DataW.trod enc P w base spare held n f3.type [v3] = some y3 ∧ DataW.trod enc P w base spare held n f4.type [v4] = some y4 ∧ DataW.trod enc P w base spare held n f5.type [v5] = some y5 := by
  obtain ⟨cs, rfl, hsz⟩ := okWide_struct hs hv
  obtain ⟨c0, c1, c2, c3, c4, c5, rfl⟩ := array6 (hsz.trans hC)
  obtain ⟨fuel, hf⟩ := h
  obtain ⟨xs, n, _, _, _, hlen, hff⟩ := DataW.trod_struct hs hf
  obtain ⟨o0, k0⟩ := hone_of hone 0 f0 rfl
  obtain ⟨o1, k1⟩ := hone_of hone 1 f1 rfl
  obtain ⟨o2, k2⟩ := hone_of hone 2 f2 rfl
  obtain ⟨o3, k3⟩ := hone_of hone 3 f3 rfl
  obtain ⟨o4, k4⟩ := hone_of hone 4 f4 rfl
  obtain ⟨o5, k5⟩ := hone_of hone 5 f5 rfl
  match xs, hlen with
  | [y0, y1, y2, y3, y4, y5], _ =>
    exact ⟨c0, c1, c2, c3, c4, c5, y0, y1, y2, y3, y4, y5, n, rfl, by simpa [Value.cells, o0, k0] using hff 0 f0 rfl, by simpa [Value.cells, o1, k1] using hff 1 f1 rfl, by simpa [Value.cells, o2, k2] using hff 2 f2 rfl, by simpa [Value.cells, o3, k3] using hff 3 f3 rfl, by simpa [Value.cells, o4, k4] using hff 4 f4 rfl, by simpa [Value.cells, o5, k5] using hff 5 f5 rfl⟩
theorem u16_wf {z : Int} (h : (Lit.int .u16 z).wf = true) : 0 ≤ z ∧ z ≤ 65535 := by
  simpa [Lit.wf, IntKind.min, IntKind.max, IntKind.signed, IntKind.bits] using h
theorem field_u8 {H : Type} {enc : TypeId × Value → H} {W : World} {fuel : Nat} {v : Value} {y : DataW H × List MemPlace} (hf : DataW.trod enc Try.prog W 0 (fun _ => true) true fuel 5 [v] = some y) : ∃ x : Nat, v = .int .u8 x ∧ x < 256 := by
  obtain ⟨a, e0, _, wa⟩ := DataW.trod_int Try.underlying5 hf
  have := u8_wf wa
  exact ⟨a.toNat, by simp at e0; rw [e0, Int.toNat_of_nonneg this.1], by omega⟩
theorem field_u16 {H : Type} {enc : TypeId × Value → H} {W : World} {fuel : Nat} {v : Value} {y : DataW H × List MemPlace} (hf : DataW.trod enc Try.prog W 0 (fun _ => true) true fuel 22 [v] = some y) : ∃ x : Nat, v = .int .u16 x ∧ x < 65536 := by
  obtain ⟨a, e0, _, wa⟩ := DataW.trod_int Try.underlying22 hf
  have := u16_wf wa
  exact ⟨a.toNat, by simp at e0; rw [e0, Int.toNat_of_nonneg this.1], by omega⟩
theorem field_bits {H : Type} {enc : TypeId × Value → H} {W : World} {fuel : Nat} {v : Value} {y : DataW H × List MemPlace} (hf : DataW.trod enc Try.prog W 0 (fun _ => true) true fuel 23 [v] = some y) : ∃ l, Sl W v (bls l) ∧ l.length ≤ 9223372036854775807 := by
  rcases open_bools Try.underlying23 Try.underlying4 Try.cellsBool hf with ⟨hcs, _⟩ | ⟨a, len, cap, Bo, hcs, _, hl, hm, _, hr⟩
  · simp at hcs
    subst hcs
    exact ⟨[], Sl.nil W, by decide⟩
  · simp at hcs
    subst hcs
    unfold maxLen at hm
    refine ⟨(List.range len).map Bo, sl_of (by simp [bls]) (by omega) fun i u hi => ?_, by simp; omega⟩
    have hil : i < len := by have := (List.getElem?_eq_some_iff.1 hi).1; rw [bls_len] at this; simpa using this
    rw [hr i (by omega), ← hi]
    simp [bls, hil]
theorem field_words {H : Type} {enc : TypeId × Value → H} {W : World} {fuel : Nat} {v : Value} {y : DataW H × List MemPlace} (hf : DataW.trod enc Try.prog W 0 (fun _ => true) true fuel 24 [v] = some y) : ∃ l, Words l ∧ Sl W v (u16s l) ∧ l.length ≤ 9223372036854775807 := by
  rcases open_ints Try.underlying24 Try.underlying22 Try.cellsWord hf with ⟨hcs, _⟩ | ⟨a, len, cap, zs, hcs, _, hl, hm, hz, _, hcell, hwz⟩
  · simp at hcs
    subst hcs
    exact ⟨[], fun _ h => by simp at h, Sl.nil W, by decide⟩
  · simp at hcs
    subst hcs
    simp only [if_true] at hz
    unfold maxLen at hm
    have hlen : (nats (zs.take len)).length = len := by simp [nats]; omega
    refine ⟨nats (zs.take len), ?_, sl_of (by rw [u16s_len, hlen]) (by omega) fun i u hi => ?_, by rw [hlen]; omega⟩
    · intro x hx
      simp only [nats, List.mem_map] at hx
      obtain ⟨z, hz, rfl⟩ := hx
      have := u16_wf (hwz z (List.mem_of_mem_take hz))
      omega
    · have hil : i < len := by have := (List.getElem?_eq_some_iff.1 hi).1; rw [u16s_len, hlen] at this; exact this
      rw [u16s_at _ i (by rw [hlen]; exact hil)] at hi
      have hkz : i < zs.length := by omega
      have hw := u16_wf (hwz _ (List.getElem_mem hkz))
      have e : ((nats (zs.take len)).getD i 0 : Int) = zs.getD i 0 := by
        simp only [nats, List.getD_eq_getElem?_getD, List.getElem?_map, List.getElem?_take, if_pos hil, List.getElem?_eq_getElem hkz, Option.map_some, Option.getD_some]
        omega
      rw [hcell i (by omega), ← hi, e]
theorem Try.cellsRq : Try.prog.cellsOf 26 = 6 := by kernel_rfl
theorem Try.cellsRp : Try.prog.cellsOf 44 = 6 := by kernel_rfl
theorem open_rq {H : Type} {enc : TypeId × Value → H} {W : World} {base : Nat} {v : Value} {d : DataW H} {p : List MemPlace} (hok : Value.okWide Try.prog W .any base 26 v) (h : DataW.Trod enc Try.prog W 0 (fun _ => true) true 26 v d p) : ∃ q, IsRq W v q ∧ q.bits.length ≤ 9223372036854775807 ∧ q.regs.length ≤ 9223372036854775807 := by
  obtain ⟨v0, v1, v2, v3, v4, v5, y0, y1, y2, y3, y4, y5, n, rfl, h0, h1, h2, h3, h4, h5⟩ := open_six Try.underlying26 (by kernel_rfl) Try.cellsRq hok h
  obtain ⟨x0, rfl, b0⟩ := field_u8 h0
  obtain ⟨x1, rfl, b1⟩ := field_u16 h1
  obtain ⟨x2, rfl, b2⟩ := field_u16 h2
  obtain ⟨x3, rfl, b3⟩ := field_u16 h3
  obtain ⟨l, s4, m4⟩ := field_bits h4
  obtain ⟨k, w5, s5, m5⟩ := field_words h5
  exact ⟨⟨x0, x1, x2, x3, l, k⟩, ⟨⟨b0, b1, b2, b3, w5⟩, v4, v5, rfl, s4, s5⟩, m4, m5⟩
theorem open_rp {H : Type} {enc : TypeId × Value → H} {W : World} {base : Nat} {v : Value} {d : DataW H} {p : List MemPlace} (hok : Value.okWide Try.prog W .any base 44 v) (h : DataW.Trod enc Try.prog W 0 (fun _ => true) true 44 v d p) : ∃ q, IsRp W v q ∧ q.bits.length ≤ 9223372036854775807 ∧ q.regs.length ≤ 9223372036854775807 := by
  obtain ⟨v0, v1, v2, v3, v4, v5, y0, y1, y2, y3, y4, y5, n, rfl, h0, h1, h2, h3, h4, h5⟩ := open_six Try.underlying44 (by kernel_rfl) Try.cellsRp hok h
  obtain ⟨x0, rfl, b0⟩ := field_u8 h0
  obtain ⟨x1, rfl, b1⟩ := field_u8 h1
  obtain ⟨x2, rfl, b2⟩ := field_u16 h2
  obtain ⟨x3, rfl, b3⟩ := field_u16 h3
  obtain ⟨l, s4, m4⟩ := field_bits h4
  obtain ⟨k, w5, s5, m5⟩ := field_words h5
  exact ⟨⟨x0, x1, x2, x3, l, k⟩, ⟨⟨b0, b1, b2, b3, w5⟩, v4, v5, rfl, s4, s5⟩, m4, m5⟩
open Go.RowKit
open Pdu
/-- One byte laid behind bytes, as a step of a region that draws. -/
theorem step_push {ops : Array Oper} {o : Oper} {a : Act} {Y : World} {K : Act → World → Prop} {Q : Exit → Act → World → Prop} {E : Prop}
    (hg : o.guard = none) (s x : Operand) (ho : o.op = .call { callee := .builtin .append, args := #[s, x], argTypes := #[29, 29] })
    (base : Nat) (v : Value) (bs : List Nat) (z : Nat) (zi : Int) (hz : zi = (z : Int)) (hs : a.eval s = v) (hx : a.eval x = .slice (some ⟨Y.heap.size, 0, none⟩) 1 1)
    (hown : Y.ownsRow base 5 1 v bs.length (u8s bs)) (hsz : bs.length ≤ 60000) (hbase : base ≤ Y.heap.size)
    (h : ∀ v' w', w'.ownsRow base 5 1 v' (bs ++ [z]).length (u8s (bs ++ [z])) → Below base Y w' → K (a.put o.dst v') w') :
    if Region.wanted o (yielded ops a.tmps) = true then Oper.wp Try.prog o a (Y.alloc (.cells #[.int .u8 zi] 5)).drew K Q else E := by
  obtain ⟨i0, hi, hz0, hz1, hz2⟩ := info_parts Try.infoByte
  refine step_append_own hg s x 29 ho base 5 i0 (.int .u8 0) 1 1 Try.underlying29 hi hz0 hz1 hz2 rfl (by decide) v bs.length _ hs (hown.alloc _).drew ⟨Y.heap.size, 0, none⟩ 1 1 [.int .u8 zi] hx rfl (one_cell Y _ _) (one_int _ _) (by unfold maxLen; omega) (by omega) (by simp; omega) ?_
  intro v' w' h1 h2 _
  refine h v' w' ?_ (own_grow hown hbase ⟨h2.os, h2.tape, h2.output, h2.size, h2.block⟩)
  rw [u8s_app, List.length_append]
  subst hz
  exact h1
/-- Bytes laid behind bytes, as a step of a region that draws. -/
theorem step_join {ops : Array Oper} {o : Oper} {a : Act} {Y : World} {K : Act → World → Prop} {Q : Exit → Act → World → Prop} {E : Prop}
    (hg : o.guard = none) (s x : Operand) (ho : o.op = .call { callee := .builtin .append, args := #[s, x], argTypes := #[29, 29] })
    (base : Nat) (v : Value) (bs ys : List Nat) (g m c : Nat) (hs : a.eval s = v) (hx : a.eval x = .slice (some ⟨g, 0, none⟩) m c) (hm : ys.length = m)
    (hown : Y.ownsRow base 5 1 v bs.length (u8s bs)) (hl : ∀ j u, (u8s ys)[j]? = some u → Y.cell? ((⟨g, 0, none⟩ : Addr).add j) = some u) (hsz : bs.length + ys.length ≤ 60000) (hbase : base ≤ Y.heap.size)
    (h : ∀ v' w', w'.ownsRow base 5 1 v' (bs ++ ys).length (u8s (bs ++ ys)) → Below base Y w' → K (a.put o.dst v') w') :
    if Region.wanted o (yielded ops a.tmps) = true then Oper.wp Try.prog o a Y K Q else E := by
  obtain ⟨i0, hi, hz0, hz1, hz2⟩ := info_parts Try.infoByte
  refine step_append_own hg s x 29 ho base 5 i0 (.int .u8 0) 1 1 Try.underlying29 hi hz0 hz1 hz2 rfl (by decide) v bs.length _ hs hown ⟨g, 0, none⟩ m c (u8s ys) hx (by rw [u8s_len, hm, Nat.mul_one]) hl (u8s_one _) (by unfold maxLen; omega) (by omega) hbase ?_
  intro v' w' h1 h2 _
  refine h v' w' ?_ ((Below.refl base Y).grown h2 hbase (fun g hg' => (hown.lt g hg').1))
  rw [u8s_app, List.length_append, hm]
  exact h1
set_option maxHeartbeats 800000 in
theorem rwithin_t (n lo hi : Int) (w : World) (h : lo ≤ n ∧ n ≤ hi) : Calls Try.prog 37 #[.int .i64 n, .int .i64 lo, .int .i64 hi] w fun e w' => e = .returned (.bool true) ∧ w' = w := by
  have h1 : decide (lo ≤ n) = true := decide_eq_true h.1
  have h2 : decide (n ≤ hi) = true := decide_eq_true h.2
  go_enter Try.func37, Try.ntmps37
  go_wp2
  go_ret
  exact ⟨rfl, rfl⟩
set_option maxHeartbeats 800000 in
theorem rwithin_f (n lo hi : Int) (w : World) (h : ¬ (lo ≤ n ∧ n ≤ hi)) : Calls Try.prog 37 #[.int .i64 n, .int .i64 lo, .int .i64 hi] w fun e w' => e = .returned (.bool false) ∧ w' = w := by
  by_cases h1 : lo ≤ n
  · have h1' : decide (lo ≤ n) = true := decide_eq_true h1
    have h2 : decide (n ≤ hi) = false := decide_eq_false (fun h' => h ⟨h1, h'⟩)
    clear h h1
    go_enter Try.func37, Try.ntmps37
    go_wp2
    go_ret
    exact ⟨rfl, rfl⟩
  · have h1' : decide (lo ≤ n) = false := decide_eq_false h1
    clear h h1
    go_enter Try.func37, Try.ntmps37
    go_wp2
    go_ret
    exact ⟨rfl, rfl⟩
theorem pk_wrap (nb : Nat) (lb : nb ≤ 2500) : IntKind.u8.wrap (IntKind.i64.wrap (((nb : Int) + 7).tdiv 8)) = ((packed nb % 256 : Nat) : Int) := by
  have h : ((nb : Int) + 7).tdiv 8 = (packed nb : Int) := by
    rw [Int.tdiv_eq_ediv_of_nonneg (by omega)]
    unfold packed
    omega
  rw [h, IntKind.wrap_i64, IntKind.wrap_u8]
  have : packed nb ≤ 1000 := by unfold packed; omega
  omega
theorem dbl_wrap (nr : Nat) : IntKind.u8.wrap (2 * (nr : Int)) = ((2 * nr % 256 : Nat) : Int) := by
  rw [IntKind.wrap_u8]
  omega
theorem next_two_d {base : Nat} {bv : Value} {bs l : List Nat} {w : World} {a : Array Value} {n : Nat} (ha : a.toList = u16s l) (hn : n = l.length) (hw : Words l) (hsz : bs.length + 2 * l.length ≤ 1000000) (hown : w.ownsRow base 5 1 bv bs.length (u8s bs)) (hbase : base ≤ w.heap.size) :
    Calls Try.prog 36 #[bv, .slice (some ⟨w.heap.size, 0, none⟩) n n] (w.alloc (.cells a 22)).drew fun e w' => ∃ v', e = .returned v' ∧ w'.ownsRow base 5 1 v' (bs ++ wds l).length (u8s (bs ++ wds l)) ∧ Below base w w' :=
  (next_two (w := w.drew) ha hn hw hsz hown hbase).mono fun _ _ ⟨v', h1, h2, h3⟩ => ⟨v', h1, h2, ⟨h3.os, h3.tape, h3.output, h3.size, h3.block⟩⟩
/-- Words laid behind one byte, both literals. -/
theorem two_lit {X : World} {fn : Nat} {l : List Nat} {a : Array Value} {n : Nat} (ha : a.toList = u16s l) (hn : n = l.length) (hw : Words l) (hsz : 2 * l.length ≤ 1000) :
    Calls Try.prog 36 #[.slice (some ⟨X.heap.size, 0, none⟩) 1 1, .slice (some ⟨X.heap.size + 1, 0, none⟩) n n] ((X.alloc (.cells #[.int .u8 fn] 5)).alloc (.cells a 22)) fun e w' => ∃ v', e = .returned v' ∧ w'.ownsRow X.heap.size 5 1 v' ([fn] ++ wds l).length (u8s ([fn] ++ wds l)) ∧ Below X.heap.size X w' := by
  have h := next_two (base := X.heap.size) (bs := [fn]) (l := l) (n := n) (a := a) (w := X.alloc (.cells #[.int .u8 fn] 5)) ha hn hw (by simp; omega) (lit_own X fn) (by simp)
  rw [World.size_alloc] at h
  refine h.mono ?_
  rintro e w' ⟨v', rfl, h1, h2⟩
  exact ⟨v', rfl, h1, ((Below.refl _ X).alloc (Nat.le_refl _) _).trans h2⟩
theorem words_two {x y : Nat} (h : x < 65536) (h2 : y < 65536) : Words [x, y] := by intro t ht; simp at ht; omega
theorem hid_in {p : Prop} (h : p) : Hid p := h
/-- How the reference's Request and Reply end: with the bytes, or with the error 30. -/
def RefEnd (fits : Prop) (bytes : List Nat) (w : World) (e : Ending) (w' : World) : Prop :=
  Below w.heap.size w w' ∧ ((fits ∧ ∃ v', e = .returned (.tuple #[v', .int .i64 0]) ∧ w'.ownsRow w.heap.size 5 1 v' bytes.length (u8s bytes)) ∨ (¬ fits ∧ e = .returned (.tuple #[.slice none 0 0, .int .i64 30])))
theorem RefEnd.no {fits : Prop} {bytes : List Nat} {w w' : World} {e : Ending} (h : ¬ fits) (he : e = .returned (.tuple #[.slice none 0 0, .int .i64 30])) (hb : Below w.heap.size w w') : RefEnd fits bytes w e w' := ⟨hb, Or.inr ⟨h, he⟩⟩
theorem RefEnd.yes {fits : Prop} {bytes : List Nat} {w w' : World} {e : Ending} {v' : Value} (h : fits) (he : e = .returned (.tuple #[v', .int .i64 0])) (ho : w'.ownsRow w.heap.size 5 1 v' bytes.length (u8s bytes)) (hb : Below w.heap.size w w') : RefEnd fits bytes w e w' := ⟨hb, Or.inl ⟨h, v', he, ho⟩⟩
open Go.RowKit
open Pdu
/-- append to a row of the call's own, as one step of a region that draws; where the new slice lies. -/
theorem step_append_own_at {P : Program} {ops : Array Oper} {o : Oper} {a : Act} {w : World} {K : Act → World → Prop} {Q : Exit → Act → World → Prop} {E : Prop}
    (hg : o.guard = none) (s x : Operand) (t : TypeId) (ho : o.op = .call { callee := .builtin .append, args := #[s, x], argTypes := #[t, t] })
    (base : Nat) (e : TypeId) (i : TypeInfo) (z : Value) (size bytes : Nat) (ht : P.underlying t = some (.slice e)) (hi : P.info? e = some i) (hz : i.zero = some z)
    (hsize : i.size = size) (hby : i.bytes = bytes) (hzs : z.cells.size = size) (hsz : 0 < size)
    (v : Value) (n : Nat) (xs : List Value) (hs : a.eval s = v) (hown : w.ownsRow base e size v n xs)
    (ad : Addr) (m c : Nat) (news : List Value) (hx : a.eval x = .slice (some ad) m c) (hl : news.length = m * size) (hnews : ∀ j u, news[j]? = some u → w.cell? (ad.add j) = some u) (h1 : ∀ u ∈ news, u.oneCell' = true)
    (h63 : n + m ≤ maxLen) (hbytes : (n + m) * bytes ≤ 140737488355328) (hbase : base ≤ w.heap.size)
    (h : ∀ v' w', w'.ownsRow base e size v' (n + m) (xs ++ news) → w.grownBy w' v.ownBlock → (v' = .slice none 0 0 ↔ v = .slice none 0 0 ∧ m = 0) → (v'.ownBlock = v.ownBlock ∨ v'.ownBlock = some w.heap.size) → K (a.put o.dst v') w') :
    if Region.wanted o (yielded ops a.tmps) = true then Oper.wp P o a w K Q else E := by
  rw [if_pos (by simp [Region.wanted, hg])]
  obtain ⟨v', w', hr, h2, h3, h4, h5⟩ := run_append_own_at (P := P) w base t o.type e i z size bytes ht hi hz hsize hby hzs hsz v n xs hown ad m c news hl hnews h1 h63 hbytes hbase
  unfold Oper.wp execOp
  simp only [ho, resolve, invoke, builtin, Sem.run_bind, Sem.run_pure, Result.andThen_ok, List.map_toArray, List.map_cons, List.map_nil, hs, hx, hr]
  exact h v' w' h2 h3 h4 h5
/-- All blocks that there were, but the one that the slice bv owns, are as they were. -/
def Others (bv : Value) (w w' : World) : Prop := ∀ j, j < w.heap.size → bv.ownBlock ≠ some j → w'.heap[j]? = w.heap[j]?
/-- The slice v lies where bv lay, or in a new block. -/
def Where (bv : Value) (w : World) (v : Value) : Prop := v.ownBlock = bv.ownBlock ∨ ∃ g, v.ownBlock = some g ∧ w.heap.size ≤ g
theorem others_step {bv v v' : Value} {w wr w1 : World} {o : Obj} (h : Others bv w wr) (k : Where bv w v) (hs : w.heap.size ≤ wr.heap.size) (hg : (wr.alloc o).grownBy w1 v.ownBlock) (hat : v'.ownBlock = v.ownBlock ∨ v'.ownBlock = some (wr.heap.size + 1)) : Others bv w w1 ∧ Where bv w v' := by
  constructor
  · intro j hj hne
    rw [hg.block j (by simp; omega) ?_, Below.heap_alloc wr o j (by omega), h j hj hne]
    intro e
    rcases k with k | ⟨g, k, hg'⟩
    · exact hne (k.symm.trans e.symm)
    · rw [k] at e
      simp only [Option.some.injEq] at e
      omega
  · rcases hat with hat | hat
    · rcases k with k | ⟨g, k, hg'⟩
      · exact Or.inl (hat.trans k)
      · exact Or.inr ⟨g, hat.trans k, hg'⟩
    · exact Or.inr ⟨_, hat, by omega⟩
set_option maxHeartbeats 1600000 in
theorem two_at2 (base lb lo m lc : Nat) (bv : Value) (bs l : List Nat) (w : World) (hl : m = l.length) (hw : Words l) (hsz : bs.length + 2 * m ≤ 1000000)
    (hown : w.ownsRow base 5 1 bv bs.length (u8s bs)) (hlies : Lies w lb lo (u16s l)) (hoff : lb < base ∨ ∃ cs fl, w.heap[lb]? = some (.cells cs 22 fl)) (hlb : lb < w.heap.size) (hbase : base ≤ w.heap.size) :
    Calls Try.prog 36 #[bv, .slice (some ⟨lb, lo, none⟩) m lc] w fun e w' => ∃ v', e = .returned v' ∧ w'.ownsRow base 5 1 v' (bs.length + 2 * m) (u8s (bs ++ wds l)) ∧ Below base w w' ∧ Others bv w w' := by
  obtain ⟨i0, hi, hz0, hz1, hz2⟩ := info_parts Try.infoByte
  have HN : Hid (m = l.length) := hl
  have HL : Hid (Lies w lb lo (u16s l)) := hlies
  have HO : Hid (w.ownsRow base 5 1 bv bs.length (u8s bs)) := hown
  have HF : Hid (lb < base ∨ ∃ cs fl, w.heap[lb]? = some (.cells cs 22 fl)) := hoff
  clear hl hlies hown hoff
  go_enter Try.func36, Try.ntmps36
  go_wp2
  go_loopw [0, 5] (fun v i wr => ∃ k : Nat, k ≤ m ∧ i = .int .i64 k ∧ Put base lb w wr v bs l k ∧ Others bv w wr ∧ Where bv w v) (fun _ i _ => m - (intOf i).toNat)
  case atStart => exact ⟨0, by omega, rfl, ⟨by simpa [wds] using HO.out, Below.refl _ _, rfl⟩, fun _ _ _ => rfl, Or.inl rfl⟩
  case round =>
    obtain ⟨k, hk, rfl, HP, OT, WH⟩ := hrel
    have OT : Hid (Others bv w wr) := OT
    have WH : Hid (Where bv w u0) := WH
    obtain ⟨x, hx⟩ : ∃ x, x = l.getD k 0 := ⟨_, rfl⟩
    have hx16 : x < 65536 := by rw [hx]; exact hw.at k
    have hcell : k < m → wr.cell? ⟨lb, lo + k, none⟩ = some (.int .u16 x) := fun h => by
      have hk' : k < l.length := by rw [← (show m = _ from HN)]; exact h
      rw [hx, World.cell?_of_block (w := w) (a := ⟨lb, lo + k, none⟩) HP.2.2]
      exact HL.out.u16 k hk'
    have HX : Hid (x = l.getD k 0) := hx
    have HP : Hid (Put base lb w wr u0 bs l k) := HP
    clear hx
    have hsize : base ≤ wr.heap.size := by have := HP.out.2.1.size; omega
    go_wp2
    · have hkm : k < m := by assumption
      have hc := hcell hkm
      have e1 : IntKind.u8.wrap ((x : Int) / 256) = (x : Int) / 256 := by rw [IntKind.wrap_u8]; omega
      have e2 : IntKind.u8.wrap (x : Int) = (x : Int) % 256 := by rw [IntKind.wrap_u8]
      clear hcell
      go_region_law (refine step_append_own_at rfl (.tmp 12) (.tmp 24) 29 rfl base 5 i0 (.int .u8 0) 1 1 Try.underlying29 hi hz0 hz1 hz2 rfl (by decide) _ (bs.length + 2 * k) _ rfl (HP.out.1.alloc _).drew ⟨wr.heap.size, 0, none⟩ 2 2 [.int .u8 ((x : Int) / 256), .int .u8 ((x : Int) % 256)] rfl rfl (two_cells wr _ _ _) (two_one _ _ _) (by unfold maxLen; omega) (by omega) (by simp; omega) ?_; intro v' w1 hown' hgrow hnil hat)
      all_goals
        have hg : (wr.alloc (.cells #[.int .u8 ((x : Int) / 256), .int .u8 ((x : Int) % 256)] 5)).grownBy w1 u0.ownBlock := ⟨hgrow.os, hgrow.tape, hgrow.output, hgrow.size, hgrow.block⟩
        have HR : Hid (Put base lb w w1 v' bs l (k + 1)) := put_step HF hlb hbase (by rw [← (show m = _ from HN)]; exact hkm) HX HP (by rw [wd_u8s]; exact hown') hg
        have HO2 : Hid (Others bv w w1 ∧ Where bv w v') := others_step OT.out WH.out HP.out.2.1.size hg (by rcases hat with h | h; exact Or.inl h; exact Or.inr (h.trans (congrArg some (World.size_alloc wr _))))
        clear hown' hgrow hg hnil hat HP hc OT WH
        go_wp2
        go_roundw
        case rel => exact ⟨k + 1, by omega, by go_num, HR, HO2.out.1, HO2.out.2⟩
        case measure => simp [intOf]; omega
    · obtain rfl : k = m := by omega
      go_ret
      have hm : k = l.length := HN
      refine ⟨_, rfl, ?_, HP.out.2.1, OT.out⟩
      have h1 := HP.out.1
      rw [hm, List.take_length, ← hm] at h1
      exact h1
/-- Words behind bytes, both in one world with whatever stands beside. -/
theorem two_lies {base g n c : Nat} {bv : Value} {bs l : List Nat} {W : World} (hn : n = l.length) (hw : Words l) (hsz : bs.length + 2 * l.length ≤ 1000000) (hown : W.ownsRow base 5 1 bv bs.length (u8s bs)) (hL : Lies W g 0 (u16s l)) (hoff : ∃ cs fl, W.heap[g]? = some (.cells cs 22 fl)) (hg : g < W.heap.size) (hbase : base ≤ W.heap.size) :
    Calls Try.prog 36 #[bv, .slice (some ⟨g, 0, none⟩) n c] W fun e w' => ∃ v', e = .returned v' ∧ w'.ownsRow base 5 1 v' (bs ++ wds l).length (u8s (bs ++ wds l)) ∧ Below base W w' ∧ Others bv W w' := by
  have hlen : (bs ++ wds l).length = bs.length + 2 * n := by rw [List.length_append, wds_length, hn]
  rw [hlen]
  exact two_at2 base g 0 n c bv bs l W hn hw (by omega) hown hL (Or.inr hoff) hg hbase
theorem lies_new (w : World) (l : List Nat) (a : Array Value) (ha : a.toList = u16s l) : Lies (w.alloc (.cells a 22)) w.heap.size 0 (u16s l) := by
  intro k u hk
  rw [World.cell?_alloc_new, Nat.zero_add, ← Array.getElem?_toList, ha]
  exact hk
/-- The words' literal, then the byte's. -/
theorem two_B {base : Nat} {bv : Value} {bs l : List Nat} {w : World} {a : Array Value} {n : Nat} {z : Int} (ha : a.toList = u16s l) (hn : n = l.length) (hw : Words l) (hsz : bs.length + 2 * l.length ≤ 1000000) (hown : w.ownsRow base 5 1 bv bs.length (u8s bs)) (hbase : base ≤ w.heap.size) :
    Calls Try.prog 36 #[bv, .slice (some ⟨w.heap.size, 0, none⟩) n n] ((w.alloc (.cells a 22)).alloc (.cells #[.int .u8 z] 5)).drew fun e w' => ∃ v', e = .returned v' ∧ w'.ownsRow base 5 1 v' (bs ++ wds l).length (u8s (bs ++ wds l)) ∧ Below base w w' ∧ w'.cell? ⟨w.heap.size + 1, 0, none⟩ = some (.int .u8 z) := by
  have hb2 : (w.alloc (.cells a 22)).heap.size = w.heap.size + 1 := World.size_alloc _ _
  have k : Below w.heap.size w ((w.alloc (.cells a 22)).alloc (.cells #[.int .u8 z] 5)).drew := (below_new (below_new (Below.refl _ w) _) _).drew
  refine (two_lies (W := ((w.alloc (.cells a 22)).alloc (.cells #[.int .u8 z] 5)).drew) hn hw hsz (own_below hown k (Nat.le_refl _)) (((lies_new w l a ha).below (below_new (Below.refl _ _) _)).below (Below.refl _ _).drew) ⟨a, _, (Below.heap_alloc _ _ _ (by rw [hb2]; omega)).trans (heap_alloc_new w _)⟩ ?_ ?_).mono ?_
  · show w.heap.size < ((w.alloc (.cells a 22)).alloc (.cells #[.int .u8 z] 5)).heap.size
    rw [World.size_alloc, hb2]; omega
  · exact Nat.le_trans hbase k.size
  rintro e w' ⟨v', rfl, h1, h2, h3⟩
  refine ⟨v', rfl, h1, (k.mono hbase).trans h2, ?_⟩
  have h4 := h3 (w.heap.size + 1) (by show _ < ((w.alloc (.cells a 22)).alloc (.cells #[.int .u8 z] 5)).heap.size; rw [World.size_alloc, hb2]; omega) (fun e => by have := (hown.lt _ e).2; omega)
  rw [World.cell?_of_block (a := ⟨w.heap.size + 1, 0, none⟩) h4]
  have h5 := World.cell?_alloc_new (w.alloc (.cells a 22)) #[.int .u8 z] 5 0
  rw [hb2] at h5
  exact h5
/-- The byte's literal, then the words'. -/
theorem two_C {base : Nat} {bv : Value} {bs l : List Nat} {w : World} {a : Array Value} {n : Nat} {z : Int} (ha : a.toList = u16s l) (hn : n = l.length) (hw : Words l) (hsz : bs.length + 2 * l.length ≤ 1000000) (hown : w.ownsRow base 5 1 bv bs.length (u8s bs)) (hbase : base ≤ w.heap.size) :
    Calls Try.prog 36 #[bv, .slice (some ⟨w.heap.size + 1, 0, none⟩) n n] ((w.alloc (.cells #[.int .u8 z] 5)).alloc (.cells a 22)).drew fun e w' => ∃ v', e = .returned v' ∧ w'.ownsRow base 5 1 v' (bs ++ wds l).length (u8s (bs ++ wds l)) ∧ Below base w w' ∧ w'.cell? ⟨w.heap.size, 0, none⟩ = some (.int .u8 z) := by
  have hb2 : (w.alloc (.cells #[.int .u8 z] 5)).heap.size = w.heap.size + 1 := World.size_alloc _ _
  have k : Below w.heap.size w ((w.alloc (.cells #[.int .u8 z] 5)).alloc (.cells a 22)).drew := (below_new (below_new (Below.refl _ w) _) _).drew
  have hl := lies_new (w.alloc (.cells #[.int .u8 z] 5)) l a ha
  have hn2 := heap_alloc_new (w.alloc (.cells #[.int .u8 z] 5)) (.cells a 22)
  rw [hb2] at hl hn2
  refine (two_lies (W := ((w.alloc (.cells #[.int .u8 z] 5)).alloc (.cells a 22)).drew) hn hw hsz (own_below hown k (Nat.le_refl _)) (hl.below (Below.refl _ _).drew) ⟨a, _, hn2⟩ ?_ ?_).mono ?_
  · show w.heap.size + 1 < ((w.alloc (.cells #[.int .u8 z] 5)).alloc (.cells a 22)).heap.size
    rw [World.size_alloc, hb2]; omega
  · exact Nat.le_trans hbase k.size
  rintro e w' ⟨v', rfl, h1, h2, h3⟩
  refine ⟨v', rfl, h1, (k.mono hbase).trans h2, ?_⟩
  have h4 := h3 w.heap.size (by show _ < ((w.alloc (.cells #[.int .u8 z] 5)).alloc (.cells a 22)).heap.size; rw [World.size_alloc, hb2]; omega) (fun e => by have := (hown.lt _ e).2; omega)
  rw [World.cell?_of_block (a := ⟨w.heap.size, 0, none⟩) h4]
  show ((w.alloc (.cells #[.int .u8 z] 5)).alloc (.cells a 22)).cell? ⟨w.heap.size, 0, none⟩ = _
  rw [World.cell?_alloc_past _ _ _ (by simp)]
  exact World.cell?_alloc_new w #[.int .u8 z] 5 0
theorem one_lit {W : World} {g z : Nat} {zi : Int} (h : W.cell? ⟨g, 0, none⟩ = some (.int .u8 zi)) (hz : zi = (z : Int)) : ∀ j u, (u8s [z])[j]? = some u → W.cell? ((⟨g, 0, none⟩ : Addr).add j) = some u := by
  intro j u hj
  match j, hj with
  | 0, hj =>
    simp [u8s] at hj
    subst hj
    rw [hz] at h
    simpa [Addr.add] using h
/-- One byte laid behind bytes, as a step of a region, from a world in which nothing was drawn since. -/
theorem step_push0 {ops : Array Oper} {o : Oper} {a : Act} {Y : World} {K : Act → World → Prop} {Q : Exit → Act → World → Prop} {E : Prop}
    (hg : o.guard = none) (s x : Operand) (ho : o.op = .call { callee := .builtin .append, args := #[s, x], argTypes := #[29, 29] })
    (base : Nat) (v : Value) (bs : List Nat) (z : Nat) (zi : Int) (hz : zi = (z : Int)) (hs : a.eval s = v) (hx : a.eval x = .slice (some ⟨Y.heap.size, 0, none⟩) 1 1)
    (hown : Y.ownsRow base 5 1 v bs.length (u8s bs)) (hsz : bs.length ≤ 50000) (hbase : base ≤ Y.heap.size)
    (h : ∀ v' w', w'.ownsRow base 5 1 v' (bs ++ [z]).length (u8s (bs ++ [z])) → Below base Y w' → K (a.put o.dst v') w') :
    if Region.wanted o (yielded ops a.tmps) = true then Oper.wp Try.prog o a (Y.alloc (.cells #[.int .u8 zi] 5)) K Q else E := by
  refine step_join hg s x ho base v bs [z] Y.heap.size 1 1 hs hx rfl (hown.alloc _) (one_lit (by simp) hz) (by simp; omega) (by simp; omega) ?_
  intro v' w' h1 h2
  exact h v' w' h1 (((Below.refl base Y).alloc hbase _).trans h2)
end Go.Proofs.Ytehbbkdiekgpbaa
