/- Requests and replies in memory; first words. -/
import Derived.Test.YtehbbkdiekgpbaaWk10
import Derived.Test.YtehbbkdiekgpbaaWk11
import Derived.Laws.OwnMore
namespace Go.Proofs.Ytehbbkdiekgpbaa
open Go.RowKit
open Pdu
set_option maxHeartbeats 800000 in
theorem fits_eq (fn n a2 nb nr : Nat) (h : a2 < 65536) : (known fn && inside a2 ((rlim fn).getD 2 0) ((rlim fn).getD 3 0) && inside n ((rlim fn).getD 4 0) ((rlim fn).getD 5 0) && inside nb ((rlim fn).getD 6 0) ((rlim fn).getD 7 0) && inside nr ((rlim fn).getD 8 0) ((rlim fn).getD 9 0)) = decide (FitsN fn n a2 nb nr) := by
  rw [Bool.eq_iff_iff, decide_eq_true_iff]
  simp only [Bool.and_eq_true, inside_iff]
  rcases known_cases fn with rfl | rfl | rfl | rfl | rfl | rfl | rfl | rfl | rfl | rfl | hk
  · change ((((true = true ∧ (0 ≤ a2 ∧ a2 ≤ 0)) ∧ (1 ≤ n ∧ n ≤ 2000)) ∧ (0 ≤ nb ∧ nb ≤ 0)) ∧ (0 ≤ nr ∧ nr ≤ 0)) ↔ _
    unfold FitsN
    simp
    omega
  · change ((((true = true ∧ (0 ≤ a2 ∧ a2 ≤ 0)) ∧ (1 ≤ n ∧ n ≤ 2000)) ∧ (0 ≤ nb ∧ nb ≤ 0)) ∧ (0 ≤ nr ∧ nr ≤ 0)) ↔ _
    unfold FitsN
    simp
    omega
  · change ((((true = true ∧ (0 ≤ a2 ∧ a2 ≤ 0)) ∧ (1 ≤ n ∧ n ≤ 125)) ∧ (0 ≤ nb ∧ nb ≤ 0)) ∧ (0 ≤ nr ∧ nr ≤ 0)) ↔ _
    unfold FitsN
    simp
    omega
  · change ((((true = true ∧ (0 ≤ a2 ∧ a2 ≤ 0)) ∧ (1 ≤ n ∧ n ≤ 125)) ∧ (0 ≤ nb ∧ nb ≤ 0)) ∧ (0 ≤ nr ∧ nr ≤ 0)) ↔ _
    unfold FitsN
    simp
    omega
  · change ((((true = true ∧ (0 ≤ a2 ∧ a2 ≤ 0)) ∧ (0 ≤ n ∧ n ≤ 0)) ∧ (1 ≤ nb ∧ nb ≤ 1)) ∧ (0 ≤ nr ∧ nr ≤ 0)) ↔ _
    unfold FitsN
    simp
    omega
  · change ((((true = true ∧ (0 ≤ a2 ∧ a2 ≤ 0)) ∧ (0 ≤ n ∧ n ≤ 0)) ∧ (0 ≤ nb ∧ nb ≤ 0)) ∧ (1 ≤ nr ∧ nr ≤ 1)) ↔ _
    unfold FitsN
    simp
    omega
  · change ((((true = true ∧ (0 ≤ a2 ∧ a2 ≤ 0)) ∧ (0 ≤ n ∧ n ≤ 0)) ∧ (1 ≤ nb ∧ nb ≤ 1968)) ∧ (0 ≤ nr ∧ nr ≤ 0)) ↔ _
    unfold FitsN
    simp
    omega
  · change ((((true = true ∧ (0 ≤ a2 ∧ a2 ≤ 0)) ∧ (0 ≤ n ∧ n ≤ 0)) ∧ (0 ≤ nb ∧ nb ≤ 0)) ∧ (1 ≤ nr ∧ nr ≤ 123)) ↔ _
    unfold FitsN
    simp
    omega
  · change ((((true = true ∧ (0 ≤ a2 ∧ a2 ≤ 0)) ∧ (0 ≤ n ∧ n ≤ 0)) ∧ (0 ≤ nb ∧ nb ≤ 0)) ∧ (2 ≤ nr ∧ nr ≤ 2)) ↔ _
    unfold FitsN
    simp
    omega
  · change ((((true = true ∧ (0 ≤ a2 ∧ a2 ≤ 65535)) ∧ (1 ≤ n ∧ n ≤ 125)) ∧ (0 ≤ nb ∧ nb ≤ 0)) ∧ (1 ≤ nr ∧ nr ≤ 121)) ↔ _
    unfold FitsN
    simp
    omega
  · have e : known fn = false := by unfold known; rw [decide_eq_false]; omega
    rw [e]
    constructor
    · intro h; simp at h
    · intro h; unfold FitsN at h; omega
set_option maxHeartbeats 800000 in
theorem rfits_eq (fn addr n nb nr : Nat) (h : addr < 65536) : (known fn && inside addr ((plim fn).getD 0 0) ((plim fn).getD 1 0) && inside n ((plim fn).getD 4 0) ((plim fn).getD 5 0) && inside nb ((plim fn).getD 6 0) ((plim fn).getD 7 0) && inside nr ((plim fn).getD 8 0) ((plim fn).getD 9 0)) = decide (RFitsN fn 0 addr n nb nr) := by
  rw [Bool.eq_iff_iff, decide_eq_true_iff]
  simp only [Bool.and_eq_true, inside_iff]
  rcases known_cases fn with rfl | rfl | rfl | rfl | rfl | rfl | rfl | rfl | rfl | rfl | hk
  · change ((((true = true ∧ (0 ≤ addr ∧ addr ≤ 0)) ∧ (0 ≤ n ∧ n ≤ 0)) ∧ (1 ≤ nb ∧ nb ≤ 2000)) ∧ (0 ≤ nr ∧ nr ≤ 0)) ↔ _
    unfold RFitsN
    simp
    omega
  · change ((((true = true ∧ (0 ≤ addr ∧ addr ≤ 0)) ∧ (0 ≤ n ∧ n ≤ 0)) ∧ (1 ≤ nb ∧ nb ≤ 2000)) ∧ (0 ≤ nr ∧ nr ≤ 0)) ↔ _
    unfold RFitsN
    simp
    omega
  · change ((((true = true ∧ (0 ≤ addr ∧ addr ≤ 0)) ∧ (0 ≤ n ∧ n ≤ 0)) ∧ (0 ≤ nb ∧ nb ≤ 0)) ∧ (1 ≤ nr ∧ nr ≤ 125)) ↔ _
    unfold RFitsN
    simp
    omega
  · change ((((true = true ∧ (0 ≤ addr ∧ addr ≤ 0)) ∧ (0 ≤ n ∧ n ≤ 0)) ∧ (0 ≤ nb ∧ nb ≤ 0)) ∧ (1 ≤ nr ∧ nr ≤ 125)) ↔ _
    unfold RFitsN
    simp
    omega
  · change ((((true = true ∧ (0 ≤ addr ∧ addr ≤ 65535)) ∧ (0 ≤ n ∧ n ≤ 0)) ∧ (1 ≤ nb ∧ nb ≤ 1)) ∧ (0 ≤ nr ∧ nr ≤ 0)) ↔ _
    unfold RFitsN
    simp
    omega
  · change ((((true = true ∧ (0 ≤ addr ∧ addr ≤ 65535)) ∧ (0 ≤ n ∧ n ≤ 0)) ∧ (0 ≤ nb ∧ nb ≤ 0)) ∧ (1 ≤ nr ∧ nr ≤ 1)) ↔ _
    unfold RFitsN
    simp
    omega
  · change ((((true = true ∧ (0 ≤ addr ∧ addr ≤ 65535)) ∧ (1 ≤ n ∧ n ≤ 1968)) ∧ (0 ≤ nb ∧ nb ≤ 0)) ∧ (0 ≤ nr ∧ nr ≤ 0)) ↔ _
    unfold RFitsN
    simp
    omega
  · change ((((true = true ∧ (0 ≤ addr ∧ addr ≤ 65535)) ∧ (1 ≤ n ∧ n ≤ 123)) ∧ (0 ≤ nb ∧ nb ≤ 0)) ∧ (0 ≤ nr ∧ nr ≤ 0)) ↔ _
    unfold RFitsN
    simp
    omega
  · change ((((true = true ∧ (0 ≤ addr ∧ addr ≤ 65535)) ∧ (0 ≤ n ∧ n ≤ 0)) ∧ (0 ≤ nb ∧ nb ≤ 0)) ∧ (2 ≤ nr ∧ nr ≤ 2)) ↔ _
    unfold RFitsN
    simp
    omega
  · change ((((true = true ∧ (0 ≤ addr ∧ addr ≤ 0)) ∧ (0 ≤ n ∧ n ≤ 0)) ∧ (0 ≤ nb ∧ nb ≤ 0)) ∧ (1 ≤ nr ∧ nr ≤ 125)) ↔ _
    unfold RFitsN
    simp
    omega
  · have e : known fn = false := by unfold known; rw [decide_eq_false]; omega
    rw [e]
    constructor
    · intro h; simp at h
    · intro h; unfold RFitsN at h; omega
def IsRq (w : World) (v : Value) (q : Rq) : Prop := q.Ok ∧ ∃ bv rv, v = rqV q.fn q.addr q.n q.addr2 bv rv ∧ Sl w bv (bls q.bits) ∧ Sl w rv (u16s q.regs)
def IsRp (w : World) (v : Value) (r : Rp) : Prop := r.Ok ∧ ∃ bv rv, v = rpV r.fn r.exc r.addr r.n bv rv ∧ Sl w bv (bls r.bits) ∧ Sl w rv (u16s r.regs)
theorem IsRq.below {w u : World} {v : Value} {q : Rq} (h : IsRq w v q) (k : Below w.heap.size w u) : IsRq u v q := by
  obtain ⟨ok, bv, rv, rfl, h1, h2⟩ := h
  exact ⟨ok, bv, rv, rfl, h1.below k, h2.below k⟩
theorem IsRp.below {w u : World} {v : Value} {q : Rp} (h : IsRp w v q) (k : Below w.heap.size w u) : IsRp u v q := by
  obtain ⟨ok, bv, rv, rfl, h1, h2⟩ := h
  exact ⟨ok, bv, rv, rfl, h1.below k, h2.below k⟩
theorem fits_c {v : Value} {q : Rq} {w : World} (h : IsRq w v q) : Calls Try.prog 31 #[v] w fun e w' => e = .returned (.bool (decide q.Fits)) ∧ Below w.heap.size w w' := by
  obtain ⟨ok, bv, rv, rfl, h1, h2⟩ := h
  obtain ⟨bo, bc, rfl⟩ := h1.shape
  obtain ⟨ro, rc, rfl⟩ := h2.shape
  rw [show (decide q.Fits) = decide (FitsN q.fn q.n q.addr2 q.bits.length q.regs.length) from rfl, ← fits_eq _ _ _ _ _ ok.addr2, bls_len, u16s_len]
  exact fitsq_c _ _ _ _ _ _ _ _ _ _ _
/-- The six cells of a boxed struct. -/
structure Box (w : World) (g : Nat) (x0 x1 x2 x3 x4 x5 : Value) : Prop where
  c0 : w.cell? ⟨g, 0, none⟩ = some x0
  c1 : w.cell? ⟨g, 1, none⟩ = some x1
  c2 : w.cell? ⟨g, 2, none⟩ = some x2
  c3 : w.cell? ⟨g, 3, none⟩ = some x3
  c4 : w.cell? ⟨g, 4, none⟩ = some x4
  c5 : w.cell? ⟨g, 5, none⟩ = some x5
theorem Box.below {w u : World} {g B : Nat} {x0 x1 x2 x3 x4 x5 : Value} (h : Box w g x0 x1 x2 x3 x4 x5) (k : Below B w u) (hg : g < B) : Box u g x0 x1 x2 x3 x4 x5 :=
  ⟨(k.cell (p := ⟨g, 0, none⟩) hg).trans h.c0, (k.cell (p := ⟨g, 1, none⟩) hg).trans h.c1, (k.cell (p := ⟨g, 2, none⟩) hg).trans h.c2, (k.cell (p := ⟨g, 3, none⟩) hg).trans h.c3, (k.cell (p := ⟨g, 4, none⟩) hg).trans h.c4, (k.cell (p := ⟨g, 5, none⟩) hg).trans h.c5⟩
theorem Box.new (w : World) (x0 x1 x2 x3 x4 x5 : Value) (e : TypeId) : Box (w.alloc (.cells #[x0, x1, x2, x3, x4, x5] e)) w.heap.size x0 x1 x2 x3 x4 x5 := by
  constructor <;> simp
theorem box_lt {w w1 : World} {o : Obj} {B : Nat} (h : Below B (w.alloc o) w1) : w.heap.size < w1.heap.size := by
  have := h.size
  rw [World.size_alloc] at this
  omega
theorem lit_own (w : World) (x : Nat) : (w.alloc (.cells #[.int .u8 x] 5)).ownsRow w.heap.size 5 1 (.slice (some ⟨w.heap.size, 0, none⟩) 1 1) 1 (u8s [x]) :=
  World.ownsRow_lit w #[.int .u8 (x : Int)] 1 (Nat.le_refl _) (by unfold maxLen; omega) rfl
/-- A literal of words, in a block of its own. -/
theorem lit_words (w : World) (l : List Nat) (a : Array Value) (n : Nat) (ha : a.toList = u16s l) (hn : n = l.length) : Sl (w.alloc (.cells a 22)) (.slice (some ⟨w.heap.size, 0, none⟩) n n) (u16s l) := by
  refine Or.inr ⟨w.heap.size, 0, n, by rw [u16s_len, hn], by rw [u16s_len, hn]; exact Nat.le_refl _, fun k u hk => ?_⟩
  rw [World.cell?_alloc_new, Nat.zero_add, ← Array.getElem?_toList, ha]
  exact hk
theorem lit_off (w : World) (base : Nat) (a : Array Value) (n m : Nat) (vs : List Value) : Off base (w.alloc (.cells a 22)) (.slice (some ⟨w.heap.size, 0, none⟩) n m) vs := by
  intro _ a' n' c' hv
  simp only [Value.slice.injEq, Option.some.injEq] at hv
  rw [← hv.1]
  exact Or.inr ⟨a, _, heap_alloc_new w _⟩
theorem next_put {base : Nat} {bv : Value} {bs l : List Nat} {w : World} {a : Array Value} {n : Nat} (ha : a.toList = u16s l) (hn : n = l.length) (hw : Words l) (hsz : bs.length + 2 * l.length ≤ 1000000) (hown : w.ownsRow base 5 1 bv bs.length (u8s bs)) (hbase : base ≤ w.heap.size) :
    Calls Try.prog 32 #[bv, .slice (some ⟨w.heap.size, 0, none⟩) n n] (w.alloc (.cells a 22)) fun e w' => ∃ v', e = .returned v' ∧ w'.ownsRow base 5 1 v' (bs ++ wds l).length (u8s (bs ++ wds l)) ∧ Below base w w' := by
  refine (putWords_c hw hsz (hown.alloc _) (lit_words w l a n ha hn) (lit_off w base a n n _) (by simp; omega)).mono ?_
  rintro e w' ⟨v', rfl, h1, h2⟩
  exact ⟨v', rfl, h1, ((Below.refl base w).alloc hbase _).trans h2⟩
theorem next_two {base : Nat} {bv : Value} {bs l : List Nat} {w : World} {a : Array Value} {n : Nat} (ha : a.toList = u16s l) (hn : n = l.length) (hw : Words l) (hsz : bs.length + 2 * l.length ≤ 1000000) (hown : w.ownsRow base 5 1 bv bs.length (u8s bs)) (hbase : base ≤ w.heap.size) :
    Calls Try.prog 36 #[bv, .slice (some ⟨w.heap.size, 0, none⟩) n n] (w.alloc (.cells a 22)) fun e w' => ∃ v', e = .returned v' ∧ w'.ownsRow base 5 1 v' (bs ++ wds l).length (u8s (bs ++ wds l)) ∧ Below base w w' := by
  refine (two_c hw hsz (hown.alloc _) (lit_words w l a n ha hn) (lit_off w base a n n _) (by simp; omega)).mono ?_
  rintro e w' ⟨v', rfl, h1, h2⟩
  exact ⟨v', rfl, h1, ((Below.refl base w).alloc hbase _).trans h2⟩
theorem next_put_d {base : Nat} {bv : Value} {bs l : List Nat} {w : World} {a : Array Value} {n : Nat} (ha : a.toList = u16s l) (hn : n = l.length) (hw : Words l) (hsz : bs.length + 2 * l.length ≤ 1000000) (hown : w.ownsRow base 5 1 bv bs.length (u8s bs)) (hbase : base ≤ w.heap.size) :
    Calls Try.prog 32 #[bv, .slice (some ⟨w.heap.size, 0, none⟩) n n] (w.alloc (.cells a 22)).drew fun e w' => ∃ v', e = .returned v' ∧ w'.ownsRow base 5 1 v' (bs ++ wds l).length (u8s (bs ++ wds l)) ∧ Below base w w' :=
  (next_put (w := w.drew) ha hn hw hsz hown hbase).mono fun _ _ ⟨v', h1, h2, h3⟩ => ⟨v', h1, h2, ⟨h3.os, h3.tape, h3.output, h3.size, h3.block⟩⟩
theorem words_one {x : Nat} (h : x < 65536) : Words [x] := by intro y hy; simp at hy; omega
theorem words_three {x y z : Nat} (h : x < 65536) (h2 : y < 65536) (h3 : z < 65536) : Words [x, y, z] := by intro t ht; simp at ht; omega
theorem first_put {fn addr : Nat} (ha : addr < 65536) (w : World) :
    Calls Try.prog 32 #[.slice (some ⟨w.heap.size, 0, none⟩) 1 1, .slice (some ⟨w.heap.size + 1, 0, none⟩) 1 1] ((w.alloc (.cells #[.int .u8 fn] 5)).alloc (.cells #[.int .u16 addr] 22)) fun e w' => ∃ v', e = .returned v' ∧ w'.ownsRow w.heap.size 5 1 v' (fn :: wd addr).length (u8s (fn :: wd addr)) ∧ Below w.heap.size w w' := by
  have h := next_put (base := w.heap.size) (bs := [fn]) (l := [addr]) (n := 1) (a := #[.int .u16 addr]) (w := w.alloc (.cells #[.int .u8 fn] 5)) rfl rfl (words_one ha) (by simp) (lit_own w fn) (by simp)
  rw [World.size_alloc, wds_one] at h
  refine h.mono ?_
  rintro e w' ⟨v', rfl, h1, h2⟩
  exact ⟨v', rfl, h1, ((Below.refl _ w).alloc (Nat.le_refl _) _).trans h2⟩
theorem first_two {fn addr : Nat} (ha : addr < 65536) (w : World) :
    Calls Try.prog 36 #[.slice (some ⟨w.heap.size, 0, none⟩) 1 1, .slice (some ⟨w.heap.size + 1, 0, none⟩) 1 1] ((w.alloc (.cells #[.int .u8 fn] 5)).alloc (.cells #[.int .u16 addr] 22)) fun e w' => ∃ v', e = .returned v' ∧ w'.ownsRow w.heap.size 5 1 v' (fn :: wd addr).length (u8s (fn :: wd addr)) ∧ Below w.heap.size w w' := by
  have h := next_two (base := w.heap.size) (bs := [fn]) (l := [addr]) (n := 1) (a := #[.int .u16 addr]) (w := w.alloc (.cells #[.int .u8 fn] 5)) rfl rfl (words_one ha) (by simp) (lit_own w fn) (by simp)
  rw [World.size_alloc, wds_one] at h
  refine h.mono ?_
  rintro e w' ⟨v', rfl, h1, h2⟩
  exact ⟨v', rfl, h1, ((Below.refl _ w).alloc (Nat.le_refl _) _).trans h2⟩
theorem second_put {fn : Nat} {l : List Nat} {a : Array Value} {n : Nat} (ha : a.toList = u16s l) (hn : n = l.length) (hw : Words l) (hsz : 2 * l.length ≤ 1000) (w : World) :
    Calls Try.prog 32 #[.slice (some ⟨w.heap.size, 0, none⟩) 1 1, .slice (some ⟨w.heap.size + 1, 0, none⟩) n n] ((w.alloc (.cells #[.int .u8 fn] 5)).alloc (.cells a 22)) fun e w' => ∃ v', e = .returned v' ∧ w'.ownsRow w.heap.size 5 1 v' ([fn] ++ wds l).length (u8s ([fn] ++ wds l)) ∧ Below w.heap.size (w.alloc (.cells #[.int .u8 fn] 5)) w' := by
  have h := next_put (base := w.heap.size) (bs := [fn]) (l := l) (n := n) (a := a) (w := w.alloc (.cells #[.int .u8 fn] 5)) ha hn hw (by simp; omega) (lit_own w fn) (by simp)
  rw [World.size_alloc] at h
  exact h
theorem second_put_d {fn : Nat} {l : List Nat} {a : Array Value} {n : Nat} (ha : a.toList = u16s l) (hn : n = l.length) (hw : Words l) (hsz : 2 * l.length ≤ 1000) (w : World) :
    Calls Try.prog 32 #[.slice (some ⟨w.heap.size, 0, none⟩) 1 1, .slice (some ⟨w.heap.size + 1, 0, none⟩) n n] ((w.alloc (.cells #[.int .u8 fn] 5)).alloc (.cells a 22)).drew fun e w' => ∃ v', e = .returned v' ∧ w'.ownsRow w.heap.size 5 1 v' ([fn] ++ wds l).length (u8s ([fn] ++ wds l)) ∧ Below w.heap.size (w.alloc (.cells #[.int .u8 fn] 5)) w' := by
  have h := next_put_d (base := w.heap.size) (bs := [fn]) (l := l) (n := n) (a := a) (w := w.alloc (.cells #[.int .u8 fn] 5)) ha hn hw (by simp; omega) (lit_own w fn) (by simp)
  rw [World.size_alloc] at h
  exact h
end Go.Proofs.Ytehbbkdiekgpbaa
