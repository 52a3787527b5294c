/- A request taken apart: how it ends. · A request that was read, written again, in plain mathematics. -/
import Derived.Test.YtehbbkdiekgpbaaTRr
import Derived.Test.YtehbbkdiekgpbaaJ2
import Derived.Test.YtehbbkdiekgpbaaJ1
namespace Go.Proofs.Ytehbbkdiekgpbaa
open Go.RowKit
open Pdu
/-- What is taken out of the bytes, and whether they were whole. -/
def Took (bs : List Nat) (q : Rq) (t : Bool) : Prop := (IsReq bs → t = true ∧ q = readReq bs) ∧ (t = true → q.Fits → IsReq bs)
theorem six_far {Y : World} {g : Nat} {p : Addr} {v : Value} (h : Y.cell? p = some v) (hp : g ≠ p.block) (y0 y1 y2 y3 y4 y5 : Value) :
    ((((((Y.setCell ⟨g, 0, none⟩ y0).setCell ⟨g, 1, none⟩ y1).setCell ⟨g, 2, none⟩ y2).setCell ⟨g, 3, none⟩ y3).setCell ⟨g, 4, none⟩ y4).setCell ⟨g, 5, none⟩ y5).cell? p = some v :=
  (World.cell?_setCell_far _ _ _ _ hp).trans ((World.cell?_setCell_far _ _ _ _ hp).trans ((World.cell?_setCell_far _ _ _ _ hp).trans ((World.cell?_setCell_far _ _ _ _ hp).trans ((World.cell?_setCell_far _ _ _ _ hp).trans ((World.cell?_setCell_far _ _ _ _ hp).trans h)))))
/-- A slice that lies from base on. -/
def New (base : Nat) (v : Value) (vs : List Value) : Prop := vs ≠ [] → ∀ a n c, v = .slice (some a) n c → base ≤ a.block
theorem new_nil {base : Nat} : New base (.slice none 0 0) [] := fun h => absurd rfl h
theorem new_at {base g n c : Nat} {vs : List Value} (h : base ≤ g) : New base (.slice (some ⟨g, 0, none⟩) n c) vs := fun _ a n c e => by
  simp only [Value.slice.injEq, Option.some.injEq] at e
  rw [← e.1]
  exact h
theorem new_own {base b n : Nat} {w : World} {e : TypeId} {v : Value} {vs : List Value} (h : w.ownsRow b e 1 v n vs) (hb : base ≤ b) : New base v vs := by
  intro hne a n' c hv
  rcases h.2 with ⟨rfl, _⟩ | ⟨g, cap, cur, rfl, hg, _⟩
  · simp at hv
  · simp only [Value.slice.injEq, Option.some.injEq] at hv
    rw [← hv.1]
    exact Nat.le_trans hb hg
/-- A request in memory of its own. -/
def IsRqN (base : Nat) (w : World) (v : Value) (q : Rq) : Prop := q.Ok ∧ ∃ bv rv, v = rqV q.fn q.addr q.n q.addr2 bv rv ∧ Sl w bv (bls q.bits) ∧ Sl w rv (u16s q.regs) ∧ New base bv (bls q.bits) ∧ New base rv (u16s q.regs)
theorem sl_six {Y : World} {g base : Nat} {v : Value} {vs : List Value} (h : Sl Y v vs) (hn : New base v vs) (hg : g < base) (y0 y1 y2 y3 y4 y5 : Value) :
    Sl ((((((Y.setCell ⟨g, 0, none⟩ y0).setCell ⟨g, 1, none⟩ y1).setCell ⟨g, 2, none⟩ y2).setCell ⟨g, 3, none⟩ y3).setCell ⟨g, 4, none⟩ y4).setCell ⟨g, 5, none⟩ y5) v vs := by
  rcases h with h | ⟨b, off, cap, rfl, hcap, hc⟩
  · exact Or.inl h
  · by_cases hne : vs = []
    · subst hne
      exact Or.inl ⟨rfl, some ⟨b, off, none⟩, cap, rfl, fun h => by simp at h⟩
    · have hb : base ≤ b := hn hne _ _ _ rfl
      exact Or.inr ⟨b, off, cap, rfl, hcap, fun k u hk => six_far (hc k u hk) (by simp; omega) _ _ _ _ _ _⟩
def TookEnd (bs : List Nat) (w : World) (e : Ending) (w' : World) : Prop := Below w.heap.size w w' ∧ ∃ v t q, e = .returned (.tuple #[v, .bool t]) ∧ IsRqN w.heap.size w' v q ∧ Took bs q t
theorem took_none {bs : List Nat} {q : Rq} (h : ¬ IsReq bs) : Took bs q false := ⟨fun k => absurd k h, fun k => by cases k⟩
theorem after_cut {w wc : World} {d : Nat} {o0 o1 o2 : Obj} (h : wc = (((w.alloc o0).alloc o1).alloc o2).drewN d) : wc.heap[w.heap.size]? = some o0 ∧ wc.heap[w.heap.size + 1 + 1]? = some o2 ∧ Below w.heap.size w wc ∧ w.heap.size + 1 + 1 < wc.heap.size := by
  subst h
  have e1 : (w.alloc o0).heap.size = w.heap.size + 1 := World.size_alloc _ _
  have e2 : ((w.alloc o0).alloc o1).heap.size = w.heap.size + 1 + 1 := by rw [World.size_alloc, e1]
  have e3 : (((w.alloc o0).alloc o1).alloc o2).heap.size = w.heap.size + 1 + 1 + 1 := by rw [World.size_alloc, e2]
  refine ⟨?_, ?_, below_drewN (below_new (below_new (below_new (Below.refl _ w) _) _) _) d, ?_⟩
  · show (((w.alloc o0).alloc o1).alloc o2).heap[w.heap.size]? = some o0
    rw [Below.heap_alloc _ _ _ (by rw [e2]; omega), Below.heap_alloc _ _ _ (by rw [e1]; omega)]
    exact heap_alloc_new w o0
  · show (((w.alloc o0).alloc o1).alloc o2).heap[w.heap.size + 1 + 1]? = some o2
    have h := heap_alloc_new ((w.alloc o0).alloc o1) o2
    rw [e2] at h
    exact h
  · show w.heap.size + 1 + 1 < (((w.alloc o0).alloc o1).alloc o2).heap.size
    rw [e3]; omega
/-- The bytes and where they lie. -/
structure Bs (w : World) (b off n cap : Nat) (bs : List Nat) : Prop where
  len : n = bs.length
  cap : n ≤ cap
  bytes : Bytes bs
  lies : Lies w b off (u8s bs)
theorem Bs.below {w W : World} {b off n cap : Nat} {bs : List Nat} (h : Bs w b off n cap bs) (k : Below w.heap.size w W) : Bs W b off n cap bs := ⟨h.len, h.cap, h.bytes, h.lies.below k⟩
theorem Bs.at {w : World} {b off n cap : Nat} {bs : List Nat} (h : Bs w b off n cap bs) (k : Nat) (hk : k < n) : w.cell? ⟨b, off + k, none⟩ = some (.int .u8 (bs.getD k 0 : Nat)) := h.lies.u8 k (by rw [← h.len]; exact hk)
theorem Bs.drop {w : World} {b off n cap : Nat} {bs : List Nat} (h : Bs w b off n cap bs) (k : Nat) (hk : k ≤ n) : Bs w b (off + k) (n - k) (cap - k) (bs.drop k) := ⟨by rw [List.length_drop, h.len], by have := h.cap; omega, h.bytes.drop k, by rw [u8s_drop]; exact h.lies.drop k⟩
theorem Bs.sl {w : World} {b off n cap : Nat} {bs : List Nat} (h : Bs w b off n cap bs) : Sl w (.slice (some ⟨b, off, none⟩) n cap) (u8s bs) := Or.inr ⟨b, off, cap, by rw [u8s_len, h.len], by rw [u8s_len, ← h.len]; exact h.cap, h.lies⟩
theorem Bs.word {w : World} {b off n cap : Nat} {bs : List Nat} (h : Bs w b off n cap bs) (k : Nat) (hk : k + 2 ≤ n) (W : World) (hW : Below w.heap.size w W) : Calls Try.prog 51 #[.slice (some ⟨b, off + k, none⟩) (n - k) (cap - k)] W fun e w' => e = .returned (.int .u16 (wordAt bs k : Nat)) ∧ ∃ m, w' = W.drewN m := by
  have h' := h.below hW
  exact word_c b (off + k) (n - k) (cap - k) (bs.getD k 0) (bs.getD (k + 1) 0) W (by omega) (h.bytes.at k) (h.bytes.at (k + 1)) (h'.at k (by omega)) (h'.at (k + 1) (by omega))
theorem wordAt_drop (bs : List Nat) (k j : Nat) : wordAt (bs.drop k) j = wordAt bs (k + j) := by
  unfold wordAt
  simp only [List.getD_eq_getElem?_getD, List.getElem?_drop]
  rw [show k + (j + 1) = k + j + 1 by omega]
theorem getD_drop (bs : List Nat) (k j : Nat) : (bs.drop k).getD j 0 = bs.getD (k + j) 0 := by
  simp only [List.getD_eq_getElem?_getD, List.getElem?_drop]
/-- IsReq over plain numbers: the length, the function, the word at 3, the byte at 5, the word at 7, the byte at 9. -/
def IsReqN (l f v g5 v7 g9 : Nat) : Prop :=
  5 ≤ l ∧ l ≤ 253 ∧
  (((f = 1 ∨ f = 2) ∧ l = 5 ∧ 1 ≤ v ∧ v ≤ 2000) ∨ ((f = 3 ∨ f = 4) ∧ l = 5 ∧ 1 ≤ v ∧ v ≤ 125) ∨ (f = 5 ∧ l = 5 ∧ (v = 65280 ∨ v = 0)) ∨ (f = 6 ∧ l = 5) ∨ (f = 15 ∧ 1 ≤ v ∧ v ≤ 1968 ∧ l = 6 + packed v ∧ g5 = packed v) ∨ (f = 16 ∧ 1 ≤ v ∧ v ≤ 123 ∧ l = 6 + 2 * v ∧ g5 = 2 * v) ∨ (f = 22 ∧ l = 7) ∨ (f = 23 ∧ 10 ≤ l ∧ 1 ≤ v ∧ v ≤ 125 ∧ 1 ≤ v7 ∧ v7 ≤ 121 ∧ l = 10 + 2 * v7 ∧ g9 = 2 * v7))
theorem isReq_iff (bs : List Nat) : IsReq bs ↔ IsReqN bs.length (bs.getD 0 0) (wordAt bs 3) (bs.getD 5 0) (wordAt bs 7) (bs.getD 9 0) := Iff.rfl
/-- What the bytes say. -/
structure Says (bs : List Nat) (n fn A V : Nat) : Prop where
  len : n = bs.length
  lo : 5 ≤ n
  hi : n ≤ 253
  fn : bs.getD 0 0 = fn
  A : A = wordAt bs 1
  V : V = wordAt bs 3
theorem Says.iff {bs : List Nat} {n fn A V : Nat} (h : Says bs n fn A V) : IsReq bs ↔ IsReqN n fn V (bs.getD 5 0) (wordAt bs 7) (bs.getD 9 0) := by
  rw [isReq_iff, h.fn, ← h.V, ← h.len]
theorem pl_read {n fn V g5 v7 g9 : Nat} (hf : fn = 1 ∨ fn = 2 ∨ fn = 3 ∨ fn = 4) : IsReqN n fn V g5 v7 g9 ↔ (n = 5 ∧ FitsN fn V 0 0 0) := by
  unfold IsReqN FitsN
  rcases hf with rfl | rfl | rfl | rfl <;> simp <;> omega
theorem pl_5 {n V g5 v7 g9 : Nat} : IsReqN n 5 V g5 v7 g9 ↔ (n = 5 ∧ (V = 65280 ∨ V = 0)) := by
  unfold IsReqN
  simp
  omega
theorem pl_6 {n fn V g5 v7 g9 : Nat} (hf : fn = 6 ∨ fn = 22) (h5 : 5 ≤ n) : IsReqN n fn V g5 v7 g9 ↔ ((n - 3) % 2 = 0 ∧ FitsN fn 0 0 0 ((n - 3) / 2)) := by
  unfold IsReqN FitsN
  rcases hf with rfl | rfl <;> simp <;> omega
theorem pl_15 {n V g5 v7 g9 : Nat} (h5 : 5 ≤ n) (h253 : n ≤ 253) : IsReqN n 15 V g5 v7 g9 ↔ ((n = 6 + packed V ∧ g5 = packed V) ∧ FitsN 15 0 0 (min V 2000) 0) := by
  unfold IsReqN FitsN
  generalize packed V = p
  simp
  omega
theorem pl_16 {n V g5 v7 g9 : Nat} (h5 : 5 ≤ n) (h253 : n ≤ 253) : IsReqN n 16 V g5 v7 g9 ↔ ((n = 6 + 2 * V ∧ g5 = 2 * V) ∧ FitsN 16 0 0 0 ((n - 6) / 2)) := by
  unfold IsReqN FitsN
  simp
  omega
theorem pl_23 {n V A2 g5 v7 g9 : Nat} (h5 : 5 ≤ n) (h253 : n ≤ 253) : IsReqN n 23 V g5 v7 g9 ↔ (9 ≤ n ∧ (n = 10 + 2 * v7 ∧ g9 = 2 * v7) ∧ FitsN 23 V A2 0 ((n - 10) / 2)) := by
  unfold IsReqN FitsN
  simp
  omega
theorem pl_other {n fn V g5 v7 g9 : Nat} (hk : fn ≠ 1 ∧ fn ≠ 2 ∧ fn ≠ 3 ∧ fn ≠ 4 ∧ fn ≠ 5 ∧ fn ≠ 6 ∧ fn ≠ 15 ∧ fn ≠ 16 ∧ fn ≠ 22 ∧ fn ≠ 23) : ¬ IsReqN n fn V g5 v7 g9 := by
  unfold IsReqN
  omega
theorem took_read {bs : List Nat} {n fn A V : Nat} (h : Says bs n fn A V) (hf : fn = 1 ∨ fn = 2 ∨ fn = 3 ∨ fn = 4) : Took bs ⟨fn, A, V, 0, [], []⟩ (decide (n = 5)) := by
  have e := h.fn
  refine ⟨fun hr => ⟨decide_eq_true ((pl_read hf).1 (h.iff.1 hr)).1, ?_⟩, fun ht hfit => h.iff.2 ((pl_read hf).2 ⟨of_decide_eq_true ht, hfit⟩)⟩
  simp only [readReq, e]
  rcases hf with rfl | rfl | rfl | rfl <;> simp [h.A, h.V]
theorem took_5 {bs : List Nat} {n A V : Nat} (h : Says bs n 5 A V) {t : Bool} (ht : t = true ↔ (n = 5 ∧ (V = 65280 ∨ V = 0))) : Took bs ⟨5, A, 0, 0, [decide (V = 65280)], []⟩ t := by
  have e := h.fn
  refine ⟨fun hr => ⟨ht.2 (pl_5.1 (h.iff.1 hr)), ?_⟩, fun k _ => h.iff.2 (pl_5.2 (ht.1 k))⟩
  simp only [readReq, e]
  simp [h.A, h.V]
theorem took_6 {bs : List Nat} {n fn A V : Nat} (h : Says bs n fn A V) (hf : fn = 6 ∨ fn = 22) {t : Bool} (ht : t = true ↔ (n - 3) % 2 = 0) : Took bs ⟨fn, A, 0, 0, [], ws (bs.drop 3)⟩ t := by
  have e := h.fn
  have hw : (ws (bs.drop 3)).length = (n - 3) / 2 := by rw [ws_length, List.length_drop, h.len]
  refine ⟨fun hr => ⟨ht.2 ((pl_6 hf h.lo).1 (h.iff.1 hr)).1, ?_⟩, fun k hfit => h.iff.2 ((pl_6 hf h.lo).2 ⟨ht.1 k, ?_⟩)⟩
  · simp only [readReq, e]
    rcases hf with rfl | rfl <;> simp [h.A]
  · have hfit : FitsN fn 0 0 0 (ws (bs.drop 3)).length := hfit
    rw [hw] at hfit
    exact hfit
theorem took_15 {bs : List Nat} {n A V : Nat} (h : Says bs n 15 A V) (hT : n = 6 + packed V ∧ bs.getD 5 0 = packed V) : Took bs ⟨15, A, 0, 0, ub (bs.drop 6) (min V 2000), []⟩ true := by
  have e := h.fn
  refine ⟨fun hr => ⟨rfl, ?_⟩, fun _ hfit => h.iff.2 ((pl_15 h.lo h.hi).2 ⟨hT, ?_⟩)⟩
  · have h2 := ((pl_15 h.lo h.hi).1 (h.iff.1 hr)).2
    unfold FitsN at h2
    have hm : min V 2000 = V := by omega
    rw [hm]
    simp only [readReq, e]
    simp [h.A, h.V]
  · have hfit : FitsN 15 0 0 (ub (bs.drop 6) (min V 2000)).length 0 := hfit
    rw [ub_length] at hfit
    exact hfit
theorem took_16 {bs : List Nat} {n A V : Nat} (h : Says bs n 16 A V) (hT : n = 6 + 2 * V ∧ bs.getD 5 0 = 2 * V) : Took bs ⟨16, A, 0, 0, [], ws (bs.drop 6)⟩ true := by
  have e := h.fn
  have hw : (ws (bs.drop 6)).length = (n - 6) / 2 := by rw [ws_length, List.length_drop, h.len]
  refine ⟨fun hr => ⟨rfl, ?_⟩, fun _ hfit => h.iff.2 ((pl_16 h.lo h.hi).2 ⟨hT, ?_⟩)⟩
  · simp only [readReq, e]
    simp [h.A]
  · have hfit : FitsN 16 0 0 0 (ws (bs.drop 6)).length := hfit
    rw [hw] at hfit
    exact hfit
theorem took_23 {bs : List Nat} {n A V A2 C : Nat} (h : Says bs n 23 A V) (hA2 : A2 = wordAt bs 5) (hC : C = wordAt bs 7) (hn : 9 ≤ n) (hT : n = 10 + 2 * C ∧ bs.getD 9 0 = 2 * C) : Took bs ⟨23, A, V, A2, [], ws (bs.drop 10)⟩ true := by
  have e := h.fn
  have hw : (ws (bs.drop 10)).length = (n - 10) / 2 := by rw [ws_length, List.length_drop, h.len]
  refine ⟨fun hr => ⟨rfl, ?_⟩, fun _ hfit => h.iff.2 ((pl_23 (A2 := A2) h.lo h.hi).2 ⟨hn, by rw [← hC]; exact hT, ?_⟩)⟩
  · simp only [readReq, e]
    simp [h.A, h.V, hA2]
  · have hfit : FitsN 23 V A2 0 (ws (bs.drop 10)).length := hfit
    rw [hw] at hfit
    exact hfit
theorem sl_one {W : World} {g : Nat} {on : Bool} (h : W.cell? ⟨g, 0, none⟩ = some (.bool on)) : Sl W (.slice (some ⟨g, 0, none⟩) 1 1) (bls [on]) := by
  refine Or.inr ⟨g, 0, 1, rfl, Nat.le_refl _, fun k u hk => ?_⟩
  match k, hk with
  | 0, hk =>
    simp [bls] at hk
    rw [← hk]
    exact h
theorem rq_ok {fn A N A2 : Nat} {bits : List Bool} {regs : List Nat} (h1 : fn < 256) (h2 : A < 65536) (h3 : N < 65536) (h4 : A2 < 65536) (h5 : Words regs) : Rq.Ok ⟨fn, A, N, A2, bits, regs⟩ := ⟨h1, h2, h3, h4, h5⟩
theorem no_words : Words [] := fun _ h => by simp at h
theorem hid_as {p : Prop} (h : p) : Hid p := h
theorem own_shape2 {w : World} {base n : Nat} {e : TypeId} {v : Value} {vs : List Value} (h : w.ownsRow base e 1 v n vs) : ∃ ao c, v = .slice ao n c := by
  have hl : vs.length = n := by simpa using h.1
  obtain ⟨ao, c, hv⟩ := (own_sl h).shape
  exact ⟨ao, c, by rw [hv, hl]⟩
open Pdu
/-- The same bytes; with s, but for the last. -/
def Same (bs ag : List Nat) (s : Bool) : Prop := ag.length = bs.length ∧ ∀ i, i < bs.length → ag.getD i 0 = bs.getD i 0 ∨ (s = true ∧ i + 1 = bs.length)
theorem same_refl (bs : List Nat) (s : Bool) : Same bs bs s := ⟨rfl, fun _ _ => Or.inl rfl⟩
theorem same_eq {bs ag : List Nat} (h : Same bs ag false) : ag = bs := by
  obtain ⟨hl, h⟩ := h
  apply List.ext_getElem?
  intro i
  by_cases hi : i < bs.length
  · have h1 := h i hi
    simp only [Bool.false_eq_true, false_and, or_false] at h1
    simp only [List.getD_eq_getElem?_getD, List.getElem?_eq_getElem hi, List.getElem?_eq_getElem (show i < ag.length by omega), Option.getD_some] at h1
    rw [List.getElem?_eq_getElem hi, List.getElem?_eq_getElem (show i < ag.length by omega), h1]
  · rw [List.getElem?_eq_none (by omega), List.getElem?_eq_none (by omega)]
theorem wd_of {x y : Nat} (hy : y < 256) : wd (256 * x + y) = [x, y] := by
  unfold wd
  rw [show (256 * x + y) / 256 = x by omega, show (256 * x + y) % 256 = y by omega]
theorem list5 {l : List Nat} (h : 5 ≤ l.length) : ∃ a b c d e r, l = a :: b :: c :: d :: e :: r := by
  match l, h with
  | a :: b :: c :: d :: e :: r, _ => exact ⟨a, b, c, d, e, r, rfl⟩
theorem wd_at {bs : List Nat} (hB : Bytes bs) (i : Nat) : wd (wordAt bs i) = [bs.getD i 0, bs.getD (i + 1) 0] := wd_of (hB.at (i + 1))
theorem drop_cons {bs : List Nat} {i : Nat} (h : i < bs.length) : bs.drop i = bs.getD i 0 :: bs.drop (i + 1) := by
  rw [List.drop_eq_getElem_cons h, List.getD_eq_getElem?_getD, List.getElem?_eq_getElem h]
  rfl
theorem cut3 {bs : List Nat} (hB : Bytes bs) (h : 3 ≤ bs.length) : bs = bs.getD 0 0 :: (wd (wordAt bs 1) ++ bs.drop 3) := by
  have h0 := drop_cons (bs := bs) (i := 0) (by omega)
  have h1 := drop_cons (bs := bs) (i := 1) (by omega)
  have h2 := drop_cons (bs := bs) (i := 2) (by omega)
  rw [List.drop_zero] at h0
  rw [wd_at hB 1]
  show bs = bs.getD 0 0 :: bs.getD 1 0 :: bs.getD 2 0 :: bs.drop 3
  rw [← h2, ← h1, ← h0]
theorem cutw {bs : List Nat} (hB : Bytes bs) (i : Nat) (h : i + 2 ≤ bs.length) : bs.drop i = wd (wordAt bs i) ++ bs.drop (i + 2) := by
  have h1 := drop_cons (bs := bs) (i := i) (by omega)
  have h2 := drop_cons (bs := bs) (i := i + 1) (by omega)
  rw [wd_at hB i, h1, h2]
  rfl
theorem write_read {bs : List Nat} (hB : Bytes bs) (h : IsReq bs) (hf : bs.getD 0 0 ≠ 15) : reqBytes (readReq bs) = bs := by
  have hN := (isReq_iff bs).1 h
  have h3 : 3 ≤ bs.length := by have := h.1; omega
  have h5 : 5 ≤ bs.length := h.1
  have e := cut3 hB h3
  have e3 := cutw hB 3 (by omega)
  unfold IsReqN at hN
  obtain ⟨_, _, hN⟩ := hN
  conv => rhs; rw [e]
  rcases hN with ⟨h, h1, h2, _⟩ | ⟨h, h1, h2, _⟩ | ⟨h, h1, h2⟩ | ⟨h, h1⟩ | ⟨h, _⟩ | ⟨h, h1, h2, h4, h6⟩ | ⟨h, h1⟩ | ⟨h, h0, h1, h2, h4, h6, h7, h8⟩
  · have ed : bs.drop 5 = [] := List.drop_eq_nil_of_le (by omega)
    rw [e3, ed]
    rcases h with h | h <;> (simp only [reqBytes, tail, readReq, h]; simp)
  · have ed : bs.drop 5 = [] := List.drop_eq_nil_of_le (by omega)
    rw [e3, ed]
    rcases h with h | h <;> (simp only [reqBytes, tail, readReq, h]; simp)
  · have ed : bs.drop 5 = [] := List.drop_eq_nil_of_le (by omega)
    rw [e3, ed]
    simp only [reqBytes, tail, readReq, h]
    rcases h2 with h2 | h2 <;> simp [h2, coil]
  · have hw := wds_ws (bs.drop 3) (hB.drop 3) (by rw [List.length_drop]; omega)
    simp only [reqBytes, tail, readReq, h]
    simp [hw]
  · exact absurd h hf
  · have hw := wds_ws (bs.drop 6) (hB.drop 6) (by rw [List.length_drop]; omega)
    have hl : (ws (bs.drop 6)).length = wordAt bs 3 := by rw [ws_length, List.length_drop]; omega
    have e5 := drop_cons (bs := bs) (i := 5) (by omega)
    rw [e3, e5, h6]
    simp only [reqBytes, tail, readReq, h]
    simp [hw, hl]
    omega
  · have hw := wds_ws (bs.drop 3) (hB.drop 3) (by rw [List.length_drop]; omega)
    simp only [reqBytes, tail, readReq, h]
    simp [hw]
  · have hw := wds_ws (bs.drop 10) (hB.drop 10) (by rw [List.length_drop]; omega)
    have hl : (ws (bs.drop 10)).length = wordAt bs 7 := by rw [ws_length, List.length_drop]; omega
    have e5 := cutw hB 5 (by omega)
    have e7 := cutw hB 7 (by omega)
    have e9 := drop_cons (bs := bs) (i := 9) (by omega)
    rw [e3, e5, e7, e9, h8]
    simp only [reqBytes, tail, readReq, h]
    simp [hw, hl]
    omega
theorem getD_app (a b : List Nat) (i : Nat) : (a ++ b).getD i 0 = if i < a.length then a.getD i 0 else b.getD (i - a.length) 0 := by
  simp only [List.getD_eq_getElem?_getD, List.getElem?_append]
  split <;> rfl
theorem write_15 {bs : List Nat} (hB : Bytes bs) (h : IsReq bs) (hf : bs.getD 0 0 = 15) : Same bs (reqBytes (readReq bs)) true := by
  have hN := (isReq_iff bs).1 h
  unfold IsReqN at hN
  obtain ⟨h5, _, hN⟩ := hN
  have hN : 1 ≤ wordAt bs 3 ∧ wordAt bs 3 ≤ 1968 ∧ bs.length = 6 + packed (wordAt bs 3) ∧ bs.getD 5 0 = packed (wordAt bs 3) := by omega
  obtain ⟨v1, v2, hl, hb5⟩ := hN
  have e := cut3 hB (by omega)
  have e3 := cutw hB 3 (by omega)
  have hp1 : 1 ≤ packed (wordAt bs 3) := by unfold packed; omega
  have hp2 : packed (wordAt bs 3) ≤ 246 := by unfold packed; omega
  have e5 := drop_cons (bs := bs) (i := 5) (by omega)
  have eb : bs = (15 :: (wd (wordAt bs 1) ++ (wd (wordAt bs 3) ++ [packed (wordAt bs 3)]))) ++ bs.drop 6 := by
    conv => lhs; rw [e]
    rw [e3, e5, hb5, hf]
    simp
  have hpl : (pack (ub (bs.drop 6) (wordAt bs 3))).length = packed (wordAt bs 3) := by rw [pack_length, ub_length]
  have ea : reqBytes (readReq bs) = (15 :: (wd (wordAt bs 1) ++ (wd (wordAt bs 3) ++ [packed (wordAt bs 3)]))) ++ pack (ub (bs.drop 6) (wordAt bs 3)) := by
    simp only [reqBytes, tail, readReq, hf]
    simp [hpl, ub_length]
    omega
  generalize (15 :: (wd (wordAt bs 1) ++ (wd (wordAt bs 3) ++ [packed (wordAt bs 3)]))) = hd at ea eb
  have hdl : hd.length + (bs.drop 6).length = bs.length := by conv => rhs; rw [eb]
                                                              rw [List.length_append]
  have hdd : (bs.drop 6).length = packed (wordAt bs 3) := by rw [List.length_drop]; omega
  refine ⟨?_, fun i hi => ?_⟩
  · rw [ea, List.length_append, hpl]
    omega
  · rw [ea]
    conv => lhs; rhs; rw [eb]
    rw [getD_app, getD_app]
    by_cases hi6 : i < hd.length
    · simp [hi6]
    · rw [if_neg hi6, if_neg hi6]
      by_cases hj : 8 * (i - hd.length) + 8 ≤ wordAt bs 3
      · exact Or.inl (pack_ub _ _ _ (hB.drop 6) hj)
      · refine Or.inr ⟨rfl, ?_⟩
        unfold packed at hdd
        omega
/-- What the reference takes out of the bytes, ahead of writing it again. -/
structure RTook (bs : List Nat) (q : Rq) (s : Bool) : Prop where
  bits : q.bits.length ≤ 2500
  regs : q.regs.length ≤ 200
  read : IsReq bs → q = readReq bs
  fn : q.fn = bs.getD 0 0
  spare : s = true ↔ q.fn = 15
theorem RTook.yes {bs : List Nat} {q : Rq} {s : Bool} (h : RTook bs q s) (hB : Bytes bs) (hr : IsReq bs) : Same bs (reqBytes q) s := by
  have e := h.read hr
  by_cases hf : bs.getD 0 0 = 15
  · have hs : s = true := h.spare.2 (h.fn.trans hf)
    subst hs
    rw [e]
    exact write_15 hB hr hf
  · rw [e, write_read hB hr hf]
    exact same_refl _ _
theorem RTook.is {bs : List Nat} {q : Rq} {s : Bool} (h : RTook bs q s) (hf : q.Fits) (ok : q.Ok) (hs : Same bs (reqBytes q) s) : IsReq bs := by
  have hq := (isReq_bytes hf ok).1
  cases s
  · rw [← same_eq hs]
    exact hq
  · have e15 : q.fn = 15 := h.spare.1 rfl
    obtain ⟨hl, hi⟩ := hs
    have h0 : (reqBytes q).getD 0 0 = 15 := by rw [← e15]; rfl
    rw [isReq_iff, h0] at hq
    have hq2 : 1 ≤ wordAt (reqBytes q) 3 ∧ wordAt (reqBytes q) 3 ≤ 1968 ∧ (reqBytes q).length = 6 + packed (wordAt (reqBytes q) 3) ∧ (reqBytes q).getD 5 0 = packed (wordAt (reqBytes q) 3) ∧ (reqBytes q).length ≤ 253 := by
      unfold IsReqN at hq
      omega
    obtain ⟨q1, q2, q3, q4, q5⟩ := hq2
    have hp : 1 ≤ packed (wordAt (reqBytes q) 3) := by unfold packed; omega
    have g : ∀ i, i < 6 → bs.getD i 0 = (reqBytes q).getD i 0 := fun i hi6 => by
      rcases hi i (by omega) with h | ⟨_, h⟩
      · exact h.symm
      · omega
    have w3 : wordAt bs 3 = wordAt (reqBytes q) 3 := by unfold wordAt; rw [g 3 (by omega), g 4 (by omega)]
    rw [isReq_iff, g 0 (by omega), h0, w3, g 5 (by omega), ← hl]
    exact ⟨by omega, q5, Or.inr (Or.inr (Or.inr (Or.inr (Or.inl ⟨rfl, q1, q2, q3, q4⟩))))⟩
end Go.Proofs.Ytehbbkdiekgpbaa
