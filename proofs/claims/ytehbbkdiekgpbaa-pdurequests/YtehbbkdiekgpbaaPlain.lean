/- Requests and replies in plain mathematics: words, bits, bytes. -/
namespace Go.Proofs.Ytehbbkdiekgpbaa
namespace Pdu
/-- A number of two bytes, the higher one first. -/
def wd (x : Nat) : List Nat := [x / 256, x % 256]
def wds (l : List Nat) : List Nat := l.flatMap wd
def packed (n : Nat) : Nat := (n + 7) / 8
/-- The bytes behind the first k bits. -/
def pk (l : List Bool) (m : Nat) : Nat → List Nat
  | 0 => List.replicate m 0
  | k + 1 => if l.getD k false then (pk l m k).set (k / 8) ((pk l m k).getD (k / 8) 0 ||| 2 ^ (k % 8)) else pk l m k
def pack (l : List Bool) : List Nat := pk l (packed l.length) l.length
/-- The first n bits of b. -/
def ub (b : List Nat) (n : Nat) : List Bool := (List.range n).map fun i => (b.getD (i / 8) 0).testBit (i % 8)
def wordAt (b : List Nat) (i : Nat) : Nat := 256 * b.getD i 0 + b.getD (i + 1) 0
def ws (b : List Nat) : List Nat := (List.range (b.length / 2)).map fun i => wordAt b (2 * i)
def Bytes (bs : List Nat) : Prop := ∀ x ∈ bs, x < 256
def Words (l : List Nat) : Prop := ∀ x ∈ l, x < 65536

theorem Bytes.at {bs : List Nat} (h : Bytes bs) (k : Nat) : bs.getD k 0 < 256 := by
  by_cases hk : k < bs.length
  · rw [List.getD_eq_getElem?_getD, List.getElem?_eq_getElem hk]
    exact h _ (List.getElem_mem hk)
  · rw [List.getD_eq_getElem?_getD, List.getElem?_eq_none (by omega)]
    decide
theorem Words.at {bs : List Nat} (h : Words bs) (k : Nat) : bs.getD k 0 < 65536 := by
  by_cases hk : k < bs.length
  · rw [List.getD_eq_getElem?_getD, List.getElem?_eq_getElem hk]
    exact h _ (List.getElem_mem hk)
  · rw [List.getD_eq_getElem?_getD, List.getElem?_eq_none (by omega)]
    decide
theorem Bytes.nil : Bytes [] := fun _ h => by simp at h
theorem Bytes.app {a b : List Nat} (ha : Bytes a) (hb : Bytes b) : Bytes (a ++ b) := fun x hx => (List.mem_append.1 hx).elim (ha x) (hb x)
theorem Bytes.cons {a : Nat} {b : List Nat} (ha : a < 256) (hb : Bytes b) : Bytes (a :: b) := fun x hx => by
  rcases List.mem_cons.1 hx with rfl | hx
  · exact ha
  · exact hb x hx
theorem Bytes.take {bs : List Nat} (h : Bytes bs) (k : Nat) : Bytes (bs.take k) := fun x hx => h x (List.mem_of_mem_take hx)
theorem Bytes.drop {bs : List Nat} (h : Bytes bs) (k : Nat) : Bytes (bs.drop k) := fun x hx => h x (List.mem_of_mem_drop hx)
theorem wd_bytes {x : Nat} (h : x < 65536) : Bytes (wd x) := by
  intro y hy
  simp only [wd, List.mem_cons, List.not_mem_nil, or_false] at hy
  omega
theorem wds_bytes {l : List Nat} (h : Words l) : Bytes (wds l) := by
  intro y hy
  simp only [wds, List.mem_flatMap] at hy
  obtain ⟨x, hx, hy⟩ := hy
  exact wd_bytes (h x hx) y hy
theorem wds_length (l : List Nat) : (wds l).length = 2 * l.length := by
  induction l with
  | nil => rfl
  | cons a l ih => simp only [wds, List.flatMap_cons, List.length_append, List.length_cons] at *; rw [ih]; simp only [wd, List.length_cons, List.length_nil]; omega
theorem wds_cons (a : Nat) (l : List Nat) : wds (a :: l) = wd a ++ wds l := by simp [wds]
theorem wds_app (a b : List Nat) : wds (a ++ b) = wds a ++ wds b := by simp [wds]
theorem wds_one (a : Nat) : wds [a] = wd a := by simp [wds]
theorem wds_two (a b : Nat) : wds [a, b] = wd a ++ wd b := by simp [wds]
theorem wds_three (a b c : Nat) : wds [a, b, c] = wd a ++ (wd b ++ wd c) := by simp [wds]
theorem wds_take_succ (l : List Nat) (k : Nat) (h : k < l.length) : wds (l.take (k + 1)) = wds (l.take k) ++ wd (l.getD k 0) := by
  rw [List.take_add_one, List.getElem?_eq_getElem h, wds_app, List.getD_eq_getElem?_getD, List.getElem?_eq_getElem h]
  simp [wds]

theorem pk_length (l : List Bool) (m k : Nat) : (pk l m k).length = m := by
  induction k with
  | zero => simp [pk]
  | succ k ih =>
    simp only [pk]
    split
    · rw [List.length_set, ih]
    · exact ih
theorem pk_bytes (l : List Bool) (m k : Nat) : Bytes (pk l m k) := by
  induction k with
  | zero =>
    intro x hx
    simp only [pk, List.mem_replicate] at hx
    omega
  | succ k ih =>
    simp only [pk]
    split
    · intro x hx
      rcases List.mem_or_eq_of_mem_set hx with hx | rfl
      · exact ih x hx
      · exact Nat.or_lt_two_pow (n := 8) (ih.at _) (Nat.pow_lt_pow_right (by decide) (by omega))
    · exact ih
theorem pack_length (l : List Bool) : (pack l).length = packed l.length := pk_length ..
theorem pack_bytes (l : List Bool) : Bytes (pack l) := pk_bytes l _ _
theorem getD_set (l : List Nat) (i j x : Nat) : (l.set i x).getD j 0 = if i = j ∧ j < l.length then x else l.getD j 0 := by
  simp only [List.getD_eq_getElem?_getD, List.getElem?_set]
  by_cases h : i = j
  · subst h
    by_cases hj : i < l.length
    · simp [hj]
    · rw [if_pos rfl, if_neg hj, if_neg (by omega), List.getElem?_eq_none (by omega)]
  · rw [if_neg h, if_neg (by omega)]
theorem pk_bit (l : List Bool) (m k i : Nat) (hi : i < 8 * m) : ((pk l m k).getD (i / 8) 0).testBit (i % 8) = (decide (i < k) && l.getD i false) := by
  induction k with
  | zero =>
    have : (pk l m 0).getD (i / 8) 0 = 0 := by
      simp only [pk, List.getD_eq_getElem?_getD, List.getElem?_replicate]
      split <;> rfl
    rw [this]
    simp
  | succ k ih =>
    simp only [pk]
    by_cases hl : l.getD k false = true
    · rw [if_pos hl, getD_set, pk_length]
      by_cases hk : k / 8 = i / 8
      · rw [if_pos ⟨hk, by omega⟩, Nat.testBit_or, hk, ih, Nat.testBit_two_pow]
        by_cases he : i = k
        · subst he
          rw [decide_eq_true (show i % 8 = i % 8 from rfl), decide_eq_true (show i < i + 1 by omega), hl]
          simp
        · have h1 : ¬ k % 8 = i % 8 := by omega
          have h2 : decide (i < k) = decide (i < k + 1) := by rw [decide_eq_decide]; omega
          rw [decide_eq_false h1, Bool.or_false, h2]
      · rw [if_neg (by omega), ih]
        have h2 : decide (i < k) = decide (i < k + 1) := by rw [decide_eq_decide]; omega
        rw [h2]
    · rw [if_neg hl, ih]
      by_cases he : i = k
      · subst he
        simp only [Bool.not_eq_true] at hl
        rw [hl, Bool.and_false, Bool.and_false]
      · have h2 : decide (i < k) = decide (i < k + 1) := by rw [decide_eq_decide]; omega
        rw [h2]
theorem pack_bit (l : List Bool) (i : Nat) (hi : i < 8 * packed l.length) : ((pack l).getD (i / 8) 0).testBit (i % 8) = (decide (i < l.length) && l.getD i false) := pk_bit l _ _ i hi
theorem ub_length (b : List Nat) (n : Nat) : (ub b n).length = n := by simp [ub]
theorem ub_at (b : List Nat) (n i : Nat) (h : i < n) : (ub b n).getD i false = (b.getD (i / 8) 0).testBit (i % 8) := by
  simp [ub, List.getD_eq_getElem?_getD, h]
theorem ub_pack (l : List Bool) : ub (pack l) l.length = l := by
  apply List.ext_getElem?
  intro i
  by_cases hi : i < l.length
  · have h1 := ub_at (pack l) l.length i hi
    rw [pack_bit l i (by unfold packed; omega), decide_eq_true hi, Bool.true_and] at h1
    rw [List.getD_eq_getElem?_getD, List.getD_eq_getElem?_getD, List.getElem?_eq_getElem hi, List.getElem?_eq_getElem (by rw [ub_length]; exact hi)] at h1
    rw [List.getElem?_eq_getElem hi, List.getElem?_eq_getElem (by rw [ub_length]; exact hi)]
    simpa using h1
  · rw [List.getElem?_eq_none (by rw [ub_length]; omega), List.getElem?_eq_none (by omega)]
theorem ub_succ (b : List Nat) (n : Nat) : ub b (n + 1) = ub b n ++ [(b.getD (n / 8) 0).testBit (n % 8)] := by
  simp [ub, List.range_succ]
theorem byte_ext {x y : Nat} (hx : x < 256) (hy : y < 256) (h : ∀ r, r < 8 → x.testBit r = y.testBit r) : x = y := by
  apply Nat.eq_of_testBit_eq
  intro r
  by_cases hr : r < 8
  · exact h r hr
  · have h2 : 256 ≤ 2 ^ r := by
      have := Nat.pow_le_pow_right (n := 2) (by decide) (show 8 ≤ r by omega)
      simpa using this
    rw [Nat.testBit_lt_two_pow (by omega), Nat.testBit_lt_two_pow (by omega)]
/-- What is packed again of a list's bits is the list but for its last byte. -/
theorem pack_ub (b : List Nat) (n j : Nat) (hb : Bytes b) (hj : 8 * j + 8 ≤ n) : (pack (ub b n)).getD j 0 = b.getD j 0 := by
  apply byte_ext ((pack_bytes _).at j) (hb.at j)
  intro r hr
  have h1 := pack_bit (ub b n) (8 * j + r) (by rw [ub_length]; unfold packed; omega)
  rw [ub_length, ub_at _ _ _ (by omega), show (8 * j + r) / 8 = j by omega, show (8 * j + r) % 8 = r by omega, decide_eq_true (by omega), Bool.true_and] at h1
  exact h1

theorem ws_length (b : List Nat) : (ws b).length = b.length / 2 := by simp [ws]
theorem wordAt_lt {b : List Nat} (h : Bytes b) (i : Nat) : wordAt b i < 65536 := by
  have h1 := h.at i
  have h2 := h.at (i + 1)
  unfold wordAt
  omega
theorem ws_words {b : List Nat} (h : Bytes b) : Words (ws b) := by
  intro x hx
  simp only [ws, List.mem_map] at hx
  obtain ⟨i, _, rfl⟩ := hx
  exact wordAt_lt h _
theorem ws_cons (x y : Nat) (b : List Nat) : ws (x :: y :: b) = (256 * x + y) :: ws b := by
  unfold ws
  rw [show (x :: y :: b).length / 2 = b.length / 2 + 1 by simp only [List.length_cons]; omega, List.range_succ_eq_map]
  simp only [List.map_cons, List.map_map]
  congr 1
theorem ws_wds (l : List Nat) : ws (wds l) = l := by
  induction l with
  | nil => rfl
  | cons a l ih =>
    rw [wds_cons]
    simp only [wd, List.cons_append, List.nil_append]
    rw [ws_cons, ih]
    congr 1
    omega
theorem wds_ws : ∀ (b : List Nat), Bytes b → b.length % 2 = 0 → wds (ws b) = b
  | [], _, _ => rfl
  | [_], _, h => by simp at h
  | x :: y :: b, hb, h => by
    rw [ws_cons, wds_cons, wds_ws b (fun z hz => hb z (by simp [hz])) (by simp only [List.length_cons] at h; omega)]
    have hx := hb x (by simp)
    have hy := hb y (by simp)
    simp only [wd, List.cons_append, List.nil_append, List.cons.injEq, and_true]
    omega
end Pdu
end Go.Proofs.Ytehbbkdiekgpbaa
