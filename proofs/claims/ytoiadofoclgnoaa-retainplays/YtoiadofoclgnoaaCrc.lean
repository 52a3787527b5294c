/- The sums in plain mathematics: a step halves and, if a 1 fell out, joins a polynomial by unlike bits; it is linear; the sum of a list is so many steps of one great number. -/
namespace Go.Proofs.Ytoiadofoclgnoaa
namespace Crc
def st (p n : Nat) : Nat := if n % 2 = 1 then (n / 2) ^^^ p else n / 2
def its (p : Nat) : Nat → Nat → Nat
  | 0, n => n
  | k + 1, n => its p k (st p n)
def upd (p c x : Nat) : Nat := its p 8 (c ^^^ x)
def sum (p c : Nat) (bs : List Nat) : Nat := bs.foldl (upd p) c
def le : List Nat → Nat
  | [] => 0
  | x :: xs => x ^^^ (256 * le xs)

theorem xor_two (a b : Nat) : (a ^^^ b) % 2 = (a + b) % 2 := by
  have h := Nat.xor_mod_two_pow (a := a) (b := b) (n := 1)
  rw [Nat.pow_one] at h
  rw [h, Nat.add_mod]
  have ha : a % 2 = 0 ∨ a % 2 = 1 := by omega
  have hb : b % 2 = 0 ∨ b % 2 = 1 := by omega
  rcases ha with ha | ha <;> rcases hb with hb | hb <;> rw [ha, hb] <;> rfl
theorem st_xor (p a b : Nat) : st p (a ^^^ b) = st p a ^^^ st p b := by
  unfold st
  rw [xor_two, Nat.xor_div_two]
  by_cases ha : a % 2 = 1
  · by_cases hb : b % 2 = 1
    · rw [if_pos ha, if_pos hb, if_neg (by omega)]
      rw [Nat.xor_assoc, Nat.xor_comm p, Nat.xor_assoc, Nat.xor_self, Nat.xor_zero]
    · rw [if_pos ha, if_neg hb, if_pos (by omega)]
      rw [Nat.xor_assoc, Nat.xor_comm (b / 2) p, Nat.xor_assoc]
  · by_cases hb : b % 2 = 1
    · rw [if_neg ha, if_pos hb, if_pos (by omega), Nat.xor_assoc]
    · rw [if_neg ha, if_neg hb, if_neg (by omega)]
theorem its_xor (p k a b : Nat) : its p k (a ^^^ b) = its p k a ^^^ its p k b := by
  induction k generalizing a b with
  | zero => rfl
  | succ k ih => simp only [its, st_xor, ih]
theorem its_add (p i j n : Nat) : its p (i + j) n = its p j (its p i n) := by
  induction i generalizing n with
  | zero => simp [its]
  | succ i ih => rw [show i + 1 + j = (i + j) + 1 by omega]; simp only [its, ih]
theorem its_succ (p k n : Nat) : its p (k + 1) n = st p (its p k n) := by rw [its_add]; rfl
theorem st_even (p m : Nat) : st p (2 * m) = m := by
  unfold st
  rw [if_neg (by omega)]
  omega
theorem its_shift (p k n : Nat) : its p k (n * 2 ^ k) = n := by
  induction k with
  | zero => simp [its]
  | succ k ih => rw [show n * 2 ^ (k + 1) = 2 * (n * 2 ^ k) by rw [Nat.pow_succ]; ac_rfl]; simp only [its, st_even, ih]
theorem its_256 (p n : Nat) : its p 8 (256 * n) = n := by rw [Nat.mul_comm]; exact its_shift p 8 n
theorem st_lt {p n m : Nat} (hp : p < 2 ^ m) (hn : n < 2 ^ m) : st p n < 2 ^ m := by
  unfold st
  have h2 : n / 2 < 2 ^ m := by omega
  split
  · exact Nat.xor_lt_two_pow h2 hp
  · exact h2
theorem its_lt {p n m : Nat} (hp : p < 2 ^ m) (k : Nat) (hn : n < 2 ^ m) : its p k n < 2 ^ m := by
  induction k generalizing n with
  | zero => exact hn
  | succ k ih => exact ih (st_lt hp hn)
theorem upd_lt {p c x m : Nat} (hp : p < 2 ^ m) (hc : c < 2 ^ m) (hx : x < 2 ^ m) : upd p c x < 2 ^ m := its_lt hp 8 (Nat.xor_lt_two_pow hc hx)
theorem sum_lt {p m : Nat} (hp : p < 2 ^ m) (bs : List Nat) (hb : ∀ x ∈ bs, x < 2 ^ m) (c : Nat) (hc : c < 2 ^ m) : sum p c bs < 2 ^ m := by
  induction bs generalizing c with
  | nil => exact hc
  | cons x xs ih =>
    exact ih (fun y hy => hb y (List.mem_cons_of_mem _ hy)) _ (upd_lt hp hc (hb x (List.mem_cons_self ..)))
theorem sum_take_succ (p c : Nat) (bs : List Nat) (k : Nat) (hk : k < bs.length) : sum p c (bs.take (k + 1)) = upd p (sum p c (bs.take k)) (bs.getD k 0) := by
  unfold sum
  rw [List.take_add_one, List.foldl_append, List.getElem?_eq_getElem hk]
  simp [List.getD, List.getElem?_eq_getElem hk]
/-- The sum of a list is so many steps of one great number. -/
theorem sum_le (p c : Nat) (bs : List Nat) : sum p c bs = its p (8 * bs.length) (c ^^^ le bs) := by
  induction bs generalizing c with
  | nil => simp [sum, le, its]
  | cons x xs ih =>
    show sum p (upd p c x) xs = _
    rw [ih, List.length_cons, show 8 * (xs.length + 1) = 8 + 8 * xs.length by omega, its_add]
    congr 1
    show its p 8 (c ^^^ x) ^^^ le xs = its p 8 (c ^^^ (x ^^^ 256 * le xs))
    rw [← Nat.xor_assoc, its_xor p 8 (c ^^^ x), its_256]
theorem split256 (n : Nat) : (n % 256) ^^^ (256 * (n / 256)) = n := by
  apply Nat.eq_of_testBit_eq
  intro i
  rw [Nat.testBit_xor, show (256 : Nat) = 2 ^ 8 from rfl, Nat.testBit_mod_two_pow, Nat.testBit_two_pow_mul, Nat.testBit_div_two_pow]
  by_cases h : i < 8
  · simp [h, show ¬ 8 ≤ i by omega]
  · simp [h, show 8 ≤ i by omega, show i - 8 + 8 = i by omega]
theorem upd_table (p c x : Nat) : upd p c x = (c / 256) ^^^ its p 8 ((c % 256) ^^^ x) := by
  unfold upd
  conv => lhs; rw [← split256 c]
  rw [Nat.xor_assoc, Nat.xor_comm (256 * (c / 256)), ← Nat.xor_assoc, its_xor, its_256, Nat.xor_comm]
theorem le_set (bs : List Nat) (j y : Nat) (hj : j < bs.length) : le (bs.set j (bs.getD j 0 ^^^ y)) = le bs ^^^ (y * 2 ^ (8 * j)) := by
  induction bs generalizing j with
  | nil => simp at hj
  | cons x xs ih =>
    match j with
    | 0 => simp only [List.set_cons_zero, le, List.getD_cons_zero, Nat.mul_zero, Nat.pow_zero, Nat.mul_one]; rw [Nat.xor_assoc, Nat.xor_comm y, Nat.xor_assoc]
    | j + 1 =>
      simp only [List.set_cons_succ, le, List.getD_cons_succ]
      rw [ih j (by simpa using hj), Nat.xor_assoc]
      congr 1
      rw [show y * 2 ^ (8 * (j + 1)) = 2 ^ 8 * (y * 2 ^ (8 * j)) by rw [show 8 * (j + 1) = 8 * j + 8 by omega, Nat.pow_add]; ac_rfl, show (256 : Nat) = 2 ^ 8 from rfl]
      generalize y * 2 ^ (8 * j) = z
      apply Nat.eq_of_testBit_eq
      intro i
      rw [Nat.testBit_xor, Nat.testBit_two_pow_mul, Nat.testBit_two_pow_mul, Nat.testBit_two_pow_mul, Nat.testBit_xor]
      cases decide (8 ≤ i) <;> simp
end Crc
end Go.Proofs.Ytoiadofoclgnoaa
