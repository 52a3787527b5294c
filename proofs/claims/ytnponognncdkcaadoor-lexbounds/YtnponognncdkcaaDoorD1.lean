/- Numbers as digits: the law's digits and hex; help's Place (stage 12). -/
import Derived.Test.YtnponognncdkcaaDoorW3
import Derived.Test.YtnponognncdkcaaDoorT1
namespace Go.Proofs.YtnponognncdkcaaDoor
open Go.RowKit
open Adr Lx
/-- A digit's sign, its number. -/
def sg (d : Nat) : UInt8 := if d < 10 then UInt8.ofNat (48 + d) else UInt8.ofNat (55 + d)
/-- A number's digits; f: how many at most. -/
def dgF (b : Nat) : Nat → Nat → List UInt8
  | 0, n => [sg n]
  | f + 1, n => if n < b ∨ b < 2 then [sg n] else dgF b f (n / b) ++ [sg (n % b)]
def dgs (b n : Nat) : List UInt8 := dgF b n n
theorem dgF_enough {b : Nat} : ∀ (f g n : Nat), n ≤ f → n ≤ g → dgF b f n = dgF b g n
  | 0, 0, _, _, _ => rfl
  | 0, g + 1, n, h, _ => by
    obtain rfl : n = 0 := by omega
    unfold dgF
    by_cases q : 0 < b ∨ b < 2
    · rw [if_pos q]
    · omega
  | f + 1, 0, n, _, h => by
    obtain rfl : n = 0 := by omega
    unfold dgF
    by_cases q : 0 < b ∨ b < 2
    · rw [if_pos q]
    · omega
  | f + 1, g + 1, n, h1, h2 => by
    unfold dgF
    by_cases q : n < b ∨ b < 2
    · rw [if_pos q, if_pos q]
    · have hd := Nat.div_lt_self (n := n) (k := b) (by omega) (by omega)
      rw [if_neg q, if_neg q, dgF_enough f g (n / b) (by omega) (by omega)]
theorem dgs_lo {b n : Nat} (h : n < b) : dgs b n = [sg n] := by
  unfold dgs
  cases n with
  | zero => rfl
  | succ n => unfold dgF; rw [if_pos (Or.inl h)]
theorem dgs_hi {b n : Nat} (h : ¬ n < b) (hb : 2 ≤ b) : dgs b n = dgs b (n / b) ++ [sg (n % b)] := by
  have hd := Nat.div_lt_self (n := n) (k := b) (by omega) (by omega)
  obtain ⟨m, rfl⟩ : ∃ m, n = m + 1 := ⟨n - 1, by omega⟩
  show dgF b (m + 1) (m + 1) = dgF b ((m + 1) / b) ((m + 1) / b) ++ _
  rw [dgF_enough ((m + 1) / b) m ((m + 1) / b) (Nat.le_refl _) (by omega)]
  conv => lhs; unfold dgF
  rw [if_neg (by omega)]
theorem dgs_len {b : Nat} (hb : 2 ≤ b) : ∀ (k n : Nat), n < b ^ (k + 1) → (dgs b n).length ≤ k + 1 ∧ 1 ≤ (dgs b n).length
  | 0, n, h => by rw [dgs_lo (by simpa using h)]; simp
  | k + 1, n, h => by
    by_cases hl : n < b
    · rw [dgs_lo hl]; simp
    · rw [dgs_hi hl hb, List.length_append]
      obtain ⟨a, c⟩ := dgs_len hb k (n / b) (Nat.div_lt_of_lt_mul (by rw [← Nat.pow_succ']; exact h))
      simp only [List.length_singleton]
      omega
theorem tx_app (a b : List UInt8) : tx a ++ tx b = tx (a ++ b) := by simp [tx, ByteArray.mk_append_mk]
theorem ten_fin : ∀ d : Fin 10, (⟨#[48, 49, 50, 51, 52, 53, 54, 55, 56, 57]⟩ : ByteArray).extract d (d + 1) = tx [sg d] := by decide +kernel
theorem sixteen_fin : ∀ d : Fin 16, (⟨#[48, 49, 50, 51, 52, 53, 54, 55, 56, 57, 65, 66, 67, 68, 69, 70]⟩ : ByteArray).extract d (d + 1) = tx [sg d] := by decide +kernel
theorem ret_strs {a b : ByteArray} (h : a = b) : Ending.returned (.string a) = .returned (.string b) := by rw [h]
set_option maxHeartbeats 1000000 in
theorem digits_lo (n : Nat) (h : n < 10) (w : World) : Calls Tryd.prog 15 #[.int .u64 n] w fun e w' => e = .returned (.string (tx (dgs 10 n))) ∧ w' = w := by
  have h' : (n : Int) < 10 := by omega
  have e := hid_as ((ten_fin ⟨n, h⟩).trans (congrArg tx (dgs_lo h).symm))
  have c1 : (0 : Int) ≤ n := by omega
  have c2 : (n : Int) + 1 ≤ 10 := by omega
  have c3 : (n : Int) ≤ (n : Int) + 1 := by omega
  have c4 : ((n : Int) + 1).toNat = n + 1 := by omega
  go_enter Tryd.func15, Tryd.ntmps15
  go_wp2
  go_ret
  exact ⟨ret_strs e.out, rfl⟩
set_option maxHeartbeats 1000000 in
theorem digits_c : ∀ (n : Nat), n < 9223372036854775808 → ∀ (w : World), Calls Tryd.prog 15 #[.int .u64 n] w fun e w' => e = .returned (.string (tx (dgs 10 n))) ∧ w' = w := by
  intro n
  induction n using Nat.strongRecOn with
  | _ n ih =>
    intro hn w
    by_cases h : n < 10
    · exact digits_lo n h w
    · have h' : ¬ (n : Int) < 10 := by omega
      have A : Hid (∀ W, Calls Tryd.prog 15 #[.int .u64 ((n : Int) / 10)] W fun e w' => e = .returned (.string (tx (dgs 10 (n / 10)))) ∧ w' = W) := fun W => ih (n / 10) (Nat.div_lt_self (by omega) (by omega)) (by omega) W
      have B : Hid (∀ W, Calls Tryd.prog 15 #[.int .u64 ((n : Int) % 10)] W fun e w' => e = .returned (.string (tx [sg (n % 10)])) ∧ w' = W) := fun W => by
        have q := digits_lo (n % 10) (Nat.mod_lt _ (by omega)) W
        rw [dgs_lo (Nat.mod_lt _ (by omega))] at q
        exact q
      have e := hid_as ((tx_app (dgs 10 (n / 10)) [sg (n % 10)]).trans (congrArg tx (dgs_hi h (by omega)).symm))
      have hl := (dgs_len (b := 10) (by omega) 63 (n / 10) (Nat.lt_of_le_of_lt (Nat.div_le_self _ _) (Nat.lt_of_lt_of_le hn (by decide)))).1
      have hs1 : (tx (dgs 10 (n / 10))).size ≤ 64 := by rw [tx_size]; exact hl
      have hs2 : (tx [sg (n % 10)]).size = 1 := rfl
      have hs3 : ¬ 9223372036854775807 < (tx (dgs 10 (n / 10))).size + (tx [sg (n % 10)]).size := by omega
      clear hl hs1 hs2
      go_enter Tryd.func15, Tryd.ntmps15
      go_wp2_with (go_at_call 15; (first | (with_reducible refine (A.out _).mono ?_) | (with_reducible refine (B.out _).mono ?_)); rintro e w' ⟨rfl, hw⟩; subst w')
      go_ret
      exact ⟨ret_strs e.out, rfl⟩
set_option maxHeartbeats 1000000 in
theorem hex_lo (n : Nat) (h : n < 16) (w : World) : Calls Tryd.prog 17 #[.int .u64 n] w fun e w' => e = .returned (.string (tx (dgs 16 n))) ∧ w' = w := by
  have h' : (n : Int) < 16 := by omega
  have e := hid_as ((sixteen_fin ⟨n, h⟩).trans (congrArg tx (dgs_lo h).symm))
  have c1 : (0 : Int) ≤ n := by omega
  have c2 : (n : Int) + 1 ≤ 16 := by omega
  have c3 : (n : Int) ≤ (n : Int) + 1 := by omega
  have c4 : ((n : Int) + 1).toNat = n + 1 := by omega
  go_enter Tryd.func17, Tryd.ntmps17
  go_wp2
  go_ret
  exact ⟨ret_strs e.out, rfl⟩
set_option maxHeartbeats 1000000 in
theorem hex_c : ∀ (n : Nat), n < 9223372036854775808 → ∀ (w : World), Calls Tryd.prog 17 #[.int .u64 n] w fun e w' => e = .returned (.string (tx (dgs 16 n))) ∧ w' = w := by
  intro n
  induction n using Nat.strongRecOn with
  | _ n ih =>
    intro hn w
    by_cases h : n < 16
    · exact hex_lo n h w
    · have h' : ¬ (n : Int) < 16 := by omega
      have A : Hid (∀ W, Calls Tryd.prog 17 #[.int .u64 ((n : Int) / 16)] W fun e w' => e = .returned (.string (tx (dgs 16 (n / 16)))) ∧ w' = W) := fun W => ih (n / 16) (Nat.div_lt_self (by omega) (by omega)) (by omega) W
      have B : Hid (∀ W, Calls Tryd.prog 17 #[.int .u64 ((n : Int) % 16)] W fun e w' => e = .returned (.string (tx [sg (n % 16)])) ∧ w' = W) := fun W => by
        have q := hex_lo (n % 16) (Nat.mod_lt _ (by omega)) W
        rw [dgs_lo (Nat.mod_lt _ (by omega))] at q
        exact q
      have e := hid_as ((tx_app (dgs 16 (n / 16)) [sg (n % 16)]).trans (congrArg tx (dgs_hi h (by omega)).symm))
      have hl := (dgs_len (b := 16) (by omega) 63 (n / 16) (Nat.lt_of_le_of_lt (Nat.div_le_self _ _) (Nat.lt_of_lt_of_le hn (by decide)))).1
      have hs1 : (tx (dgs 16 (n / 16))).size ≤ 64 := by rw [tx_size]; exact hl
      have hs2 : (tx [sg (n % 16)]).size = 1 := rfl
      have hs3 : ¬ 9223372036854775807 < (tx (dgs 16 (n / 16))).size + (tx [sg (n % 16)]).size := by omega
      clear hl hs1 hs2
      go_enter Tryd.func17, Tryd.ntmps17
      go_wp2_with (go_at_call 17; (first | (with_reducible refine (A.out _).mono ?_) | (with_reducible refine (B.out _).mono ?_)); rintro e w' ⟨rfl, hw⟩; subst w')
      go_ret
      exact ⟨ret_strs e.out, rfl⟩
/-- help's Place: the number modulo another above 0. -/
theorem hplace_c (k m : Int) (h : 0 < m) (hm : m ≤ 3000000000) (b0 : -9223372036854775808 ≤ k) (b1 : k ≤ 9223372036854775807) (w : World) : Calls Tryd.prog 13 #[.int .i64 k, .int .i64 m] w fun e w' => e = .returned (.int .i64 (k % m)) ∧ w' = w := by
  have hne : ¬ m = 0 := by omega
  have ht : Int.tmod k m = if k % m = 0 ∨ 0 ≤ k then k % m else k % m - m := by
    by_cases hk : 0 ≤ k
    · rw [if_pos (Or.inr hk), Int.tmod_eq_emod_of_nonneg hk]
    · rw [Int.tmod_eq_emod]
      by_cases hz : k % m = 0
      · rw [if_pos (Or.inl hz), if_pos (Or.inr (Int.dvd_of_emod_eq_zero hz))]; omega
      · rw [if_neg (show ¬ (0 ≤ k ∨ m ∣ k) from fun q => q.elim hk (fun d => hz (Int.emod_eq_zero_of_dvd d))), if_neg (show ¬ (k % m = 0 ∨ 0 ≤ k) by omega)]; omega
  have r0 := Int.emod_nonneg k hne
  have r1 := Int.emod_lt_of_pos k h
  by_cases hk : k % m = 0 ∨ 0 ≤ k
  · rw [if_pos hk] at ht
    have hn : ¬ Int.tmod k m < 0 := by omega
    have e := hid_as ht
    clear ht hk
    go_enter Tryd.func13, Tryd.ntmps13
    go_wp2
    go_ret
    exact ⟨ret_int e.out, rfl⟩
  · rw [if_neg hk] at ht
    have hn : Int.tmod k m < 0 := by omega
    have e := hid_as (show Int.tmod k m + m = k % m by omega)
    have hw := hid_as (show wrap64 (Int.tmod k m + m) = Int.tmod k m + m by unfold wrap64; omega)
    clear ht hk
    go_enter Tryd.func13, Tryd.ntmps13
    go_wp2
    go_ret
    exact ⟨ret_int (hw.out.trans e.out), rfl⟩
end Go.Proofs.YtnponognncdkcaaDoor
