/- Numbers as digits: the law's digits and hex; help's Place (stage 12, carried over). -/
import Derived.Test.YtgdoanhemgklpaaGreatDoorJ2
import Derived.Test.YtgdoanhemgklpaaGreatDoorJ1
namespace Go.Proofs.YtgdoanhemgklpaaGreatDoor
open Go.RowKit
open Adr Lx
/-- A digit's sign, its number. -/
def sg (d : Nat) : UInt8 := if d < 10 then UInt8.ofNat (48 + d) else UInt8.ofNat (55 + d)
/-- A number's digits; f: how many at most. -/
def dgF (b : Nat) : Nat → Nat → List UInt8
  | 0, n => [sg n]
  | f + 1, n => if n < b ∨ b < 2 then [sg n] else dgF b f (n / b) ++ [sg (n % b)]
def dgs (b n : Nat) : List UInt8 := dgF b n n
theorem dgF_enough {b : Nat} : ∀ (f g n : Nat), n ≤ f → n ≤ g → dgF b f n = dgF b g n
  | 0, 0, _, _, _ => rfl
  | 0, g + 1, n, h, _ => by
    obtain rfl : n = 0 := by omega
    unfold dgF
    by_cases q : 0 < b ∨ b < 2
    · rw [if_pos q]
    · omega
  | f + 1, 0, n, _, h => by
    obtain rfl : n = 0 := by omega
    unfold dgF
    by_cases q : 0 < b ∨ b < 2
    · rw [if_pos q]
    · omega
  | f + 1, g + 1, n, h1, h2 => by
    unfold dgF
    by_cases q : n < b ∨ b < 2
    · rw [if_pos q, if_pos q]
    · have hd := Nat.div_lt_self (n := n) (k := b) (by omega) (by omega)
      rw [if_neg q, if_neg q, dgF_enough f g (n / b) (by omega) (by omega)]
theorem dgs_lo {b n : Nat} (h : n < b) : dgs b n = [sg n] := by
  unfold dgs
  cases n with
  | zero => rfl
  | succ n => unfold dgF; rw [if_pos (Or.inl h)]
theorem dgs_hi {b n : Nat} (h : ¬ n < b) (hb : 2 ≤ b) : dgs b n = dgs b (n / b) ++ [sg (n % b)] := by
  have hd := Nat.div_lt_self (n := n) (k := b) (by omega) (by omega)
  obtain ⟨m, rfl⟩ : ∃ m, n = m + 1 := ⟨n - 1, by omega⟩
  show dgF b (m + 1) (m + 1) = dgF b ((m + 1) / b) ((m + 1) / b) ++ _
  rw [dgF_enough ((m + 1) / b) m ((m + 1) / b) (Nat.le_refl _) (by omega)]
  conv => lhs; unfold dgF
  rw [if_neg (by omega)]
theorem dgs_len {b : Nat} (hb : 2 ≤ b) : ∀ (k n : Nat), n < b ^ (k + 1) → (dgs b n).length ≤ k + 1 ∧ 1 ≤ (dgs b n).length
  | 0, n, h => by rw [dgs_lo (by simpa using h)]; simp
  | k + 1, n, h => by
    by_cases hl : n < b
    · rw [dgs_lo hl]; simp
    · rw [dgs_hi hl hb, List.length_append]
      obtain ⟨a, c⟩ := dgs_len hb k (n / b) (Nat.div_lt_of_lt_mul (by rw [← Nat.pow_succ']; exact h))
      simp only [List.length_singleton]
      omega
theorem tx_app (a b : List UInt8) : tx a ++ tx b = tx (a ++ b) := by simp [tx, ByteArray.mk_append_mk]
theorem ten_fin : ∀ d : Fin 10, (⟨#[48, 49, 50, 51, 52, 53, 54, 55, 56, 57]⟩ : ByteArray).extract d (d + 1) = tx [sg d] := by decide +kernel
theorem sixteen_fin : ∀ d : Fin 16, (⟨#[48, 49, 50, 51, 52, 53, 54, 55, 56, 57, 65, 66, 67, 68, 69, 70]⟩ : ByteArray).extract d (d + 1) = tx [sg d] := by decide +kernel
theorem ret_strs {a b : ByteArray} (h : a = b) : Ending.returned (.string a) = .returned (.string b) := by rw [h]
/-- help's Place: the number modulo another above 0. -/
theorem hplace_c (k m : Int) (h : 0 < m) (hm : m ≤ 3000000000) (b0 : -9223372036854775808 ≤ k) (b1 : k ≤ 9223372036854775807) (w : World) : Calls Tryz.prog 12 #[.int .i64 k, .int .i64 m] w fun e w' => e = .returned (.int .i64 (k % m)) ∧ w' = w := by
  have hne : ¬ m = 0 := by omega
  have ht : Int.tmod k m = if k % m = 0 ∨ 0 ≤ k then k % m else k % m - m := by
    by_cases hk : 0 ≤ k
    · rw [if_pos (Or.inr hk), Int.tmod_eq_emod_of_nonneg hk]
    · rw [Int.tmod_eq_emod]
      by_cases hz : k % m = 0
      · rw [if_pos (Or.inl hz), if_pos (Or.inr (Int.dvd_of_emod_eq_zero hz))]; omega
      · rw [if_neg (show ¬ (0 ≤ k ∨ m ∣ k) from fun q => q.elim hk (fun d => hz (Int.emod_eq_zero_of_dvd d))), if_neg (show ¬ (k % m = 0 ∨ 0 ≤ k) by omega)]; omega
  have r0 := Int.emod_nonneg k hne
  have r1 := Int.emod_lt_of_pos k h
  by_cases hk : k % m = 0 ∨ 0 ≤ k
  · rw [if_pos hk] at ht
    have hn : ¬ Int.tmod k m < 0 := by omega
    have e := hid_as ht
    clear ht hk
    go_enter Tryz.func12, Tryz.ntmps12
    go_wp2
    go_ret
    exact ⟨ret_int e.out, rfl⟩
  · rw [if_neg hk] at ht
    have hn : Int.tmod k m < 0 := by omega
    have e := hid_as (show Int.tmod k m + m = k % m by omega)
    have hw := hid_as (show wrap64 (Int.tmod k m + m) = Int.tmod k m + m by unfold wrap64; omega)
    clear ht hk
    go_enter Tryz.func12, Tryz.ntmps12
    go_wp2
    go_ret
    exact ⟨ret_int (hw.out.trans e.out), rfl⟩
end Go.Proofs.YtgdoanhemgklpaaGreatDoor
