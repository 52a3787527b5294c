/- How many signs are of a sort; digits (stage 12). -/
import Derived.Test.YtnponognncdkcaaDoorW1
namespace Go.Proofs.YtnponognncdkcaaDoor
open Go.RowKit
open Adr Lx
theorem cz_step {p : UInt8 → Bool} {l : List UInt8} {k : Nat} (h : k < l.length) (hp : ∀ j (hj : j < l.length), j < k → p l[j] = true) (hk : p l[k] = false) : cz p l = k := by
  unfold cz
  induction l generalizing k with
  | nil => simp at h
  | cons c l ih =>
    cases k with
    | zero => rw [List.takeWhile_cons]; rw [show p c = false from hk]; rfl
    | succ k =>
      have h0 : p c = true := hp 0 (by simp) (by omega)
      rw [List.takeWhile_cons, h0]
      simp only [if_true, List.length_cons]
      rw [ih (by simpa using h) (fun j hj hlt => hp (j + 1) (by simpa using hj) (by omega)) hk]
theorem cz_all {p : UInt8 → Bool} {l : List UInt8} (hp : ∀ j (hj : j < l.length), p l[j] = true) : cz p l = l.length := by
  unfold cz
  induction l with
  | nil => rfl
  | cons c l ih =>
    have h0 : p c = true := hp 0 (by simp)
    rw [List.takeWhile_cons, h0]
    simp only [if_true, List.length_cons]
    rw [ih (fun j hj => hp (j + 1) (by simpa using hj))]
theorem cz_le (p : UInt8 → Bool) (l : List UInt8) : cz p l ≤ l.length := by
  unfold cz
  exact (List.takeWhile_sublist p).length_le
theorem sizeW_c (s : ByteArray) (w : World) (hs : s.size ≤ 70000) :
    Calls Tryd.prog 42 #[.string s, .func (.func 43) #[] #[]] w fun e w' => e = .returned (.int .i64 (cz inW s.data.toList)) ∧ w' = w := by
  have hL := hid_as (Lib.size_eq s)
  go_enter Tryd.func42, Tryd.ntmps42
  go_wp2
  go_loopw [8] (fun i wr => ∃ k : Nat, k ≤ s.size ∧ i = .int .i64 k ∧ wr = w ∧ Hid (∀ j (hj : j < s.data.toList.length), j < k → inW s.data.toList[j] = true)) (fun i wr => s.size - (intOf i).toNat)
  case atStart => exact ⟨0, by omega, rfl, rfl, hid_as (fun j hj hlt => by omega)⟩
  case round =>
    obtain ⟨k, hk, rfl, hw, hn⟩ := hrel
    subst hw
    by_cases hlt : k < s.size
    · have hlt' : (k : Int) < s.size := by omega
      cases hp : inW s[k] with
      | true =>
        go_wp2_with (go_at_call 43; refine (inWord_c _ _).mono ?_; rintro e w' ⟨rfl, hw⟩; subst w'; rw [hp])
        go_roundw
        case rel =>
          refine ⟨k + 1, by omega, by go_num, trivial, hid_as (fun j hj hlt => ?_)⟩
          by_cases e : j = k
          · subst e; exact hp
          · exact hn.out j hj (by omega)
        case measure => simp [intOf]; omega
      | false =>
        go_wp2_with (go_at_call 43; refine (inWord_c _ _).mono ?_; rintro e w' ⟨rfl, hw⟩; subst w'; rw [hp])
        go_ret
        exact ⟨ret_int (by rw [cz_step (k := k) (by rw [← Lib.size_eq]; exact hlt) hn.out hp]), rfl⟩
    · go_wp2
      go_ret
      exact ⟨ret_int (by rw [cz_all (fun j hj => hn.out j hj (by have := hL.out; omega)), ← Lib.size_eq]), rfl⟩
theorem sizeA_c (s : ByteArray) (w : World) (hs : s.size ≤ 70000) :
    Calls Tryd.prog 42 #[.string s, .func (.func 48) #[] #[]] w fun e w' => e = .returned (.int .i64 (cz inA s.data.toList)) ∧ w' = w := by
  have hL := hid_as (Lib.size_eq s)
  go_enter Tryd.func42, Tryd.ntmps42
  go_wp2
  go_loopw [8] (fun i wr => ∃ k : Nat, k ≤ s.size ∧ i = .int .i64 k ∧ wr = w ∧ Hid (∀ j (hj : j < s.data.toList.length), j < k → inA s.data.toList[j] = true)) (fun i wr => s.size - (intOf i).toNat)
  case atStart => exact ⟨0, by omega, rfl, rfl, hid_as (fun j hj hlt => by omega)⟩
  case round =>
    obtain ⟨k, hk, rfl, hw, hn⟩ := hrel
    subst hw
    by_cases hlt : k < s.size
    · have hlt' : (k : Int) < s.size := by omega
      cases hp : inA s[k] with
      | true =>
        go_wp2_with (go_at_call 48; refine (inAddress_c _ _).mono ?_; rintro e w' ⟨rfl, hw⟩; subst w'; rw [hp])
        go_roundw
        case rel =>
          refine ⟨k + 1, by omega, by go_num, trivial, hid_as (fun j hj hlt => ?_)⟩
          by_cases e : j = k
          · subst e; exact hp
          · exact hn.out j hj (by omega)
        case measure => simp [intOf]; omega
      | false =>
        go_wp2_with (go_at_call 48; refine (inAddress_c _ _).mono ?_; rintro e w' ⟨rfl, hw⟩; subst w'; rw [hp])
        go_ret
        exact ⟨ret_int (by rw [cz_step (k := k) (by rw [← Lib.size_eq]; exact hlt) hn.out hp]), rfl⟩
    · go_wp2
      go_ret
      exact ⟨ret_int (by rw [cz_all (fun j hj => hn.out j hj (by have := hL.out; omega)), ← Lib.size_eq]), rfl⟩
end Go.Proofs.YtnponognncdkcaaDoor
