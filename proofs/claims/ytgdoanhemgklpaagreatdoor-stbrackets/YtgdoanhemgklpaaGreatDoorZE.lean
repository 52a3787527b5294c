/- print: calls (stage 13). -/
import Derived.Test.YtgdoanhemgklpaaGreatDoorZB
namespace Go.Proofs.YtgdoanhemgklpaaGreatDoor
open Go.RowKit
open Adr Lx Sx
/-- Texts with commas between them. -/
def jn : List (List UInt8) → List UInt8
  | [] => []
  | b :: r => b ++ (r.flatMap fun b => [44, 32] ++ b)
theorem jn_snoc (r : List (List UInt8)) (b : List UInt8) : jn (r ++ [b]) = jn r ++ (if r.length = 0 then [] else [44, 32]) ++ b := by
  cases r with
  | nil => simp [jn]
  | cons x r => simp [jn]
theorem jn_take {bs : List (List UInt8)} {m : Nat} (h : m < bs.length) : jn (bs.take (m + 1)) = jn (bs.take m) ++ (if m = 0 then [] else [44, 32]) ++ bs.getD m [] := by
  rw [List.take_add_one, List.getElem?_eq_getElem h, Option.toList_some, jn_snoc, List.length_take, Nat.min_eq_left (by omega), List.getD_eq_getElem?_getD, List.getElem?_eq_getElem h]
  rfl
theorem jn_le (bs : List (List UInt8)) : ∀ (n m : Nat), n + m = bs.length → (jn (bs.take m)).length ≤ (jn bs).length
  | 0, m, h => by rw [List.take_of_length_le (by omega)]; exact Nat.le_refl _
  | n + 1, m, h => by
    have q := jn_le bs n (m + 1) (by omega)
    rw [jn_take (by omega), List.length_append, List.length_append] at q
    omega
set_option maxHeartbeats 4000000 in
set_option maxRecDepth 100000 in
theorem print_call (w : World) (g cap cn : Nat) (p : Int) (a : List UInt8) (bs : List (List UInt8)) (hl : bs.length = cn) (hn : 0 < cn) (hcn : cn ≤ 200000) (hg : g < w.heap.size) (R : Hid (∀ j, j < cn → ∃ (o1 k1 n1 : Int) (nm1 fl1 : ByteArray) (lp1 : Option Addr) (ln1 lc1 : Nat) (p1 : Int), RowE w g j o1 k1 n1 nm1 fl1 (.slice lp1 ln1 lc1) p1 ∧ (∀ W, Below w.heap.size w W → Calls Tryz.prog 9 #[.agg #[.int .i64 o1, .int .i64 k1, .int .i64 n1, .string nm1, .string fl1, .slice lp1 ln1 lc1, .int .i64 p1]] W fun e w' => e = .returned (.string (tx (bs.getD j []))) ∧ Below W.heap.size W w'))) (hz : (a ++ [40] ++ jn bs ++ [41]).length ≤ 200000) : Calls Tryz.prog 9 #[.agg #[.int .i64 19, .int .i64 0, .int .i64 0, .string (tx a), .string ⟨#[]⟩, .slice (some ⟨g, 0, none⟩) cn cap, .int .i64 p]] w fun e w' => e = .returned (.string (tx (a ++ [40] ++ jn bs ++ [41]))) ∧ Below w.heap.size w w' := by
  have B0 := hid_as (Bk.fresh w #[.int .i64 19, .int .i64 0, .int .i64 0, .string (tx a), .string ⟨#[]⟩, .slice (some ⟨g, 0, none⟩) cn cap, .int .i64 p] 25)
  have K0 := hid_as (below_new1 w (.cells #[.int .i64 19, .int .i64 0, .int .i64 0, .string (tx a), .string ⟨#[]⟩, .slice (some ⟨g, 0, none⟩) cn cap, .int .i64 p] 25))
  have hza : (tx a).size ≤ 200000 := by rw [tx_size]; simp only [List.length_append] at hz; omega
  have T0 : Hid (tx a ++ tx [40] = tx (a ++ [40] ++ jn (bs.take 0))) := hid_as (by rw [tx_app, List.take_zero]; simp [jn])
  have hb32 : ∀ m, m ≤ cn → (tx (a ++ [40] ++ jn (bs.take m))).size ≤ 200000 := fun m hm => by
    have q := jn_le bs (cn - m) m (by omega)
    rw [tx_size]
    simp only [List.length_append] at hz ⊢
    omega
  have hbl : ∀ m, m < cn → (tx (bs.getD m [])).size ≤ 200000 := fun m hm => by
    have q := jn_le bs (cn - (m + 1)) (m + 1) (by omega)
    rw [jn_take (by omega)] at q
    rw [tx_size]
    simp only [List.length_append] at hz q
    omega
  have TE : Hid (tx (a ++ [40] ++ jn (bs.take cn)) ++ tx [41] = tx (a ++ [40] ++ jn bs ++ [41])) := hid_as (by rw [tx_app, List.take_of_length_le (by omega)])
  generalize hFI : tx (a ++ [40] ++ jn bs ++ [41]) = FI at *
  clear hFI
  generalize hX : tx a = X at *
  go_enter Tryz.func9, Tryz.ntmps9
  go_wp2
  subst hX
  go_loopw [5, 6] (fun o i wr => ∃ m : Nat, m ≤ cn ∧ i = .int .i64 m ∧ o = .string (tx (a ++ [40] ++ jn (bs.take m))) ∧ Hid (Below w.heap.size w wr) ∧ Hid (Bk wr w.heap.size #[.int .i64 19, .int .i64 0, .int .i64 0, .string (tx a), .string ⟨#[]⟩, .slice (some ⟨g, 0, none⟩) cn cap, .int .i64 p])) (fun _ i _ => cn - (intOf i).toNat)
  case atStart => exact ⟨0, by omega, rfl, congrArg Value.string T0.out, K0, B0⟩
  case round =>
    obtain ⟨m, hm, rfl, rfl, hK, hB⟩ := hrel
    have hO := hb32 m hm
    obtain ⟨c0, c1, c2, c3, c4, c5, c6⟩ := bk7 hB.out
    by_cases hlt : m < cn
    · have hlt' : (m : Int) < cn := by omega
      have hbs := hbl m hlt
      obtain ⟨o1, k1, n1, nm1, fl1, lp1, ln1, lc1, p1, r, C'⟩ := R.out m hlt
      have C := hid_as C'
      clear C'
      obtain ⟨a0, a1, a2, a3, a4, a5, a6⟩ := r.below hg hK.out
      clear r
      obtain ⟨b, hbe⟩ : ∃ b, bs.getD m [] = b := ⟨_, rfl⟩
      rw [hbe] at C hbs
      by_cases h0 : m = 0
      · subst h0
        have h0 : (0 : Nat) = 0 := rfl
        simp only [Nat.zero_mul, Nat.zero_add] at a0 a1 a2 a3 a4 a5 a6
        have T : Hid (tx (a ++ [40] ++ jn (bs.take 0)) ++ tx b = tx (a ++ [40] ++ jn (bs.take (0 + 1)))) := hid_as (by rw [tx_app, jn_take (by omega), if_pos h0, hbe]; simp)
        generalize tx (a ++ [40] ++ jn (bs.take 0)) = O at *
        clear h0
        generalize hY : tx b = Y at *
        clear hbe hY
        go_wp2_with (go_at_call 9; (with_reducible refine (C.out _ hK.out).mono ?_); rintro e w1 ⟨rfl, k1⟩; have K1 := hid_as (below_and hK.out k1); have B1 := hid_as (hB.out.below k1); clear k1)
        go_roundw
        case rel => exact ⟨0 + 1, by omega, rfl, congrArg Value.string T.out, K1, B1⟩
        case measure => show cn - ((1 : Int)).toNat < cn - (0 : Int).toNat; omega
      · have h0' : (0 : Int) < m := by omega
        have h0'' : 0 < m := by omega
        have T : Hid (tx (a ++ [40] ++ jn (bs.take m)) ++ tx [44, 32] ++ tx b = tx (a ++ [40] ++ jn (bs.take (m + 1)))) := hid_as (by rw [tx_app, tx_app, jn_take (by omega), if_neg h0, hbe]; simp)
        generalize tx (a ++ [40] ++ jn (bs.take m)) = O at *
        skip
        generalize hY : tx b = Y at *
        clear hbe hY
        go_wp2_with (go_at_call 9; (with_reducible refine (C.out _ hK.out).mono ?_); rintro e w1 ⟨rfl, k1⟩; have K1 := hid_as (below_and hK.out k1); have B1 := hid_as (hB.out.below k1); clear k1)
        go_roundw
        case rel => exact ⟨m + 1, by omega, rfl, congrArg Value.string T.out, K1, B1⟩
        case measure => show cn - (((m : Int) + 1)).toNat < cn - (m : Int).toNat; omega
    · have hlt' : ¬ (m : Int) < cn := by omega
      obtain rfl : cn = m := by omega
      generalize tx (a ++ [40] ++ jn (bs.take cn)) = O at *
      go_wp2
      go_ret
      exact ⟨ret_strs TE.out, hK.out⟩
end Go.Proofs.YtgdoanhemgklpaaGreatDoor
