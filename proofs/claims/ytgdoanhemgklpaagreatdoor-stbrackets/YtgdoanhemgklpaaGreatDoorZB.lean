/- print: a literal, a name (stage 13). -/
import Derived.Test.YtgdoanhemgklpaaGreatDoorZA
import Derived.Test.YtgdoanhemgklpaaGreatDoorZ4
namespace Go.Proofs.YtgdoanhemgklpaaGreatDoor
open Go.RowKit
open Adr Lx Sx
def eleven : Array Value := #[.string ⟨#[]⟩, .string ⟨#[66, 79, 79, 76, 35]⟩, .string ⟨#[83, 73, 78, 84, 35]⟩, .string ⟨#[73, 78, 84, 35]⟩, .string ⟨#[68, 73, 78, 84, 35]⟩, .string ⟨#[85, 83, 73, 78, 84, 35]⟩, .string ⟨#[85, 73, 78, 84, 35]⟩, .string ⟨#[85, 68, 73, 78, 84, 35]⟩, .string ⟨#[66, 89, 84, 69, 35]⟩, .string ⟨#[87, 79, 82, 68, 35]⟩, .string ⟨#[68, 87, 79, 82, 68, 35]⟩]
theorem eleven_at (k : Nat) (h : k ≤ 10) : eleven[k]? = some (.string (tx (kdt k))) := by
  have hc : k = 0 ∨ k = 1 ∨ k = 2 ∨ k = 3 ∨ k = 4 ∨ k = 5 ∨ k = 6 ∨ k = 7 ∨ k = 8 ∨ k = 9 ∨ k = 10 := by omega
  rcases hc with rfl | rfl | rfl | rfl | rfl | rfl | rfl | rfl | rfl | rfl | rfl <;> rfl
def fourteen : Array Value := #[.string ⟨#[42]⟩, .string ⟨#[47]⟩, .string ⟨#[77, 79, 68]⟩, .string ⟨#[43]⟩, .string ⟨#[45]⟩, .string ⟨#[60]⟩, .string ⟨#[62]⟩, .string ⟨#[60, 61]⟩, .string ⟨#[62, 61]⟩, .string ⟨#[61]⟩, .string ⟨#[60, 62]⟩, .string ⟨#[65, 78, 68]⟩, .string ⟨#[88, 79, 82]⟩, .string ⟨#[79, 82]⟩]
theorem fourteen_at (q : Nat) (h : q ≤ 13) : fourteen[q]? = some (.string (tx (opw (q + 5)))) := by
  have hc : q = 0 ∨ q = 1 ∨ q = 2 ∨ q = 3 ∨ q = 4 ∨ q = 5 ∨ q = 6 ∨ q = 7 ∨ q = 8 ∨ q = 9 ∨ q = 10 ∨ q = 11 ∨ q = 12 ∨ q = 13 := by omega
  rcases hc with rfl | rfl | rfl | rfl | rfl | rfl | rfl | rfl | rfl | rfl | rfl | rfl | rfl | rfl <;> rfl
theorem tx3 (a b c : List UInt8) : tx a ++ tx b ++ tx c = tx (a ++ b ++ c) := by rw [tx_app, tx_app]
set_option maxHeartbeats 4000000 in
set_option maxRecDepth 100000 in
theorem print_tn (u : Nat) (h1 : 1 ≤ u) (h2 : u ≤ 4294967295) (nm fl : ByteArray) (lp : Option Addr) (ln lc : Nat) (p : Int) (w : World) : Calls Tryz.prog 9 #[.agg #[.int .i64 1, .int .i64 11, .int .i64 (-(u : Int)), .string nm, .string fl, .slice lp ln lc, .int .i64 p]] w fun e w' => e = .returned (.string (tx ([84, 35, 45] ++ dgs 10 u ++ [109, 115]))) ∧ Below w.heap.size w w' := by
  have D : Hid (∀ W, Calls Tryz.prog 20 #[.int .u64 u] W fun e w' => e = .returned (.string (tx (dgs 10 u))) ∧ w' = W) := fun W => digitz_c u (by omega) W
  have hl := (dgs_len (b := 10) (by omega) 9 u (Nat.lt_of_le_of_lt h2 (by decide))).1
  have hs : (tx (dgs 10 u)).size ≤ 10 := by rw [tx_size]; exact hl
  have h3 : (-(u : Int)) < 0 := by omega
  have T := hid_as (tx3 [84, 35, 45] (dgs 10 u) [109, 115])
  generalize hX : tx (dgs 10 u) = X at *
  clear hl hX
  go_enter Tryz.func9, Tryz.ntmps9
  go_wp2_with (go_at_call 20; (with_reducible refine (D.out _).mono ?_); rintro e w1 ⟨rfl, hw⟩; subst w1)
  go_ret
  exact ⟨ret_strs T.out, below_new1 _ _⟩
set_option maxHeartbeats 4000000 in
set_option maxRecDepth 100000 in
theorem print_tp (u : Nat) (h1 : 0 ≤ u) (h2 : u ≤ 4294967295) (nm fl : ByteArray) (lp : Option Addr) (ln lc : Nat) (p : Int) (w : World) : Calls Tryz.prog 9 #[.agg #[.int .i64 1, .int .i64 11, .int .i64 (u : Int), .string nm, .string fl, .slice lp ln lc, .int .i64 p]] w fun e w' => e = .returned (.string (tx ([84, 35] ++ dgs 10 u ++ [109, 115]))) ∧ Below w.heap.size w w' := by
  have D : Hid (∀ W, Calls Tryz.prog 20 #[.int .u64 u] W fun e w' => e = .returned (.string (tx (dgs 10 u))) ∧ w' = W) := fun W => digitz_c u (by omega) W
  have hl := (dgs_len (b := 10) (by omega) 9 u (Nat.lt_of_le_of_lt h2 (by decide))).1
  have hs : (tx (dgs 10 u)).size ≤ 10 := by rw [tx_size]; exact hl
  have h3 : ¬ (u : Int) < 0 := by omega
  have T := hid_as (tx3 [84, 35] (dgs 10 u) [109, 115])
  generalize hX : tx (dgs 10 u) = X at *
  clear hl hX
  go_enter Tryz.func9, Tryz.ntmps9
  go_wp2_with (go_at_call 20; (with_reducible refine (D.out _).mono ?_); rintro e w1 ⟨rfl, hw⟩; subst w1)
  go_ret
  exact ⟨ret_strs T.out, below_new1 _ _⟩
set_option maxHeartbeats 4000000 in
set_option maxRecDepth 100000 in
theorem print_ln (k : Nat) (hk : k ≤ 10) (u : Nat) (h1 : 1 ≤ u) (h2 : u ≤ 4294967295) (nm fl : ByteArray) (lp : Option Addr) (ln lc : Nat) (p : Int) (w : World) : Calls Tryz.prog 9 #[.agg #[.int .i64 1, .int .i64 k, .int .i64 (-(u : Int)), .string nm, .string fl, .slice lp ln lc, .int .i64 p]] w fun e w' => e = .returned (.string (tx (kdt k ++ [45] ++ dgs 10 u))) ∧ Below w.heap.size w w' := by
  have D : Hid (∀ W, Calls Tryz.prog 20 #[.int .u64 u] W fun e w' => e = .returned (.string (tx (dgs 10 u))) ∧ w' = W) := fun W => digitz_c u (by omega) W
  have hl := (dgs_len (b := 10) (by omega) 9 u (Nat.lt_of_le_of_lt h2 (by decide))).1
  have hs : (tx (dgs 10 u)).size ≤ 10 := by rw [tx_size]; exact hl
  have h3 : (-(u : Int)) < 0 := by omega
  have T := hid_as (tx3 (kdt k) [45] (dgs 10 u))
  have hk1 : ¬ (k : Int) = 11 := by omega
  have hk2 : (k : Int) < 11 := by omega
  have hz : (tx (kdt k)).size ≤ 6 := by rw [tx_size]; exact kdt_le k (by omega)
  have hc : ((w.alloc (.cells #[.int .i64 1, .int .i64 k, .int .i64 (-(u : Int)), .string nm, .string fl, .slice lp ln lc, .int .i64 p] 25)).alloc (.cells #[.string ⟨#[]⟩, .string ⟨#[66, 79, 79, 76, 35]⟩, .string ⟨#[83, 73, 78, 84, 35]⟩, .string ⟨#[73, 78, 84, 35]⟩, .string ⟨#[68, 73, 78, 84, 35]⟩, .string ⟨#[85, 83, 73, 78, 84, 35]⟩, .string ⟨#[85, 73, 78, 84, 35]⟩, .string ⟨#[85, 68, 73, 78, 84, 35]⟩, .string ⟨#[66, 89, 84, 69, 35]⟩, .string ⟨#[87, 79, 82, 68, 35]⟩, .string ⟨#[68, 87, 79, 82, 68, 35]⟩] 9)).cell? ⟨w.heap.size + 1, k, none⟩ = some (.string (tx (kdt k))) := by
    rw [show w.heap.size + 1 = (w.alloc (.cells #[.int .i64 1, .int .i64 k, .int .i64 (-(u : Int)), .string nm, .string fl, .slice lp ln lc, .int .i64 p] 25)).heap.size by rw [World.size_alloc], World.cell?_alloc_at _ _ _ _ rfl]
    exact eleven_at k hk
  generalize hX : tx (dgs 10 u) = X at *
  generalize hY : tx (kdt k) = Y at *
  clear hl hX hY
  go_enter Tryz.func9, Tryz.ntmps9
  go_wp2_with (go_at_call 20; (with_reducible refine (D.out _).mono ?_); rintro e w1 ⟨rfl, hw⟩; subst w1)
  go_ret
  exact ⟨ret_strs T.out, below_and (below_new1 _ _) (below_new1 _ _)⟩
set_option maxHeartbeats 4000000 in
set_option maxRecDepth 100000 in
theorem print_lp (k : Nat) (hk : k ≤ 10) (u : Nat) (h1 : 0 ≤ u) (h2 : u ≤ 4294967295) (nm fl : ByteArray) (lp : Option Addr) (ln lc : Nat) (p : Int) (w : World) : Calls Tryz.prog 9 #[.agg #[.int .i64 1, .int .i64 k, .int .i64 (u : Int), .string nm, .string fl, .slice lp ln lc, .int .i64 p]] w fun e w' => e = .returned (.string (tx (kdt k ++ dgs 10 u))) ∧ Below w.heap.size w w' := by
  have D : Hid (∀ W, Calls Tryz.prog 20 #[.int .u64 u] W fun e w' => e = .returned (.string (tx (dgs 10 u))) ∧ w' = W) := fun W => digitz_c u (by omega) W
  have hl := (dgs_len (b := 10) (by omega) 9 u (Nat.lt_of_le_of_lt h2 (by decide))).1
  have hs : (tx (dgs 10 u)).size ≤ 10 := by rw [tx_size]; exact hl
  have h3 : ¬ (u : Int) < 0 := by omega
  have T := hid_as (tx_app (kdt k) (dgs 10 u))
  have hk1 : ¬ (k : Int) = 11 := by omega
  have hk2 : (k : Int) < 11 := by omega
  have hz : (tx (kdt k)).size ≤ 6 := by rw [tx_size]; exact kdt_le k (by omega)
  have hc : ((w.alloc (.cells #[.int .i64 1, .int .i64 k, .int .i64 (u : Int), .string nm, .string fl, .slice lp ln lc, .int .i64 p] 25)).alloc (.cells #[.string ⟨#[]⟩, .string ⟨#[66, 79, 79, 76, 35]⟩, .string ⟨#[83, 73, 78, 84, 35]⟩, .string ⟨#[73, 78, 84, 35]⟩, .string ⟨#[68, 73, 78, 84, 35]⟩, .string ⟨#[85, 83, 73, 78, 84, 35]⟩, .string ⟨#[85, 73, 78, 84, 35]⟩, .string ⟨#[85, 68, 73, 78, 84, 35]⟩, .string ⟨#[66, 89, 84, 69, 35]⟩, .string ⟨#[87, 79, 82, 68, 35]⟩, .string ⟨#[68, 87, 79, 82, 68, 35]⟩] 9)).cell? ⟨w.heap.size + 1, k, none⟩ = some (.string (tx (kdt k))) := by
    rw [show w.heap.size + 1 = (w.alloc (.cells #[.int .i64 1, .int .i64 k, .int .i64 (u : Int), .string nm, .string fl, .slice lp ln lc, .int .i64 p] 25)).heap.size by rw [World.size_alloc], World.cell?_alloc_at _ _ _ _ rfl]
    exact eleven_at k hk
  generalize hX : tx (dgs 10 u) = X at *
  generalize hY : tx (kdt k) = Y at *
  clear hl hX hY
  go_enter Tryz.func9, Tryz.ntmps9
  go_wp2_with (go_at_call 20; (with_reducible refine (D.out _).mono ?_); rintro e w1 ⟨rfl, hw⟩; subst w1)
  go_ret
  exact ⟨ret_strs T.out, below_and (below_new1 _ _) (below_new1 _ _)⟩
set_option maxHeartbeats 4000000 in
set_option maxRecDepth 100000 in
theorem print_name (nm : ByteArray) (p : Int) (w : World) : Calls Tryz.prog 9 #[.agg #[.int .i64 2, .int .i64 0, .int .i64 0, .string nm, .string ⟨#[]⟩, .slice none 0 0, .int .i64 p]] w fun e w' => e = .returned (.string nm) ∧ Below w.heap.size w w' := by
  go_enter Tryz.func9, Tryz.ntmps9
  go_wp2
  go_ret
  exact ⟨rfl, below_new1 _ _⟩
set_option maxHeartbeats 4000000 in
set_option maxRecDepth 100000 in
theorem print_field (a b : List UInt8) (ha : a.length ≤ 32) (hb : b.length ≤ 32) (hb0 : b ≠ []) (p : Int) (w : World) : Calls Tryz.prog 9 #[.agg #[.int .i64 2, .int .i64 0, .int .i64 0, .string (tx a), .string (tx b), .slice none 0 0, .int .i64 p]] w fun e w' => e = .returned (.string (tx (a ++ [46] ++ b))) ∧ Below w.heap.size w w' := by
  have hs : (tx a).size ≤ 32 := by rw [tx_size]; exact ha
  have ht : (tx b).size ≤ 32 := by rw [tx_size]; exact hb
  have hn : (tx b).toList.isEmpty = false := by
    have q := text_0 (s := tx b) (by rw [tx_size]; exact List.length_pos_iff.2 hb0)
    cases h : (tx b).toList with
    | nil => rw [h] at q; cases q
    | cons x y => rfl
  have T := hid_as (tx3 a [46] b)
  generalize tx a = X at *
  generalize tx b = Y at *
  go_enter Tryz.func9, Tryz.ntmps9
  go_wp2
  go_ret
  exact ⟨ret_strs T.out, below_new1 _ _⟩
end Go.Proofs.YtgdoanhemgklpaaGreatDoor
