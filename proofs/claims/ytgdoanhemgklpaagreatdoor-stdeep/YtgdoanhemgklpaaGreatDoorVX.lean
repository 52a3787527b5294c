/- The law of depths, whole (stage 13). -/
import Derived.Test.YtgdoanhemgklpaaGreatDoorVW
import Derived.Test.YtgdoanhemgklpaaGreatDoorVUE0
import Derived.Test.YtgdoanhemgklpaaGreatDoorVUE1
import Derived.Test.YtgdoanhemgklpaaGreatDoorVUE2
import Derived.Test.YtgdoanhemgklpaaGreatDoorVUE3
import Derived.Test.YtgdoanhemgklpaaGreatDoorVUP0
import Derived.Test.YtgdoanhemgklpaaGreatDoorVUP1
import Derived.Test.YtgdoanhemgklpaaGreatDoorVUP2
import Derived.Test.YtgdoanhemgklpaaGreatDoorVUP3
import Derived.Test.YtgdoanhemgklpaaGreatDoorVUP4
import Derived.Test.YtgdoanhemgklpaaGreatDoorVUP5
namespace Go.Proofs.YtgdoanhemgklpaaGreatDoor
open Go.RowKit
open Adr Lx Sx
theorem chP_all (N : Nat) (h : N < 80) : chP N = true := by
  by_cases h1 : N < 32
  · exact chP_0 N (by omega) h1
  · by_cases h2 : N < 48
    · exact chP_1 N (by omega) h2
    · by_cases h3 : N < 56
      · exact chP_2 N (by omega) h3
      · by_cases h4 : N < 64
        · exact chP_3 N (by omega) h4
        · by_cases h5 : N < 72
          · exact chP_4 N (by omega) h5
          · exact chP_5 N (by omega) h
theorem deep_w (n how : Int) (bn : -9223372036854775808 ≤ n ∧ n ≤ 9223372036854775807) (bh : -9223372036854775808 ≤ how ∧ how ≤ 9223372036854775807) (w : World) (hT : Tabs w) : Calls Tryz.prog 4 #[.int .i64 n, .int .i64 how] w fun e w' => e = .returned (.bool true) ∧ Below w.heap.size w w' := by
  obtain ⟨N, hN, hN2⟩ : ∃ N : Nat, n % 80 = N ∧ N < 80 := ⟨(n % 80).toNat, by omega, by omega⟩
  have P1 : Hid (∀ W, Calls Tryz.prog 12 #[.int .i64 n, .int .i64 80] W fun e w' => e = .returned (.int .i64 (N : Int)) ∧ w' = W) := fun W => by
    have q := hplace_c n 80 (by decide) (by decide) bn.1 bn.2 W
    rw [hN] at q
    exact q
  have P2 : ∀ H : Int, how % 5 = H → Hid (∀ W, Calls Tryz.prog 12 #[.int .i64 how, .int .i64 5] W fun e w' => e = .returned (.int .i64 H) ∧ w' = W) := fun H hH W => by
    have q := hplace_c how 5 (by decide) (by decide) bh.1 bh.2 W
    rw [hH] at q
    exact q
  have hc : how % 5 = 0 ∨ how % 5 = 1 ∨ how % 5 = 2 ∨ how % 5 = 3 ∨ how % 5 = 4 := by omega
  rcases hc with h | h | h | h | h
  · exact if h3 : N < 32 then deep_0y n how N hN2 (chE_0 N (Nat.zero_le _) hN2) P1 (P2 0 h) h3 w hT else deep_0n n how N hN2 (chE_0 N (Nat.zero_le _) hN2) P1 (P2 0 h) h3 w hT
  · exact if h3 : N < 32 then deep_1y n how N hN2 (chE_1 N (Nat.zero_le _) hN2) P1 (P2 1 h) h3 w hT else deep_1n n how N hN2 (chE_1 N (Nat.zero_le _) hN2) P1 (P2 1 h) h3 w hT
  · exact if h3 : N < 32 then deep_2y n how N hN2 (chE_2 N (Nat.zero_le _) hN2) P1 (P2 2 h) h3 w hT else deep_2n n how N hN2 (chE_2 N (Nat.zero_le _) hN2) P1 (P2 2 h) h3 w hT
  · exact if h3 : N < 32 then deep_3y n how N hN2 (chE_3 N (Nat.zero_le _) hN2) P1 (P2 3 h) h3 w hT else deep_3n n how N hN2 (chE_3 N (Nat.zero_le _) hN2) P1 (P2 3 h) h3 w hT
  · exact if h3 : N ≤ 32 then deep_4y n how N hN2 (chP_all N hN2) P1 (P2 4 h) h3 w hT else deep_4n n how N hN2 (chP_all N hN2) P1 (P2 4 h) h3 w hT
end Go.Proofs.YtgdoanhemgklpaaGreatDoor
