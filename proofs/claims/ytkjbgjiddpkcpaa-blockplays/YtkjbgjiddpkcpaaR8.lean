/- The walk of the reference's New, whole (stage 8). -/
import Derived.Test.YtkjbgjiddpkcpaaR7
namespace Go.Proofs.Ytkjbgjiddpkcpaa
open Go.RowKit
open Pdu
theorem ni_end {w wr : World} {r h sz nb : Nat} (n : NI w wr r h sz nb) (hz : 16 ≤ sz ∧ sz ≤ 4096) (hb : 1 ≤ nb ∧ nb ≤ 64) : ∃ q, Rf wr r q h (SS.new nb sz) ∧ r + 1 ≤ q := by
  obtain ⟨ao, cc, vals, h1, h2, h3, h4⟩ := n
  rcases h2.2 with ⟨_, h5⟩ | ⟨g, c2, cur, e, hb2, hg, r5⟩
  · omega
  · simp only [Value.slice.injEq] at e
    obtain ⟨rfl, _, rfl⟩ := e
    refine ⟨g, ⟨SS.new_ok hz.1 hz.2 hb.1 hb.2, cc, vals, ?_, ?_, ?_⟩, hb2⟩
    · rw [h1]
      simp [SS.new, rx]
    · have e3 : (SS.new nb sz).rows.length = nb := by simp [SS.new]
      rw [e3]
      exact own_base h2 (Nat.zero_le _)
    · intro k bs hk
      simp only [SS.new, List.getElem?_replicate] at hk
      split at hk
      · rename_i hlt
        simp only [Option.some.injEq] at hk
        rw [← hk]
        exact h3 k hlt
      · cases hk
set_option maxHeartbeats 1600000 in
theorem newr_c (nb sz h : Nat) (b z : Int) (w : World) (hh : h < w.heap.size) (hb : (b < 1 ∧ (nb : Int) = 1) ∨ (64 < b ∧ (nb : Int) = 64) ∨ (1 ≤ b ∧ b ≤ 64 ∧ (nb : Int) = b)) (hz : (z < 16 ∧ (sz : Int) = 16) ∨ (4096 < z ∧ (sz : Int) = 4096) ∨ (16 ≤ z ∧ z ≤ 4096 ∧ (sz : Int) = z)) :
    Calls Try.prog 10 #[.int .i64 b, .int .i64 z] w fun e w' => ∃ q, e = .returned (.pointer (some ⟨w.heap.size, 0, none⟩)) ∧ Rf w' w.heap.size q h (SS.new nb sz) ∧ Below w.heap.size w w' ∧ w.heap.size ≤ q := by
  have h1 : 16 ≤ sz ∧ sz ≤ 4096 := by omega
  have h2 : 1 ≤ nb ∧ nb ≤ 64 := by omega
  have HB := hid_as hb
  have HZ := hid_as hz
  have ST : Hid (NI w (w.alloc (.cells (rx (.slice none 0 0) (SS.new 0 sz)).toArray 35)) w.heap.size h sz 0) := ⟨none, 0, [], heap_alloc_new w _, World.ownsRow_nil .., fun j hj => by omega, below_new (Below.refl _ w) _⟩
  obtain ⟨X, hX⟩ : ∃ X, X = w.alloc (.cells (rx (.slice none 0 0) (SS.new 0 sz)).toArray 35) := ⟨_, rfl⟩
  have HX := hid_as hX
  rw [← hX] at ST
  clear hb hz hX
  go_enter Try.func10, Try.ntmps10
  go_upto_region 1 with fail
  go_cut [5] from 7 to 11 (fun v wx => v = .pointer (some ⟨w.heap.size, 0, none⟩) ∧ wx = X)
  case first =>
    rcases HZ.out with ⟨h3, h4⟩ | ⟨h3, h4⟩ | ⟨h3, h4, h5⟩
    · obtain rfl : sz = 16 := by omega
      clear h4 HZ
      go_wp2
      go_meet
      case rel => exact ⟨rfl, HX.out.symm⟩
    · obtain rfl : sz = 4096 := by omega
      have h5 : ¬ z < 16 := by omega
      clear h4 HZ
      go_wp2
      go_meet
      case rel => exact ⟨rfl, HX.out.symm⟩
    · obtain rfl : z = (sz : Int) := by omega
      have h6 : ¬ (sz : Int) < 16 := by omega
      have h7 : ¬ (4096 : Int) < (sz : Int) := by omega
      clear HZ h5
      go_wp2
      go_meet
      case rel => exact ⟨rfl, HX.out.symm⟩
  case rest =>
    obtain ⟨rfl, rfl⟩ := hcut
    go_upto_region 2 with fail
    go_cut [6] from 12 to 14 (fun v wx => v = .int .i64 (nb : Int) ∧ wx = wc)
    case first =>
      rcases HB.out with ⟨h3, h4⟩ | ⟨h3, h4⟩ | ⟨h3, h4, h5⟩
      · obtain rfl : nb = 1 := by omega
        clear h4 HB
        go_wp2
        go_meet
        case rel => exact ⟨rfl, rfl⟩
      · obtain rfl : nb = 64 := by omega
        have h5 : ¬ b < 1 := by omega
        clear h4 HB
        go_wp2
        go_meet
        case rel => exact ⟨rfl, rfl⟩
      · obtain rfl : b = (nb : Int) := by omega
        have h6 : ¬ (nb : Int) < 1 := by omega
        have h7 : ¬ (64 : Int) < (nb : Int) := by omega
        clear HB h5
        go_wp2
        go_meet
        case rel => exact ⟨rfl, rfl⟩
    case rest =>
      obtain ⟨rfl, hw⟩ := hcut
      rw [← hw] at ST
      clear hw HX HB HZ
      obtain ⟨r, hr⟩ : ∃ r, r = w.heap.size := ⟨_, rfl⟩
      rw [← hr] at ST ⊢
      have HR : Hid (w.heap.size ≤ r) := Nat.le_of_eq hr.symm
      have HQ := hid_as hr
      clear hr
      go_wp2_with fail
      go_loopw [6] (fun v wr => ∃ i k : Nat, v = .int .i64 (i : Int) ∧ i + k = nb ∧ NI w wr r h sz k) (fun v _ => (intOf v).toNat)
      case atStart => exact ⟨nb, 0, rfl, by omega, ST.out⟩
      case round =>
        obtain ⟨i, k, rfl, hik, ni⟩ := hrel
        have N := hid_as ni
        clear ni
        by_cases h0 : 0 < i
        · have h3 : (0 : Int) < (i : Int) := by omega
          obtain ⟨ao, cc, c0, c1, w1, hm, g2, cc2, w2, hr2, ⟨a0, a1, a2, af, b0, b1, b2⟩, nx⟩ := ni_step N.out HR.out hh h1 (by omega)
          have NX := hid_as nx
          obtain ⟨Y, hY⟩ : ∃ Y, Y = w2.setCell ⟨r, 0, none⟩ (.slice (some ⟨g2, 0, none⟩) (k + 1) cc2) := ⟨_, rfl⟩
          rw [← hY] at NX
          have HY := hid_as hY
          clear nx hY
          go_upto_region 5 with fail
          go_region_law (refine step_append_run rfl (.tmp 23) (.tmp 29) 33 33 rfl (.slice ao k cc) (.slice (some ⟨w1.heap.size, 0, none⟩) 1 1) (by first | (simp [Act.eval]; done) | (simp [Act.eval, Act.put]; done)) (by simp [Act.eval]) (.slice (some ⟨g2, 0, none⟩) (k + 1) cc2) w2 hr2 ?_)
          all_goals
            rw [← HY.out]
            go_wp2
            go_roundw
            case rel => exact ⟨i - 1, k + 1, by go_num, by omega, NX.out⟩
            case measure => simp [intOf]; omega
        · obtain rfl : i = 0 := by omega
          have hk : k = nb := by omega
          have E := hid_as (ni_end (by rw [hk] at N; exact N.out) h1 h2)
          have KB : Hid (Below w.heap.size w wr) := by
            obtain ⟨_, _, _, _, _, _, h⟩ := N.out
            exact h
          go_wp2
          go_ret
          obtain ⟨q, hq, hq2⟩ := E.out
          rw [HQ.out] at hq
          exact ⟨q, by rw [← HQ.out]; rfl, hq, KB.out, by have := HR.out; omega⟩
end Go.Proofs.Ytkjbgjiddpkcpaa
