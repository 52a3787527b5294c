/- The walk of CrcZero. -/
import Derived.Test.YthhlahimaoiinaaKnown
import Derived.Test.YthhlahimaoiinaaCopy
namespace Go.Proofs.Ythhlahimaoiinaa
open Go.RowKit
open Crc
theorem u8s_app (bs cs : List Nat) : u8s (bs ++ cs) = u8s bs ++ u8s cs := by simp [u8s]
theorem two_at {w : World} {s : Nat} : ∀ j u, (u8s [s % 256, s / 256])[j]? = some u → (w.alloc (.cells #[.int .u8 ((s : Int) % 256), .int .u8 ((s : Int) / 256)] 5)).cell? ((⟨w.heap.size, 0, none⟩ : Addr).add j) = some u := by
  intro j u h
  have hplain : (⟨w.heap.size, 0, none⟩ : Addr).add j = ⟨w.heap.size, j, none⟩ := by unfold Addr.add; split <;> simp_all
  rw [hplain, World.cell?_alloc_new]
  match j, h with
  | 0, h => simpa [u8s] using h
  | 1, h => simpa [u8s] using h
  | j + 2, h => simp [u8s] at h

set_option maxRecDepth 100000 in
set_option maxHeartbeats 1600000 in
theorem zero_w {v : Value} {bs : List Nat} {w : World} (h : Slice w v bs) (hv : ∃ ao n c, v = .slice ao n c ∧ n = bs.length) (hm : bs.length ≤ 9223372036854775807) :
    Calls Try.prog 5 #[v] w fun e w' => e = .returned (.bool true) ∧ Below w.heap.size w w' := by
  have hnot : ∀ (x : Bool) (w : World), (Op.unary .not (.bool x)).run Try.prog w = .ok (.bool (!x)) w := fun _ _ => rfl
  obtain ⟨i0, hi, hz0, hz1, hz2⟩ := info_parts Try.info5
  obtain ⟨ao, n, c, rfl, hn⟩ := hv
  have HN : Hid (n = bs.length) := hn
  rw [← hn] at hm
  have HS : Hid (Slice w (.slice ao n c) bs) := h
  clear hn h
  by_cases hl : (n : Int) > 3000
  · go_enter Try.func5, Try.ntmps5
    go_wp2_with (go_at_call 7; refine (known_c w).mono ?_; rintro e w1 ⟨rfl, k1⟩)
    go_ret
    exact ⟨rfl, k1⟩
  · have hl2 : n ≤ 3000 := by omega
    have hlen : bs.length ≤ 1000000 := by rw [← (show n = _ from HN)]; omega
    obtain ⟨s, hs⟩ : ∃ s, s = s16 bs := ⟨_, rfl⟩
    have hsl : s < 65536 := by rw [hs]; exact s16_lt HS.1
    have HQ : Hid (s = s16 bs) := hs
    go_enter Try.func5, Try.ntmps5
    go_wp2_with (go_at_call 7; refine (known_c w).mono ?_; rintro e w1 ⟨rfl, k1⟩)
    have s1 : Hid (Slice w1 (.slice ao n c) bs) := HS.below k1
    refine (sum16_c s1 hlen).mono ?_
    rw [← hs]
    clear hs
    rintro e w' ⟨rfl, hw⟩
    subst w'
    go_wp2_with fail
    refine (copy_c s1 hlen).mono ?_
    rintro e w3 ⟨v', rfl, own3, k3⟩
    have hsz : w.heap.size ≤ w1.heap.size := k1.size
    have hsz3 : w1.heap.size ≤ w3.heap.size := k3.size
    have kB := k1.trans (k3.mono hsz)
    have hrow : ∀ k, v'.ownBlock = some k → w.heap.size ≤ k := fun k hk => by have := own3.lt k hk; omega
    clear k3 k1 s1
    have kB : Hid (Below w.heap.size w w3) := kB
    have hrow : Hid (∀ k, v'.ownBlock = some k → w.heap.size ≤ k) := hrow
    go_wp2_with (at_builtin; refine wpList_append_own _ rfl _ _ 22 rfl w1.heap.size 5 i0 (.int .u8 0) 1 1 Try.underlying22 hi hz0 hz1 hz2 rfl (by decide) _ bs.length (u8s bs) rfl (own3.alloc _) ⟨w3.heap.size, 0, none⟩ 2 2 (u8s [s % 256, s / 256]) rfl rfl two_at (u8s_one _) (by unfold maxLen; omega) (by omega) (by simp; omega) ?_; intro v2 w4 own4 hgrow _)
    have hq : s = s16 bs := HQ
    have hb4 : Bytes (bs ++ [s % 256, s / 256]) := by
      intro x hx
      rcases List.mem_append.1 hx with hx | hx
      · exact HS.1 x hx
      · simp only [List.mem_cons, List.not_mem_nil, or_false] at hx
        omega
    have s4 : Slice w4 v2 (bs ++ [s % 256, s / 256]) := own_slice hb4 (by rw [u8s_app, List.length_append]; exact own4)
    have k4 : Hid (Below w.heap.size w w4) := Below.grown (Below.alloc kB (by omega) _) hgrow (by rw [World.size_alloc]; omega) hrow
    have e4 : s16 (bs ++ [s % 256, s / 256]) = 0 := by rw [hq]; exact sum_zero 40961 65535 bs
    refine (sum16_c s4 (by rw [List.length_append, List.length_cons, List.length_cons, List.length_nil, ← (show n = _ from HN)]; omega)).mono ?_
    rw [e4]
    rintro e w' ⟨rfl, hw⟩
    subst w'
    clear own4 hgrow own3 hq
    go_wp2
    go_ret
    exact ⟨rfl, k4⟩
end Go.Proofs.Ythhlahimaoiinaa
