/- The walk of CrcSums. -/
import Derived.Test.YthhlahimaoiinaaKnown
import Derived.Test.YthhlahimaoiinaaCopy
import Derived.Test.YthhlahimaoiinaaSame
namespace Go.Proofs.Ythhlahimaoiinaa
open Go.RowKit
open Crc

theorem own_apart {w : World} {base b : Nat} {v : Value} {n : Nat} {xs : List Value} {bs : List Nat} (h : w.ownsRow base 5 1 v n xs) (hb : b < base) : Apart v bs b := by
  intro _ a m c e
  subst e
  rcases h.2 with ⟨h', _⟩ | ⟨g, cap, cur, h', hg, _⟩
  · simp at h'
  · simp only [Value.slice.injEq, Option.some.injEq] at h'
    rw [h'.1]
    exact fun e => by simp at e; omega

set_option maxRecDepth 100000 in
set_option maxHeartbeats 1600000 in
theorem sums_w {v : Value} {bs : List Nat} {w : World} (h : Slice w v bs) (hv : ∃ ao n c, v = .slice ao n c ∧ n = bs.length) (hm : bs.length ≤ 9223372036854775807) :
    Calls Try.prog 3 #[v] w fun e w' => e = .returned (.bool true) ∧ Below w.heap.size w w' := by
  have hz := zT_zero
  have hnot : ∀ (x : Bool) (w : World), (Op.unary .not (.bool x)).run Try.prog w = .ok (.bool (!x)) w := fun _ _ => rfl
  obtain ⟨ao, n, c, rfl, hn⟩ := hv
  have HN : Hid (n = bs.length) := hn
  rw [← hn] at hm
  have HS : Hid (Slice w (.slice ao n c) bs) := h
  clear hn h
  by_cases hl : (n : Int) > 5000
  · go_enter Try.func3, Try.ntmps3
    go_wp2_with (go_at_call 7; refine (known_c w).mono ?_; rintro e w1 ⟨rfl, k1⟩)
    go_ret
    exact ⟨rfl, k1⟩
  · have hl2 : n ≤ 5000 := by omega
    go_enter Try.func3, Try.ntmps3
    go_wp2_with (go_at_call 7; refine (known_c w).mono ?_; rintro e w1 ⟨rfl, k1⟩)
    have hlen : bs.length ≤ 1000000 := by rw [← (show n = _ from HN)]; omega
    have hsz : w.heap.size ≤ w1.heap.size := k1.size
    have kA : Below w1.heap.size w1 (w1.alloc (.cells zT 42)) := (Below.refl _ _).alloc (Nat.le_refl _) _
    have tA := zT_tab w1
    have s1 : Slice w1 (.slice ao n c) bs := HS.below k1
    have s2 := s1.below kA
    have kB := k1.trans (kA.mono hsz)
    have hA : (w1.alloc (.cells zT 42)).heap.size = w1.heap.size + 1 := World.size_alloc ..
    generalize w1.alloc (.cells zT 42) = W at kA tA s2 kB hA
    refine (copy_c s2 hlen).mono ?_
    rintro e w3 ⟨v', rfl, own3, k3⟩
    rw [hA] at own3 k3
    have t3 := tA.below k3 (by omega)
    have p3 : Apart v' bs w1.heap.size := own_apart own3 (by omega)
    have q3 : Apart (.slice ao n c) bs w1.heap.size := s1.apart (Nat.le_refl _)
    have s3 : Slice w3 v' bs := own_slice HS.1 own3
    have r3 : Slice w3 (.slice ao n c) bs := s2.below (by rw [hA]; exact k3)
    have k3 := kB.trans (k3.mono (by omega))
    clear own3 s2 kB tA kA s1
    have t3 : Hid (Tab w3 w1.heap.size 0 0) := t3
    have s3 : Hid (Slice w3 v' bs) := s3
    have r3 : Hid (Slice w3 (.slice ao n c) bs) := r3
    have p3 : Hid (Apart v' bs w1.heap.size) := p3
    have q3 : Hid (Apart (.slice ao n c) bs w1.heap.size) := q3
    have k3 : Hid (Below w.heap.size w w3) := k3
    go_wp2_with fail
    refine (tsum_c (Or.inl rfl) t3 s3 hlen p3).mono ?_
    rintro e w4 ⟨rfl, o4, t4⟩
    have s4 : Hid (Slice w4 v' bs) := Slice.only s3 o4 p3
    have r4 : Hid (Slice w4 (.slice ao n c) bs) := Slice.only r3 o4 q3
    have k4 : Hid (Below w.heap.size w w4) := Below.trans k3 (o4.below hsz)
    have t4 : Hid (Tab w4 w1.heap.size 0 1) := t4
    clear o4 s3 r3 k3 t3 k1
    go_wp2_with (first | (go_at_call 10; refine (ref16_c r4 hlen).mono ?_; rintro e w' ⟨rfl, hw⟩; subst w') | (go_at_call 11; refine (sum16_c r4 hlen).mono ?_; rintro e w' ⟨rfl, hw⟩; subst w') | (go_at_call 12; refine (sum32_c r4 hlen).mono ?_; rintro e w' ⟨rfl, hw⟩; subst w') | (go_at_call 13; refine (ref32_c r4 hlen).mono ?_; rintro e w' ⟨rfl, hw⟩; subst w'))
    refine (tsum_c (Or.inr rfl) t4 r4 hlen q3).mono ?_
    rintro e w5 ⟨rfl, o5, t5⟩
    have s5 : Hid (Slice w5 v' bs) := Slice.only s4 o5 p3
    have r5 : Hid (Slice w5 (.slice ao n c) bs) := Slice.only r4 o5 q3
    have k5 : Hid (Below w.heap.size w w5) := Below.trans k4 (o5.below hsz)
    have t5 : Hid (Tab w5 w1.heap.size 0 1) := t5
    clear o5 s4 r4 k4 t4
    go_wp2_with (first | (go_at_call 14; refine (made_c w1.heap.size 0 1 _ t5).mono ?_; rintro e w' ⟨rfl, hw⟩; subst w') | (go_at_call 15; refine (same_c s5 r5).mono ?_; rintro e w' ⟨rfl, hw⟩; subst w'))
    go_ret
    exact ⟨rfl, k5⟩
end Go.Proofs.Ythhlahimaoiinaa
