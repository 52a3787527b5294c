/- The walk of CrcOnce. -/
import Derived.Test.YthhlahimaoiinaaTwo
import Derived.Deep.RegionWith
import Derived.Deep.QuietTactic
import Derived.BigQuiet
namespace Go.Proofs.Ythhlahimaoiinaa
open Go.RowKit
open Crc
/-- One element of the list: its cell, its bytes. -/
structure Elem (w : World) (a : Addr) (v : Value) (bs : List Nat) : Prop where
  cell : w.cell? a = some v
  lies : Slice w v bs
theorem Elem.below {w u : World} {a : Addr} {v : Value} {bs : List Nat} (h : Elem w a v bs) (k : Below w.heap.size w u) : Elem u a v bs := ⟨(k.cell (lt_of_cell h.cell)).trans h.cell, h.lies.below k⟩
theorem Tab.drewN {w : World} {b o d : Nat} (h : Tab w b o d) (n : Nat) : Tab (w.drewN n) b o d := ⟨h.done, h.lock, h.made, h.sums, h.free⟩
theorem St.drewN {w1 wr : World} {B d0 d1 e0 e1 : Nat} (h : St w1 wr B d0 d1 e0 e1) (n : Nat) : St w1 (wr.drewN n) B d0 d1 e0 e1 := ⟨h.t0.drewN n, h.t1.drewN n, h.a0, h.a1, h.free, ⟨h.below.os, h.below.tape, h.below.output, h.below.size, h.below.block⟩, h.b0, h.b1⟩
theorem sum0_c {w1 wr : World} {B d0 d1 e0 e1 : Nat} {a : Addr} {v : Value} {bs : List Nat} (h : St w1 wr B d0 d1 e0 e1) (hB : w1.heap.size = B) (hE : Elem w1 a v bs) (hm : bs.length ≤ 1000000) :
    Calls Try.prog 9 #[.pointer (some ⟨B, 0, none⟩), v] wr fun e w2 => e = .returned (.int .u16 (s16 bs : Nat)) ∧ St w1 w2 B 1 d1 e0 e1 ∧ w2.cell? a = some v := by
  subst hB
  have hE2 := hE.below h.below
  refine (tsum_c h.b0 h.t0 hE2.lies hm (hE.lies.apart (Nat.le_refl _))).mono ?_
  rintro e w2 ⟨rfl, o, t⟩
  have h2 := h.sum0 o t
  exact ⟨rfl, h2, (hE.below h2.below).cell⟩
theorem sum1_c {w1 wr : World} {B d0 d1 e0 e1 : Nat} {a : Addr} {v : Value} {bs : List Nat} (h : St w1 wr B d0 d1 e0 e1) (hB : w1.heap.size = B) (hE : Elem w1 a v bs) (hm : bs.length ≤ 1000000) :
    Calls Try.prog 9 #[.pointer (some ⟨B, 260, none⟩), v] wr fun e w2 => e = .returned (.int .u16 (s16 bs : Nat)) ∧ St w1 w2 B d0 1 e0 e1 ∧ w2.cell? a = some v := by
  subst hB
  have hE2 := hE.below h.below
  refine (tsum_c h.b1 h.t1 hE2.lies hm (hE.lies.apart (Nat.le_refl _))).mono ?_
  rintro e w2 ⟨rfl, o, t⟩
  have h2 := h.sum1 o t
  exact ⟨rfl, h2, (hE.below h2.below).cell⟩
theorem ref_c {w1 wr : World} {B d0 d1 e0 e1 : Nat} {a : Addr} {v : Value} {bs : List Nat} (h : St w1 wr B d0 d1 e0 e1) (hB : w1.heap.size = B) (hE : Elem w1 a v bs) (hm : bs.length ≤ 1000000) :
    Calls Try.prog 10 #[v] wr fun e w2 => e = .returned (.int .u16 (s16 bs : Nat)) ∧ w2 = wr := by
  subst hB
  exact ref16_c (hE.below h.below).lies hm
theorem two_start {w1 : World} : St w1 ((w1.alloc (.cells zT2 54)).alloc (.cells #[.int .i64 0, .int .i64 0] 55)) w1.heap.size 0 0 0 0 := by
  have k : Below (w1.heap.size + 1) (w1.alloc (.cells zT2 54)) ((w1.alloc (.cells zT2 54)).alloc (.cells #[.int .i64 0, .int .i64 0] 55)) := (Below.refl _ _).alloc (by simp) _
  have e : (w1.alloc (.cells zT2 54)).heap.size = w1.heap.size + 1 := World.size_alloc ..
  refine ⟨(zT2_tab0 w1).below k (by omega), (zT2_tab1 w1).below k (by omega), ?_, ?_, fun j => ?_, ((Below.refl _ w1).alloc (Nat.le_refl _) _).alloc (by omega) _, Or.inl rfl, Or.inl rfl⟩
  · rw [← e, World.cell?_alloc_new]; rfl
  · rw [← e, World.cell?_alloc_new]; rfl
  · rw [← e, World.frozen?_alloc_new]

set_option maxRecDepth 100000 in
set_option maxHeartbeats 16000000 in
theorem once_w (ao aw : Option Addr) (N M cl cw : Nat) (w : World) (hN : N ≤ 40) (hM : M ≤ 40)
    (hL : 0 < N → ∃ lb lo, ao = some ⟨lb, lo, none⟩ ∧ ∀ i, i < N → ∃ av n c bs, n = bs.length ∧ n ≤ 9223372036854775807 ∧ Elem w ⟨lb, lo + i, none⟩ (.slice av n c) bs)
    (hW : 0 < M → ∃ wb wo, aw = some ⟨wb, wo, none⟩ ∧ ∀ i, i < M → ∃ b : Bool, w.cell? ⟨wb, wo + i, none⟩ = some (.bool b)) :
    Calls Try.prog 6 #[.slice ao N cl, .slice aw M cw] w fun e w' => e = .returned (.bool true) ∧ Below w.heap.size w w' := by
  have hnot : ∀ (x : Bool) (w : World), (Op.unary .not (.bool x)).run Try.prog w = .ok (.bool (!x)) w := fun _ _ => rfl
  have hz := zT2_zero
  have hd1 : decide ((40 : Int) < N) = false := decide_eq_false (by omega)
  have hd2 : decide ((40 : Int) < M) = false := decide_eq_false (by omega)
  have HL : Hid (0 < N → ∃ lb lo, ao = some ⟨lb, lo, none⟩ ∧ ∀ i, i < N → ∃ av n c bs, n = bs.length ∧ n ≤ 9223372036854775807 ∧ Elem w ⟨lb, lo + i, none⟩ (.slice av n c) bs) := hL
  have HW : Hid (0 < M → ∃ wb wo, aw = some ⟨wb, wo, none⟩ ∧ ∀ i, i < M → ∃ b : Bool, w.cell? ⟨wb, wo + i, none⟩ = some (.bool b)) := hW
  clear hL hW
  go_enter Try.func6, Try.ntmps6
  go_wp2_with (go_at_call 7; refine (known_c w).mono ?_; rintro e w1 ⟨rfl, k1⟩)
  have T0 := two_start (w1 := w1)
  obtain ⟨B, hB⟩ : ∃ B, w1.heap.size = B := ⟨_, rfl⟩
  rw [hB] at T0
  rw [hB]
  generalize (w1.alloc (.cells zT2 54)).alloc (.cells #[.int .i64 0, .int .i64 0] 55) = W at T0
  have K1 : Hid (Below w.heap.size w w1) := k1
  have HB : Hid (w1.heap.size = B) := hB
  have hBw : w.heap.size ≤ B := by rw [← hB]; exact k1.size
  have T0 : Hid (St w1 W B 0 0 0 0) := T0
  clear k1 hB
  go_loopw [7] (fun i wr => ∃ k : Nat, k ≤ N ∧ i = .int .i64 k ∧ ∃ d0 d1, St w1 wr B d0 d1 d0 d1) (fun i _ => N - (intOf i).toNat)
  case atStart => exact ⟨0, by omega, rfl, 0, 0, T0⟩
  case round =>
    obtain ⟨k, hk, rfl, d0, d1, hst⟩ := hrel
    have HT : Hid (St w1 wr B d0 d1 d0 d1) := hst
    have kr : Hid (Below w.heap.size w wr) := Below.trans K1 (hst.below.mono hBw)
    clear hst T0
    by_cases hkN : k < N
    · obtain ⟨lb, lo, rfl, hE⟩ := HL (by omega)
      obtain ⟨av, n, c, bs, hn, hnm, hE⟩ := hE k hkN
      have hcell : wr.cell? ⟨lb, lo + k, none⟩ = some (.slice av n c) := (hE.below kr).cell
      have HE : Hid (Elem w1 ⟨lb, lo + k, none⟩ (.slice av n c) bs) := hE.below K1
      have HN : Hid (n = bs.length) := hn
      clear hE hn
      by_cases h5 : (500 : Int) < n
      · go_wp2_with fail
        go_ret
        exact ⟨rfl, kr⟩
      · have hlen : Hid (bs.length ≤ 1000000) := by show bs.length ≤ 1000000; rw [← (show n = _ from HN)]; omega
        by_cases hkM : k < M
        · obtain ⟨wb, wo, rfl, hW⟩ := HW (by omega)
          obtain ⟨b, hb⟩ := hW k hkM
          have hbc : wr.cell? ⟨wb, wo + k, none⟩ = some (.bool b) := (Below.cell kr (lt_of_cell hb)).trans hb
          clear hW hb
          cases b
          · go_wp2_with fail
            go_region_with (first | (go_at_call 9; refine (sum0_c (by first | exact HT | exact St.drew HT) HB HE hlen).mono ?_; rintro e w2 ⟨rfl, hs2, hc2⟩; have hs2 : Hid (St w1 w2 B 1 d1 d0 d1) := hs2) | (go_at_call 10; refine (ref_c (by first | exact hs2 | exact HT | exact St.drew HT) HB HE hlen).mono ?_; rintro e w' ⟨rfl, hw⟩; subst w'))
            all_goals
              have ha := (show St w1 w2 B 1 d1 d0 d1 from hs2).a0
              have hf := (show St w1 w2 B 1 d1 d0 d1 from hs2).free 0
              have H3 : Hid (_) := St.ask0 hs2
              go_wp2_with fail
              clear ha hf hc2
              generalize w2.setCell { block := B + 1, off := 0 } (.int .i64 1) = W3 at H3
              have c0 := H3.a0
              have c1 := H3.a1
              have m0 : Hid (Tab W3 B 0 1) := H3.t0
              have m1 : Hid (Tab W3 B 260 d1) := H3.t1
              go_quiet (first | (go_at_call 14; exact Calls.quiet_of_same (made_c B 0 1 _ (Tab.drewN m0 _))) | (go_at_call 14; exact Calls.quiet_of_same (made_c B 260 d1 _ (Tab.drewN m1 _))))
              go_wp2
              go_roundw
              case rel => exact ⟨k + 1, by omega, by go_num, 1, d1, St.drewN H3 _⟩
              case measure => simp [intOf]; omega
          · go_wp2_with fail
            go_region_with (first | (go_at_call 9; refine (sum1_c (by first | exact HT | exact St.drew HT) HB HE hlen).mono ?_; rintro e w2 ⟨rfl, hs2, hc2⟩; have hs2 : Hid (St w1 w2 B d0 1 d0 d1) := hs2) | (go_at_call 10; refine (ref_c (by first | exact hs2 | exact HT | exact St.drew HT) HB HE hlen).mono ?_; rintro e w' ⟨rfl, hw⟩; subst w'))
            all_goals
              have ha := (show St w1 w2 B d0 1 d0 d1 from hs2).a1
              have hf := (show St w1 w2 B d0 1 d0 d1 from hs2).free 1
              have H3 : Hid (_) := St.ask1 hs2
              go_wp2_with fail
              clear ha hf hc2
              generalize w2.setCell { block := B + 1, off := 1 } (.int .i64 1) = W3 at H3
              have c0 := H3.a0
              have c1 := H3.a1
              have m0 : Hid (Tab W3 B 0 d0) := H3.t0
              have m1 : Hid (Tab W3 B 260 1) := H3.t1
              go_quiet (first | (go_at_call 14; exact Calls.quiet_of_same (made_c B 0 d0 _ (Tab.drewN m0 _))) | (go_at_call 14; exact Calls.quiet_of_same (made_c B 260 1 _ (Tab.drewN m1 _))))
              go_wp2
              go_roundw
              case rel => exact ⟨k + 1, by omega, by go_num, d0, 1, St.drewN H3 _⟩
              case measure => simp [intOf]; omega
        · go_wp2_with fail
          go_region_with (first | (go_at_call 9; refine (sum0_c (by first | exact HT | exact St.drew HT) HB HE hlen).mono ?_; rintro e w2 ⟨rfl, hs2, hc2⟩; have hs2 : Hid (St w1 w2 B 1 d1 d0 d1) := hs2) | (go_at_call 10; refine (ref_c (by first | exact hs2 | exact HT | exact St.drew HT) HB HE hlen).mono ?_; rintro e w' ⟨rfl, hw⟩; subst w'))
          all_goals
            have ha := (show St w1 w2 B 1 d1 d0 d1 from hs2).a0
            have hf := (show St w1 w2 B 1 d1 d0 d1 from hs2).free 0
            have H3 : Hid (_) := St.ask0 hs2
            go_wp2_with fail
            clear ha hf hc2
            generalize w2.setCell { block := B + 1, off := 0 } (.int .i64 1) = W3 at H3
            have c0 := H3.a0
            have c1 := H3.a1
            have m0 : Hid (Tab W3 B 0 1) := H3.t0
            have m1 : Hid (Tab W3 B 260 d1) := H3.t1
            go_quiet (first | (go_at_call 14; exact Calls.quiet_of_same (made_c B 0 1 _ (Tab.drewN m0 _))) | (go_at_call 14; exact Calls.quiet_of_same (made_c B 260 d1 _ (Tab.drewN m1 _))))
            go_wp2
            go_roundw
            case rel => exact ⟨k + 1, by omega, by go_num, 1, d1, St.drewN H3 _⟩
            case measure => simp [intOf]; omega
    · obtain rfl : k = N := by omega
      go_wp2
      go_ret
      exact ⟨rfl, kr⟩
end Go.Proofs.Ythhlahimaoiinaa
