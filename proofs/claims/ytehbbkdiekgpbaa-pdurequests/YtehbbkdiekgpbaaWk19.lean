/- The walks: counted bits and words behind their number. -/
import Derived.Test.YtehbbkdiekgpbaaWk17
import Derived.Deep.RegionWith
namespace Go.Proofs.Ytehbbkdiekgpbaa
open Go.RowKit
open Pdu
theorem wordAt_lies {w : World} {b off : Nat} {bs : List Nat} (hl : Lies w b off (u8s bs)) (hB : Bytes bs) (hn : 2 ≤ bs.length) (cap : Nat) (W : World) (hW : ∀ k, W.cell? ⟨b, k, none⟩ = w.cell? ⟨b, k, none⟩) :
    Calls Try.prog 51 #[.slice (some ⟨b, off, none⟩) bs.length cap] W fun e w' => e = .returned (.int .u16 (wordAt bs 0 : Nat)) ∧ ∃ m, w' = W.drewN m :=
  word_c b off bs.length cap (bs.getD 0 0) (bs.getD 1 0) W hn (hB.at 0) (hB.at 1) ((hW _).trans (hl.u8 0 (by omega))) ((hW _).trans (hl.u8 1 (by omega)))
theorem cut2 {w : World} {b off cap : Nat} {bs : List Nat} (hc : cap ≠ 2) (hcap : bs.length ≤ cap) (hn : 2 ≤ bs.length) (hl : Lies w b off (u8s bs)) : Sl w (.slice (some ⟨b, off + 2, none⟩) (bs.length - 2) (cap - 2)) (u8s (bs.drop 2)) := by
  have h := cut_sl (w := w) (b := b) (off := off) (n := bs.length) (cap := cap) (k := 2) (vs := u8s bs) (by rw [u8s_len]) hcap hn hl
  rw [← u8s_drop] at h
  unfold cutV cutA at h
  rw [if_neg hc] at h
  exact h
theorem cut2e {w : World} {b off : Nat} {bs : List Nat} (hn : bs.length = 2) : Sl w (.slice (some ⟨b, off, none⟩) 0 0) (u8s (bs.drop 2)) := by
  rw [List.drop_eq_nil_of_le (by omega)]
  exact Or.inl ⟨rfl, _, _, rfl, fun h => by simp at h⟩
set_option maxHeartbeats 400000 in
theorem takeRegs_y (b off n cap N : Nat) (bs : List Nat) (w : World) (hnn : n = bs.length) (hcap : n ≤ cap) (hsz : n ≤ 1000) (hB : Bytes bs) (hL : Lies w b off (u8s bs)) (hN : N = wordAt bs 0) (h1 : n = 3 + 2 * N) (h2 : bs.getD 2 0 = 2 * N) :
    Calls Try.prog 54 #[.slice (some ⟨b, off, none⟩) n cap] w fun e w' => ∃ v', e = .returned (.tuple #[v', .bool true]) ∧ w'.ownsRow w.heap.size 22 1 v' (ws (bs.drop 3)).length (u16s (ws (bs.drop 3))) ∧ Below w.heap.size w w' := by
  have hlt := wordAt_lt hB 0
  rw [← hN] at hlt
  have hw := fun (d : Nat) => wordAt_lies hL hB (by omega) cap (w.drewN d) (fun _ => rfl)
  rw [← hN, ← hnn] at hw
  have e1 : IntKind.i64.wrap (N : Int) = (N : Int) := by rw [IntKind.wrap_i64]; omega
  have e2 : IntKind.i64.wrap (2 * (N : Int)) = 2 * (N : Int) := by rw [IntKind.wrap_i64]; omega
  have hcap2 : cap ≠ 2 := by omega
  have c2 := hL.u8 2 (by omega)
  have h8 := hB.at 2
  rw [h2] at c2 h8
  have htc := fun (d : Nat) => tc_yes b (off + 2) (cap - 2) (2 * N) (w.drewN d) h8 (by omega) c2
  rw [show 1 + 2 * N = n - 2 by omega] at htc
  have S0 : Sl w (cutV b (off + 2) (n - 2) (cap - 2) 1) (u8s (bs.drop 3)) := by
    have hS := cut2 hcap2 (by omega) (by omega) hL
    have hl2 : Lies w b (off + 2) (u8s (bs.drop 2)) := by rw [u8s_drop]; exact hL.drop 2
    have h := cut_sl (w := w) (b := b) (off := off + 2) (n := n - 2) (cap := cap - 2) (k := 1) (vs := u8s (bs.drop 2)) (by rw [u8s_len, List.length_drop, ← hnn]) (by omega) (by omega) hl2
    rw [← u8s_drop, List.drop_drop] at h
    exact h
  obtain ⟨V, hV⟩ : ∃ V, V = cutV b (off + 2) (n - 2) (cap - 2) 1 := ⟨_, rfl⟩
  rw [← hV] at S0 htc
  have HW : Hid (∀ d, Calls Try.prog 52 #[V] (w.drewN d) fun e w' => ∃ v'', e = .returned v'' ∧ w'.ownsRow w.heap.size 22 1 v'' (ws (bs.drop 3)).length (u16s (ws (bs.drop 3))) ∧ Below w.heap.size w w') := fun d => (words_c (hB.drop 3) (S0.drewN d) (by rw [List.length_drop]; omega)).mono fun e w' ⟨v'', h1, h2, h3⟩ => ⟨v'', h1, h2, ⟨h3.os, h3.tape, h3.output, h3.size, h3.block⟩⟩
  rw [show ((2 * N : Nat) : Int) = 2 * (N : Int) by omega] at htc
  have hn4 : 3 ≤ n := by omega
  have hc4 : 3 ≤ cap := by omega
  clear S0 hV c2 h8 hL hB hN h1 h2 hnn
  go_enter Try.func54, Try.ntmps54
  go_wp2
  go_quiet (first | (go_at_call 51; exact Calls.quiet_of (hw _)) | (go_at_call 56; exact Calls.quiet_of_same (htc _)))
  go_wp2_with fail
  refine (HW.out _).mono ?_
  rintro e w1 ⟨v1, rfl, own1, hb1⟩
  have own1 : Hid _ := own1
  have hb1 : Hid _ := hb1
  go_wp2
  go_ret2
  exact ⟨_, rfl, own1, hb1⟩
set_option maxHeartbeats 400000 in
theorem takeRegs_n (b off n cap N : Nat) (bs : List Nat) (w : World) (hnn : n = bs.length) (hn : 2 ≤ n) (hcap : n ≤ cap) (hsz : n ≤ 1000) (hB : Bytes bs) (hL : Lies w b off (u8s bs)) (hN : N = wordAt bs 0) (hT : ¬ (n = 3 + 2 * N ∧ bs.getD 2 0 = 2 * N)) :
    Calls Try.prog 54 #[.slice (some ⟨b, off, none⟩) n cap] w fun e w' => ∃ v', e = .returned (.tuple #[v', .bool false]) ∧ w'.ownsRow w.heap.size 22 1 v' 0 (u16s []) ∧ Below w.heap.size w w' := by
  have hlt := wordAt_lt hB 0
  rw [← hN] at hlt
  have hw := fun (d : Nat) => wordAt_lies hL hB (by omega) cap (w.drewN d) (fun _ => rfl)
  rw [← hN, ← hnn] at hw
  have e1 : IntKind.i64.wrap (N : Int) = (N : Int) := by rw [IntKind.wrap_i64]; omega
  have e2 : IntKind.i64.wrap (2 * (N : Int)) = 2 * (N : Int) := by rw [IntKind.wrap_i64]; omega
  have HW : Hid (∀ d, Calls Try.prog 52 #[.slice none 0 0] (w.drewN d) fun e w' => ∃ v'', e = .returned v'' ∧ w'.ownsRow w.heap.size 22 1 v'' 0 (u16s []) ∧ Below w.heap.size w w') := fun d => (words_none none 0 (w.drewN d)).mono fun e w' ⟨v'', h1, h2, h3⟩ => ⟨v'', h1, h2, ⟨h3.os, h3.tape, h3.output, h3.size, h3.block⟩⟩
  by_cases hcap2 : cap = 2
  · subst hcap2
    obtain rfl : n = 2 := by omega
    have htc := fun (d : Nat) => tc_other (some ⟨b, off, none⟩) 0 0 (2 * N) (w.drewN d) (by omega) (by omega)
    rw [show ((2 * N : Nat) : Int) = 2 * (N : Int) by omega] at htc
    clear hL hB hN hT hnn
    go_enter Try.func54, Try.ntmps54
    go_wp2
    go_quiet (first | (go_at_call 51; exact Calls.quiet_of (hw _)) | (go_at_call 56; exact Calls.quiet_of_same (htc _)))
    go_wp2_with fail
    refine (HW.out _).mono ?_
    rintro e w1 ⟨v1, rfl, own1, hb1⟩
    have own1 : Hid (w1.ownsRow w.heap.size 22 1 v1 0 (u16s [])) := own1
    have hb1 : Hid _ := hb1
    go_wp2
    go_ret2
    exact ⟨_, rfl, own1, hb1⟩
  · have htc : ∀ d, Calls Try.prog 56 #[.slice (some ⟨b, off + 2, none⟩) (n - 2) (cap - 2), .int .i64 ((2 * N : Nat) : Int)] (w.drewN d) fun e w' => e = .returned (.tuple #[.slice none 0 0, .bool false]) ∧ w' = w.drewN d := by
      intro d
      have hS := cut2 hcap2 (by omega) (by omega) hL
      rw [← hnn] at hS
      refine tc_n (hS.drewN d) (hB.drop 2) (by omega) ?_
      rw [List.length_drop, ← hnn, List.getD_eq_getElem?_getD, List.getElem?_drop, ← List.getD_eq_getElem?_getD]
      intro h
      exact hT ⟨by omega, h.2⟩
    rw [show ((2 * N : Nat) : Int) = 2 * (N : Int) by omega] at htc
    clear hL hB hN hT hnn
    go_enter Try.func54, Try.ntmps54
    go_wp2
    go_quiet (first | (go_at_call 51; exact Calls.quiet_of (hw _)) | (go_at_call 56; exact Calls.quiet_of_same (htc _)))
    go_wp2_with fail
    refine (HW.out _).mono ?_
    rintro e w1 ⟨v1, rfl, own1, hb1⟩
    have own1 : Hid (w1.ownsRow w.heap.size 22 1 v1 0 (u16s [])) := own1
    have hb1 : Hid _ := hb1
    go_wp2
    go_ret2
    exact ⟨_, rfl, own1, hb1⟩
theorem drew_facts {w W : World} {d : Nat} (h : W = w.drewN d) : W.heap = w.heap ∧ W.os = w.os ∧ W.tape = w.tape ∧ W.output = w.output := by
  subst h
  exact ⟨rfl, rfl, rfl, rfl⟩
set_option maxHeartbeats 400000 in
theorem takeBits_y (b off n cap N : Nat) (bs : List Nat) (w : World) (hnn : n = bs.length) (hcap : n ≤ cap) (hsz : n ≤ 1000) (hB : Bytes bs) (hL : Lies w b off (u8s bs)) (hN : N = wordAt bs 0) (h1 : n = 3 + packed N) (h2 : bs.getD 2 0 = packed N) :
    Calls Try.prog 53 #[.slice (some ⟨b, off, none⟩) n cap] w fun e w' => ∃ v', e = .returned (.tuple #[v', .bool true]) ∧ w'.ownsRow w.heap.size 4 1 v' (min N 2000) (bls (ub (bs.drop 3) (min N 2000))) ∧ Below w.heap.size w w' := by
  have hlt := wordAt_lt hB 0
  rw [← hN] at hlt
  have hw := fun (d : Nat) => wordAt_lies hL hB (by omega) cap (w.drewN d) (fun _ => rfl)
  rw [← hN, ← hnn] at hw
  have e1 : IntKind.i64.wrap (N : Int) = (N : Int) := by rw [IntKind.wrap_i64]; omega
  have hpk : packed N ≤ 10000 := by unfold packed; omega
  obtain ⟨M, hM⟩ : ∃ M, M = packed N := ⟨_, rfl⟩
  have hpc := fun (W : World) => packed_c N (by omega) W
  rw [← hM] at hpk hpc h1 h2
  have hcap2 : cap ≠ 2 := by omega
  have c2 := hL.u8 2 (by omega)
  have h8 := hB.at 2
  rw [h2] at c2 h8
  have htc := fun (W : World) (hW : W.heap = w.heap) => tc_yes b (off + 2) (cap - 2) (M) W h8 (by omega) ((World.cell?_of_block (w := w) (a := ⟨b, off + 2, none⟩) (by rw [hW])).trans c2)
  rw [show 1 + M = n - 2 by omega] at htc
  have S0 : Sl w (cutV b (off + 2) (n - 2) (cap - 2) 1) (u8s (bs.drop 3)) := by
    have hS := cut2 hcap2 (by omega) (by omega) hL
    have hl2 : Lies w b (off + 2) (u8s (bs.drop 2)) := by rw [u8s_drop]; exact hL.drop 2
    have h := cut_sl (w := w) (b := b) (off := off + 2) (n := n - 2) (cap := cap - 2) (k := 1) (vs := u8s (bs.drop 2)) (by rw [u8s_len, List.length_drop, ← hnn]) (by omega) (by omega) hl2
    rw [← u8s_drop, List.drop_drop] at h
    exact h
  obtain ⟨V, hV⟩ : ∃ V, V = cutV b (off + 2) (n - 2) (cap - 2) 1 := ⟨_, rfl⟩
  rw [← hV] at S0 htc
  have HW : Hid (∀ W : World, W.heap = w.heap → W.os = w.os → W.tape = w.tape → W.output = w.output → Calls Try.prog 27 #[V, .int .i64 N] W fun e w' => ∃ v'', e = .returned v'' ∧ w'.ownsRow w.heap.size 4 1 v'' (min N 2000) (bls (ub (bs.drop 3) (min N 2000))) ∧ Below w.heap.size w w') := fun W hW g1 g2 g3 => (show Calls _ _ _ _ (fun e w' => ∃ v'', e = .returned v'' ∧ w'.ownsRow W.heap.size 4 1 v'' (min N 2000) (bls (ub (bs.drop 3) (min N 2000))) ∧ Below W.heap.size W w') by rw [← cut_nat]; exact bits_c N (S0.heap hW)).mono fun e w' ⟨v'', h1, h2, h3⟩ => ⟨v'', h1, by rw [← hW]; exact h2, ⟨h3.os.trans g1, h3.tape.trans g2, h3.output.trans g3, by rw [← hW]; exact h3.size, fun k hk => by rw [← hW]; exact h3.block k (by rw [hW]; exact hk)⟩⟩
  have hn4 : 3 ≤ n := by omega
  have hc4 : 3 ≤ cap := by omega
  clear S0 hV c2 h8 hL hB hN h1 h2 hnn hM
  go_enter Try.func53, Try.ntmps53
  go_wp2_with (go_at_call 51; refine (hw 0).mono ?_; rintro e W ⟨rfl, d0, hW⟩; have QW : Hid _ := drew_facts hW; clear hW)
  go_quiet (first | (go_at_call 47; exact Calls.quiet_of_same (hpc _)) | (go_at_call 56; exact Calls.quiet_of_same (htc _ (by exact QW.out.1))))
  go_wp2_with fail
  refine (HW.out _ (by exact QW.out.1) (by exact QW.out.2.1) (by exact QW.out.2.2.1) (by exact QW.out.2.2.2)).mono ?_
  rintro e w1 ⟨v1, rfl, own1, hb1⟩
  have own1 : Hid (w1.ownsRow w.heap.size 4 1 v1 (min N 2000) (bls (ub (bs.drop 3) (min N 2000)))) := own1
  have hb1 : Hid _ := hb1
  go_wp2
  go_ret2
  exact ⟨_, rfl, own1, hb1⟩
set_option maxHeartbeats 400000 in
theorem takeBits_n (b off n cap N : Nat) (bs : List Nat) (w : World) (hnn : n = bs.length) (hn : 2 ≤ n) (hcap : n ≤ cap) (hsz : n ≤ 1000) (hB : Bytes bs) (hL : Lies w b off (u8s bs)) (hN : N = wordAt bs 0) (hT : ¬ (n = 3 + packed N ∧ bs.getD 2 0 = packed N)) :
    Calls Try.prog 53 #[.slice (some ⟨b, off, none⟩) n cap] w fun e w' => ∃ v', e = .returned (.tuple #[v', .bool false]) ∧ w'.ownsRow w.heap.size 4 1 v' (min N 2000) (bls (ub [] (min N 2000))) ∧ Below w.heap.size w w' := by
  have hlt := wordAt_lt hB 0
  rw [← hN] at hlt
  have hw := fun (d : Nat) => wordAt_lies hL hB (by omega) cap (w.drewN d) (fun _ => rfl)
  rw [← hN, ← hnn] at hw
  have e1 : IntKind.i64.wrap (N : Int) = (N : Int) := by rw [IntKind.wrap_i64]; omega
  have hpk : packed N ≤ 10000 := by unfold packed; omega
  obtain ⟨M, hM⟩ : ∃ M, M = packed N := ⟨_, rfl⟩
  have hpc := fun (W : World) => packed_c N (by omega) W
  rw [← hM] at hpk hpc hT
  have HW : Hid (∀ W : World, W.heap = w.heap → W.os = w.os → W.tape = w.tape → W.output = w.output → Calls Try.prog 27 #[.slice none 0 0, .int .i64 N] W fun e w' => ∃ v'', e = .returned v'' ∧ w'.ownsRow w.heap.size 4 1 v'' (min N 2000) (bls (ub [] (min N 2000))) ∧ Below w.heap.size w w') := fun W hW g1 g2 g3 => (show Calls _ _ _ _ (fun e w' => ∃ v'', e = .returned v'' ∧ w'.ownsRow W.heap.size 4 1 v'' (min N 2000) (bls (ub [] (min N 2000))) ∧ Below W.heap.size W w') by rw [← cut_nat]; exact bits_none none 0 N W).mono fun e w' ⟨v'', h1, h2, h3⟩ => ⟨v'', h1, by rw [← hW]; exact h2, ⟨h3.os.trans g1, h3.tape.trans g2, h3.output.trans g3, by rw [← hW]; exact h3.size, fun k hk => by rw [← hW]; exact h3.block k (by rw [hW]; exact hk)⟩⟩
  by_cases hcap2 : cap = 2
  · subst hcap2
    obtain rfl : n = 2 := by omega
    have htc := fun (W : World) (_ : W.heap = w.heap) => tc_other (some ⟨b, off, none⟩) 0 0 (M) W (by omega) (by omega)
    clear hL hB hN hT hnn hM
    go_enter Try.func53, Try.ntmps53
    go_wp2_with (go_at_call 51; refine (hw 0).mono ?_; rintro e W ⟨rfl, d0, hW⟩; have QW : Hid _ := drew_facts hW; clear hW)
    go_quiet (first | (go_at_call 47; exact Calls.quiet_of_same (hpc _)) | (go_at_call 56; exact Calls.quiet_of_same (htc _ (by exact QW.out.1))))
    go_wp2_with fail
    refine (HW.out _ (by exact QW.out.1) (by exact QW.out.2.1) (by exact QW.out.2.2.1) (by exact QW.out.2.2.2)).mono ?_
    rintro e w1 ⟨v1, rfl, own1, hb1⟩
    have own1 : Hid (w1.ownsRow w.heap.size 4 1 v1 (min N 2000) (bls (ub [] (min N 2000)))) := own1
    have hb1 : Hid _ := hb1
    go_wp2
    go_ret2
    exact ⟨_, rfl, own1, hb1⟩
  · have htc : ∀ W : World, W.heap = w.heap → Calls Try.prog 56 #[.slice (some ⟨b, off + 2, none⟩) (n - 2) (cap - 2), .int .i64 ((M : Nat) : Int)] W fun e w' => e = .returned (.tuple #[.slice none 0 0, .bool false]) ∧ w' = W := by
      intro W hW
      have hS := cut2 hcap2 (by omega) (by omega) hL
      rw [← hnn] at hS
      refine tc_n (hS.heap hW) (hB.drop 2) (by omega) ?_
      rw [List.length_drop, ← hnn, List.getD_eq_getElem?_getD, List.getElem?_drop, ← List.getD_eq_getElem?_getD]
      intro h
      exact hT ⟨by omega, h.2⟩
    clear hL hB hN hT hnn hM
    go_enter Try.func53, Try.ntmps53
    go_wp2_with (go_at_call 51; refine (hw 0).mono ?_; rintro e W ⟨rfl, d0, hW⟩; have QW : Hid _ := drew_facts hW; clear hW)
    go_quiet (first | (go_at_call 47; exact Calls.quiet_of_same (hpc _)) | (go_at_call 56; exact Calls.quiet_of_same (htc _ (by exact QW.out.1))))
    go_wp2_with fail
    refine (HW.out _ (by exact QW.out.1) (by exact QW.out.2.1) (by exact QW.out.2.2.1) (by exact QW.out.2.2.2)).mono ?_
    rintro e w1 ⟨v1, rfl, own1, hb1⟩
    have own1 : Hid (w1.ownsRow w.heap.size 4 1 v1 (min N 2000) (bls (ub [] (min N 2000)))) := own1
    have hb1 : Hid _ := hb1
    go_wp2
    go_ret2
    exact ⟨_, rfl, own1, hb1⟩
end Go.Proofs.Ytehbbkdiekgpbaa
