/- The walk: is it an answer? Bits. -/
import Derived.Test.YtehbbkdiekgpbaaTAB
namespace Go.Proofs.Ytehbbkdiekgpbaa
open Go.RowKit
open Pdu
set_option linter.unusedSimpArgs false in
set_option linter.unusedVariables false in
set_option maxRecDepth 100000 in
set_option maxHeartbeats 1600000 in
theorem ta1_y (addr n addr2 m cap b off : Nat) (bits : List Bool) (regs : List Nat) (bv rv : Value) (bs : List Nat) (w : World) (hS : Bs w b off m cap bs) (hn : n ≤ 2000) (hm4 : m ≤ 1000) (h0 : bs.getD 0 0 = 1) (hT : m = 2 + packed n ∧ bs.getD 1 0 = packed n) :
    Calls Try.prog 45 #[rqV 1 addr n addr2 bv rv, .slice (some ⟨b, off, none⟩) m cap] w fun e w' => Told (AnsIs ⟨1, addr, n, addr2, bits, regs⟩ bs) (ansOf ⟨1, addr, n, addr2, bits, regs⟩ bs) w e w' := by
  have hm : 2 ≤ m := by omega
  have hc0 := hS.cap
  have hc : cap ≠ 1 := by omega
  have k0 : w.cell? ⟨b, off, none⟩ = some (.int .u8 1) := by have h := hS.at 0 (by omega); rw [h0] at h; exact h
  have H0 := hid_as h0
  have HS := hid_as hS
  have hb : b < w.heap.size := lt_of_cell k0
  have g0 : ((m : Int) == 0) = false := by rw [beq_eq_false_iff_ne]; omega
  have g1 : ((1 : Int) != 1) = false := rfl
  have i0 : (0 : Int) < (m : Int) := by omega
  obtain ⟨M, hM⟩ : ∃ M, M = packed n := ⟨_, rfl⟩
  have hM1 : M ≤ 10000 := by rw [hM]; unfold packed; omega
  have HM := hid_as hM
  have hpc := fun (W : World) => packed_c n (by omega) W
  rw [← hM] at hpc
  have hpc := hid_as hpc
  have HT := hid_as hT
  have htc := fun (W : World) (h : Below w.heap.size w W) => tc_yes b (off + 1) (cap - 1) M W (by have h1 := hS.bytes.at 1; rw [hT.2, ← hM] at h1; exact h1) (by have := hT.1; omega) (by have h1 := (hS.below h).at 1 (by omega); rw [hT.2, ← hM] at h1; exact h1)
  rw [show 1 + M = m - 1 by have := hT.1; omega] at htc
  have SV : Sl w (cutV b (off + 1) (m - 1) (cap - 1) 1) (u8s (bs.drop 2)) := by
    have D := hS.drop 1 (by omega)
    have h := cut_sl (w := w) (b := b) (off := off + 1) (n := m - 1) (cap := cap - 1) (k := 1) (vs := u8s (bs.drop 1)) (by rw [u8s_len]; exact D.len) D.cap (by omega) D.lies
    rw [← u8s_drop, List.drop_drop] at h
    exact h
  obtain ⟨VV, hVV⟩ : ∃ V, V = cutV b (off + 1) (m - 1) (cap - 1) 1 := ⟨_, rfl⟩
  rw [← hVV] at htc SV
  have TC := hid_as htc
  have SV := hid_as SV
  clear htc hVV hT
  have m1 : 1 ≤ m := by omega
  have m2 : (1 : Int) ≤ (m : Int) := by omega
  have m3 : ¬ cap = 1 := hc
  have m4 : 1 < cap := by have := hS.cap; omega
  have HB : Hid (∀ W : World, Below w.heap.size w W → Calls Try.prog 27 #[VV, .int .i64 n] W fun e w' => ∃ v', e = .returned v' ∧ w'.ownsRow W.heap.size 4 1 v' n (bls (ub (bs.drop 2) n)) ∧ Below W.heap.size W w') := fun W h => by
    have hb := bits_c (n : Int) (SV.out.below h)
    rw [show cut (n : Int) = n by unfold cut; omega] at hb
    exact hb
  have en : IntKind.i64.wrap (n : Int) = (n : Int) := by rw [IntKind.wrap_i64]; omega
  clear h0 hS hM SV
  unfold rqV
  go_enter Try.func45, Try.ntmps45
  go_upto_region 1 with fail
  have TW := two_new w 1 addr n addr2 bv rv
  generalize ((w.alloc (.cells #[.int .u8 (1 : Nat), .int .u16 addr, .int .u16 n, .int .u16 addr2, bv, rv] 26)).alloc (.cells #[.int .u8 0, .int .u8 0, .int .u16 0, .int .u16 0, .slice none 0 0, .slice none 0 0] 44)) = W at TW ⊢
  obtain ⟨BX, q, K, hs⟩ := TW
  obtain ⟨c0, c1, c2, c3, c4, c5⟩ := BX
  obtain ⟨⟨d0, d1, d2, d3, d4, d5⟩, hfz⟩ := block6 q
  have f0 := hfz 0
  have f1 := hfz 1
  have f2 := hfz 2
  have f3 := hfz 3
  have f4 := hfz 4
  have f5 := hfz 5
  have K : Hid (Below w.heap.size w W) := K
  clear hfz
  have k0' : W.cell? ⟨b, off, none⟩ = some (.int .u8 1) := (K.out.cell (p := ⟨b, off, none⟩) hb).trans k0
  go_quiet (fail)
  go_upto_region 7 with fail
  have y0 : (W.drewN nq).heap[w.heap.size + 1]? = some (.cells #[.int .u8 0, .int .u8 0, .int .u16 0, .int .u16 0, .slice none 0 0, .slice none 0 0] 44 (0, 0)) := q
  have u0 : (W.drewN nq).cell? ⟨w.heap.size, 0, none⟩ = some (.int .u8 1) := c0
  have KY : Hid (Below w.heap.size w (W.drewN nq)) := below_drewN K.out nq
  have hsY : w.heap.size + 1 < (W.drewN nq).heap.size := hs
  clear c0 c1 c2 c3 c4 c5 d0 d1 d2 d3 d4 d5 f0 f1 f2 f3 f4 f5 q k0' K hs
  generalize W.drewN nq = Y at y0 u0 KY hsY ⊢
  go_quiet (first | (go_at_call 47; exact Calls.quiet_of_same (hpc.out _)) | (go_at_call 56; exact Calls.quiet_of_same (TC.out _ (by first | exact KY.out | exact below_drewN KY.out _))))
  go_upto_region 8 with fail
  generalize hY2 : World.drewN Y _ = Y2
  have y2 : Y2.heap[w.heap.size + 1]? = some (.cells #[.int .u8 0, .int .u8 0, .int .u16 0, .int .u16 0, .slice none 0 0, .slice none 0 0] 44 (0, 0)) := by rw [← hY2]; exact y0
  have u2 : Y2.cell? ⟨w.heap.size, 0, none⟩ = some (.int .u8 1) := by rw [← hY2]; exact u0
  have K2 : Hid (Below w.heap.size w Y2) := by rw [← hY2]; exact below_drewN KY.out _
  have hs2 : w.heap.size + 1 < Y2.heap.size := by rw [← hY2]; exact hsY
  clear hY2 y0 u0 KY hsY
  go_region_held3 (fun w' => w'.cell? ⟨w.heap.size, 0, none⟩ = some (.int .u8 1)) (first | (simp [World.cell?_setCell_far, u2, u3]; done) | (simp [World.cell?_setCell_far, u2]; done)) (first | (go_at_call 27; (with_reducible refine (HB.out _ ?_).mono ?_); (first | exact K2.out | exact K2.out.drew); rintro e w3 ⟨v3, rfl, own3, k3⟩; obtain ⟨so, sc, hv⟩ := own_shape2 own3; subst hv; have k30 := below_and (by first | exact Below.refl Y2.heap.size Y2 | exact (Below.refl Y2.heap.size Y2).drew) k3; have q3 := (k30.block (w.heap.size + 1) hs2).trans y2; have u3 := (k30.cell (p := ⟨w.heap.size, 0, none⟩) (by simp; omega)).trans u2; have OWN : Hid (w3.ownsRow Y2.heap.size 4 1 (.slice so n sc) n (bls (ub (bs.drop 2) n))) := own3; have K3 : Hid (Below w.heap.size w w3) := below_and K2.out k30; clear own3 k3 k30; obtain ⟨⟨d0, d1, d2, d3, d4, d5⟩, hfz⟩ := block6 q3; have f0 := hfz 0; have f1 := hfz 1; have f2 := hfz 2; have f3 := hfz 3; have f4 := hfz 4; have f5 := hfz 5; clear hfz q3))
  all_goals
    go_wp2
    have BF := set_box (Box.mk d0 d1 d2 d3 d4 d5) (.int .u8 1) (.int .u8 0) (.int .u16 0) (.int .u16 0) (.slice so n sc) (.slice none 0 0)
    obtain ⟨e0, e1, e2, e3, e4, e5⟩ := BF
    refine bodyPost_ret (v := .tuple #[.agg #[.int .u8 1, .int .u8 0, .int .u16 0, .int .u16 0, .slice so n sc, .slice none 0 0], .bool true]) (by simp [results, Try.results45, go_sem, e0, e1, e2, e3, e4, e5]) rfl ⟨below_six K3.out (Nat.le_succ _) _ _ _ _ _ _, _, _, ⟨1, 0, 0, 0, ub (bs.drop 2) n, []⟩, rfl, ⟨rp_ok (by decide) (by decide) (by decide) (by decide) no_words, _, _, rfl, own_sl (own_six OWN.out hs2 _ _ _ _ _ _), Sl.nil _, new_own OWN.out (by omega), new_nil⟩, ⟨fun _ => (ans_b (addr := addr) (n := n) (addr2 := addr2) (bits := bits) (regs := regs) (by decide) H0.out HS.out.len (by omega)).2 HT.out, fun _ => rfl⟩, fun _ => by unfold ansOf; simp⟩
set_option linter.unusedSimpArgs false in
set_option linter.unusedVariables false in
set_option maxRecDepth 100000 in
set_option maxHeartbeats 1600000 in
theorem ta1_n (addr n addr2 m cap b off : Nat) (bits : List Bool) (regs : List Nat) (bv rv : Value) (bs : List Nat) (w : World) (hS : Bs w b off m cap bs) (hn : n ≤ 2000) (hm4 : m ≤ 1000) (h0 : bs.getD 0 0 = 1) (hm : 1 ≤ m) (hc : cap ≠ 1) (hT : ¬ (m = 2 + packed n ∧ bs.getD 1 0 = packed n)) :
    Calls Try.prog 45 #[rqV 1 addr n addr2 bv rv, .slice (some ⟨b, off, none⟩) m cap] w fun e w' => Told (AnsIs ⟨1, addr, n, addr2, bits, regs⟩ bs) (ansOf ⟨1, addr, n, addr2, bits, regs⟩ bs) w e w' := by
  have k0 : w.cell? ⟨b, off, none⟩ = some (.int .u8 1) := by have h := hS.at 0 (by omega); rw [h0] at h; exact h
  have H0 := hid_as h0
  have HS := hid_as hS
  have hb : b < w.heap.size := lt_of_cell k0
  have g0 : ((m : Int) == 0) = false := by rw [beq_eq_false_iff_ne]; omega
  have g1 : ((1 : Int) != 1) = false := rfl
  have i0 : (0 : Int) < (m : Int) := by omega
  obtain ⟨M, hM⟩ : ∃ M, M = packed n := ⟨_, rfl⟩
  have hM1 : M ≤ 10000 := by rw [hM]; unfold packed; omega
  have HM := hid_as hM
  have hpc := fun (W : World) => packed_c n (by omega) W
  rw [← hM] at hpc
  have hpc := hid_as hpc
  have HT := hid_as hT
  have htc : ∀ W : World, Below w.heap.size w W → Calls Try.prog 56 #[.slice (some ⟨b, off + 1, none⟩) (m - 1) (cap - 1), .int .i64 (M : Int)] W fun e w' => e = .returned (.tuple #[.slice none 0 0, .bool false]) ∧ w' = W := fun W h => tc_n ((hS.below h).drop 1 (by omega)).sl (hS.bytes.drop 1) (by omega) (by
    rw [List.length_drop, getD_drop, ← hS.len]
    intro h
    exact hT ⟨by omega, by rw [← hM]; exact h.2⟩)
  have SV : Sl w (.slice none 0 0) (u8s []) := Sl.nil w
  obtain ⟨VV, hVV⟩ : ∃ V, V = Value.slice none 0 0 := ⟨_, rfl⟩
  rw [← hVV] at htc SV
  have TC := hid_as htc
  have SV := hid_as SV
  clear htc hVV hT
  have m1 : 1 ≤ m := by omega
  have m2 : (1 : Int) ≤ (m : Int) := by omega
  have m3 : ¬ cap = 1 := hc
  have m4 : 1 < cap := by have := hS.cap; omega
  have HB : Hid (∀ W : World, Below w.heap.size w W → Calls Try.prog 27 #[VV, .int .i64 n] W fun e w' => ∃ v', e = .returned v' ∧ w'.ownsRow W.heap.size 4 1 v' n (bls (ub [] n)) ∧ Below W.heap.size W w') := fun W h => by
    have hb := bits_c (n : Int) (SV.out.below h)
    rw [show cut (n : Int) = n by unfold cut; omega] at hb
    exact hb
  have en : IntKind.i64.wrap (n : Int) = (n : Int) := by rw [IntKind.wrap_i64]; omega
  clear h0 hS hM SV
  unfold rqV
  go_enter Try.func45, Try.ntmps45
  go_upto_region 1 with fail
  have TW := two_new w 1 addr n addr2 bv rv
  generalize ((w.alloc (.cells #[.int .u8 (1 : Nat), .int .u16 addr, .int .u16 n, .int .u16 addr2, bv, rv] 26)).alloc (.cells #[.int .u8 0, .int .u8 0, .int .u16 0, .int .u16 0, .slice none 0 0, .slice none 0 0] 44)) = W at TW ⊢
  obtain ⟨BX, q, K, hs⟩ := TW
  obtain ⟨c0, c1, c2, c3, c4, c5⟩ := BX
  obtain ⟨⟨d0, d1, d2, d3, d4, d5⟩, hfz⟩ := block6 q
  have f0 := hfz 0
  have f1 := hfz 1
  have f2 := hfz 2
  have f3 := hfz 3
  have f4 := hfz 4
  have f5 := hfz 5
  have K : Hid (Below w.heap.size w W) := K
  clear hfz
  have k0' : W.cell? ⟨b, off, none⟩ = some (.int .u8 1) := (K.out.cell (p := ⟨b, off, none⟩) hb).trans k0
  go_quiet (fail)
  go_upto_region 7 with fail
  have y0 : (W.drewN nq).heap[w.heap.size + 1]? = some (.cells #[.int .u8 0, .int .u8 0, .int .u16 0, .int .u16 0, .slice none 0 0, .slice none 0 0] 44 (0, 0)) := q
  have u0 : (W.drewN nq).cell? ⟨w.heap.size, 0, none⟩ = some (.int .u8 1) := c0
  have KY : Hid (Below w.heap.size w (W.drewN nq)) := below_drewN K.out nq
  have hsY : w.heap.size + 1 < (W.drewN nq).heap.size := hs
  clear c0 c1 c2 c3 c4 c5 d0 d1 d2 d3 d4 d5 f0 f1 f2 f3 f4 f5 q k0' K hs
  generalize W.drewN nq = Y at y0 u0 KY hsY ⊢
  go_quiet (first | (go_at_call 47; exact Calls.quiet_of_same (hpc.out _)) | (go_at_call 56; exact Calls.quiet_of_same (TC.out _ (by first | exact KY.out | exact below_drewN KY.out _))))
  go_upto_region 8 with fail
  generalize hY2 : World.drewN Y _ = Y2
  have y2 : Y2.heap[w.heap.size + 1]? = some (.cells #[.int .u8 0, .int .u8 0, .int .u16 0, .int .u16 0, .slice none 0 0, .slice none 0 0] 44 (0, 0)) := by rw [← hY2]; exact y0
  have u2 : Y2.cell? ⟨w.heap.size, 0, none⟩ = some (.int .u8 1) := by rw [← hY2]; exact u0
  have K2 : Hid (Below w.heap.size w Y2) := by rw [← hY2]; exact below_drewN KY.out _
  have hs2 : w.heap.size + 1 < Y2.heap.size := by rw [← hY2]; exact hsY
  clear hY2 y0 u0 KY hsY
  go_region_held3 (fun w' => w'.cell? ⟨w.heap.size, 0, none⟩ = some (.int .u8 1)) (first | (simp [World.cell?_setCell_far, u2, u3]; done) | (simp [World.cell?_setCell_far, u2]; done)) (first | (go_at_call 27; (with_reducible refine (HB.out _ ?_).mono ?_); (first | exact K2.out | exact K2.out.drew); rintro e w3 ⟨v3, rfl, own3, k3⟩; obtain ⟨so, sc, hv⟩ := own_shape2 own3; subst hv; have k30 := below_and (by first | exact Below.refl Y2.heap.size Y2 | exact (Below.refl Y2.heap.size Y2).drew) k3; have q3 := (k30.block (w.heap.size + 1) hs2).trans y2; have u3 := (k30.cell (p := ⟨w.heap.size, 0, none⟩) (by simp; omega)).trans u2; have OWN : Hid (w3.ownsRow Y2.heap.size 4 1 (.slice so n sc) n (bls (ub [] n))) := own3; have K3 : Hid (Below w.heap.size w w3) := below_and K2.out k30; clear own3 k3 k30; obtain ⟨⟨d0, d1, d2, d3, d4, d5⟩, hfz⟩ := block6 q3; have f0 := hfz 0; have f1 := hfz 1; have f2 := hfz 2; have f3 := hfz 3; have f4 := hfz 4; have f5 := hfz 5; clear hfz q3))
  all_goals
    go_wp2
    have BF := set_box (Box.mk d0 d1 d2 d3 d4 d5) (.int .u8 1) (.int .u8 0) (.int .u16 0) (.int .u16 0) (.slice so n sc) (.slice none 0 0)
    obtain ⟨e0, e1, e2, e3, e4, e5⟩ := BF
    refine bodyPost_ret (v := .tuple #[.agg #[.int .u8 1, .int .u8 0, .int .u16 0, .int .u16 0, .slice so n sc, .slice none 0 0], .bool false]) (by simp [results, Try.results45, go_sem, e0, e1, e2, e3, e4, e5]) rfl ⟨below_six K3.out (Nat.le_succ _) _ _ _ _ _ _, _, _, ⟨1, 0, 0, 0, ub [] n, []⟩, rfl, ⟨rp_ok (by decide) (by decide) (by decide) (by decide) no_words, _, _, rfl, own_sl (own_six OWN.out hs2 _ _ _ _ _ _), Sl.nil _, new_own OWN.out (by omega), new_nil⟩, ⟨fun h => (by cases h), fun h => absurd ((ans_b (addr := addr) (n := n) (addr2 := addr2) (bits := bits) (regs := regs) (by decide) H0.out HS.out.len (by omega)).1 h) HT.out⟩, fun h => by cases h⟩
set_option linter.unusedSimpArgs false in
set_option linter.unusedVariables false in
set_option maxRecDepth 100000 in
set_option maxHeartbeats 1600000 in
theorem ta1_e (addr n addr2 b off : Nat) (bits : List Bool) (regs : List Nat) (bv rv : Value) (bs : List Nat) (w : World) (hS : Bs w b off 1 1 bs) (hn : n ≤ 2000) (hm4 : 1 ≤ 1000) (h0 : bs.getD 0 0 = 1) :
    Calls Try.prog 45 #[rqV 1 addr n addr2 bv rv, .slice (some ⟨b, off, none⟩) 1 1] w fun e w' => Told (AnsIs ⟨1, addr, n, addr2, bits, regs⟩ bs) (ansOf ⟨1, addr, n, addr2, bits, regs⟩ bs) w e w' := by
  have k0 : w.cell? ⟨b, off, none⟩ = some (.int .u8 1) := by have h := hS.at 0 (by omega); rw [h0] at h; exact h
  have H0 := hid_as h0
  have HS := hid_as hS
  have hb : b < w.heap.size := lt_of_cell k0
  have g0 : ((1 : Int) == 0) = false := by rw [beq_eq_false_iff_ne]; omega
  have g1 : ((1 : Int) != 1) = false := rfl
  have i0 : (0 : Int) < (1 : Int) := by omega
  obtain ⟨M, hM⟩ : ∃ M, M = packed n := ⟨_, rfl⟩
  have hM1 : M ≤ 10000 := by rw [hM]; unfold packed; omega
  have HM := hid_as hM
  have hpc := fun (W : World) => packed_c n (by omega) W
  rw [← hM] at hpc
  have hpc := hid_as hpc
  have htc : ∀ W : World, Below w.heap.size w W → Calls Try.prog 56 #[.slice (some ⟨b, off, none⟩) 0 0, .int .i64 (M : Int)] W fun e w' => e = .returned (.tuple #[.slice none 0 0, .bool false]) ∧ w' = W := fun W h => tc_other (some ⟨b, off, none⟩) 0 0 M W (by omega) (by omega)
  have SV : Sl w (.slice none 0 0) (u8s []) := Sl.nil w
  obtain ⟨VV, hVV⟩ : ∃ V, V = Value.slice none 0 0 := ⟨_, rfl⟩
  rw [← hVV] at htc SV
  have TC := hid_as htc
  have SV := hid_as SV
  clear htc hVV
  have HB : Hid (∀ W : World, Below w.heap.size w W → Calls Try.prog 27 #[VV, .int .i64 n] W fun e w' => ∃ v', e = .returned v' ∧ w'.ownsRow W.heap.size 4 1 v' n (bls (ub [] n)) ∧ Below W.heap.size W w') := fun W h => by
    have hb := bits_c (n : Int) (SV.out.below h)
    rw [show cut (n : Int) = n by unfold cut; omega] at hb
    exact hb
  have en : IntKind.i64.wrap (n : Int) = (n : Int) := by rw [IntKind.wrap_i64]; omega
  clear h0 hS hM SV
  unfold rqV
  go_enter Try.func45, Try.ntmps45
  go_upto_region 1 with fail
  have TW := two_new w 1 addr n addr2 bv rv
  generalize ((w.alloc (.cells #[.int .u8 (1 : Nat), .int .u16 addr, .int .u16 n, .int .u16 addr2, bv, rv] 26)).alloc (.cells #[.int .u8 0, .int .u8 0, .int .u16 0, .int .u16 0, .slice none 0 0, .slice none 0 0] 44)) = W at TW ⊢
  obtain ⟨BX, q, K, hs⟩ := TW
  obtain ⟨c0, c1, c2, c3, c4, c5⟩ := BX
  obtain ⟨⟨d0, d1, d2, d3, d4, d5⟩, hfz⟩ := block6 q
  have f0 := hfz 0
  have f1 := hfz 1
  have f2 := hfz 2
  have f3 := hfz 3
  have f4 := hfz 4
  have f5 := hfz 5
  have K : Hid (Below w.heap.size w W) := K
  clear hfz
  have k0' : W.cell? ⟨b, off, none⟩ = some (.int .u8 1) := (K.out.cell (p := ⟨b, off, none⟩) hb).trans k0
  go_quiet (fail)
  go_upto_region 7 with fail
  have y0 : (W.drewN nq).heap[w.heap.size + 1]? = some (.cells #[.int .u8 0, .int .u8 0, .int .u16 0, .int .u16 0, .slice none 0 0, .slice none 0 0] 44 (0, 0)) := q
  have u0 : (W.drewN nq).cell? ⟨w.heap.size, 0, none⟩ = some (.int .u8 1) := c0
  have KY : Hid (Below w.heap.size w (W.drewN nq)) := below_drewN K.out nq
  have hsY : w.heap.size + 1 < (W.drewN nq).heap.size := hs
  clear c0 c1 c2 c3 c4 c5 d0 d1 d2 d3 d4 d5 f0 f1 f2 f3 f4 f5 q k0' K hs
  generalize W.drewN nq = Y at y0 u0 KY hsY ⊢
  go_quiet (first | (go_at_call 47; exact Calls.quiet_of_same (hpc.out _)) | (go_at_call 56; exact Calls.quiet_of_same (TC.out _ (by first | exact KY.out | exact below_drewN KY.out _))))
  go_upto_region 8 with fail
  generalize hY2 : World.drewN Y _ = Y2
  have y2 : Y2.heap[w.heap.size + 1]? = some (.cells #[.int .u8 0, .int .u8 0, .int .u16 0, .int .u16 0, .slice none 0 0, .slice none 0 0] 44 (0, 0)) := by rw [← hY2]; exact y0
  have u2 : Y2.cell? ⟨w.heap.size, 0, none⟩ = some (.int .u8 1) := by rw [← hY2]; exact u0
  have K2 : Hid (Below w.heap.size w Y2) := by rw [← hY2]; exact below_drewN KY.out _
  have hs2 : w.heap.size + 1 < Y2.heap.size := by rw [← hY2]; exact hsY
  clear hY2 y0 u0 KY hsY
  go_region_held3 (fun w' => w'.cell? ⟨w.heap.size, 0, none⟩ = some (.int .u8 1)) (first | (simp [World.cell?_setCell_far, u2, u3]; done) | (simp [World.cell?_setCell_far, u2]; done)) (first | (go_at_call 27; (with_reducible refine (HB.out _ ?_).mono ?_); (first | exact K2.out | exact K2.out.drew); rintro e w3 ⟨v3, rfl, own3, k3⟩; obtain ⟨so, sc, hv⟩ := own_shape2 own3; subst hv; have k30 := below_and (by first | exact Below.refl Y2.heap.size Y2 | exact (Below.refl Y2.heap.size Y2).drew) k3; have q3 := (k30.block (w.heap.size + 1) hs2).trans y2; have u3 := (k30.cell (p := ⟨w.heap.size, 0, none⟩) (by simp; omega)).trans u2; have OWN : Hid (w3.ownsRow Y2.heap.size 4 1 (.slice so n sc) n (bls (ub [] n))) := own3; have K3 : Hid (Below w.heap.size w w3) := below_and K2.out k30; clear own3 k3 k30; obtain ⟨⟨d0, d1, d2, d3, d4, d5⟩, hfz⟩ := block6 q3; have f0 := hfz 0; have f1 := hfz 1; have f2 := hfz 2; have f3 := hfz 3; have f4 := hfz 4; have f5 := hfz 5; clear hfz q3))
  all_goals
    go_wp2
    have BF := set_box (Box.mk d0 d1 d2 d3 d4 d5) (.int .u8 1) (.int .u8 0) (.int .u16 0) (.int .u16 0) (.slice so n sc) (.slice none 0 0)
    obtain ⟨e0, e1, e2, e3, e4, e5⟩ := BF
    refine bodyPost_ret (v := .tuple #[.agg #[.int .u8 1, .int .u8 0, .int .u16 0, .int .u16 0, .slice so n sc, .slice none 0 0], .bool false]) (by simp [results, Try.results45, go_sem, e0, e1, e2, e3, e4, e5]) rfl ⟨below_six K3.out (Nat.le_succ _) _ _ _ _ _ _, _, _, ⟨1, 0, 0, 0, ub [] n, []⟩, rfl, ⟨rp_ok (by decide) (by decide) (by decide) (by decide) no_words, _, _, rfl, own_sl (own_six OWN.out hs2 _ _ _ _ _ _), Sl.nil _, new_own OWN.out (by omega), new_nil⟩, ⟨fun h => (by cases h), fun h => by have h1 := ((ans_b (addr := addr) (n := n) (addr2 := addr2) (bits := bits) (regs := regs) (by decide) H0.out HS.out.len (by omega)).1 h).1; omega⟩, fun h => by cases h⟩
set_option linter.unusedSimpArgs false in
set_option linter.unusedVariables false in
set_option maxRecDepth 100000 in
set_option maxHeartbeats 1600000 in
theorem ta2_y (addr n addr2 m cap b off : Nat) (bits : List Bool) (regs : List Nat) (bv rv : Value) (bs : List Nat) (w : World) (hS : Bs w b off m cap bs) (hn : n ≤ 2000) (hm4 : m ≤ 1000) (h0 : bs.getD 0 0 = 2) (hT : m = 2 + packed n ∧ bs.getD 1 0 = packed n) :
    Calls Try.prog 45 #[rqV 2 addr n addr2 bv rv, .slice (some ⟨b, off, none⟩) m cap] w fun e w' => Told (AnsIs ⟨2, addr, n, addr2, bits, regs⟩ bs) (ansOf ⟨2, addr, n, addr2, bits, regs⟩ bs) w e w' := by
  have hm : 2 ≤ m := by omega
  have hc0 := hS.cap
  have hc : cap ≠ 1 := by omega
  have k0 : w.cell? ⟨b, off, none⟩ = some (.int .u8 2) := by have h := hS.at 0 (by omega); rw [h0] at h; exact h
  have H0 := hid_as h0
  have HS := hid_as hS
  have hb : b < w.heap.size := lt_of_cell k0
  have g0 : ((m : Int) == 0) = false := by rw [beq_eq_false_iff_ne]; omega
  have g1 : ((2 : Int) != 2) = false := rfl
  have i0 : (0 : Int) < (m : Int) := by omega
  obtain ⟨M, hM⟩ : ∃ M, M = packed n := ⟨_, rfl⟩
  have hM1 : M ≤ 10000 := by rw [hM]; unfold packed; omega
  have HM := hid_as hM
  have hpc := fun (W : World) => packed_c n (by omega) W
  rw [← hM] at hpc
  have hpc := hid_as hpc
  have HT := hid_as hT
  have htc := fun (W : World) (h : Below w.heap.size w W) => tc_yes b (off + 1) (cap - 1) M W (by have h1 := hS.bytes.at 1; rw [hT.2, ← hM] at h1; exact h1) (by have := hT.1; omega) (by have h1 := (hS.below h).at 1 (by omega); rw [hT.2, ← hM] at h1; exact h1)
  rw [show 1 + M = m - 1 by have := hT.1; omega] at htc
  have SV : Sl w (cutV b (off + 1) (m - 1) (cap - 1) 1) (u8s (bs.drop 2)) := by
    have D := hS.drop 1 (by omega)
    have h := cut_sl (w := w) (b := b) (off := off + 1) (n := m - 1) (cap := cap - 1) (k := 1) (vs := u8s (bs.drop 1)) (by rw [u8s_len]; exact D.len) D.cap (by omega) D.lies
    rw [← u8s_drop, List.drop_drop] at h
    exact h
  obtain ⟨VV, hVV⟩ : ∃ V, V = cutV b (off + 1) (m - 1) (cap - 1) 1 := ⟨_, rfl⟩
  rw [← hVV] at htc SV
  have TC := hid_as htc
  have SV := hid_as SV
  clear htc hVV hT
  have m1 : 1 ≤ m := by omega
  have m2 : (1 : Int) ≤ (m : Int) := by omega
  have m3 : ¬ cap = 1 := hc
  have m4 : 1 < cap := by have := hS.cap; omega
  have HB : Hid (∀ W : World, Below w.heap.size w W → Calls Try.prog 27 #[VV, .int .i64 n] W fun e w' => ∃ v', e = .returned v' ∧ w'.ownsRow W.heap.size 4 1 v' n (bls (ub (bs.drop 2) n)) ∧ Below W.heap.size W w') := fun W h => by
    have hb := bits_c (n : Int) (SV.out.below h)
    rw [show cut (n : Int) = n by unfold cut; omega] at hb
    exact hb
  have en : IntKind.i64.wrap (n : Int) = (n : Int) := by rw [IntKind.wrap_i64]; omega
  clear h0 hS hM SV
  unfold rqV
  go_enter Try.func45, Try.ntmps45
  go_upto_region 1 with fail
  have TW := two_new w 2 addr n addr2 bv rv
  generalize ((w.alloc (.cells #[.int .u8 (2 : Nat), .int .u16 addr, .int .u16 n, .int .u16 addr2, bv, rv] 26)).alloc (.cells #[.int .u8 0, .int .u8 0, .int .u16 0, .int .u16 0, .slice none 0 0, .slice none 0 0] 44)) = W at TW ⊢
  obtain ⟨BX, q, K, hs⟩ := TW
  obtain ⟨c0, c1, c2, c3, c4, c5⟩ := BX
  obtain ⟨⟨d0, d1, d2, d3, d4, d5⟩, hfz⟩ := block6 q
  have f0 := hfz 0
  have f1 := hfz 1
  have f2 := hfz 2
  have f3 := hfz 3
  have f4 := hfz 4
  have f5 := hfz 5
  have K : Hid (Below w.heap.size w W) := K
  clear hfz
  have k0' : W.cell? ⟨b, off, none⟩ = some (.int .u8 2) := (K.out.cell (p := ⟨b, off, none⟩) hb).trans k0
  go_quiet (fail)
  go_upto_region 7 with fail
  have y0 : (W.drewN nq).heap[w.heap.size + 1]? = some (.cells #[.int .u8 0, .int .u8 0, .int .u16 0, .int .u16 0, .slice none 0 0, .slice none 0 0] 44 (0, 0)) := q
  have u0 : (W.drewN nq).cell? ⟨w.heap.size, 0, none⟩ = some (.int .u8 2) := c0
  have KY : Hid (Below w.heap.size w (W.drewN nq)) := below_drewN K.out nq
  have hsY : w.heap.size + 1 < (W.drewN nq).heap.size := hs
  clear c0 c1 c2 c3 c4 c5 d0 d1 d2 d3 d4 d5 f0 f1 f2 f3 f4 f5 q k0' K hs
  generalize W.drewN nq = Y at y0 u0 KY hsY ⊢
  go_quiet (first | (go_at_call 47; exact Calls.quiet_of_same (hpc.out _)) | (go_at_call 56; exact Calls.quiet_of_same (TC.out _ (by first | exact KY.out | exact below_drewN KY.out _))))
  go_upto_region 8 with fail
  generalize hY2 : World.drewN Y _ = Y2
  have y2 : Y2.heap[w.heap.size + 1]? = some (.cells #[.int .u8 0, .int .u8 0, .int .u16 0, .int .u16 0, .slice none 0 0, .slice none 0 0] 44 (0, 0)) := by rw [← hY2]; exact y0
  have u2 : Y2.cell? ⟨w.heap.size, 0, none⟩ = some (.int .u8 2) := by rw [← hY2]; exact u0
  have K2 : Hid (Below w.heap.size w Y2) := by rw [← hY2]; exact below_drewN KY.out _
  have hs2 : w.heap.size + 1 < Y2.heap.size := by rw [← hY2]; exact hsY
  clear hY2 y0 u0 KY hsY
  go_region_held3 (fun w' => w'.cell? ⟨w.heap.size, 0, none⟩ = some (.int .u8 2)) (first | (simp [World.cell?_setCell_far, u2, u3]; done) | (simp [World.cell?_setCell_far, u2]; done)) (first | (go_at_call 27; (with_reducible refine (HB.out _ ?_).mono ?_); (first | exact K2.out | exact K2.out.drew); rintro e w3 ⟨v3, rfl, own3, k3⟩; obtain ⟨so, sc, hv⟩ := own_shape2 own3; subst hv; have k30 := below_and (by first | exact Below.refl Y2.heap.size Y2 | exact (Below.refl Y2.heap.size Y2).drew) k3; have q3 := (k30.block (w.heap.size + 1) hs2).trans y2; have u3 := (k30.cell (p := ⟨w.heap.size, 0, none⟩) (by simp; omega)).trans u2; have OWN : Hid (w3.ownsRow Y2.heap.size 4 1 (.slice so n sc) n (bls (ub (bs.drop 2) n))) := own3; have K3 : Hid (Below w.heap.size w w3) := below_and K2.out k30; clear own3 k3 k30; obtain ⟨⟨d0, d1, d2, d3, d4, d5⟩, hfz⟩ := block6 q3; have f0 := hfz 0; have f1 := hfz 1; have f2 := hfz 2; have f3 := hfz 3; have f4 := hfz 4; have f5 := hfz 5; clear hfz q3))
  all_goals
    go_wp2
    have BF := set_box (Box.mk d0 d1 d2 d3 d4 d5) (.int .u8 2) (.int .u8 0) (.int .u16 0) (.int .u16 0) (.slice so n sc) (.slice none 0 0)
    obtain ⟨e0, e1, e2, e3, e4, e5⟩ := BF
    refine bodyPost_ret (v := .tuple #[.agg #[.int .u8 2, .int .u8 0, .int .u16 0, .int .u16 0, .slice so n sc, .slice none 0 0], .bool true]) (by simp [results, Try.results45, go_sem, e0, e1, e2, e3, e4, e5]) rfl ⟨below_six K3.out (Nat.le_succ _) _ _ _ _ _ _, _, _, ⟨2, 0, 0, 0, ub (bs.drop 2) n, []⟩, rfl, ⟨rp_ok (by decide) (by decide) (by decide) (by decide) no_words, _, _, rfl, own_sl (own_six OWN.out hs2 _ _ _ _ _ _), Sl.nil _, new_own OWN.out (by omega), new_nil⟩, ⟨fun _ => (ans_b (addr := addr) (n := n) (addr2 := addr2) (bits := bits) (regs := regs) (by decide) H0.out HS.out.len (by omega)).2 HT.out, fun _ => rfl⟩, fun _ => by unfold ansOf; simp⟩
set_option linter.unusedSimpArgs false in
set_option linter.unusedVariables false in
set_option maxRecDepth 100000 in
set_option maxHeartbeats 1600000 in
theorem ta2_n (addr n addr2 m cap b off : Nat) (bits : List Bool) (regs : List Nat) (bv rv : Value) (bs : List Nat) (w : World) (hS : Bs w b off m cap bs) (hn : n ≤ 2000) (hm4 : m ≤ 1000) (h0 : bs.getD 0 0 = 2) (hm : 1 ≤ m) (hc : cap ≠ 1) (hT : ¬ (m = 2 + packed n ∧ bs.getD 1 0 = packed n)) :
    Calls Try.prog 45 #[rqV 2 addr n addr2 bv rv, .slice (some ⟨b, off, none⟩) m cap] w fun e w' => Told (AnsIs ⟨2, addr, n, addr2, bits, regs⟩ bs) (ansOf ⟨2, addr, n, addr2, bits, regs⟩ bs) w e w' := by
  have k0 : w.cell? ⟨b, off, none⟩ = some (.int .u8 2) := by have h := hS.at 0 (by omega); rw [h0] at h; exact h
  have H0 := hid_as h0
  have HS := hid_as hS
  have hb : b < w.heap.size := lt_of_cell k0
  have g0 : ((m : Int) == 0) = false := by rw [beq_eq_false_iff_ne]; omega
  have g1 : ((2 : Int) != 2) = false := rfl
  have i0 : (0 : Int) < (m : Int) := by omega
  obtain ⟨M, hM⟩ : ∃ M, M = packed n := ⟨_, rfl⟩
  have hM1 : M ≤ 10000 := by rw [hM]; unfold packed; omega
  have HM := hid_as hM
  have hpc := fun (W : World) => packed_c n (by omega) W
  rw [← hM] at hpc
  have hpc := hid_as hpc
  have HT := hid_as hT
  have htc : ∀ W : World, Below w.heap.size w W → Calls Try.prog 56 #[.slice (some ⟨b, off + 1, none⟩) (m - 1) (cap - 1), .int .i64 (M : Int)] W fun e w' => e = .returned (.tuple #[.slice none 0 0, .bool false]) ∧ w' = W := fun W h => tc_n ((hS.below h).drop 1 (by omega)).sl (hS.bytes.drop 1) (by omega) (by
    rw [List.length_drop, getD_drop, ← hS.len]
    intro h
    exact hT ⟨by omega, by rw [← hM]; exact h.2⟩)
  have SV : Sl w (.slice none 0 0) (u8s []) := Sl.nil w
  obtain ⟨VV, hVV⟩ : ∃ V, V = Value.slice none 0 0 := ⟨_, rfl⟩
  rw [← hVV] at htc SV
  have TC := hid_as htc
  have SV := hid_as SV
  clear htc hVV hT
  have m1 : 1 ≤ m := by omega
  have m2 : (1 : Int) ≤ (m : Int) := by omega
  have m3 : ¬ cap = 1 := hc
  have m4 : 1 < cap := by have := hS.cap; omega
  have HB : Hid (∀ W : World, Below w.heap.size w W → Calls Try.prog 27 #[VV, .int .i64 n] W fun e w' => ∃ v', e = .returned v' ∧ w'.ownsRow W.heap.size 4 1 v' n (bls (ub [] n)) ∧ Below W.heap.size W w') := fun W h => by
    have hb := bits_c (n : Int) (SV.out.below h)
    rw [show cut (n : Int) = n by unfold cut; omega] at hb
    exact hb
  have en : IntKind.i64.wrap (n : Int) = (n : Int) := by rw [IntKind.wrap_i64]; omega
  clear h0 hS hM SV
  unfold rqV
  go_enter Try.func45, Try.ntmps45
  go_upto_region 1 with fail
  have TW := two_new w 2 addr n addr2 bv rv
  generalize ((w.alloc (.cells #[.int .u8 (2 : Nat), .int .u16 addr, .int .u16 n, .int .u16 addr2, bv, rv] 26)).alloc (.cells #[.int .u8 0, .int .u8 0, .int .u16 0, .int .u16 0, .slice none 0 0, .slice none 0 0] 44)) = W at TW ⊢
  obtain ⟨BX, q, K, hs⟩ := TW
  obtain ⟨c0, c1, c2, c3, c4, c5⟩ := BX
  obtain ⟨⟨d0, d1, d2, d3, d4, d5⟩, hfz⟩ := block6 q
  have f0 := hfz 0
  have f1 := hfz 1
  have f2 := hfz 2
  have f3 := hfz 3
  have f4 := hfz 4
  have f5 := hfz 5
  have K : Hid (Below w.heap.size w W) := K
  clear hfz
  have k0' : W.cell? ⟨b, off, none⟩ = some (.int .u8 2) := (K.out.cell (p := ⟨b, off, none⟩) hb).trans k0
  go_quiet (fail)
  go_upto_region 7 with fail
  have y0 : (W.drewN nq).heap[w.heap.size + 1]? = some (.cells #[.int .u8 0, .int .u8 0, .int .u16 0, .int .u16 0, .slice none 0 0, .slice none 0 0] 44 (0, 0)) := q
  have u0 : (W.drewN nq).cell? ⟨w.heap.size, 0, none⟩ = some (.int .u8 2) := c0
  have KY : Hid (Below w.heap.size w (W.drewN nq)) := below_drewN K.out nq
  have hsY : w.heap.size + 1 < (W.drewN nq).heap.size := hs
  clear c0 c1 c2 c3 c4 c5 d0 d1 d2 d3 d4 d5 f0 f1 f2 f3 f4 f5 q k0' K hs
  generalize W.drewN nq = Y at y0 u0 KY hsY ⊢
  go_quiet (first | (go_at_call 47; exact Calls.quiet_of_same (hpc.out _)) | (go_at_call 56; exact Calls.quiet_of_same (TC.out _ (by first | exact KY.out | exact below_drewN KY.out _))))
  go_upto_region 8 with fail
  generalize hY2 : World.drewN Y _ = Y2
  have y2 : Y2.heap[w.heap.size + 1]? = some (.cells #[.int .u8 0, .int .u8 0, .int .u16 0, .int .u16 0, .slice none 0 0, .slice none 0 0] 44 (0, 0)) := by rw [← hY2]; exact y0
  have u2 : Y2.cell? ⟨w.heap.size, 0, none⟩ = some (.int .u8 2) := by rw [← hY2]; exact u0
  have K2 : Hid (Below w.heap.size w Y2) := by rw [← hY2]; exact below_drewN KY.out _
  have hs2 : w.heap.size + 1 < Y2.heap.size := by rw [← hY2]; exact hsY
  clear hY2 y0 u0 KY hsY
  go_region_held3 (fun w' => w'.cell? ⟨w.heap.size, 0, none⟩ = some (.int .u8 2)) (first | (simp [World.cell?_setCell_far, u2, u3]; done) | (simp [World.cell?_setCell_far, u2]; done)) (first | (go_at_call 27; (with_reducible refine (HB.out _ ?_).mono ?_); (first | exact K2.out | exact K2.out.drew); rintro e w3 ⟨v3, rfl, own3, k3⟩; obtain ⟨so, sc, hv⟩ := own_shape2 own3; subst hv; have k30 := below_and (by first | exact Below.refl Y2.heap.size Y2 | exact (Below.refl Y2.heap.size Y2).drew) k3; have q3 := (k30.block (w.heap.size + 1) hs2).trans y2; have u3 := (k30.cell (p := ⟨w.heap.size, 0, none⟩) (by simp; omega)).trans u2; have OWN : Hid (w3.ownsRow Y2.heap.size 4 1 (.slice so n sc) n (bls (ub [] n))) := own3; have K3 : Hid (Below w.heap.size w w3) := below_and K2.out k30; clear own3 k3 k30; obtain ⟨⟨d0, d1, d2, d3, d4, d5⟩, hfz⟩ := block6 q3; have f0 := hfz 0; have f1 := hfz 1; have f2 := hfz 2; have f3 := hfz 3; have f4 := hfz 4; have f5 := hfz 5; clear hfz q3))
  all_goals
    go_wp2
    have BF := set_box (Box.mk d0 d1 d2 d3 d4 d5) (.int .u8 2) (.int .u8 0) (.int .u16 0) (.int .u16 0) (.slice so n sc) (.slice none 0 0)
    obtain ⟨e0, e1, e2, e3, e4, e5⟩ := BF
    refine bodyPost_ret (v := .tuple #[.agg #[.int .u8 2, .int .u8 0, .int .u16 0, .int .u16 0, .slice so n sc, .slice none 0 0], .bool false]) (by simp [results, Try.results45, go_sem, e0, e1, e2, e3, e4, e5]) rfl ⟨below_six K3.out (Nat.le_succ _) _ _ _ _ _ _, _, _, ⟨2, 0, 0, 0, ub [] n, []⟩, rfl, ⟨rp_ok (by decide) (by decide) (by decide) (by decide) no_words, _, _, rfl, own_sl (own_six OWN.out hs2 _ _ _ _ _ _), Sl.nil _, new_own OWN.out (by omega), new_nil⟩, ⟨fun h => (by cases h), fun h => absurd ((ans_b (addr := addr) (n := n) (addr2 := addr2) (bits := bits) (regs := regs) (by decide) H0.out HS.out.len (by omega)).1 h) HT.out⟩, fun h => by cases h⟩
set_option linter.unusedSimpArgs false in
set_option linter.unusedVariables false in
set_option maxRecDepth 100000 in
set_option maxHeartbeats 1600000 in
theorem ta2_e (addr n addr2 b off : Nat) (bits : List Bool) (regs : List Nat) (bv rv : Value) (bs : List Nat) (w : World) (hS : Bs w b off 1 1 bs) (hn : n ≤ 2000) (hm4 : 1 ≤ 1000) (h0 : bs.getD 0 0 = 2) :
    Calls Try.prog 45 #[rqV 2 addr n addr2 bv rv, .slice (some ⟨b, off, none⟩) 1 1] w fun e w' => Told (AnsIs ⟨2, addr, n, addr2, bits, regs⟩ bs) (ansOf ⟨2, addr, n, addr2, bits, regs⟩ bs) w e w' := by
  have k0 : w.cell? ⟨b, off, none⟩ = some (.int .u8 2) := by have h := hS.at 0 (by omega); rw [h0] at h; exact h
  have H0 := hid_as h0
  have HS := hid_as hS
  have hb : b < w.heap.size := lt_of_cell k0
  have g0 : ((1 : Int) == 0) = false := by rw [beq_eq_false_iff_ne]; omega
  have g1 : ((2 : Int) != 2) = false := rfl
  have i0 : (0 : Int) < (1 : Int) := by omega
  obtain ⟨M, hM⟩ : ∃ M, M = packed n := ⟨_, rfl⟩
  have hM1 : M ≤ 10000 := by rw [hM]; unfold packed; omega
  have HM := hid_as hM
  have hpc := fun (W : World) => packed_c n (by omega) W
  rw [← hM] at hpc
  have hpc := hid_as hpc
  have htc : ∀ W : World, Below w.heap.size w W → Calls Try.prog 56 #[.slice (some ⟨b, off, none⟩) 0 0, .int .i64 (M : Int)] W fun e w' => e = .returned (.tuple #[.slice none 0 0, .bool false]) ∧ w' = W := fun W h => tc_other (some ⟨b, off, none⟩) 0 0 M W (by omega) (by omega)
  have SV : Sl w (.slice none 0 0) (u8s []) := Sl.nil w
  obtain ⟨VV, hVV⟩ : ∃ V, V = Value.slice none 0 0 := ⟨_, rfl⟩
  rw [← hVV] at htc SV
  have TC := hid_as htc
  have SV := hid_as SV
  clear htc hVV
  have HB : Hid (∀ W : World, Below w.heap.size w W → Calls Try.prog 27 #[VV, .int .i64 n] W fun e w' => ∃ v', e = .returned v' ∧ w'.ownsRow W.heap.size 4 1 v' n (bls (ub [] n)) ∧ Below W.heap.size W w') := fun W h => by
    have hb := bits_c (n : Int) (SV.out.below h)
    rw [show cut (n : Int) = n by unfold cut; omega] at hb
    exact hb
  have en : IntKind.i64.wrap (n : Int) = (n : Int) := by rw [IntKind.wrap_i64]; omega
  clear h0 hS hM SV
  unfold rqV
  go_enter Try.func45, Try.ntmps45
  go_upto_region 1 with fail
  have TW := two_new w 2 addr n addr2 bv rv
  generalize ((w.alloc (.cells #[.int .u8 (2 : Nat), .int .u16 addr, .int .u16 n, .int .u16 addr2, bv, rv] 26)).alloc (.cells #[.int .u8 0, .int .u8 0, .int .u16 0, .int .u16 0, .slice none 0 0, .slice none 0 0] 44)) = W at TW ⊢
  obtain ⟨BX, q, K, hs⟩ := TW
  obtain ⟨c0, c1, c2, c3, c4, c5⟩ := BX
  obtain ⟨⟨d0, d1, d2, d3, d4, d5⟩, hfz⟩ := block6 q
  have f0 := hfz 0
  have f1 := hfz 1
  have f2 := hfz 2
  have f3 := hfz 3
  have f4 := hfz 4
  have f5 := hfz 5
  have K : Hid (Below w.heap.size w W) := K
  clear hfz
  have k0' : W.cell? ⟨b, off, none⟩ = some (.int .u8 2) := (K.out.cell (p := ⟨b, off, none⟩) hb).trans k0
  go_quiet (fail)
  go_upto_region 7 with fail
  have y0 : (W.drewN nq).heap[w.heap.size + 1]? = some (.cells #[.int .u8 0, .int .u8 0, .int .u16 0, .int .u16 0, .slice none 0 0, .slice none 0 0] 44 (0, 0)) := q
  have u0 : (W.drewN nq).cell? ⟨w.heap.size, 0, none⟩ = some (.int .u8 2) := c0
  have KY : Hid (Below w.heap.size w (W.drewN nq)) := below_drewN K.out nq
  have hsY : w.heap.size + 1 < (W.drewN nq).heap.size := hs
  clear c0 c1 c2 c3 c4 c5 d0 d1 d2 d3 d4 d5 f0 f1 f2 f3 f4 f5 q k0' K hs
  generalize W.drewN nq = Y at y0 u0 KY hsY ⊢
  go_quiet (first | (go_at_call 47; exact Calls.quiet_of_same (hpc.out _)) | (go_at_call 56; exact Calls.quiet_of_same (TC.out _ (by first | exact KY.out | exact below_drewN KY.out _))))
  go_upto_region 8 with fail
  generalize hY2 : World.drewN Y _ = Y2
  have y2 : Y2.heap[w.heap.size + 1]? = some (.cells #[.int .u8 0, .int .u8 0, .int .u16 0, .int .u16 0, .slice none 0 0, .slice none 0 0] 44 (0, 0)) := by rw [← hY2]; exact y0
  have u2 : Y2.cell? ⟨w.heap.size, 0, none⟩ = some (.int .u8 2) := by rw [← hY2]; exact u0
  have K2 : Hid (Below w.heap.size w Y2) := by rw [← hY2]; exact below_drewN KY.out _
  have hs2 : w.heap.size + 1 < Y2.heap.size := by rw [← hY2]; exact hsY
  clear hY2 y0 u0 KY hsY
  go_region_held3 (fun w' => w'.cell? ⟨w.heap.size, 0, none⟩ = some (.int .u8 2)) (first | (simp [World.cell?_setCell_far, u2, u3]; done) | (simp [World.cell?_setCell_far, u2]; done)) (first | (go_at_call 27; (with_reducible refine (HB.out _ ?_).mono ?_); (first | exact K2.out | exact K2.out.drew); rintro e w3 ⟨v3, rfl, own3, k3⟩; obtain ⟨so, sc, hv⟩ := own_shape2 own3; subst hv; have k30 := below_and (by first | exact Below.refl Y2.heap.size Y2 | exact (Below.refl Y2.heap.size Y2).drew) k3; have q3 := (k30.block (w.heap.size + 1) hs2).trans y2; have u3 := (k30.cell (p := ⟨w.heap.size, 0, none⟩) (by simp; omega)).trans u2; have OWN : Hid (w3.ownsRow Y2.heap.size 4 1 (.slice so n sc) n (bls (ub [] n))) := own3; have K3 : Hid (Below w.heap.size w w3) := below_and K2.out k30; clear own3 k3 k30; obtain ⟨⟨d0, d1, d2, d3, d4, d5⟩, hfz⟩ := block6 q3; have f0 := hfz 0; have f1 := hfz 1; have f2 := hfz 2; have f3 := hfz 3; have f4 := hfz 4; have f5 := hfz 5; clear hfz q3))
  all_goals
    go_wp2
    have BF := set_box (Box.mk d0 d1 d2 d3 d4 d5) (.int .u8 2) (.int .u8 0) (.int .u16 0) (.int .u16 0) (.slice so n sc) (.slice none 0 0)
    obtain ⟨e0, e1, e2, e3, e4, e5⟩ := BF
    refine bodyPost_ret (v := .tuple #[.agg #[.int .u8 2, .int .u8 0, .int .u16 0, .int .u16 0, .slice so n sc, .slice none 0 0], .bool false]) (by simp [results, Try.results45, go_sem, e0, e1, e2, e3, e4, e5]) rfl ⟨below_six K3.out (Nat.le_succ _) _ _ _ _ _ _, _, _, ⟨2, 0, 0, 0, ub [] n, []⟩, rfl, ⟨rp_ok (by decide) (by decide) (by decide) (by decide) no_words, _, _, rfl, own_sl (own_six OWN.out hs2 _ _ _ _ _ _), Sl.nil _, new_own OWN.out (by omega), new_nil⟩, ⟨fun h => (by cases h), fun h => by have h1 := ((ans_b (addr := addr) (n := n) (addr2 := addr2) (bits := bits) (regs := regs) (by decide) H0.out HS.out.len (by omega)).1 h).1; omega⟩, fun h => by cases h⟩
end Go.Proofs.Ytehbbkdiekgpbaa
