/- The walk of ImageHides (stage 11). -/
import Derived.Test.YtlokdkpfeckdoaaDoorP2
namespace Go.Proofs.YtlokdkpfeckdoaaDoor
open Go.RowKit
open Adr
set_option maxRecDepth 100000 in
set_option maxHeartbeats 8000000 in
theorem hides_w (n c m d : Nat) (ao bo : Option Addr) (L M : List Stp) (w : World) (hA : AreasAt w) (hn : n = L.length) (hm : m = M.length) (hn9 : n ≤ 9223372036854775807) (hm9 : m ≤ 9223372036854775807)
    (hF : 0 < n → ∃ lb lo, ao = some ⟨lb, lo, none⟩ ∧ ∀ i x, L[i]? = some x → StepAt w lb lo i x) (hG : 0 < m → ∃ lb lo, bo = some ⟨lb, lo, none⟩ ∧ ∀ i x, M[i]? = some x → StepAt w lb lo i x) :
    Calls Tryd.prog 4 #[.slice ao n c, .slice bo m d] w fun e w' => e = .returned (.bool true) ∧ Below w.heap.size w w' := by
  have A := hid_as hA
  have X := hid_as (known_c w hA)
  have HF := hid_as hF
  have HN := hid_as hn
  have HG := hid_as hG
  have HM := hid_as hm
  have pos := hA.pos
  clear hF hn hA hG hm
  go_enter Tryd.func4, Tryd.ntmps4
  go_wp2_with fail
  refine X.out.mono ?_
  rintro e w1 ⟨rfl, k1⟩
  have K1 := hid_as k1
  clear k1 X
  by_cases h200 : 200 < n
  · have h200' : (200 : Int) < (n : Int) := by omega
    go_wp2
    go_ret
    exact ⟨rfl, K1.out⟩
  have h200' : ¬ (200 : Int) < (n : Int) := by omega
  by_cases h201 : 200 < m
  · have h201' : (200 : Int) < (m : Int) := by omega
    go_wp2
    go_ret
    exact ⟨rfl, K1.out⟩
  have h201' : ¬ (200 : Int) < (m : Int) := by omega
  have N1 := hid_as (new_c w1)
  go_wp2_with fail
  refine N1.out.mono ?_
  rintro e w2 ⟨rfl, i2, k2⟩
  have N2 := hid_as (rnew_c w2)
  have I2 := hid_as i2
  have K2 := hid_as k2
  clear N1 i2 k2
  go_wp2_with fail
  refine N2.out.mono ?_
  rintro e w3 ⟨rfl, i3, k3⟩
  have P3 : Hid (Two w w3 w1.heap.size w2.heap.size IS.zero IS.zero) := by
    have e1 := I2.out.lt
    have e2 := K1.out.size
    have e3 := K2.out.size
    have q := below_and (below_and K1.out K2.out) k3
    exact ⟨I2.out.below k3, i3, by omega, e2, by omega, q, A.out.below q⟩
  clear N2 i3 k3 I2 K2 K1
  generalize w1.heap.size = gm at *
  generalize w2.heap.size = gr at *
  have hs0 : IS.zero.n = 0 := rfl
  go_wp2_with fail
  go_loopw [7] (fun i wr => ∃ I : Nat, i = .int .i64 (I : Int) ∧ I ≤ n ∧ ∃ s, Hid (Two w wr gm gr s s) ∧ s.n = 0) (fun i _ => n - (intOf i).toNat)
  case atStart => exact ⟨0, rfl, Nat.zero_le _, _, P3, hs0⟩
  case round =>
    obtain ⟨I, rfl, hI, s, P, hs0⟩ := hrel
    clear P3
    by_cases hIn : I < n
    · as_aux_lemma =>
        have hI2 : (I : Int) < (n : Int) := by omega
        obtain ⟨lb, lo, rfl, hst⟩ := HF.out (by omega)
        obtain ⟨y, hy⟩ : ∃ y, L[I]? = some y := ⟨_, List.getElem?_eq_getElem (by rw [← HN.out]; exact hIn)⟩
        obtain ⟨what, a, n2, v⟩ := y
        have CS := hid_as (fun (W : World) (k : Below w.heap.size w W) => three ((hst I _ hy).below k))
        have x := CS.out wr P.out.k
        obtain ⟨x1, x2, x3⟩ := x
        have JX := hid_as (P.out.same (Same.drew wr))
        have C1 := hid_as (JX.out.put pos a n2 v)
        clear hst hy
        go_wp2_with fail
        go_region_held3 (fun w' => w'.cell? ⟨lb, lo + I * 4 + 1, none⟩ = some (.int .i64 a) ∧ w'.cell? ⟨lb, lo + I * 4 + 2, none⟩ = some (.int .i64 n2) ∧ w'.cell? ⟨lb, lo + I * 4 + 3, none⟩ = some (.int .u16 (v : Int))) (first | exact ⟨x1, x2, x3⟩ | exact CS.out _ J1.k) ((go_at_call 8; refine C1.out.mono ?_; rintro e w1 ⟨rfl, J1⟩))
        have P1 := hid_as J1
        have x := CS.out w1 J1.k
        obtain ⟨z1, z2, z3⟩ := x
        have KX := hid_as (P1.out.same (Same.drew w1))
        have C2 := hid_as (KX.out.rput pos a n2 v)
        clear x1 x2 x3 J1 JX C1 P
        go_wp2_with fail
        go_region_held3 (fun w' => w'.cell? ⟨lb, lo + I * 4 + 1, none⟩ = some (.int .i64 a) ∧ w'.cell? ⟨lb, lo + I * 4 + 2, none⟩ = some (.int .i64 n2) ∧ w'.cell? ⟨lb, lo + I * 4 + 3, none⟩ = some (.int .u16 (v : Int))) (first | exact ⟨z1, z2, z3⟩ | exact CS.out _ J2.k) ((go_at_call 9; refine C2.out.mono ?_; rintro e w2 ⟨rfl, J2⟩))
        have P2 := hid_as J2
        clear z1 z2 z3 J2 KX C2 CS
        go_wp2
        go_roundw
        case rel => exact ⟨I + 1, by go_num, by omega, _, P2, by rw [put_n]; exact hs0⟩
        case measure => simp [intOf]; omega
    have hI2 : ¬ (I : Int) < (n : Int) := by omega
    clear hIn hI
    have C1 := hid_as (latch_c P.out.m)
    go_wp2_with fail
    refine C1.out.mono ?_
    rintro e w4 ⟨rfl, i4, q4⟩
    have P4 := hid_as (P.out.stepM pos i4 q4)
    have C2 := hid_as (rlatch_c P4.out.r)
    clear C1 i4 q4 P
    go_wp2_with fail
    refine C2.out.mono ?_
    rintro e w5 ⟨rfl, i5, q5⟩
    have P3 := hid_as (P4.out.stepR pos i5 q5)
    have hs0 : s.latch.n = 0 := hs0
    clear C2 i5 q5 P4
    go_wp2_with fail
    go_loopw [8] (fun i wr => ∃ I : Nat, i = .int .i64 (I : Int) ∧ I ≤ m ∧ ∃ s, Hid (Two w wr gm gr s s) ∧ s.n = 0) (fun i _ => m - (intOf i).toNat)
    case atStart => exact ⟨0, rfl, Nat.zero_le _, _, P3, hs0⟩
    case round =>
      obtain ⟨I, rfl, hI, s, P, hs0⟩ := hrel
      clear P3
      by_cases hIn : I < m
      · as_aux_lemma =>
          have hI2 : (I : Int) < (m : Int) := by omega
          obtain ⟨lb, lo, rfl, hst⟩ := HG.out (by omega)
          obtain ⟨y, hy⟩ : ∃ y, M[I]? = some y := ⟨_, List.getElem?_eq_getElem (by rw [← HM.out]; exact hIn)⟩
          obtain ⟨what, a, n2, v⟩ := y
          have CS := hid_as (fun (W : World) (k : Below w.heap.size w W) => three ((hst I _ hy).below k))
          have x := CS.out wr P.out.k
          obtain ⟨x1, x2, x3⟩ := x
          have JX := hid_as (P.out.same (Same.drew wr))
          have C1 := hid_as (JX.out.set pos a n2 v)
          clear hst hy
          go_wp2_with fail
          go_region_held3 (fun w' => w'.cell? ⟨lb, lo + I * 4 + 1, none⟩ = some (.int .i64 a) ∧ w'.cell? ⟨lb, lo + I * 4 + 2, none⟩ = some (.int .i64 n2) ∧ w'.cell? ⟨lb, lo + I * 4 + 3, none⟩ = some (.int .u16 (v : Int))) (first | exact ⟨x1, x2, x3⟩ | exact CS.out _ J1.k) ((go_at_call 10; refine C1.out.mono ?_; rintro e w1 ⟨rfl, J1⟩))
          have P1 := hid_as J1
          have x := CS.out w1 J1.k
          obtain ⟨z1, z2, z3⟩ := x
          have KX := hid_as (P1.out.same (Same.drew w1))
          have C2 := hid_as (KX.out.rset pos a n2 v)
          clear x1 x2 x3 J1 JX C1 P
          go_wp2_with fail
          go_region_held3 (fun w' => w'.cell? ⟨lb, lo + I * 4 + 1, none⟩ = some (.int .i64 a) ∧ w'.cell? ⟨lb, lo + I * 4 + 2, none⟩ = some (.int .i64 n2) ∧ w'.cell? ⟨lb, lo + I * 4 + 3, none⟩ = some (.int .u16 (v : Int))) (first | exact ⟨z1, z2, z3⟩ | exact CS.out _ J2.k) ((go_at_call 11; refine C2.out.mono ?_; rintro e w2 ⟨rfl, J2⟩))
          have P2 := hid_as J2
          clear z1 z2 z3 J2 KX C2 CS
          go_wp2
          go_roundw
          case rel => exact ⟨I + 1, by go_num, by omega, _, P2, by rw [set_n]; exact hs0⟩
          case measure => simp [intOf]; omega
      have hI2 : ¬ (I : Int) < (m : Int) := by omega
      clear hIn hI
      have P3 := P
      clear P
      go_wp2_with fail
      go_loopw [9] (fun i wr => ∃ k : Nat, 1 ≤ k ∧ k ≤ 7 ∧ i = .int .i64 (k : Int) ∧ Hid (Two w wr gm gr s s)) (fun i _ => 7 - (intOf i).toNat)
      case atStart => exact ⟨1, by omega, by omega, rfl, P3⟩
      case round =>
        obtain ⟨k, hk1, hk, rfl, P⟩ := hrel
        clear P3
        by_cases hk7 : k < 7
        · as_aux_lemma =>
            have hk6 : (k : Int) ≤ 6 := by omega
            have AL := hid_as (all_c (k : Int) P.out.ar P.out.m)
            go_wp2_with fail
            refine AL.out.mono ?_
            rintro e w1 ⟨v1, rfl, sl, k1⟩
            have P1 := hid_as (P.out.below k1)
            have RA := hid_as (rall_c (k : Int) P1.out.r)
            have S1 := hid_as sl
            obtain ⟨ao, c, rfl⟩ := sl.shape
            rw [u16s_len, alls_len] at *
            clear sl k1 AL P
            go_wp2_with fail
            refine RA.out.mono ?_
            rintro e w2 ⟨v2, rfl, sl2, k2⟩
            have P2 := hid_as (P1.out.below k2)
            have RG := hid_as (regs_same (S1.out.below k2) sl2 (Nat.le_trans (alls_le _ _) (by decide)))
            obtain ⟨ao2, c2, rfl⟩ := sl2.shape
            rw [u16s_len, alls_len] at *
            clear sl2 k2 RA P1 S1
            go_wp2_with fail
            refine RG.out.mono ?_
            rintro e w3 ⟨rfl, k3⟩
            have P3 := hid_as (P2.out.below k3.below)
            clear k3 RG P2
            go_wp2
            go_roundw
            case rel => exact ⟨k + 1, by omega, by omega, by go_num, P3⟩
            case measure => simp [intOf]; omega
        obtain rfl : k = 7 := by omega
        clear hk7 hk hk1
        have A1 := hid_as (all_f 1 P.out.ar P.out.m)
        go_wp2_with fail
        refine A1.out.mono ?_
        rintro e w1 ⟨v1, rfl, sl1, k1, f1⟩
        have P1 := hid_as (P.out.below k1)
        have F1 : Hid (∀ b n c, v1 = .slice (some b) n c → b.block ≠ gm ∧ b.block ≠ gr) := fun b n c h => by
          have e1 := f1 b n c h
          have e2 := P.out.m.lt
          have e3 := P.out.r.lt
          omega
        have S1 := hid_as sl1
        obtain ⟨ao1, c1, rfl⟩ := sl1.shape
        rw [u16s_len, alls_len] at *
        have A2 := hid_as (all_f 4 P1.out.ar P1.out.m)
        clear sl1 k1 f1 A1 P
        go_wp2_with fail
        refine A2.out.mono ?_
        rintro e w2 ⟨v2, rfl, sl2, k2, f2⟩
        have P2 := hid_as (P1.out.below k2)
        have F2 : Hid (∀ b n c, v2 = .slice (some b) n c → b.block ≠ gm ∧ b.block ≠ gr) := fun b n c h => by
          have e1 := f2 b n c h
          have e2 := P1.out.m.lt
          have e3 := P1.out.r.lt
          omega
        have S1b := hid_as (S1.out.below k2)
        have S2 := hid_as sl2
        obtain ⟨ao2, c2, rfl⟩ := sl2.shape
        rw [u16s_len, alls_len] at *
        have C3 := hid_as (pub_c P2.out.m (by rw [hs0]; decide))
        clear sl2 k2 f2 A2 P1 S1
        go_wp2_with fail
        refine C3.out.mono ?_
        rintro e w3 ⟨rfl, i3, q3⟩
        have P3 := hid_as (P2.out.stepM pos i3 q3)
        have S1c := hid_as (S1b.out.turn q3 (fun b n c h => (F1.out b n c h).1))
        have S2c := hid_as (S2.out.turn q3 (fun b n c h => (F2.out b n c h).1))
        have C4 := hid_as (rpub_c P3.out.r (by rw [hs0]; decide))
        clear C3 i3 q3 P2 S1b S2
        go_wp2_with fail
        refine C4.out.mono ?_
        rintro e w4 ⟨rfl, i4, q4⟩
        have P4 := hid_as (P3.out.stepR pos i4 q4)
        have S1d := hid_as (S1c.out.turn q4 (fun b n c h => (F1.out b n c h).2))
        have S2d := hid_as (S2c.out.turn q4 (fun b n c h => (F2.out b n c h).2))
        have AK := hid_as (alike_c P4.out.ar P4.out.m P4.out.r)
        clear C4 i4 q4 P3 S1c S2c F1 F2
        go_wp2_with fail
        refine AK.out.mono ?_
        rintro e w5 ⟨rfl, k5⟩
        have P5 := hid_as (P4.out.below k5)
        have S1e := hid_as (S1d.out.below k5)
        have S2e := hid_as (S2d.out.below k5)
        have A5 := hid_as (all_c 1 P5.out.ar P5.out.m)
        rw [pub_1] at A5
        clear AK k5 P4 S1d S2d
        go_wp2_with fail
        refine A5.out.mono ?_
        rintro e w6 ⟨v6, rfl, sl6, k6⟩
        have P6 := hid_as (P5.out.below k6)
        have S2f := hid_as (S2e.out.below k6)
        have RG := hid_as (regs_same sl6 (S1e.out.below k6) (Nat.le_trans (alls_le _ _) (by decide)))
        obtain ⟨ao6, c6, rfl⟩ := sl6.shape
        rw [u16s_len, alls_len] at *
        clear A5 sl6 k6 P5 S1e S2e
        go_wp2_with fail
        refine RG.out.mono ?_
        rintro e w7 ⟨rfl, k7⟩
        have P7 := hid_as (P6.out.below k7.below)
        have S2g := hid_as (S2f.out.below k7.below)
        have A8 := hid_as (all_c 4 P7.out.ar P7.out.m)
        rw [pub_4] at A8
        clear RG k7 P6 S2f
        go_wp2_with fail
        refine A8.out.mono ?_
        rintro e w8 ⟨v8, rfl, sl8, k8⟩
        have P8 := hid_as (P7.out.below k8)
        have RH := hid_as (regs_same sl8 (S2g.out.below k8) (Nat.le_trans (alls_le _ _) (by decide)))
        obtain ⟨ao8, c8, rfl⟩ := sl8.shape
        rw [u16s_len, alls_len] at *
        clear A8 sl8 k8 P7 S2g
        go_wp2_with fail
        refine RH.out.mono ?_
        rintro e w9 ⟨rfl, k9⟩
        have P9 := hid_as (P8.out.below k9.below)
        clear RH k9 P8
        go_wp2
        go_ret
        exact ⟨rfl, P9.out.k⟩
end Go.Proofs.YtlokdkpfeckdoaaDoor
