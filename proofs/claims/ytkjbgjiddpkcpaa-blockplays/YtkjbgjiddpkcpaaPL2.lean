/- The walk of the law's help alike (stage 8). -/
import Derived.Test.YtkjbgjiddpkcpaaPL1
namespace Go.Proofs.Ytkjbgjiddpkcpaa
open Go.RowKit
open Pdu
set_option maxHeartbeats 400000 in
theorem blocks_q {w : World} {g h : Nat} {s : SS} (t : St w g h s) : Calls Try.prog 32 #[.pointer (some ⟨g, 0, none⟩)] w fun e w' => e = .returned (.int .i64 (s.rows.length : Int)) ∧ ∃ m, w' = w.drewN m := by
  have hc := t.cRoom
  have hs := t.cSize
  have hz := t.ok.lo
  have hd := blocks_div t.ok
  have hn := t.ok.nhi
  clear t
  generalize s.rows.length * s.sz = L at *
  generalize s.sz = z at *
  generalize s.rows.length = nb at *
  have h0 : ¬ (z : Int) = 0 := by omega
  go_enter Try.func32, Try.ntmps32
  go_wp2
  go_quiet (fail)
  go_wp2
  go_ret
  exact ⟨rfl, _, rfl⟩
set_option maxRecDepth 100000 in
set_option maxHeartbeats 1600000 in
theorem alike_c {w : World} {g h r q : Nat} {s t : SS} (a : St w g h s) (b : Rf w r q h t) (e : Sim s t) : Calls Try.prog 26 #[.pointer (some ⟨g, 0, none⟩), .pointer (some ⟨r, 0, none⟩)] w fun e w' => e = .returned (.bool true) ∧ Below w.heap.size w w' := by
  have c5 := b.cDead
  have c2 := b.cN
  obtain ⟨cap, c0, hcap⟩ := b.cells
  rw [e.dead] at c5
  rw [e.n] at c2
  rw [e.rows] at c0 hcap
  have X1 := hid_as (fun (d : Nat) => dead_c (a.drewN d))
  have X2 := hid_as (fun (d : Nat) => writes_c (a.drewN d))
  have X3 := hid_as (fun (d : Nat) => blocks_q (a.drewN d))
  have A := hid_as a
  have B := hid_as b
  have E := hid_as e
  have hnb := a.ok.nhi
  obtain ⟨dd, hdd⟩ : ∃ dd, dd = s.dead := ⟨_, rfl⟩
  obtain ⟨sn, hsn⟩ : ∃ sn, sn = s.n := ⟨_, rfl⟩
  obtain ⟨nb, hnbb⟩ : ∃ nb, nb = s.rows.length := ⟨_, rfl⟩
  rw [← hdd] at c5 X1
  rw [← hsn] at c2 X2
  rw [← hnbb] at c0 hcap X3 hnb
  clear a b e hdd hsn hnbb
  go_enter Try.func26, Try.ntmps26
  go_wp2_with fail
  go_quiet ((first
    | (go_at_call 28; exact Calls.quiet_of_same (X1.out _))
    | (go_at_call 31; exact Calls.quiet_of_same (X2.out _))
    | (go_at_call 32; exact Calls.quiet_of (X3.out _))))
  have K0 : Hid (Below w.heap.size w (w.drewN nq)) := (Same.drewN w nq).below
  generalize w.drewN nq = W0 at K0 ⊢
  clear X1 X2 X3 c5 c2
  go_wp2_with fail
  go_loopw [5] (fun v wr => ∃ (I : Nat) (i : Int), v = .int .i64 i ∧ i = (I : Int) - 1 ∧ I ≤ nb + 2 ∧ Below w.heap.size w wr) (fun v _ => (nb + 2 - intOf v).toNat)
  case atStart => exact ⟨0, -1, rfl, by omega, by omega, K0.out⟩
  case round =>
    obtain ⟨I, i, rfl, hi, hI, hk⟩ := hrel
    have KW := hid_as hk
    have HI := hid_as hi
    have k0 := keep_cell hk c0
    clear hk hi K0
    by_cases hlt : i ≤ (nb : Int)
    · have A1 := hid_as (A.out.below KW.out)
      have R1 := hid_as (read_c A1.out i)
      go_wp2_with fail
      refine R1.out.mono ?_
      rintro e w1 ⟨v1, rfl, o1, k1⟩
      have O1 := hid_as o1
      have K1 := hid_as k1
      have R2 := hid_as (readr_c (B.out.below (below_and KW.out k1)) i)
      rw [E.out.err, E.out.got] at R2
      clear R1 o1 k1
      go_wp2_with fail
      refine R2.out.mono ?_
      rintro e w2 ⟨⟨v2, rfl, s2⟩, k2⟩
      have K2 := hid_as k2.below
      have GL := hid_as (got_len A.out.ok i)
      have O2 := hid_as (own_below O1.out k2.below (Nat.le_refl _))
      have Y := hid_as (bytes_t (own_sl O2.out) s2 GL.out.2)
      have SP := hid_as (spoil_c O2.out (by rw [k2.heap]; exact K1.out.size) (by have := GL.out.1; omega))
      obtain ⟨ee, hee⟩ : ∃ ee : Nat, ee = s.err i := ⟨_, rfl⟩
      rw [← hee]
      have d0 : ((ee : Int) == (ee : Int)) = true := by simp
      clear R2 s2 k2 O1 hee
      go_wp2_with fail
      refine Y.out.mono ?_
      rintro e wx ⟨rfl, hw⟩
      subst wx
      clear Y
      go_wp2_with fail
      refine SP.out.mono ?_
      rintro e w3 ⟨rfl, k3⟩
      have K3 : Hid (Below w.heap.size w w3) := by
        have h1 := below_and KW.out K1.out
        have h2 := below_and h1 K2.out
        exact h2.trans (Below.mono k3 KW.out.size)
      clear SP k3 O2 GL
      have hb : i + 1 ≤ 100 := by omega
      have hb2 : -1 ≤ i := by have := HI.out; omega
      go_wp2
      go_roundw
      case rel => exact ⟨I + 1, i + 1, rfl, by have := HI.out; omega, by have := HI.out; omega, K3.out⟩
      case measure => simp [intOf]; omega
    · go_wp2
      go_ret
      exact ⟨rfl, KW.out⟩
end Go.Proofs.Ytkjbgjiddpkcpaa
