/- The walk of newest (stage 9). -/
import Derived.Test.YtoiadofoclgnoaaJ1
namespace Go.Proofs.Ytoiadofoclgnoaa
open Go.RowKit
open Pdu
set_option maxHeartbeats 800000 in
theorem newest_c {w : World} {gv base : Nat} {R : Nat → Rc} {V : Nat → Value} {bg : Bool} (h : Vw w gv base R V bg) (n : Int) (hn : -1 ≤ n) (hn2 : n ≤ 1000000) :
    Calls Try.prog 30 #[.pointer (some ⟨gv, 0, none⟩), .int .i64 n] w fun e w' => (∃ a, e = .returned (.int .i64 a) ∧ NwK R n 4 a) ∧ Below w.heap.size w w' := by
  have H := hid_as h
  have c0 := (h.cells (j := 0) (by decide)).1
  have c1 := (h.cells (j := 0) (by decide)).2.1
  have c2 := (h.cells (j := 0) (by decide)).2.2
  have c3 := (h.cells (j := 1) (by decide)).1
  have c4 := (h.cells (j := 1) (by decide)).2.1
  have c5 := (h.cells (j := 1) (by decide)).2.2
  have c6 := (h.cells (j := 2) (by decide)).1
  have c7 := (h.cells (j := 2) (by decide)).2.1
  have c8 := (h.cells (j := 2) (by decide)).2.2
  have c9 := (h.cells (j := 3) (by decide)).1
  have ca := (h.cells (j := 3) (by decide)).2.1
  have cb := (h.cells (j := 3) (by decide)).2.2
  simp only [Nat.zero_mul, Nat.one_mul, Nat.zero_add, Nat.reduceMul, Nat.reduceAdd] at c0 c1 c2 c3 c4 c5 c6 c7 c8 c9 ca cb
  clear h
  go_enter Try.func30, Try.ntmps30
  go_wp2
  clear c0 c1 c2 c3 c4 c5 c6 c7 c8 c9 ca cb
  go_loopw [5, 12] (fun b i wr => ∃ k : Nat, k ≤ 4 ∧ i = .int .i64 k ∧ (∃ a, b = .int .i64 a ∧ NwK R n k a) ∧ Below w.heap.size w wr) (fun _ i _ => 4 - (intOf i).toNat)
  case atStart => exact ⟨0, by omega, rfl, ⟨_, rfl, Or.inl ⟨rfl, fun i hi => by omega⟩⟩, Below.refl _ _⟩
  case round =>
    obtain ⟨k, hk, rfl, ⟨a, rfl, hnw⟩, hB⟩ := hrel
    have NW := hid_as hnw
    have KB := hid_as hB
    have HW := hid_as (H.out.below hB)
    clear hnw hB
    by_cases hk4 : k < 4
    · have hk2 : (k : Int) < 4 := by omega
      have hidx := fun W => idx12 R V W hk4
      obtain ⟨ao, cc, hV⟩ := H.out.shape hk4
      simp only [RcV, hV, vwa] at hidx
      have OK : Hid (okr R n k ↔ (R k).t ≠ 0 ∧ (n = -1 ∨ n = ((R k).l.length : Int))) := Iff.rfl
      have hcj : ∀ j, j < 4 → wr.cell? ⟨gv, j * 3, none⟩ = some (.int .u64 ((R j).t : Int)) := fun j hj => (HW.out.cells hj).1
      obtain ⟨t, ht⟩ : ∃ t, t = (R k).t := ⟨_, rfl⟩
      obtain ⟨m, hm⟩ : ∃ m, m = (R k).l.length := ⟨_, rfl⟩
      rw [← ht] at hidx OK
      rw [← hm] at hidx OK
      have HT := hid_as ht
      clear ht hm hV
      go_upto_region 5 with fail
      obtain ⟨X, hX⟩ : ∃ X, X = wr.alloc (.cells #[.int .u64 (t : Int), .int .u64 ((R k).s : Int), .slice ao m cc] 61) := ⟨_, rfl⟩
      have x0 : X.cell? ⟨wr.heap.size, 0, none⟩ = some (.int .u64 (t : Int)) := by rw [hX]; simp
      have x2 : X.cell? ⟨wr.heap.size, 2, none⟩ = some (.slice ao m cc) := by rw [hX]; simp
      have kX : Below wr.heap.size wr X := by rw [hX]; exact below_new (Below.refl _ _) _
      have KX := hid_as (below_and KB.out kX)
      have hcx : ∀ j, j < 4 → X.cell? ⟨gv, j * 3, none⟩ = some (.int .u64 ((R j).t : Int)) := fun j hj => keep_cell kX (hcj j hj)
      rw [← hX]
      clear hX kX hcj hidx
      generalize wr.heap.size = gr at *
      by_cases h0 : t = 0
      · have SK := hid_as (NW.out.skip (fun q => (OK.out.1 q).1 h0))
        subst h0
        go_wp2
        go_roundw
        case rel => exact ⟨k + 1, by omega, by go_num, ⟨_, rfl, SK.out⟩, KX.out⟩
        case measure => simp [intOf]; omega
      · have h02 : ¬ (t : Int) = 0 := by omega
        have h03 : ((t : Int) == 0) = false := by rw [beq_eq_false_iff_ne]; exact h02
        by_cases h1 : n = -1
        · have OKK := hid_as (OK.out.2 ⟨h0, Or.inl h1⟩)
          subst h1
          by_cases ha : a = -1
          · subst ha
            have NF := hid_as (NW.out.first OKK.out)
            go_upto_region 6 with fail
            go_quiet (fail)
            go_wp2
            go_roundw
            case rel => exact ⟨k + 1, by omega, by go_num, ⟨_, rfl, NF.out⟩, below_drewN KX.out _⟩
            case measure => simp [intOf]; omega
          · obtain ⟨j, hj, rfl, _, _⟩ := NW.out.resolve_left (fun q => ha q.1)
            have hj4 : (j : Int) < 4 := by omega
            have hj0 : ¬ (j : Int) < 0 := by omega
            have dj : decide ((j : Int) < 0) = false := decide_eq_false hj0
            have hcell := hcx j (by omega)
            by_cases hg : (R j).t < t
            · have NM := hid_as (NW.out.more OKK.out (by rw [← HT.out]; exact hg))
              have hg2 : ((R j).t : Int) < (t : Int) := by omega
              go_upto_region 6 with fail
              go_quiet (fail)
              go_wp2
              go_roundw
              case rel => exact ⟨k + 1, by omega, by go_num, ⟨_, rfl, NM.out⟩, below_drewN KX.out _⟩
              case measure => simp [intOf]; omega
            · have NS := hid_as (NW.out.stay (by rw [← HT.out]; omega))
              have hg2 : ¬ ((R j).t : Int) < (t : Int) := by omega
              have hg3 : decide (((R j).t : Int) < (t : Int)) = false := decide_eq_false hg2
              go_upto_region 6 with fail
              go_quiet (fail)
              go_wp2
              go_roundw
              case rel => exact ⟨k + 1, by omega, by go_num, ⟨_, rfl, NS.out⟩, below_drewN KX.out _⟩
              case measure => simp [intOf]; omega
        · have h12 : (n == -1) = false := by rw [beq_eq_false_iff_ne]; exact h1
          have h13 : (n != -1) = true := by rw [bne_iff_ne]; exact h1
          by_cases h2 : n = (m : Int)
          · have OKK := hid_as (OK.out.2 ⟨h0, Or.inr h2⟩)
            subst h2
            by_cases ha : a = -1
            · subst ha
              have NF := hid_as (NW.out.first OKK.out)
              go_upto_region 6 with fail
              go_quiet (fail)
              go_wp2
              go_roundw
              case rel => exact ⟨k + 1, by omega, by go_num, ⟨_, rfl, NF.out⟩, below_drewN KX.out _⟩
              case measure => simp [intOf]; omega
            · obtain ⟨j, hj, rfl, _, _⟩ := NW.out.resolve_left (fun q => ha q.1)
              have hj4 : (j : Int) < 4 := by omega
              have hj0 : ¬ (j : Int) < 0 := by omega
              have dj : decide ((j : Int) < 0) = false := decide_eq_false hj0
              have hcell := hcx j (by omega)
              by_cases hg : (R j).t < t
              · have NM := hid_as (NW.out.more OKK.out (by rw [← HT.out]; exact hg))
                have hg2 : ((R j).t : Int) < (t : Int) := by omega
                go_upto_region 6 with fail
                go_quiet (fail)
                go_wp2
                go_roundw
                case rel => exact ⟨k + 1, by omega, by go_num, ⟨_, rfl, NM.out⟩, below_drewN KX.out _⟩
                case measure => simp [intOf]; omega
              · have NS := hid_as (NW.out.stay (by rw [← HT.out]; omega))
                have hg2 : ¬ ((R j).t : Int) < (t : Int) := by omega
                have hg3 : decide (((R j).t : Int) < (t : Int)) = false := decide_eq_false hg2
                go_upto_region 6 with fail
                go_quiet (fail)
                go_wp2
                go_roundw
                case rel => exact ⟨k + 1, by omega, by go_num, ⟨_, rfl, NS.out⟩, below_drewN KX.out _⟩
                case measure => simp [intOf]; omega
          · have SK := hid_as (NW.out.skip (fun q => (OK.out.1 q).2.elim h1 h2))
            have h22 : (n != (m : Int)) = true := by rw [bne_iff_ne]; exact h2
            go_wp2
            go_roundw
            case rel => exact ⟨k + 1, by omega, by go_num, ⟨_, rfl, SK.out⟩, KX.out⟩
            case measure => simp [intOf]; omega
    · obtain rfl : k = 4 := by omega
      go_wp2
      go_ret
      exact ⟨⟨_, rfl, NW.out⟩, KB.out⟩
end Go.Proofs.Ytoiadofoclgnoaa
