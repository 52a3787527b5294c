/- The reference's numbers (stage 12). -/
import Derived.Test.YtnponognncdkcaaDoorRB
import Derived.Test.YtnponognncdkcaaDoorW6
namespace Go.Proofs.YtnponognncdkcaaDoor
open Go.RowKit
open Adr Lx
/-- A number by a base, or without: what, how (0: none, 1: digits, 2: by a base), how many signs. -/
def rbs (k : Nat) (r : List UInt8) : Nat × Nat × Nat := if hdk (bo k) (r.drop (bn k).data.toList.length) then ((rdg (bo k) (r.drop (bn k).data.toList.length) 0 0).1, 2, (bn k).data.toList.length + (rdg (bo k) (r.drop (bn k).data.toList.length) 0 0).2) else (0, 0, (bn k).data.toList.length)
def rnm (r : List UInt8) : Nat × Nat × Nat := if hp r (bn 0).data.toList then rbs 0 r else if hp r (bn 1).data.toList then rbs 1 r else if hp r (bn 2).data.toList then rbs 2 r else if hdk 10 r then ((rdg 10 r 0 0).1, 1, (rdg 10 r 0 0).2) else (0, 0, 0)
theorem rnm_at {r : List UInt8} {k : Nat} (hk : k < 3) (hn : ∀ j, j < k → hp r (bn j).data.toList = false) (h : hp r (bn k).data.toList = true) : rnm r = rbs k r := by
  have hc : k = 0 ∨ k = 1 ∨ k = 2 := by omega
  unfold rnm
  rcases hc with rfl | rfl | rfl
  · rw [if_pos h]
  · rw [if_neg (by rw [hn 0 (by omega)]; exact Bool.false_ne_true), if_pos h]
  · rw [if_neg (by rw [hn 0 (by omega)]; exact Bool.false_ne_true), if_neg (by rw [hn 1 (by omega)]; exact Bool.false_ne_true), if_pos h]
theorem rnm_no {r : List UInt8} (hn : ∀ j, j < 3 → hp r (bn j).data.toList = false) : rnm r = if hdk 10 r then ((rdg 10 r 0 0).1, 1, (rdg 10 r 0 0).2) else (0, 0, 0) := by
  unfold rnm
  rw [if_neg (by rw [hn 0 (by omega)]; exact Bool.false_ne_true), if_neg (by rw [hn 1 (by omega)]; exact Bool.false_ne_true), if_neg (by rw [hn 2 (by omega)]; exact Bool.false_ne_true)]
/-- Does this text stand at this place? -/
theorem hp_piece (s p : ByteArray) (a : Nat) (ha : a ≤ s.size) : hp (s.data.toList.drop a) p.data.toList = (decide (a + p.size ≤ s.size) && ((s.extract a (a + p.size)).toList == p.toList)) := by
  unfold hp
  rw [← Lib.hasPrefix_of_take, Lib.toList_data, Lib.toList_data, tx_extract, tx_list, show a + p.size - a = p.data.toList.length by rw [← Lib.size_eq]; omega, List.length_drop, ← Lib.size_eq, ← Lib.size_eq]
  congr 1
  exact decide_eq_decide.2 (by omega)
def bcells : Array Value := #[.string ⟨#[50, 35]⟩, .string ⟨#[56, 35]⟩, .string ⟨#[49, 54, 35]⟩]
theorem bcells_at (k : Nat) (h : k < 3) : bcells[k]? = some (.string (bn k)) := by
  have hc : k = 0 ∨ k = 1 ∨ k = 2 := by omega
  rcases hc with rfl | rfl | rfl <;> rfl
theorem int3_at (W : World) (k : Nat) (hk : k < 3) : (W.alloc (.cells #[.int .i64 2, .int .i64 8, .int .i64 16] 2)).cell? ⟨W.heap.size, k, none⟩ = some (.int .i64 ((bo k : Nat) : Int)) := by
  rw [World.cell?_alloc_at _ _ _ _ rfl]
  have hc : k = 0 ∨ k = 1 ∨ k = 2 := by omega
  rcases hc with rfl | rfl | rfl <;> rfl
theorem Sc.below {W W' : World} {g : Nat} {s : ByteArray} {a : Nat} (h : Sc W g s a) (k : Below W.heap.size W W') : Sc W' g s a := by
  have hg : g < W.heap.size := by
    rcases Nat.lt_or_ge g W.heap.size with q | q
    · exact q
    · have := h.c0; simp [World.cell?, Array.getElem?_eq_none q] at this
  exact ⟨(k.cell (p := ⟨g, 0, none⟩) hg).trans h.c0, (k.cell (p := ⟨g, 1, none⟩) hg).trans h.c1, (k.frozen (p := ⟨g, 1, none⟩) hg).trans h.fr⟩
set_option maxHeartbeats 4000000 in
theorem number_r (s : ByteArray) (g a : Nat) (w : World) (h : Sc w g s a) (ha : a ≤ s.size) (hs : s.size ≤ 65536) : Calls Tryd.prog 54 #[.pointer (some ⟨g, 0, none⟩)] w fun e w' => e = .returned (.tuple #[.int .i64 ((rnm (s.data.toList.drop a)).1 : Nat), .int .i64 ((rnm (s.data.toList.drop a)).2.1 : Nat)]) ∧ Sc w' g s (a + (rnm (s.data.toList.drop a)).2.2) ∧ Turn g w w' := by
  have hS0 := hid_as (h.below (below_new1 w (.cells bcells 9)))
  have hT0 := hid_as (Turn.ofBelow (g := g) (below_new1 w (.cells bcells 9)))
  have hC : Hid (∀ k, k < 3 → (w.alloc (.cells bcells 9)).cell? ⟨w.heap.size, k, none⟩ = some (.string (bn k))) := fun k hk => by
    rw [World.cell?_alloc_at _ _ _ _ rfl]
    exact bcells_at k hk
  generalize hr : rnm (s.data.toList.drop a) = R at *
  replace hr := hid_as hr
  go_enter Tryd.func54, Tryd.ntmps54
  go_wp2
  unfold bcells at hS0 hT0 hC
  generalize hW1 : w.alloc _ = W1 at *
  generalize hgb : w.heap.size = gb at *
  clear hW1
  go_loopw [5] (fun i wr => ∃ k : Nat, k ≤ 3 ∧ i = .int .i64 k ∧ Hid (Same W1 wr) ∧ Hid (∀ j, j < k → hp (s.data.toList.drop a) (bn j).data.toList = false)) (fun i wr => 3 - (intOf i).toNat)
  case atStart => exact ⟨0, by omega, rfl, hid_as (Same.refl _), hid_as (fun j hj => by omega)⟩
  case round =>
    obtain ⟨k, hk, rfl, hSa, hn⟩ := hrel
    have hS := hid_as (hS0.out.same hSa.out)
    by_cases hlt : k < 3
    · have hlt' : (k : Int) < 3 := by omega
      have hdk : decide ((3 : Int) ≤ k) = false := decide_eq_false (by omega)
      have q : wr.cell? ⟨gb, k, none⟩ = some (.string (bn k)) := by rw [← hC.out k hlt]; simp [World.cell?, hSa.out.heap]
      have c0 := hS.out.c0
      have c1 := hS.out.c1
      have cf := hS.out.fr
      have hpi := hid_as (hp_piece s (bn k) a ha)
      have hbs := bn_size k
      cases hp' : hp (s.data.toList.drop a) (bn k).data.toList with
      | false =>
        rw [hpi.out] at hp'
        have hn2 := hid_as (show hp (s.data.toList.drop a) (bn k).data.toList = false by rw [hpi.out]; exact hp')
        by_cases hf : a + (bn k).size ≤ s.size
        · have hf' : (a : Int) + (bn k).size ≤ s.size := by omega
          have he : ((s.extract a (a + (bn k).size)).toList == (bn k).toList) = false := by rw [decide_eq_true hf] at hp'; simpa using hp'
          have x1 : (0 : Int) ≤ a := by omega
          have x2 : (a : Int) ≤ (a : Int) + (bn k).size := by omega
          have x3 : ((a : Int) + (bn k).size).toNat = a + (bn k).size := by omega
          clear hp' hpi
          go_upto_region 6 with fail
          go_quiet (fail)
          go_wp2
          go_roundw
          case rel =>
            refine ⟨k + 1, by omega, by go_num, hid_as (hSa.out.trans (by first | exact Same.drewN _ _ | exact Same.drew _)), hid_as (fun j hj => ?_)⟩
            by_cases e : j = k
            · subst e; exact hn2.out
            · exact hn.out j (by omega)
          case measure => simp [intOf]; omega
        · have hf' : ¬ (a : Int) + (bn k).size ≤ s.size := by omega
          clear hp' hpi
          go_upto_region 6 with fail
          go_quiet (fail)
          go_wp2
          go_roundw
          case rel =>
            refine ⟨k + 1, by omega, by go_num, hid_as (hSa.out.trans (by first | exact Same.drewN _ _ | exact Same.drew _)), hid_as (fun j hj => ?_)⟩
            by_cases e : j = k
            · subst e; exact hn2.out
            · exact hn.out j (by omega)
          case measure => simp [intOf]; omega
      | true =>
        have hR := hid_as (hr.out.symm.trans (rnm_at hlt hn.out hp'))
        rw [hpi.out, Bool.and_eq_true, decide_eq_true_eq] at hp'
        obtain ⟨hf, he⟩ := hp'
        have hf' : (a : Int) + (bn k).size ≤ s.size := by omega
        have x1 : (0 : Int) ≤ a := by omega
        have x2 : (a : Int) ≤ (a : Int) + (bn k).size := by omega
        have x3 : ((a : Int) + (bn k).size).toNat = a + (bn k).size := by omega
        have hbo := bo_le k
        have hT := hid_as (hT0.out.trans (Turn.same (g := g) hSa.out))
        clear hpi
        go_upto_region 6 with fail
        go_quiet (fail)
        go_upto_region 8 with fail
        have hS2 : Hid (Sc ((wr.drewN nq).setCell ⟨g, 1, none⟩ (.int .i64 ((a : Int) + (bn k).size))) g s (a + (bn k).size)) := by
          have q2 := (hS.out.same (Same.drewN wr nq)).set (a + (bn k).size)
          rw [Int.natCast_add] at q2
          exact hid_as q2
        have hT2 : Hid (Turn g w ((wr.drewN nq).setCell ⟨g, 1, none⟩ (.int .i64 ((a : Int) + (bn k).size)))) := hid_as ((hT.out.trans (Turn.same (Same.drewN wr nq))).set 1 _)
        generalize (wr.drewN nq).setCell ⟨g, 1, none⟩ (.int .i64 ((a : Int) + (bn k).size)) = W2 at *
        have hS3 := hid_as (hS2.out.below (below_new1 W2 (.cells #[.int .i64 2, .int .i64 8, .int .i64 16] 2)))
        have hT3 := hid_as (hT2.out.alloc (.cells #[.int .i64 2, .int .i64 8, .int .i64 16] 2))
        have u3 := int3_at W2 k hlt
        clear q c0 c1 cf hS hT he x1 x2 x3
        unfold rbs at hR
        rw [List.drop_drop, ← Lib.size_eq, hdk_chr] at hR
        cases ho : okd (bo k) (chr s (a + (bn k).size)) with
        | true =>
          rw [ho] at hR
          have D : Hid (∀ W, Sc W g s (a + (bn k).size) → Calls Tryd.prog 72 #[.pointer (some ⟨g, 0, none⟩), .int .i64 ((bo k : Nat) : Int)] W fun e w' => e = .returned (.tuple #[.int .i64 ((rdg (bo k) (s.data.toList.drop (a + (bn k).size)) 0 0).1 : Nat), .bool true]) ∧ Sc w' g s (a + (bn k).size + (rdg (bo k) (s.data.toList.drop (a + (bn k).size)) 0 0).2) ∧ Turn g W w') := fun W q => digits_yes s g _ (bo k) W q (by omega) hbo ho
          go_wp2_with (go_at_call 72; (with_reducible refine (D.out _ hS3.out).mono ?_); rintro e w3 ⟨rfl, s3, t3⟩)
          go_ret2
          exact ⟨ret_ii (by rw [hR.out]; rfl) (by rw [hR.out]; rfl), by rw [hR.out]; rw [Nat.add_assoc] at s3; exact s3, hT3.out.trans t3⟩
        | false =>
          rw [ho] at hR
          have D : Hid (∀ W, Sc W g s (a + (bn k).size) → Calls Tryd.prog 72 #[.pointer (some ⟨g, 0, none⟩), .int .i64 ((bo k : Nat) : Int)] W fun e w' => e = .returned (.tuple #[.int .i64 0, .bool false]) ∧ Same W w') := fun W q => digits_no s g _ (bo k) W q (by omega) ho
          go_wp2_with (go_at_call 72; (with_reducible refine (D.out _ hS3.out).mono ?_); rintro e w3 ⟨rfl, k3⟩)
          go_ret2
          exact ⟨ret_ii (by rw [hR.out]; rfl) (by rw [hR.out]; rfl), by rw [hR.out]; exact hS3.out.same k3, hT3.out.trans (Turn.same k3)⟩
    · have hR := hid_as (hr.out.symm.trans (rnm_no (fun j hj => hn.out j (by omega))))
      have hT := hid_as (hT0.out.trans (Turn.same (g := g) hSa.out))
      rw [hdk_chr] at hR
      cases ho : okd 10 (chr s a) with
      | true =>
        rw [ho] at hR
        have D : Hid (∀ W, Sc W g s a → Calls Tryd.prog 72 #[.pointer (some ⟨g, 0, none⟩), .int .i64 10] W fun e w' => e = .returned (.tuple #[.int .i64 ((rdg 10 (s.data.toList.drop a) 0 0).1 : Nat), .bool true]) ∧ Sc w' g s (a + (rdg 10 (s.data.toList.drop a) 0 0).2) ∧ Turn g W w') := fun W q => digits_yes s g a 10 W q (by omega) (by omega) ho
        go_wp2_with (go_at_call 72; (with_reducible refine (D.out _ hS.out).mono ?_); rintro e w3 ⟨rfl, s3, t3⟩)
        go_ret2
        exact ⟨ret_ii (by rw [hR.out]; rfl) (by rw [hR.out]; rfl), by rw [hR.out]; exact s3, hT.out.trans t3⟩
      | false =>
        rw [ho] at hR
        have D : Hid (∀ W, Sc W g s a → Calls Tryd.prog 72 #[.pointer (some ⟨g, 0, none⟩), .int .i64 10] W fun e w' => e = .returned (.tuple #[.int .i64 0, .bool false]) ∧ Same W w') := fun W q => digits_no s g a 10 W q (by omega) ho
        go_wp2_with (go_at_call 72; (with_reducible refine (D.out _ hS.out).mono ?_); rintro e w3 ⟨rfl, k3⟩)
        go_ret2
        exact ⟨ret_ii (by rw [hR.out]; rfl) (by rw [hR.out]; rfl), by rw [hR.out]; exact hS.out.same k3, hT.out.trans (Turn.same k3)⟩
end Go.Proofs.YtnponognncdkcaaDoor
