/- The law of blanks, whole (stage 12). · From what is read of the blanks to their cells (stage 12). -/
import Derived.Test.YtnponognncdkcaaDoorLC
import Derived.ProofKit
import Derived.OpenShut
import Derived.Deep.Matrix
import Derived.Deep.Grids
import Derived.Lib.SmallJoins
namespace Go.Proofs.YtnponognncdkcaaDoor
open Go.RowKit
open Adr Lx
set_option maxHeartbeats 2000000 in
theorem blanks_w (s : ByteArray) (ao : Option Addr) (n c : Nat) (f : Nat → Nat) (w : World) (hT : Tabs w) (hb : Bl w ao n f) : Calls Tryd.prog 3 #[.string s, .slice ao n c] w fun e w' => e = .returned (.bool true) ∧ Below w.heap.size w w' := by
  have K := hid_as (known_b w hT)
  by_cases hs : 1500 < s.size
  · have hs' : (1500 : Int) < s.size := by omega
    go_enter Tryd.func3, Tryd.ntmps3
    go_wp2_with (go_at_call 8; (with_reducible refine K.out.mono ?_); rintro e w1 ⟨rfl, b1, hT1⟩)
    go_ret
    exact ⟨rfl, b1⟩
  · have hs' : ¬ (1500 : Int) < s.size := by omega
    by_cases hn : 400 < n
    · have hn' : (400 : Int) < n := by omega
      go_enter Tryd.func3, Tryd.ntmps3
      go_wp2_with (go_at_call 8; (with_reducible refine K.out.mono ?_); rintro e w1 ⟨rfl, b1, hT1⟩)
      go_ret
      exact ⟨rfl, b1⟩
    · have hn' : ¬ (400 : Int) < n := by omega
      cases hbad : (toks s.data.toList false).2 with
      | some p =>
        obtain ⟨a, e⟩ := p
        have TK := hid_as (fun W hW => tokens_no (s := s) (il := false) hbad (by omega) W hW)
        clear hbad hb
        go_enter Tryd.func3, Tryd.ntmps3
        go_wp2_with (first
          | (go_at_call 8; (with_reducible refine K.out.mono ?_); rintro e w1 ⟨rfl, b1, hT1⟩)
          | (go_at_call 9; (with_reducible refine (TK.out _ hT1).mono ?_); rintro e w2 ⟨g, rfl, hg1, hg2, hc0, hc1, b2⟩))
        go_ret
        exact ⟨rfl, below_and b1 b2⟩
      | none => exact blanks_ok s ao n c f w hT (by omega) (by omega) hb (toks s.data.toList false).1 (by rw [← hbad])
open Go.ChangeShapes Go.WideShapes Go.ChangeAt Go.RowKit Go.Deep Go.Joins
open Adr Lx
theorem laidOut : laidOutB Tryd.prog = true := by kernel_rfl
theorem cellsByte : Tryd.prog.cellsOf 5 = 1 := by kernel_rfl
theorem byte_wf {z : Int} (h : (Lit.int .u8 z).wf = true) : 0 ≤ z ∧ z ≤ 255 := by
  simpa [Lit.wf, IntKind.min, IntKind.max, IntKind.signed, IntKind.bits] using h
theorem cell_in {W : World} {b k : Nat} {v : Value} (h : W.cell? ⟨b, k, none⟩ = some v) : b < W.heap.size := by
  rcases Nat.lt_or_ge b W.heap.size with q | q
  · exact q
  · simp [World.cell?, Array.getElem?_eq_none q] at h
set_option maxRecDepth 100000 in
theorem open_blanks {H : Type} {enc : TypeId × Value → H} {W : World} {base : Nat} {v : Value} {d : DataW H} {p : List MemPlace} (hok : Value.okWide Tryd.prog W .any base 22 v) (h : DataW.Trod enc Tryd.prog W 0 (fun _ => true) true 22 v d p) :
    ∃ ao n c f, v = .slice ao n c ∧ Bl W ao n f := by
  obtain ⟨a0, len, cap, rfl⟩ := okWide_slice Tryd.underlying22 hok
  obtain ⟨fuel, hf⟩ := h
  rcases open_ints Tryd.underlying22 Tryd.underlying5 cellsByte hf with ⟨hcs, _⟩ | ⟨a, len', cap', zs, hcs, _, hl, hm, hz, _, hcell, hwz⟩
  · simp [Value.cells] at hcs
    obtain ⟨rfl, rfl, rfl⟩ := hcs
    exact ⟨none, 0, 0, fun _ => 0, rfl, Or.inl rfl⟩
  · simp [Value.cells] at hcs
    obtain ⟨rfl, rfl, rfl⟩ := hcs
    simp only [if_true] at hz
    refine ⟨_, _, _, fun i => (zs.getD i 0).toNat, rfl, ?_⟩
    by_cases h0 : len = 0
    · exact Or.inl h0
    · right
      obtain ⟨b, off, spot⟩ := a
      have q0 := hcell 0 (by omega)
      have hspot : spot = none := by simpa [Addr.add] using World.cell?_spot q0
      subst hspot
      have hplain : ∀ k, (⟨b, off, none⟩ : Addr).add k = ⟨b, off + k, none⟩ := fun k => by unfold Addr.add; split <;> simp_all
      rw [hplain] at q0
      refine ⟨b, off, rfl, cell_in q0, fun i hi => ?_⟩
      have hkz : i < zs.length := by omega
      have hw := byte_wf (hwz _ (List.getElem_mem hkz))
      have e : zs.getD i 0 = zs[i] := by rw [List.getD_eq_getElem?_getD, List.getElem?_eq_getElem hkz]; rfl
      have q := hcell i (by omega)
      rw [hplain] at q
      constructor
      · rw [q]
        show some (Value.int .u8 (zs.getD i 0)) = some (.int .u8 ((zs.getD i 0).toNat : Int))
        rw [e, Int.toNat_of_nonneg hw.1]
      · show (zs.getD i 0).toNat ≤ 255
        rw [e]
        omega
end Go.Proofs.YtnponognncdkcaaDoor
