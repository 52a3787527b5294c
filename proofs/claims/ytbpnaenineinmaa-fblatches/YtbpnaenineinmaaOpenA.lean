/- Slices of arrays of bools, as they lie in memory (stage 17). -/
import Derived.Test.YtbpnaenineinmaaP1
import Derived.Test.YtbpnaenineinmaaOpenF
namespace Go.Proofs.Ytbpnaenineinmaa
open Go.ChangeShapes Go.WideShapes Go.ChangeAt Go.RowKit Go.Deep Go.Joins
theorem open_b2 {H : Type} {enc : TypeId × Value → H} {W : World} {base : Nat} {v : Value} {d : DataW H} {p : List MemPlace} (hok : Value.okWide Try.prog W .any base 45 v) (h : DataW.Trod enc Try.prog W 0 (fun _ => true) true 45 v d p) :
    ∃ ao n c f, v = .slice ao n c ∧ n ≤ 9223372036854775807 ∧ Bl W ao 2 n f := by
  obtain ⟨a0, len, cap, rfl⟩ := okWide_slice Try.underlying45 hok
  obtain ⟨fuel, hf⟩ := h
  rcases open_slice Try.underlying45 hf with ⟨hcs, _⟩ | ⟨a, len', cap', m, nf, D, Pl, hcs, _, hl, hm, hmm, hx, hr⟩
  · simp [Value.cells] at hcs
    obtain ⟨rfl, rfl, rfl⟩ := hcs
    exact ⟨none, 0, 0, fun _ _ => false, rfl, by decide, fun h => by omega⟩
  · simp [Value.cells] at hcs
    obtain ⟨rfl, rfl, rfl⟩ := hcs
    simp only [if_true] at hmm
    unfold maxLen at hm
    rw [show Try.prog.cellsOf 46 = 2 by kernel_rfl] at hr
    have each : ∀ i, i < len → ∀ k, k < 2 → ∃ b : Bool, W.cell? ((a.add (i * 2)).add k) = some (.bool b) := by
      intro i hi k hk
      obtain ⟨cs', h1, h2⟩ := hr i (by omega)
      obtain ⟨_, hlen, hcell⟩ := World.cells?_some h1
      obtain ⟨xs, n2, _, hxe, _, hxl, hff⟩ := DataW.trod_array Try.underlying46 h2
      have g := hff k hk
      rw [show Try.prog.cellsOf 4 = 1 by kernel_rfl, Nat.mul_one] at g
      have hkl : k < cs'.length := by omega
      rw [List.drop_eq_getElem_cons hkl] at g
      simp only [List.take_succ_cons, List.take_zero] at g
      rw [List.getElem?_eq_getElem (show k < xs.length by omega)] at g
      obtain ⟨b, hb, _⟩ := DataW.trod_bool Try.underlying4 g
      refine ⟨b, ?_⟩
      rw [hcell k (by omega), List.getElem?_eq_getElem hkl]
      simpa using hb
    by_cases h00 : len = 0
    · subst h00
      exact ⟨_, _, _, fun _ _ => false, rfl, by omega, fun h => by omega⟩
    obtain ⟨b, off, spot⟩ := a
    have hspot : spot = none := by
      obtain ⟨x, hx⟩ := each 0 (by omega) 0 (by decide)
      have h2 := World.cell?_spot (w := W) hx
      simpa [Addr.add] using h2
    subst hspot
    have hp : ∀ q, (⟨b, off, none⟩ : Addr).add q = ⟨b, off + q, none⟩ := fun q => by unfold Addr.add; split <;> simp_all
    have hp2 : ∀ q r, (⟨b, off + q, none⟩ : Addr).add r = ⟨b, off + q + r, none⟩ := fun q r => by unfold Addr.add; split <;> simp_all
    refine ⟨_, _, _, fun j k => match W.cell? ⟨b, off + j * 2 + k, none⟩ with | some (.bool x) => x | _ => false, rfl, by omega, fun _ => ⟨b, off, rfl, fun j k hj hk => ?_⟩⟩
    obtain ⟨x, hx⟩ := each j hj k hk
    rw [hp, hp2] at hx
    simp only [hx]
theorem open_b3 {H : Type} {enc : TypeId × Value → H} {W : World} {base : Nat} {v : Value} {d : DataW H} {p : List MemPlace} (hok : Value.okWide Try.prog W .any base 42 v) (h : DataW.Trod enc Try.prog W 0 (fun _ => true) true 42 v d p) :
    ∃ ao n c f, v = .slice ao n c ∧ n ≤ 9223372036854775807 ∧ Bl W ao 3 n f := by
  obtain ⟨a0, len, cap, rfl⟩ := okWide_slice Try.underlying42 hok
  obtain ⟨fuel, hf⟩ := h
  rcases open_slice Try.underlying42 hf with ⟨hcs, _⟩ | ⟨a, len', cap', m, nf, D, Pl, hcs, _, hl, hm, hmm, hx, hr⟩
  · simp [Value.cells] at hcs
    obtain ⟨rfl, rfl, rfl⟩ := hcs
    exact ⟨none, 0, 0, fun _ _ => false, rfl, by decide, fun h => by omega⟩
  · simp [Value.cells] at hcs
    obtain ⟨rfl, rfl, rfl⟩ := hcs
    simp only [if_true] at hmm
    unfold maxLen at hm
    rw [show Try.prog.cellsOf 43 = 3 by kernel_rfl] at hr
    have each : ∀ i, i < len → ∀ k, k < 3 → ∃ b : Bool, W.cell? ((a.add (i * 3)).add k) = some (.bool b) := by
      intro i hi k hk
      obtain ⟨cs', h1, h2⟩ := hr i (by omega)
      obtain ⟨_, hlen, hcell⟩ := World.cells?_some h1
      obtain ⟨xs, n2, _, hxe, _, hxl, hff⟩ := DataW.trod_array Try.underlying43 h2
      have g := hff k hk
      rw [show Try.prog.cellsOf 4 = 1 by kernel_rfl, Nat.mul_one] at g
      have hkl : k < cs'.length := by omega
      rw [List.drop_eq_getElem_cons hkl] at g
      simp only [List.take_succ_cons, List.take_zero] at g
      rw [List.getElem?_eq_getElem (show k < xs.length by omega)] at g
      obtain ⟨b, hb, _⟩ := DataW.trod_bool Try.underlying4 g
      refine ⟨b, ?_⟩
      rw [hcell k (by omega), List.getElem?_eq_getElem hkl]
      simpa using hb
    by_cases h00 : len = 0
    · subst h00
      exact ⟨_, _, _, fun _ _ => false, rfl, by omega, fun h => by omega⟩
    obtain ⟨b, off, spot⟩ := a
    have hspot : spot = none := by
      obtain ⟨x, hx⟩ := each 0 (by omega) 0 (by decide)
      have h2 := World.cell?_spot (w := W) hx
      simpa [Addr.add] using h2
    subst hspot
    have hp : ∀ q, (⟨b, off, none⟩ : Addr).add q = ⟨b, off + q, none⟩ := fun q => by unfold Addr.add; split <;> simp_all
    have hp2 : ∀ q r, (⟨b, off + q, none⟩ : Addr).add r = ⟨b, off + q + r, none⟩ := fun q r => by unfold Addr.add; split <;> simp_all
    refine ⟨_, _, _, fun j k => match W.cell? ⟨b, off + j * 3 + k, none⟩ with | some (.bool x) => x | _ => false, rfl, by omega, fun _ => ⟨b, off, rfl, fun j k hj hk => ?_⟩⟩
    obtain ⟨x, hx⟩ := each j hj k hk
    rw [hp, hp2] at hx
    simp only [hx]
end Go.Proofs.Ytbpnaenineinmaa
