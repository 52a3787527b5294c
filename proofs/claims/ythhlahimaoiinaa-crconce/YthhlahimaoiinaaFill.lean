/- The walk: a table is filled. -/
import Derived.Test.YthhlahimaoiinaaTab
import Derived.Deep.RegionWith
namespace Go.Proofs.Ythhlahimaoiinaa
open Go.RowKit
open Crc

theorem add64_c (a : Addr) (w : World) (hc : w.cell? a = some (.int .i64 0)) (hz : w.frozen? a = false) :
    Calls Try.prog 24 #[.pointer (some a), .int .i64 1] w fun e w' => e = .returned (.int .i64 1) ∧ w' = w.setCell a (.int .i64 1) := by
  have hadd := run_call_add (P := Try.prog) Try.func30 (by kernel_rfl) (by kernel_rfl) (by kernel_rfl) .i64 (by kernel_rfl) (y := 1) (s := 1) hc hz (by simp [go_sem]; rfl)
  go_enter Try.func24, Try.ntmps24
  go_wp2
  go_ret
  exact ⟨rfl, rfl⟩
theorem load64_c (a : Addr) (n : Int) (w : World) (hc : w.cell? a = some (.int .i64 n)) :
    Calls Try.prog 21 #[.pointer (some a)] w fun e w' => e = .returned (.int .i64 n) ∧ w' = w := by
  have hl := run_call_load (P := Try.prog) Try.func25 (by kernel_rfl) (by kernel_rfl) (by kernel_rfl) .i64 (by kernel_rfl) hc
  go_enter Try.func21, Try.ntmps21
  go_wp2
  go_ret
  exact ⟨rfl, rfl⟩

/-- Of the 256 sums the first k are made. -/
def Part (w wr : World) (b o k : Nat) : Prop := Only b (o + 4) (o + 260) w wr ∧ (∀ j, j < k → wr.cell? ⟨b, o + 4 + j, none⟩ = some (.int .u16 (its 40961 8 j : Nat))) ∧ ∀ j, k ≤ j → wr.cell? ⟨b, o + 4 + j, none⟩ = w.cell? ⟨b, o + 4 + j, none⟩
theorem fill_at {w wr : World} {b o k : Nat} {v : Value} (hk : k < 256) (h : Hid (Part w wr b o k)) (hs : wr.cell? ⟨b, o + 4 + k, none⟩ = some v) :
    Part w ((wr.setCell ⟨b, o + 4 + k, none⟩ (.int .u16 (its 40961 8 k : Nat))).drew) b o (k + 1) := by
  obtain ⟨h1, h2, h3⟩ := h
  refine ⟨(h1.setCell (by omega) (by omega) _).drew, fun j hj => ?_, fun j hj => ?_⟩
  · rw [World.cell?_drew]
    by_cases e : j = k
    · subst e
      exact World.cell?_setCell_same _ _ _ hs
    · rw [World.cell?_setCell_other _ _ _ _ (by simp only [ne_eq, Addr.mk.injEq]; omega)]
      exact h2 j (by omega)
  · rw [World.cell?_drew, World.cell?_setCell_other _ _ _ _ (by simp only [ne_eq, Addr.mk.injEq]; omega)]
    exact h3 j (by omega)
theorem fill_end {w wr : World} {b o : Nat} (h : Hid (Part w wr b o 256)) (hm : wr.cell? ⟨b, o + 3, none⟩ = some (.int .i64 0)) :
    Only b (o + 3) (o + 260) w (wr.setCell ⟨b, o + 3, none⟩ (.int .i64 1)) ∧ (wr.setCell ⟨b, o + 3, none⟩ (.int .i64 1)).cell? ⟨b, o + 3, none⟩ = some (.int .i64 1) ∧ ∀ j, j < 256 → (wr.setCell ⟨b, o + 3, none⟩ (.int .i64 1)).cell? ⟨b, o + 4 + j, none⟩ = some (.int .u16 (its 40961 8 j : Nat)) := by
  obtain ⟨h1, h2, _⟩ := h
  refine ⟨(h1.wide (by omega) (Nat.le_refl _)).setCell (Nat.le_refl _) (by omega) _, World.cell?_setCell_same _ _ _ hm, fun j hj => ?_⟩
  rw [World.cell?_setCell_other _ _ _ _ (by simp only [ne_eq, Addr.mk.injEq]; omega)]
  exact h2 j hj

set_option maxRecDepth 100000 in
set_option maxHeartbeats 800000 in
theorem fill_c (b o : Nat) (w : World) (hmade : w.cell? ⟨b, o + 3, none⟩ = some (.int .i64 0)) (hs : ∀ j, j < 256 → ∃ v, w.cell? ⟨b, o + 4 + j, none⟩ = some v) (hz : ∀ j, w.frozen? ⟨b, j, none⟩ = false) :
    Calls Try.prog 18 #[.pointer (some ⟨b, o, none⟩)] w fun e w' => e = .returned (.tuple #[]) ∧ Only b (o + 3) (o + 260) w w' ∧ w'.cell? ⟨b, o + 3, none⟩ = some (.int .i64 1) ∧ ∀ j, j < 256 → w'.cell? ⟨b, o + 4 + j, none⟩ = some (.int .u16 (its 40961 8 j : Nat)) := by
  go_enter Try.func18, Try.ntmps18
  go_wp2
  go_loopw [3] (fun i wr => ∃ k : Nat, k ≤ 256 ∧ i = .int .i64 k ∧ Part w wr b o k) (fun i _ => 256 - (intOf i).toNat)
  case atStart => exact ⟨0, by omega, rfl, Only.refl .., fun j hj => by omega, fun _ _ => rfl⟩
  case round =>
    obtain ⟨k, hk, rfl, hon⟩ := hrel
    have HO : Hid (Part w wr b o k) := hon
    have hfz : wr.frozen? ⟨b, o + 4 + k, none⟩ = false := (hon.1.frozen _).trans (hz _)
    have hmr : wr.cell? ⟨b, o + 3, none⟩ = some (.int .i64 0) := (hon.1.cell _ (by omega)).trans hmade
    have hmz : wr.frozen? ⟨b, o + 3, none⟩ = false := (hon.1.frozen _).trans (hz _)
    have hcell : k < 256 → ∃ v, wr.cell? ⟨b, o + 4 + k, none⟩ = some v := fun h => by
      obtain ⟨v, hv⟩ := hs k h
      exact ⟨v, (hon.2.2 k (Nat.le_refl _)).trans hv⟩
    clear hon hs hmade hz
    go_wp2_with (go_at_call 24; refine (add64_c ⟨b, o + 3, none⟩ _ hmr hmz).mono ?_; rintro e w' ⟨rfl, hw⟩; subst w')
    · have hkl : k < 256 := by omega
      obtain ⟨v, hv⟩ := hcell hkl
      have hwr : IntKind.u16.wrap (k : Int) = (k : Int) := by rw [IntKind.wrap_u16]; omega
      have hk16 : k < 65536 := by omega
      have HV : Hid (wr.cell? ⟨b, o + 4 + k, none⟩ = some v) := hv
      clear hcell hmr hmz
      go_region_with (go_at_call 19; refine (halve16_c k hk16 _).mono ?_; rintro e w' ⟨rfl, hw⟩; subst w')
      go_wp2
      go_roundw
      case rel => exact ⟨k + 1, by omega, by go_num, fill_at hkl HO HV⟩
      case measure => simp [intOf]; omega
    · obtain rfl : k = 256 := by omega
      go_end0
      exact ⟨rfl, fill_end HO hmr⟩
end Go.Proofs.Ythhlahimaoiinaa
