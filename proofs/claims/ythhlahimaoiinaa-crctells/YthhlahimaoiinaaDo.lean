/- The walks: sync.Once with the filling of a table, not yet done and done. -/
import Derived.Test.YthhlahimaoiinaaFill
namespace Go.Proofs.Ythhlahimaoiinaa
open Go.RowKit
open Crc

/-- Behind the filling: the word is stored, the lock is let go. -/
theorem slow_end {w w1 : World} {b o : Nat} (h : Tab w b o 0) (hon : Only b (o + 3) (o + 260) (w.setCell ⟨b, o + 1, none⟩ (.int .i32 1)) w1) (hm : w1.cell? ⟨b, o + 3, none⟩ = some (.int .i64 1)) (hs : ∀ j, j < 256 → w1.cell? ⟨b, o + 4 + j, none⟩ = some (.int .u16 (its 40961 8 j : Nat))) :
    Only b o (o + 260) w ((w1.drew.setCell ⟨b, o, none⟩ (.int .u32 1)).setCell ⟨b, o + 1, none⟩ (.int .i32 0)) ∧ Tab ((w1.drew.setCell ⟨b, o, none⟩ (.int .u32 1)).setCell ⟨b, o + 1, none⟩ (.int .i32 0)) b o 1 := by
  have c0 : w1.cell? ⟨b, o, none⟩ = some (.int .u32 0) := (hon.cell _ (by omega)).trans ((World.cell?_setCell_other _ _ _ _ (by simp only [ne_eq, Addr.mk.injEq]; omega)).trans h.done)
  have c1 : w1.cell? ⟨b, o + 1, none⟩ = some (.int .i32 1) := (hon.cell _ (by omega)).trans (World.cell?_setCell_same _ _ _ h.lock)
  have k1 : Only b o (o + 260) w (w.setCell ⟨b, o + 1, none⟩ (.int .i32 1)) := (Only.refl ..).setCell (by omega) (by omega) _
  have k2 := k1.trans (hon.wide (by omega) (Nat.le_refl _))
  have k3 := ((k2.drew).setCell (j := o) (by omega) (by omega) (.int .u32 1)).setCell (j := o + 1) (by omega) (by omega) (.int .i32 0)
  refine ⟨k3, ⟨?_, ?_, ?_, fun j hj => ?_, fun j => (k3.frozen j).trans (h.free j)⟩⟩
  · rw [World.cell?_setCell_other _ _ _ _ (by simp only [ne_eq, Addr.mk.injEq]; omega)]
    exact World.cell?_setCell_same _ _ _ (by rw [World.cell?_drew]; exact c0)
  · exact World.cell?_setCell_same _ _ _ (by rw [World.cell?_setCell_other _ _ _ _ (by simp only [ne_eq, Addr.mk.injEq]; omega), World.cell?_drew]; exact c1)
  · rw [World.cell?_setCell_other _ _ _ _ (by simp only [ne_eq, Addr.mk.injEq]; omega), World.cell?_setCell_other _ _ _ _ (by simp only [ne_eq, Addr.mk.injEq]; omega), World.cell?_drew]
    exact hm
  · rw [World.cell?_setCell_other _ _ _ _ (by simp only [ne_eq, Addr.mk.injEq]; omega), World.cell?_setCell_other _ _ _ _ (by simp only [ne_eq, Addr.mk.injEq]; omega), World.cell?_drew, Nat.one_mul]
    exact hs j hj

set_option maxRecDepth 100000 in
set_option maxHeartbeats 1600000 in
theorem slow_c (b o : Nat) (w : World) (h : Tab w b o 0) :
    Calls Try.prog 23 #[.pointer (some ⟨b, o, none⟩), .func (.func 18) #[.pointer (some ⟨b, o, none⟩)] #[]] w fun e w' => e = .returned (.tuple #[]) ∧ Only b o (o + 260) w w' ∧ Tab w' b o 1 := by
  have h0 := h.done
  have h1 := h.lock
  have f0 := h.free o
  have f1 := h.free (o + 1)
  have hl := run_call_load (P := Try.prog) Try.func26 (by kernel_rfl) (by kernel_rfl) (by kernel_rfl) .u32 (by kernel_rfl) (w := w.setCell ⟨b, o + 1, none⟩ (.int .i32 1)) (a := ⟨b, o, none⟩) (x := 0) ((World.cell?_setCell_other _ ⟨b, o + 1, none⟩ ⟨b, o, none⟩ _ (by simp)).trans h0)
  have hnot : ∀ (x : Bool) (w : World), (Op.unary .not (.bool x)).run Try.prog w = .ok (.bool (!x)) w := fun _ _ => rfl
  have m1 : (w.setCell ⟨b, o + 1, none⟩ (.int .i32 1)).cell? ⟨b, o + 3, none⟩ = some (.int .i64 0) := (World.cell?_setCell_other _ ⟨b, o + 1, none⟩ ⟨b, o + 3, none⟩ _ (by simp)).trans h.made
  have m2 : ∀ j, j < 256 → ∃ v, (w.setCell ⟨b, o + 1, none⟩ (.int .i32 1)).cell? ⟨b, o + 4 + j, none⟩ = some v := fun j hj => ⟨_, (World.cell?_setCell_other _ ⟨b, o + 1, none⟩ ⟨b, o + 4 + j, none⟩ _ (by simp only [ne_eq, Addr.mk.injEq]; omega)).trans (h.sums j hj)⟩
  have m3 : ∀ j, (w.setCell ⟨b, o + 1, none⟩ (.int .i32 1)).frozen? ⟨b, j, none⟩ = false := fun j => by rw [World.frozen?_setCell]; exact h.free j
  have HT : Hid (Tab w b o 0) := h
  have HF : Hid (_) := fill_c b o _ m1 m2 m3
  clear m1 m2 m3 h
  go_enter_defers Try.func23, Try.ntmps23
  go_wp2_with (go_at_call 27; refine (lock_free ⟨b, o + 1, none⟩ _ (by go_simp) (by go_simp)).mono ?_; rintro e w' ⟨rfl, rfl⟩)
  go_wp2_with (first | (go_at_call 18; refine Calls.mono HF ?_; rintro e w1 ⟨rfl, hon⟩) | go_in)
  obtain ⟨hon, hm, hs⟩ := hon
  have c0 : w1.cell? ⟨b, o, none⟩ = some (.int .u32 0) := (hon.cell _ (by omega)).trans ((World.cell?_setCell_other _ ⟨b, o + 1, none⟩ ⟨b, o, none⟩ _ (by simp)).trans h0)
  have c1 : w1.cell? ⟨b, o + 1, none⟩ = some (.int .i32 1) := (hon.cell _ (by omega)).trans (World.cell?_setCell_same _ _ _ h1)
  have z0 : w1.frozen? ⟨b, o, none⟩ = false := (hon.frozen _).trans (by rw [World.frozen?_setCell]; exact f0)
  have z1 : w1.frozen? ⟨b, o + 1, none⟩ = false := (hon.frozen _).trans (by rw [World.frozen?_setCell]; exact f1)
  refine leaves_cons (f := 29) (args := #[.pointer (some ⟨b, o, none⟩), .bool true]) (by simp) (by simp [go_sem]) ?_
  refine (store_deferred ⟨b, o, none⟩ (.int .u32 0) .returning _ c0 z0).mono ?_
  rintro e u' w'' ⟨rfl, rfl, rfl⟩
  refine leaves_cons (f := 28) (args := #[.pointer (some ⟨b, o + 1, none⟩)]) (by simp [settle]) (by simp [go_sem]) ?_
  refine (unlock_deferred ⟨b, o + 1, none⟩ _ _ ?_ (by simp [z1])).mono ?_
  · refine (World.cell?_setCell_other _ ⟨b, o, none⟩ ⟨b, o + 1, none⟩ _ (by simp)).trans ?_
    rw [World.cell?_drew]
    exact c1
  rintro e u' w'' ⟨rfl, rfl, rfl⟩
  have R := slow_end HT hon hm hs
  exact ⟨_, results_none rfl _ _ _, rfl, R⟩

set_option maxRecDepth 100000 in
set_option maxHeartbeats 1600000 in
theorem do_first (b o : Nat) (w : World) (h : Tab w b o 0) :
    Calls Try.prog 17 #[.pointer (some ⟨b, o, none⟩), .func (.func 18) #[.pointer (some ⟨b, o, none⟩)] #[]] w fun e w' => e = .returned (.tuple #[]) ∧ Only b o (o + 260) w w' ∧ Tab w' b o 1 := by
  have hl := run_call_load (P := Try.prog) Try.func26 (by kernel_rfl) (by kernel_rfl) (by kernel_rfl) .u32 (by kernel_rfl) (w := w) (a := ⟨b, o, none⟩) (x := 0) h.done
  have hnot : ∀ (x : Bool) (w : World), (Op.unary .not (.bool x)).run Try.prog w = .ok (.bool (!x)) w := fun _ _ => rfl
  have HT : Hid (Tab w b o 0) := h
  have h0 := h.done
  clear h
  go_enter Try.func17, Try.ntmps17
  go_wp2_with (first | (go_at_call 23; refine (slow_c b o _ HT).mono ?_; rintro e w1 ⟨rfl, hon⟩) | (go_at_call 22; go_in))
  go_end0
  exact ⟨rfl, hon⟩

set_option maxRecDepth 100000 in
set_option maxHeartbeats 1600000 in
theorem do_done (a : Addr) (fv : Value) (w : World) (h0 : w.cell? a = some (.int .u32 1)) :
    Calls Try.prog 17 #[.pointer (some a), fv] w fun e w' => e = .returned (.tuple #[]) ∧ w' = w := by
  have hl := run_call_load (P := Try.prog) Try.func26 (by kernel_rfl) (by kernel_rfl) (by kernel_rfl) .u32 (by kernel_rfl) h0
  have hnot : ∀ (x : Bool) (w : World), (Op.unary .not (.bool x)).run Try.prog w = .ok (.bool (!x)) w := fun _ _ => rfl
  go_enter Try.func17, Try.ntmps17
  go_wp2
  go_end0
  exact ⟨rfl, rfl⟩

theorem do_c (b o d : Nat) (hd : d = 0 ∨ d = 1) (w : World) (h : Tab w b o d) :
    Calls Try.prog 17 #[.pointer (some ⟨b, o, none⟩), .func (.func 18) #[.pointer (some ⟨b, o, none⟩)] #[]] w fun e w' => e = .returned (.tuple #[]) ∧ Only b o (o + 260) w w' ∧ Tab w' b o 1 := by
  rcases hd with rfl | rfl
  · exact do_first b o w h
  · refine (do_done _ _ w h.done).mono ?_
    rintro e w' ⟨rfl, rfl⟩
    exact ⟨rfl, Only.refl .., h⟩

theorem made_c (b o d : Nat) (w : World) (h : Tab w b o d) : Calls Try.prog 14 #[.pointer (some ⟨b, o, none⟩)] w fun e w' => e = .returned (.int .i64 d) ∧ w' = w := by
  have hm := h.made
  go_enter Try.func14, Try.ntmps14
  go_wp2_with (go_at_call 21; refine (load64_c ⟨b, o + 3, none⟩ d _ hm).mono ?_; rintro e w' ⟨rfl, hw⟩; subst w')
  go_ret
  exact ⟨rfl, rfl⟩
end Go.Proofs.Ythhlahimaoiinaa
