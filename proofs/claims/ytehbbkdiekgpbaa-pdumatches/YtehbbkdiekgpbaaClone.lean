/- The walk: slices.Clone. -/
import Derived.Test.YtehbbkdiekgpbaaTAB
namespace Go.Proofs.Ytehbbkdiekgpbaa
open Go.RowKit
open Pdu
set_option maxHeartbeats 1600000 in
theorem cloneb_none (w : World) : Calls Try.prog 59 #[.slice none 0 0] w fun e w' => e = .returned (.slice none 0 0) ∧ w' = w := by
  have hnil := fun (w : World) => Lib.run_eql_slice_nil (P := Try.prog) w 23 4 none 0 0 0 0 Try.underlying23
  go_enter Try.func59, Try.ntmps59
  go_wp2
  go_ret
  exact ⟨rfl, rfl⟩
set_option maxHeartbeats 1600000 in
theorem cloneb_at (a : Addr) (m c : Nat) (news : List Value) (w : World) (hl : news.length = m) (hnews : ∀ j u, news[j]? = some u → w.cell? (a.add j) = some u) (h1 : ∀ u ∈ news, u.oneCell' = true) (hm : m ≤ 1000000) (ha : ∀ (j : Nat) u, news[j]? = some u → a.block < w.heap.size) :
    Calls Try.prog 59 #[.slice (some a) m c] w fun e w' => ∃ v', e = .returned v' ∧ w'.ownsRow w.heap.size 4 1 v' m news ∧ Below w.heap.size w w' := by
  obtain ⟨i0, hi, hz0, hz1, hz2⟩ := info_parts Try.infoBool
  have hnil := fun (w : World) => Lib.run_eql_slice_nil (P := Try.prog) w 23 4 (some a) m c 0 0 Try.underlying23
  have hn2 : ∀ j u, news[j]? = some u → (w.alloc (.cells #[] 4)).cell? (a.add j) = some u := fun j u hj => by
    have hb : (a.add j).block = a.block := by unfold Addr.add; split <;> rfl
    exact ((Below.refl w.heap.size w).alloc (Nat.le_refl _) _ |>.cell (p := a.add j) (by rw [hb]; exact ha j u hj)).trans (hnews j u hj)
  go_enter Try.func59, Try.ntmps59
  go_wp2_with (at_builtin; refine wpList_append_own _ rfl _ _ 23 rfl w.heap.size 4 i0 (.bool false) 1 1 Try.underlying23 hi hz0 hz1 hz2 rfl (by decide) _ 0 [] rfl (World.ownsRow_lit w #[] 0 (Nat.le_refl _) (by unfold maxLen; omega) rfl) a m c news rfl (by omega) hn2 h1 (by unfold maxLen; omega) (by omega) (by simp) ?_; intro v' w1 hown hgrow _)
  go_ret
  refine ⟨_, rfl, by simpa using hown, ((Below.refl _ w).alloc (Nat.le_refl _) _).grown hgrow (by simp) fun k hk => ?_⟩
  have hk2 : some w.heap.size = some k := hk
  simp only [Option.some.injEq] at hk2
  omega
theorem cloneb_c {v : Value} {l : List Bool} {w : World} (h : Sl w v (bls l)) (hm : l.length ≤ 1000000) :
    Calls Try.prog 59 #[v] w fun e w' => ∃ v', e = .returned v' ∧ w'.ownsRow w.heap.size 4 1 v' l.length (bls l) ∧ Below w.heap.size w w' := by
  rcases h with ⟨h, ao, cap, rfl, h0⟩ | ⟨b, off, cap, rfl, hcap, hc⟩
  · have hb : l = [] := List.length_eq_zero_iff.1 (by rw [← bls_len, h]; rfl)
    subst hb
    match ao, h0 with
    | none, h0 =>
      rw [h0 rfl]
      refine (cloneb_none w).mono ?_
      rintro e w' ⟨rfl, rfl⟩
      exact ⟨_, rfl, World.ownsRow_nil .., Below.refl _ _⟩
    | some a, _ => exact cloneb_at a 0 cap [] w rfl (fun j u hj => by simp at hj) (fun u hu => by simp at hu) (by omega) (fun j u hj => by simp at hj)
  · rw [bls_len]
    exact cloneb_at ⟨b, off, none⟩ l.length cap (bls l) w (bls_len l) hc.news (bls_one l) hm (fun j u hj => show b < w.heap.size from lt_of_cell (a := ⟨b, off + j, none⟩) (hc j u hj))
set_option maxHeartbeats 1600000 in
theorem clonew_none (w : World) : Calls Try.prog 60 #[.slice none 0 0] w fun e w' => e = .returned (.slice none 0 0) ∧ w' = w := by
  have hnil := fun (w : World) => Lib.run_eql_slice_nil (P := Try.prog) w 24 22 none 0 0 0 0 Try.underlying24
  go_enter Try.func60, Try.ntmps60
  go_wp2
  go_ret
  exact ⟨rfl, rfl⟩
set_option maxHeartbeats 1600000 in
theorem clonew_at (a : Addr) (m c : Nat) (news : List Value) (w : World) (hl : news.length = m) (hnews : ∀ j u, news[j]? = some u → w.cell? (a.add j) = some u) (h1 : ∀ u ∈ news, u.oneCell' = true) (hm : m ≤ 1000000) (ha : ∀ (j : Nat) u, news[j]? = some u → a.block < w.heap.size) :
    Calls Try.prog 60 #[.slice (some a) m c] w fun e w' => ∃ v', e = .returned v' ∧ w'.ownsRow w.heap.size 22 1 v' m news ∧ Below w.heap.size w w' := by
  obtain ⟨i0, hi, hz0, hz1, hz2⟩ := info_parts Try.infoWord
  have hnil := fun (w : World) => Lib.run_eql_slice_nil (P := Try.prog) w 24 22 (some a) m c 0 0 Try.underlying24
  have hn2 : ∀ j u, news[j]? = some u → (w.alloc (.cells #[] 22)).cell? (a.add j) = some u := fun j u hj => by
    have hb : (a.add j).block = a.block := by unfold Addr.add; split <;> rfl
    exact ((Below.refl w.heap.size w).alloc (Nat.le_refl _) _ |>.cell (p := a.add j) (by rw [hb]; exact ha j u hj)).trans (hnews j u hj)
  go_enter Try.func60, Try.ntmps60
  go_wp2_with (at_builtin; refine wpList_append_own _ rfl _ _ 24 rfl w.heap.size 22 i0 (.int .u16 0) 1 2 Try.underlying24 hi hz0 hz1 hz2 rfl (by decide) _ 0 [] rfl (World.ownsRow_lit w #[] 0 (Nat.le_refl _) (by unfold maxLen; omega) rfl) a m c news rfl (by omega) hn2 h1 (by unfold maxLen; omega) (by omega) (by simp) ?_; intro v' w1 hown hgrow _)
  go_ret
  refine ⟨_, rfl, by simpa using hown, ((Below.refl _ w).alloc (Nat.le_refl _) _).grown hgrow (by simp) fun k hk => ?_⟩
  have hk2 : some w.heap.size = some k := hk
  simp only [Option.some.injEq] at hk2
  omega
theorem clonew_c {v : Value} {l : List Nat} {w : World} (h : Sl w v (u16s l)) (hm : l.length ≤ 1000000) :
    Calls Try.prog 60 #[v] w fun e w' => ∃ v', e = .returned v' ∧ w'.ownsRow w.heap.size 22 1 v' l.length (u16s l) ∧ Below w.heap.size w w' := by
  rcases h with ⟨h, ao, cap, rfl, h0⟩ | ⟨b, off, cap, rfl, hcap, hc⟩
  · have hb : l = [] := List.length_eq_zero_iff.1 (by rw [← u16s_len, h]; rfl)
    subst hb
    match ao, h0 with
    | none, h0 =>
      rw [h0 rfl]
      refine (clonew_none w).mono ?_
      rintro e w' ⟨rfl, rfl⟩
      exact ⟨_, rfl, World.ownsRow_nil .., Below.refl _ _⟩
    | some a, _ => exact clonew_at a 0 cap [] w rfl (fun j u hj => by simp at hj) (fun u hu => by simp at hu) (by omega) (fun j u hj => by simp at hj)
  · rw [u16s_len]
    exact clonew_at ⟨b, off, none⟩ l.length cap (u16s l) w (u16s_len l) hc.news (u16s_one l) hm (fun j u hj => show b < w.heap.size from lt_of_cell (a := ⟨b, off + j, none⟩) (hc j u hj))
end Go.Proofs.Ytehbbkdiekgpbaa
