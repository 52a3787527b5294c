/- The walk: a copy. -/
import Derived.Test.YtehbbkdiekgpbaaJ2
import Derived.Laws.AppendOwnNone
namespace Go.Proofs.Ytehbbkdiekgpbaa
open Go.RowKit
open Pdu
set_option maxHeartbeats 1600000 in
theorem copy_none (w : World) : Calls Try.prog 16 #[.slice none 0 0] w fun e w' => e = .returned (.slice none 0 0) ∧ w' = w := by
  obtain ⟨i0, hi, hz0, hz1, hz2⟩ := info_parts Try.infoByte
  go_enter Try.func16, Try.ntmps16
  go_wp2_with (at_builtin; refine wpList_append_own_none rfl _ _ 29 rfl w.heap.size 5 i0 1 Try.underlying29 hi _ 0 [] rfl (World.ownsRow_nil ..) rfl ?_)
  go_ret
  exact ⟨rfl, rfl⟩
set_option maxHeartbeats 1600000 in
theorem copy_at (a : Addr) (m c : Nat) (news : List Value) (w : World) (hl : news.length = m) (hnews : ∀ j u, news[j]? = some u → w.cell? (a.add j) = some u) (h1 : ∀ u ∈ news, u.oneCell' = true) (hm : m ≤ 1000000) :
    Calls Try.prog 16 #[.slice (some a) m c] w fun e w' => ∃ v', e = .returned v' ∧ w'.ownsRow w.heap.size 5 1 v' m news ∧ Below w.heap.size w w' := by
  obtain ⟨i0, hi, hz0, hz1, hz2⟩ := info_parts Try.infoByte
  go_enter Try.func16, Try.ntmps16
  go_wp2_with (at_builtin; refine wpList_append_own _ rfl _ _ 29 rfl w.heap.size 5 i0 (.int .u8 0) 1 1 Try.underlying29 hi hz0 hz1 hz2 rfl (by decide) _ 0 [] rfl (World.ownsRow_nil ..) a m c news rfl (by omega) hnews h1 (by unfold maxLen; omega) (by omega) (Nat.le_refl _) ?_; intro v' w1 hown hgrow _)
  go_ret
  refine ⟨_, rfl, by simpa using hown, (Below.refl _ w).grown hgrow (Nat.le_refl _) fun k hk => ?_⟩
  cases (show (none : Option Nat) = some k from hk)
theorem copy_c {v : Value} {bs : List Nat} {w : World} (h : Sl w v (u8s bs)) (hm : bs.length ≤ 1000000) :
    Calls Try.prog 16 #[v] w fun e w' => ∃ v', e = .returned v' ∧ w'.ownsRow w.heap.size 5 1 v' bs.length (u8s bs) ∧ Below w.heap.size w w' := by
  rcases h with ⟨h, ao, cap, rfl, h0⟩ | ⟨b, off, cap, rfl, hcap, hc⟩
  · have hb : bs = [] := List.length_eq_zero_iff.1 (by rw [← u8s_len, h]; rfl)
    subst hb
    match ao, h0 with
    | none, h0 =>
      rw [h0 rfl]
      refine (copy_none w).mono ?_
      rintro e w' ⟨rfl, rfl⟩
      exact ⟨_, rfl, World.ownsRow_nil .., Below.refl _ _⟩
    | some a, _ => exact copy_at a 0 cap [] w rfl (fun j u hj => by simp at hj) (fun u hu => by simp at hu) (by omega)
  · rw [u8s_len]
    exact copy_at ⟨b, off, none⟩ bs.length cap (u8s bs) w (u8s_len bs) hc.news (u8s_one bs) hm
end Go.Proofs.Ytehbbkdiekgpbaa
