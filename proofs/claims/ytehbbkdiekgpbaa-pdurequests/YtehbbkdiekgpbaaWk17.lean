/- The walks: counted bytes. -/
import Derived.Test.YtehbbkdiekgpbaaWk12
namespace Go.Proofs.Ytehbbkdiekgpbaa
open Go.RowKit
open Pdu
set_option maxHeartbeats 1600000 in
theorem tc_other (ao : Option Addr) (n cap m : Nat) (w : World) (hm : m ≤ 1000000) (h : n ≠ 1 + m) : Calls Try.prog 56 #[.slice ao n cap, .int .i64 m] w fun e w' => e = .returned (.tuple #[.slice none 0 0, .bool false]) ∧ w' = w := by
  have h' : ((n : Int) == 1 + (m : Int)) = false := by rw [beq_eq_false_iff_ne]; omega
  go_enter Try.func56, Try.ntmps56
  go_wp2
  go_ret2
  exact ⟨rfl, rfl⟩
set_option maxHeartbeats 1600000 in
theorem tc_byte (b off cap m x : Nat) (w : World) (hm : m ≤ 1000000) (hc : w.cell? ⟨b, off, none⟩ = some (.int .u8 x)) (hx : x < 256) (h : x ≠ m) : Calls Try.prog 56 #[.slice (some ⟨b, off, none⟩) (1 + m) cap, .int .i64 m] w fun e w' => e = .returned (.tuple #[.slice none 0 0, .bool false]) ∧ w' = w := by
  have h' : ((x : Int) == (m : Int)) = false := by rw [beq_eq_false_iff_ne]; omega
  go_enter Try.func56, Try.ntmps56
  go_wp2
  go_ret2
  exact ⟨rfl, rfl⟩
/-- A slice cut at k. -/
def cutA (b off cap k : Nat) : Addr := if cap = k then ⟨b, off, none⟩ else ⟨b, off + k, none⟩
def cutV (b off n cap k : Nat) : Value := .slice (some (cutA b off cap k)) (n - k) (cap - k)
theorem cut_sl {w : World} {b off n cap k : Nat} {vs : List Value} (hn : n = vs.length) (hcap : n ≤ cap) (hk : k ≤ n) (h : Lies w b off vs) : Sl w (cutV b off n cap k) (vs.drop k) := by
  unfold cutV cutA
  by_cases hc : cap = k
  · have : vs.drop k = [] := List.drop_eq_nil_of_le (by omega)
    rw [this, show n - k = 0 by omega]
    exact Or.inl ⟨rfl, _, _, rfl, fun h => by simp at h⟩
  · rw [if_neg hc]
    exact Or.inr ⟨b, off + k, cap - k, by rw [List.length_drop, hn], by rw [List.length_drop]; omega, h.drop k⟩
set_option maxHeartbeats 1600000 in
theorem tc_yes (b off cap m : Nat) (w : World) (hm : m < 256) (hcap : 1 + m ≤ cap) (hc : w.cell? ⟨b, off, none⟩ = some (.int .u8 m)) : Calls Try.prog 56 #[.slice (some ⟨b, off, none⟩) (1 + m) cap, .int .i64 m] w fun e w' => e = .returned (.tuple #[cutV b off (1 + m) cap 1, .bool true]) ∧ w' = w := by
  have hv : cutV b off (1 + m) cap 1 = .slice (some (cutA b off cap 1)) m (cap - 1) := by unfold cutV; rw [show 1 + m - 1 = m by omega]
  rw [hv]
  by_cases h1 : cap = 1
  · subst h1
    obtain rfl : m = 0 := by omega
    go_enter Try.func56, Try.ntmps56
    go_wp2
    go_ret2
    exact ⟨rfl, rfl⟩
  · rw [show cutA b off cap 1 = ⟨b, off + 1, none⟩ from if_neg h1]
    clear hv
    go_enter Try.func56, Try.ntmps56
    go_wp2
    go_ret2
    exact ⟨rfl, rfl⟩
theorem tc_c {v : Value} {bs : List Nat} {w : World} {m : Nat} (h : Sl w v (u8s bs)) (hb : Bytes bs) (hm : m ≤ 1000000) : Calls Try.prog 56 #[v, .int .i64 m] w fun e w' => w' = w ∧ ((bs.length = 1 + m ∧ bs.getD 0 0 = m ∧ ∃ v', e = .returned (.tuple #[v', .bool true]) ∧ Sl w v' (u8s (bs.drop 1))) ∨ (¬ (bs.length = 1 + m ∧ bs.getD 0 0 = m) ∧ e = .returned (.tuple #[.slice none 0 0, .bool false]))) := by
  by_cases hl : bs.length = 1 + m
  · rcases h with ⟨h, _⟩ | ⟨b, off, cap, rfl, hcap, hc⟩
    · rw [u8s_nil h] at hl
      simp at hl
      omega
    · have c0 := hc.u8 0 (by omega)
      rw [u8s_len, hl] at hcap ⊢
      by_cases hx : bs.getD 0 0 = m
      · refine (tc_yes b off cap m w (by have := hb.at 0; omega) hcap (by rw [← hx]; exact c0)).mono ?_
        rintro e w' ⟨rfl, rfl⟩
        refine ⟨rfl, Or.inl ⟨rfl, hx, _, rfl, ?_⟩⟩
        have := cut_sl (w := w') (b := b) (off := off) (n := 1 + m) (cap := cap) (k := 1) (vs := u8s bs) (by rw [u8s_len, hl]) hcap (by omega) hc
        rw [show (u8s bs).drop 1 = u8s (bs.drop 1) by simp [u8s]] at this
        exact this
      · refine (tc_byte b off cap m (bs.getD 0 0) w hm c0 (hb.at 0) hx).mono ?_
        rintro e w' ⟨rfl, rfl⟩
        exact ⟨rfl, Or.inr ⟨fun h => hx h.2, rfl⟩⟩
  · obtain ⟨ao, cap, rfl⟩ := h.shape
    rw [u8s_len]
    refine (tc_other ao _ cap m w hm hl).mono ?_
    rintro e w' ⟨rfl, rfl⟩
    exact ⟨rfl, Or.inr ⟨fun h => hl h.1, rfl⟩⟩
theorem tc_y {v : Value} {bs : List Nat} {w : World} {m : Nat} (h : Sl w v (u8s bs)) (hb : Bytes bs) (hm : m ≤ 1000000) (hT : bs.length = 1 + m ∧ bs.getD 0 0 = m) : Calls Try.prog 56 #[v, .int .i64 m] w fun e w' => (∃ v', e = .returned (.tuple #[v', .bool true]) ∧ Sl w v' (u8s (bs.drop 1))) ∧ w' = w := by
  refine (tc_c h hb hm).mono ?_
  rintro e w' ⟨hw, ⟨_, _, v', he, hs⟩ | ⟨hn, _⟩⟩
  · exact ⟨⟨v', he, hs⟩, hw⟩
  · exact absurd hT hn
theorem tc_n {v : Value} {bs : List Nat} {w : World} {m : Nat} (h : Sl w v (u8s bs)) (hb : Bytes bs) (hm : m ≤ 1000000) (hT : ¬ (bs.length = 1 + m ∧ bs.getD 0 0 = m)) : Calls Try.prog 56 #[v, .int .i64 m] w fun e w' => e = .returned (.tuple #[.slice none 0 0, .bool false]) ∧ w' = w := by
  refine (tc_c h hb hm).mono ?_
  rintro e w' ⟨hw, ⟨h1, h2, _⟩ | ⟨_, he⟩⟩
  · exact absurd ⟨h1, h2⟩ hT
  · exact ⟨he, hw⟩
theorem Sl.heap {w W : World} {v : Value} {vs : List Value} (h : Sl w v vs) (hW : W.heap = w.heap) : Sl W v vs := by
  rcases h with h | ⟨b, off, cap, rfl, hcap, hc⟩
  · exact Or.inl h
  · exact Or.inr ⟨b, off, cap, rfl, hcap, hc.kept (by rw [hW])⟩
theorem Sl.drewN {w : World} {v : Value} {vs : List Value} (h : Sl w v vs) (d : Nat) : Sl (w.drewN d) v vs := h
theorem Sl.undrew {w : World} {v : Value} {vs : List Value} {d : Nat} (h : Sl (w.drewN d) v vs) : Sl w v vs := h
theorem u8s_drop (bs : List Nat) (k : Nat) : u8s (bs.drop k) = (u8s bs).drop k := by simp [u8s]
end Go.Proofs.Ytehbbkdiekgpbaa
