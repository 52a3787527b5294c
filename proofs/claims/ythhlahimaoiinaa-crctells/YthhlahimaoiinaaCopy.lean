/- The walk: a copy. -/
import Derived.Test.YthhlahimaoiinaaTab
import Derived.Laws.AppendOwnNone
import Derived.OwnWalk
namespace Go.Proofs.Ythhlahimaoiinaa
open Go.RowKit
open Crc
def u8s (bs : List Nat) : List Value := bs.map fun (x : Nat) => Value.int .u8 (x : Int)
theorem u8s_at (bs : List Nat) (j : Nat) : (u8s bs)[j]? = (bs[j]?).map fun (x : Nat) => Value.int .u8 (x : Int) := by simp [u8s]
theorem u8s_len (bs : List Nat) : (u8s bs).length = bs.length := by simp [u8s]
theorem u8s_one (bs : List Nat) : ∀ u ∈ u8s bs, u.oneCell' = true := by
  intro u hu
  simp only [u8s, List.mem_map] at hu
  obtain ⟨x, _, rfl⟩ := hu
  rfl
theorem Try.info5 : (Try.prog.info? 5).map (fun i => (i.zero, i.size, i.bytes)) = some (some (.int .u8 0), 1, 1) := by kernel_rfl

set_option maxHeartbeats 1600000 in
theorem copy_none (w : World) : Calls Try.prog 8 #[.slice none 0 0] w fun e w' => e = .returned (.slice none 0 0) ∧ w' = w := by
  obtain ⟨i0, hi, hz0, hz1, hz2⟩ := info_parts Try.info5
  go_enter Try.func8, Try.ntmps8
  go_wp2_with (at_builtin; refine wpList_append_own_none rfl _ _ 22 rfl w.heap.size 5 i0 1 Try.underlying22 hi _ 0 [] rfl (World.ownsRow_nil ..) rfl ?_)
  go_ret
  exact ⟨rfl, rfl⟩

set_option maxHeartbeats 1600000 in
theorem copy_at (a : Addr) (m c : Nat) (news : List Value) (w : World) (hl : news.length = m) (hnews : ∀ j u, news[j]? = some u → w.cell? (a.add j) = some u) (h1 : ∀ u ∈ news, u.oneCell' = true) (hm : m ≤ 1000000) :
    Calls Try.prog 8 #[.slice (some a) m c] w fun e w' => ∃ v', e = .returned v' ∧ w'.ownsRow w.heap.size 5 1 v' m news ∧ Below w.heap.size w w' := by
  obtain ⟨i0, hi, hz0, hz1, hz2⟩ := info_parts Try.info5
  go_enter Try.func8, Try.ntmps8
  go_wp2_with (at_builtin; refine wpList_append_own _ rfl _ _ 22 rfl w.heap.size 5 i0 (.int .u8 0) 1 1 Try.underlying22 hi hz0 hz1 hz2 rfl (by decide) _ 0 [] rfl (World.ownsRow_nil ..) a m c news rfl (by omega) hnews h1 (by unfold maxLen; omega) (by omega) (Nat.le_refl _) ?_; intro v' w1 hown hgrow _)
  go_ret
  refine ⟨_, rfl, by simpa using hown, (Below.refl _ w).grown hgrow (Nat.le_refl _) fun k hk => ?_⟩
  cases (show (none : Option Nat) = some k from hk)

theorem own_slice {w : World} {base : Nat} {v : Value} {bs : List Nat} (hb : Bytes bs) (h : w.ownsRow base 5 1 v bs.length (u8s bs)) : Slice w v bs := by
  refine ⟨hb, ?_⟩
  rcases h.2 with ⟨rfl, h0⟩ | ⟨g, cap, cur, rfl, h'⟩
  · have : bs = [] := List.length_eq_zero_iff.1 h0
    subst this
    exact Or.inl ⟨rfl, none, 0, rfl, fun _ => rfl⟩
  · refine Or.inr ⟨g, 0, cap, rfl, fun j hj => ?_⟩
    rw [Nat.zero_add, h.cellAt j (by omega), u8s_at, List.getElem?_eq_getElem hj]
    simp [List.getD, List.getElem?_eq_getElem hj]
theorem lies_news {w : World} {b off : Nat} {bs : List Nat} (hc : Lies w b off bs) : ∀ j u, (u8s bs)[j]? = some u → w.cell? ((⟨b, off, none⟩ : Addr).add j) = some u := by
  intro j u hj
  have hlt : j < bs.length := by
    have := (List.getElem?_eq_some_iff.1 hj).1
    rwa [u8s_len] at this
  rw [u8s_at, List.getElem?_eq_getElem hlt] at hj
  have := hc j hlt
  rw [List.getD_eq_getElem?_getD, List.getElem?_eq_getElem hlt] at this
  have hplain : (⟨b, off, none⟩ : Addr).add j = ⟨b, off + j, none⟩ := by unfold Addr.add; split <;> simp_all
  rw [hplain, this]
  exact hj
theorem copy_c {v : Value} {bs : List Nat} {w : World} (h : Slice w v bs) (hm : bs.length ≤ 1000000) :
    Calls Try.prog 8 #[v] w fun e w' => ∃ v', e = .returned v' ∧ w'.ownsRow w.heap.size 5 1 v' bs.length (u8s bs) ∧ Below w.heap.size w w' := by
  obtain ⟨hb, ⟨rfl, ao, cap, rfl, h0⟩ | ⟨c, off, cap, rfl, hc⟩⟩ := h
  · match ao, h0 with
    | none, h0 =>
      obtain rfl := h0 rfl
      refine (copy_none w).mono ?_
      rintro e w' ⟨rfl, rfl⟩
      exact ⟨_, rfl, World.ownsRow_nil .., Below.refl ..⟩
    | some a, _ => exact copy_at a 0 cap [] w rfl (fun j u hj => by simp at hj) (fun u hu => by simp at hu) (by omega)
  · exact copy_at _ bs.length cap (u8s bs) w (u8s_len bs) (lies_news hc) (u8s_one bs) hm
end Go.Proofs.Ythhlahimaoiinaa
