/- The walks: Next of a frame, whole; Spoil; frames in a row. -/
import Derived.Test.YtjfaocpbhhpbdaaS4
import Derived.Test.YtjfaocpbhhpbdaaP2
namespace Go.Proofs.Ytjfaocpbhhpbdaa
open Go.RowKit
open Pdu
theorem next_yes {g h N : Nat} {b : Bool} {room : List Nat} {w : World} (s : St w g room h b N) (h0 : 0 < (rd (room.take h)).n) (hN : N < 1000000) :
    Calls Try.prog 13 #[.pointer (some ⟨g, 0, none⟩)] w (Told1 g h (rd (room.take h)).n N (rd (room.take h)).id (rd (room.take h)).unit b room (rd (room.take h)).pdu w) := by
  have hle := rd_le (room.take h)
  have hh := s.held
  have hl : (room.take h).length = h := by rw [List.length_take, s.len]; omega
  rw [hl] at hle
  have he := (rd_yes _ h0).1
  have hr : rd (room.take h) = ⟨(rd (room.take h)).id, (rd (room.take h)).unit, (rd (room.take h)).pdu, (rd (room.take h)).n, 0⟩ := by
    conv => rhs; rw [← he]
  by_cases hlt : (rd (room.take h)).n < 260
  · exact next_yesa g h N _ _ _ b room _ w s hr h0 hle.1 hN hlt
  · obtain rfl : h = 260 := by omega
    have e : (rd (room.take 260)).n = 260 := by omega
    rw [e] at hr ⊢
    exact next_yesb g N _ _ b room _ w s hr hN
set_option maxHeartbeats 1600000 in
theorem spoil_none (ao : Option Addr) (cap : Nat) (w : World) : Calls Try.prog 17 #[.slice ao 0 cap] w fun e w' => e = .returned (.tuple #[]) ∧ w' = w := by
  go_enter Try.func17, Try.ntmps17
  go_wp2
  go_loop [2] (fun i => i = .int .i64 0) (fun _ => 0)
  case atStart => exact rfl
  case round =>
    obtain rfl := hrel
    go_wp2
    go_end0
    exact ⟨rfl, rfl⟩
/-- Block g holds n bytes, and nothing but it has turned. -/
def Spt (g n : Nat) (w wr : World) : Prop := Turn g w wr ∧ (∀ j, wr.frozen? ⟨g, j, none⟩ = false) ∧ ∀ j, j < n → ∃ x : Int, wr.cell? ⟨g, j, none⟩ = some (.int .u8 x)
theorem spt_step {g n k : Nat} {w wr : World} {y : Int} (h : Spt g n w wr) (hk : k < n) : Spt g n w (wr.setCell ⟨g, k, none⟩ (.int .u8 y)) := by
  refine ⟨h.1.set _ _, fun j => by rw [World.frozen?_setCell]; exact h.2.1 j, fun j hj => ?_⟩
  by_cases e : j = k
  · subst e
    obtain ⟨x, hx⟩ := h.2.2 j hj
    exact ⟨y, World.cell?_setCell_same _ _ _ hx⟩
  · obtain ⟨x, hx⟩ := h.2.2 j hj
    exact ⟨x, set_else hx e⟩
set_option maxHeartbeats 1600000 in
theorem spoil_at (g n cap : Nat) (w : World) (h : Spt g n w w) (hm : n ≤ 1000000) : Calls Try.prog 17 #[.slice (some ⟨g, 0, none⟩) n cap] w fun e w' => e = .returned (.tuple #[]) ∧ Turn g w w' := by
  have H := hid_as h
  clear h
  go_enter Try.func17, Try.ntmps17
  go_wp2
  go_loopw [2] (fun i wr => ∃ k : Nat, k ≤ n ∧ i = .int .i64 k ∧ Spt g n w wr) (fun i _ => n - (intOf i).toNat)
  case atStart => exact ⟨0, by omega, rfl, H.out⟩
  case round =>
    obtain ⟨k, hk, rfl, HP⟩ := hrel
    have P := hid_as HP
    clear HP
    by_cases hkn : k < n
    · obtain ⟨x, hx⟩ := P.out.2.2 k hkn
      have hf := P.out.2.1 k
      have hk2 : (k : Int) < (n : Int) := by omega
      go_wp2
      have HR := fun (y : Int) => hid_as (spt_step (y := y) P.out hkn)
      go_roundw
      case rel => exact ⟨k + 1, by omega, by go_num, (HR _).out⟩
      case measure => simp [intOf]; omega
    · obtain rfl : k = n := by omega
      go_wp2
      go_end0
      exact ⟨rfl, P.out.1⟩
theorem spoil_c {base : Nat} {v : Value} {bs : List Nat} {w : World} (h : w.ownsRow base 5 1 v bs.length (u8s bs)) (hb : base ≤ w.heap.size) (hm : bs.length ≤ 1000000) : Calls Try.prog 17 #[v] w fun e w' => e = .returned (.tuple #[]) ∧ Below base w w' := by
  rcases h.2 with ⟨rfl, h0⟩ | ⟨g, cap, cur, rfl, hbg, hg, r⟩
  · refine (spoil_none none 0 w).mono ?_
    rintro e w' ⟨rfl, rfl⟩
    exact ⟨rfl, Below.refl _ _⟩
  · refine (spoil_at g _ cap w ⟨Turn.refl g w, fun j => by simp [World.frozen?, hg], fun j hj => ⟨(bs.getD j 0 : Nat), ?_⟩⟩ hm).mono ?_
    · have := h.cells (g := g) rfl j _ (u8s_at bs j hj)
      rwa [show (⟨g, 0, none⟩ : Addr).add j = ⟨g, j, none⟩ by unfold Addr.add; split <;> simp_all] at this
    · rintro e w' ⟨rfl, k⟩
      exact ⟨rfl, k.below hbg hb⟩
/-- Frames in a row of the call's own, from base on; their PDUs in bytes' blocks. -/
def Outs (base : Nat) (W : World) (v : Value) (L : List Fr) : Prop :=
  ∃ xs, W.ownsRow base 29 3 v L.length xs ∧ ∀ k f, L[k]? = some f → ∃ po pc, xs[3 * k]? = some (.int .u16 (f.id : Int)) ∧ xs[3 * k + 1]? = some (.int .u8 (f.unit : Int)) ∧ xs[3 * k + 2]? = some (.slice po f.pdu.length pc) ∧ W.ownsRow 0 5 1 (.slice po f.pdu.length pc) f.pdu.length (u8s f.pdu)
theorem Outs.nil (base : Nat) (W : World) : Outs base W (.slice none 0 0) [] := ⟨[], World.ownsRow_nil .., fun k f h => by simp at h⟩
theorem own_grown {w u : World} {base n size : Nat} {e : TypeId} {v : Value} {vs : List Value} {row : Option Nat} (h : w.ownsRow base e size v n vs) (k : w.grownBy u row) (hr : ∀ g cs fl, row = some g → w.heap[g]? ≠ some (.cells cs e fl)) : u.ownsRow base e size v n vs := by
  refine h.kept k ?_
  rcases h.2 with ⟨rfl, _⟩ | ⟨g, cap, cur, rfl, _, hg, _⟩
  · exact Or.inl rfl
  · refine Or.inr fun e => ?_
    exact hr g cur (0, 0) e.symm hg
theorem Outs.turn {base g h n : Nat} {W W' : World} {v : Value} {L : List Fr} {room : List Nat} {b : Bool} (o : Outs base W v L) (s : St W g room h b n) (k : Turn g W W') : Outs base W' v L := by
  obtain ⟨xs, h1, h2⟩ := o
  refine ⟨xs, own_grown h1 k ?_, fun i f hf => ?_⟩
  · intro j cs fl e hj
    simp only [Option.some.injEq] at e
    subst e
    rw [s.row] at hj
    simp at hj
  · obtain ⟨po, pc, a, b', c, d⟩ := h2 i f hf
    refine ⟨po, pc, a, b', c, own_grown d k ?_⟩
    intro j cs fl e hj
    simp only [Option.some.injEq] at e
    subst e
    rw [s.row] at hj
    simp at hj
end Go.Proofs.Ytjfaocpbhhpbdaa
