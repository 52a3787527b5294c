/- Frames laid in a row, one behind the other. -/
import Derived.Test.YtjfaocpbhhpbdaaS5
import Derived.Deep.CutRange
import Derived.Deep.CutBlock
namespace Go.Proofs.Ytjfaocpbhhpbdaa
open Go.RowKit
open Pdu
theorem Try.infoFr : (Try.prog.info? 29).map (fun i => (i.zero, i.size, i.bytes)) = some (some (.agg #[.int .u16 0, .int .u8 0, .slice none 0 0]), 3, 32) := by kernel_rfl
theorem Outs.shape {base : Nat} {W : World} {v : Value} {L : List Fr} (o : Outs base W v L) : ∃ ao c, v = .slice ao L.length c := by
  obtain ⟨xs, h1, _⟩ := o
  rcases h1.2 with ⟨rfl, h0⟩ | ⟨g, cap, cur, rfl, _⟩
  · exact ⟨none, 0, by rw [h0]⟩
  · exact ⟨_, _, rfl⟩
theorem Outs.own {base : Nat} {W : World} {v : Value} {L : List Fr} (o : Outs base W v L) : ∀ k, v.ownBlock = some k → base ≤ k ∧ k < W.heap.size := by
  obtain ⟨xs, h1, _⟩ := o
  exact h1.lt
theorem Outs.base {base base' : Nat} {W : World} {v : Value} {L : List Fr} (o : Outs base W v L) (h : base' ≤ base) : Outs base' W v L := by
  obtain ⟨xs, h1, h2⟩ := o
  refine ⟨xs, ⟨h1.1, ?_⟩, h2⟩
  rcases h1.2 with h' | ⟨g, cap, cur, rfl, hb, r⟩
  · exact Or.inl h'
  · exact Or.inr ⟨g, cap, cur, rfl, by omega, r⟩
theorem Outs.below {base : Nat} {W W' : World} {v : Value} {L : List Fr} (o : Outs base W v L) (k : Below W.heap.size W W') : Outs base W' v L := by
  obtain ⟨xs, h1, h2⟩ := o
  have hg : W.grownBy W' none := ⟨k.os, k.tape, k.output, k.size, fun j hj _ => k.block j hj⟩
  refine ⟨xs, own_grown h1 hg (fun g cs fl e => by cases e), fun i f hf => ?_⟩
  obtain ⟨po, pc, a, b, c, d⟩ := h2 i f hf
  exact ⟨po, pc, a, b, c, own_grown d hg (fun g cs fl e => by cases e)⟩
theorem three_cells (w : World) (e : TypeId) (x y z : Value) : ∀ j u, [x, y, z][j]? = some u → (w.alloc (.cells #[x, y, z] e)).cell? ((⟨w.heap.size, 0, none⟩ : Addr).add j) = some u := by
  intro j u hj
  match j, hj with
  | 0, hj => simp at hj; subst hj; simp [Addr.add]
  | 1, hj => simp at hj; subst hj; simp [Addr.add]
  | 2, hj => simp at hj; subst hj; simp [Addr.add]
theorem outs_push {base : Nat} {W : World} {v : Value} {L : List Fr} {f : Fr} {po : Option Addr} {pc : Nat} (o : Outs base W v L) (hL : L.length ≤ 10000) (hbase : base ≤ W.heap.size) (d : W.ownsRow 0 5 1 (.slice po f.pdu.length pc) f.pdu.length (u8s f.pdu)) :
    ∃ v' w', (Builtin.append_ #[24, 24] 24 #[v, .slice (some ⟨W.heap.size, 0, none⟩) 1 1]).run Try.prog (W.alloc (.cells #[.int .u16 (f.id : Int), .int .u8 (f.unit : Int), .slice po f.pdu.length pc] 29)) = .ok v' w' ∧ Outs base w' v' (L ++ [f]) ∧ (W.alloc (.cells #[.int .u16 (f.id : Int), .int .u8 (f.unit : Int), .slice po f.pdu.length pc] 29)).grownBy w' v.ownBlock := by
  obtain ⟨i0, hi, hz0, hz1, hz2⟩ := info_parts Try.infoFr
  obtain ⟨xs, h1, h2⟩ := o
  obtain ⟨v', w', hr, hown, hg, _⟩ := run_append_own (P := Try.prog) (W.alloc (.cells #[.int .u16 (f.id : Int), .int .u8 (f.unit : Int), .slice po f.pdu.length pc] 29)) base 24 24 29 i0 _ 3 32 Try.underlying24 hi hz0 hz1 hz2 rfl (by decide) v L.length xs (h1.alloc _) ⟨W.heap.size, 0, none⟩ 1 1 [.int .u16 (f.id : Int), .int .u8 (f.unit : Int), .slice po f.pdu.length pc] rfl (three_cells W _ _ _ _) (by intro u hu; simp at hu; rcases hu with rfl | rfl | rfl <;> rfl) (by unfold maxLen; omega) (by omega) (by simp; omega)
  have hne : ∀ (g : Nat) (cs : Array Value) (fl : Nat × Nat), v.ownBlock = some g → (W.alloc (.cells #[.int .u16 (f.id : Int), .int .u8 (f.unit : Int), .slice po f.pdu.length pc] 29)).heap[g]? ≠ some (.cells cs 5 fl) := by
    intro g cs fl e hh
    rcases (h1.alloc (.cells #[.int .u16 (f.id : Int), .int .u8 (f.unit : Int), .slice po f.pdu.length pc] 29)).2 with ⟨rfl, _⟩ | ⟨g', cap, cur, rfl, _, hg', _⟩
    · simp [Value.ownBlock] at e
    · simp [Value.ownBlock] at e
      subst e
      rw [hg'] at hh
      simp at hh
  refine ⟨v', w', hr, ⟨_, by rw [List.length_append]; exact hown, fun k x hk => ?_⟩, hg⟩
  have hl : xs.length = L.length * 3 := h1.1
  by_cases hlt : k < L.length
  · rw [List.getElem?_append_left hlt] at hk
    obtain ⟨po', pc', a, b, c, d'⟩ := h2 k x hk
    refine ⟨po', pc', ?_, ?_, ?_, own_grown (d'.alloc _) hg hne⟩
    · rw [List.getElem?_append_left (by omega)]; exact a
    · rw [List.getElem?_append_left (by omega)]; exact b
    · rw [List.getElem?_append_left (by omega)]; exact c
  · rw [List.getElem?_append_right (by omega)] at hk
    have hk0 : k - L.length = 0 := by
      have := (List.getElem?_eq_some_iff.1 hk).1
      simp at this
      omega
    rw [hk0] at hk
    simp at hk
    subst hk
    refine ⟨po, pc, ?_, ?_, ?_, own_grown (d.alloc _) hg hne⟩
    · rw [List.getElem?_append_right (by omega), show 3 * k - xs.length = 0 by omega]; rfl
    · rw [List.getElem?_append_right (by omega), show 3 * k + 1 - xs.length = 1 by omega]; rfl
    · rw [List.getElem?_append_right (by omega), show 3 * k + 2 - xs.length = 2 by omega]; rfl
/-- What the loops keep: the stream in block g, the frames so far, what is left; all below g as it was. -/
structure FrI (w wr : World) (g : Nat) (bs : List Nat) (v : Value) (L : List Fr) (A h N : Nat) (brk : Bool) (room : List Nat) : Prop where
  st : St wr g room h brk N
  num : N = L.length
  out : Outs (g + 1) wr v L
  kept : Below g w wr
  told : ToldOf L (bs.take A) (room.take h)
theorem FrI.few {w wr : World} {g A h N : Nat} {bs room : List Nat} {v : Value} {L : List Fr} {brk : Bool} (f : FrI w wr g bs v L A h N brk room) (hm : bs.length ≤ 10000) : L.length ≤ 10000 := by
  have h1 := f.told.len
  have h2 : (bs.take A).length ≤ bs.length := by rw [List.length_take]; omega
  omega
/-- One frame more. -/
theorem fri_push {w wr w2 w3 : World} {g A h N : Nat} {bs room room' : List Nat} {v v' : Value} {L : List Fr}
    (f : FrI w wr g bs v L A h N false room) (h0 : 0 < (rd (room.take h)).n) (s2 : St w2 g room' (h - (rd (room.take h)).n) false (N + 1)) (k2 : Turn g wr w2) (e2 : room'.take (h - (rd (room.take h)).n) = (room.take h).drop (rd (room.take h)).n)
    (o3 : Outs (g + 1) w3 v' (L ++ [fr1 (room.take h)])) (g3 : w2.grownBy w3 v.ownBlock) (hg : g ≤ w.heap.size) : FrI w w3 g bs v' (L ++ [fr1 (room.take h)]) A (h - (rd (room.take h)).n) (N + 1) false room' := by
  have hne : some g ≠ v.ownBlock := fun e => by have := (f.out.own g e.symm).1; omega
  have hs : w.heap.size ≤ w2.heap.size := Nat.le_trans f.kept.size k2.size
  refine ⟨s2.heap (g3.block g s2.lt hne), by rw [f.num, List.length_append]; rfl, o3, (f.kept.trans (k2.below (Nat.le_refl g) (Nat.le_trans hg f.kept.size))).grown g3 (by omega) (fun k hk => by have := (f.out.own k hk).1; omega), ?_⟩
  rw [e2]
  exact f.told.snoc h0
/-- How many bytes the stream in block g holds. -/
def heldOf (g : Nat) (w : World) : Nat := (((w.cell? ⟨g, 260, none⟩).map intOf).getD 0).toNat
theorem St.heldOf {w : World} {g h n : Nat} {room : List Nat} {b : Bool} (s : St w g room h b n) : heldOf g w = h := by
  unfold Go.Proofs.Ytjfaocpbhhpbdaa.heldOf
  rw [s.cHeld]
  simp [intOf]
end Go.Proofs.Ytjfaocpbhhpbdaa
