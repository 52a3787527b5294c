/- What answers a request. -/
import Derived.Test.YtehbbkdiekgpbaaTE
import Derived.Test.YtehbbkdiekgpbaaJ3
import Derived.Test.YtehbbkdiekgpbaaWk16
namespace Go.Proofs.Ytehbbkdiekgpbaa
open Go.RowKit
open Pdu
/-- The reply to a request that only writes. -/
def echo (q : Rq) : Rp := ⟨q.fn, 0, q.addr, if q.fn = 15 then q.bits.length else if q.fn = 16 then q.regs.length else 0, if q.fn = 5 then q.bits else [], if q.fn = 6 ∨ q.fn = 22 then q.regs else []⟩
def ExcIs (q : Rq) (bs : List Nat) : Prop := bs.length = 2 ∧ bs.getD 0 0 = q.fn + 128 ∧ bs.getD 1 0 ≠ 0
def excOf (q : Rq) (bs : List Nat) : Rp := ⟨q.fn, bs.getD 1 0, 0, 0, [], []⟩
def AnsIs (q : Rq) (bs : List Nat) : Prop := 1 ≤ bs.length ∧ bs.getD 0 0 = q.fn ∧
  (((q.fn = 1 ∨ q.fn = 2) ∧ bs.length = 2 + packed q.n ∧ bs.getD 1 0 = packed q.n) ∨ ((q.fn = 3 ∨ q.fn = 4 ∨ q.fn = 23) ∧ bs.length = 2 + 2 * q.n ∧ bs.getD 1 0 = 2 * q.n) ∨ ((q.fn = 5 ∨ q.fn = 6 ∨ q.fn = 15 ∨ q.fn = 16 ∨ q.fn = 22) ∧ bs = repBytes (echo q)))
def ansOf (q : Rq) (bs : List Nat) : Rp := if q.fn = 1 ∨ q.fn = 2 then ⟨q.fn, 0, 0, 0, ub (bs.drop 2) q.n, []⟩ else if q.fn = 3 ∨ q.fn = 4 ∨ q.fn = 23 then ⟨q.fn, 0, 0, 0, [], ws (bs.drop 2)⟩ else echo q
/-- A reply in memory of its own. -/
def IsRpN (base : Nat) (w : World) (v : Value) (r : Rp) : Prop := r.Ok ∧ ∃ bv rv, v = rpV r.fn r.exc r.addr r.n bv rv ∧ Sl w bv (bls r.bits) ∧ Sl w rv (u16s r.regs) ∧ New base bv (bls r.bits) ∧ New base rv (u16s r.regs)
theorem IsRpN.plain {base : Nat} {w : World} {v : Value} {r : Rp} (h : IsRpN base w v r) : IsRp w v r := by
  obtain ⟨ok, bv, rv, rfl, h1, h2, _, _⟩ := h
  exact ⟨ok, bv, rv, rfl, h1, h2⟩
theorem IsRpN.six {base g : Nat} {w Y : World} {v : Value} {r : Rp} (h : IsRpN base w v r) (k : Below w.heap.size w Y) (hg : g < base) (y0 y1 y2 y3 y4 y5 : Value) : IsRpN base ((((((Y.setCell ⟨g, 0, none⟩ y0).setCell ⟨g, 1, none⟩ y1).setCell ⟨g, 2, none⟩ y2).setCell ⟨g, 3, none⟩ y3).setCell ⟨g, 4, none⟩ y4).setCell ⟨g, 5, none⟩ y5) v r := by
  obtain ⟨ok, bv, rv, rfl, h1, h2, n1, n2⟩ := h
  exact ⟨ok, bv, rv, rfl, sl_six (h1.below k) n1 hg _ _ _ _ _ _, sl_six (h2.below k) n2 hg _ _ _ _ _ _, n1, n2⟩
theorem rp_ok {fn exc A N : Nat} {bits : List Bool} {regs : List Nat} (h1 : fn < 256) (h2 : exc < 256) (h3 : A < 65536) (h4 : N < 65536) (h5 : Words regs) : Rp.Ok ⟨fn, exc, A, N, bits, regs⟩ := ⟨h1, h2, h3, h4, h5⟩
/-- A reply was told, or not. -/
def Told (P : Prop) (r0 : Rp) (w : World) (e : Ending) (w' : World) : Prop := Below w.heap.size w w' ∧ ∃ v t r, e = .returned (.tuple #[v, .bool t]) ∧ IsRpN w.heap.size w' v r ∧ (t = true ↔ P) ∧ (t = true → r = r0)
theorem ans_b {fn addr n addr2 m : Nat} {bits : List Bool} {regs bs : List Nat} (hf : fn = 1 ∨ fn = 2) (h0 : bs.getD 0 0 = fn) (hl : m = bs.length) (hm : 1 ≤ m) : AnsIs ⟨fn, addr, n, addr2, bits, regs⟩ bs ↔ (m = 2 + packed n ∧ bs.getD 1 0 = packed n) := by
  unfold AnsIs
  simp only
  rw [← hl]
  constructor
  · rintro ⟨_, _, h | h | h⟩
    · exact h.2
    · omega
    · omega
  · intro h
    exact ⟨hm, h0, Or.inl ⟨hf, h⟩⟩
theorem ans_r {fn addr n addr2 m : Nat} {bits : List Bool} {regs bs : List Nat} (hf : fn = 3 ∨ fn = 4 ∨ fn = 23) (h0 : bs.getD 0 0 = fn) (hl : m = bs.length) (hm : 1 ≤ m) : AnsIs ⟨fn, addr, n, addr2, bits, regs⟩ bs ↔ (m = 2 + 2 * n ∧ bs.getD 1 0 = 2 * n) := by
  unfold AnsIs
  simp only
  rw [← hl]
  constructor
  · rintro ⟨_, _, h | h | h⟩
    · omega
    · exact h.2
    · omega
  · intro h
    exact ⟨hm, h0, Or.inr (Or.inl ⟨hf, h⟩)⟩
theorem zero_rpn (base : Nat) (w : World) : IsRpN base w (.agg #[.int .u8 0, .int .u8 0, .int .u16 0, .int .u16 0, .slice none 0 0, .slice none 0 0]) ⟨0, 0, 0, 0, [], []⟩ := ⟨rp_ok (by decide) (by decide) (by decide) (by decide) no_words, _, _, rfl, Sl.nil _, Sl.nil _, new_nil, new_nil⟩
theorem Told.no {P : Prop} {r0 : Rp} {w w' : World} {e : Ending} (hb : Below w.heap.size w w') (he : e = .returned (.tuple #[.agg #[.int .u8 0, .int .u8 0, .int .u16 0, .int .u16 0, .slice none 0 0, .slice none 0 0], .bool false])) (h : ¬ P) : Told P r0 w e w' := ⟨hb, _, _, _, he, zero_rpn _ _, by simp [h], by simp⟩
end Go.Proofs.Ytehbbkdiekgpbaa
