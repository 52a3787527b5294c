/- The chapter's example (stage 13). -/
import Derived.Test.YtgdoanhemgklpaaGreatDoorVR
import Derived.Test.YtgdoanhemgklpaaGreatDoorJ6
namespace Go.Proofs.YtgdoanhemgklpaaGreatDoor
open Go.RowKit
open Adr Lx Sx
theorem ok_of {α : Type} {r : Re α} {a : α} (h : r.v = some a) (he : r.e = 0) : r = ok a r.k := by
  obtain ⟨v, k, e⟩ := r
  simp only at h he
  subst h he
  rfl
theorem no_of {α : Type} {r : Re α} (h : r.v.isNone = true) : r = no r.e r.k := by
  obtain ⟨v, k, e⟩ := r
  cases v with
  | none => rfl
  | some a => cases h
/-- A tree's root, and its operands. -/
theorem Et.root {S : Nat → Prop} {w : World} {o k n : Int} {nm fl : ByteArray} {lp : Option Addr} {ln lc : Nat} {p : Int} {t : Tr} {d : Nd} (h : Et S w (.agg #[.int .i64 o, .int .i64 k, .int .i64 n, .string nm, .string fl, .slice lp ln lc, .int .i64 p]) t) (hd : t [] = some d) :
    (o = d.op ∧ k = d.kind ∧ n = d.n ∧ nm = tx d.name ∧ fl = tx d.field ∧ p = d.pl ∧ ln = d.ar) ∧ ((d.ar = 0 ∧ lp = none ∧ lc = 0) ∨ ∃ g, lp = some ⟨g, 0, none⟩ ∧ 0 < d.ar ∧ d.ar ≤ lc ∧ S g ∧ g < w.heap.size ∧ ∀ j, j < d.ar → ∃ o k n nm fl M p, RowE w g j o k n nm fl M p ∧ Et S w (ev o k n nm fl M p) (fun q => t (j :: q))) := by
  obtain ⟨m, h⟩ := h
  cases m with
  | zero => exact h.elim
  | succ m =>
    obtain ⟨nd, M, h1, hv, hL⟩ := h
    obtain rfl := Option.some.inj (h1.symm.trans hd)
    unfold ev at hv
    simp only [Value.agg.injEq, Array.mk.injEq, List.cons.injEq, Value.int.injEq, Value.string.injEq, true_and, and_true] at hv
    obtain ⟨rfl, rfl, rfl, rfl, rfl, rfl, rfl⟩ := hv
    rcases hL with ⟨h3, h4⟩ | ⟨g, cap, h3, h4, h5, h6, h7, h8⟩
    · simp only [Value.slice.injEq] at h4
      obtain ⟨rfl, rfl, rfl⟩ := h4
      exact ⟨⟨rfl, rfl, rfl, rfl, rfl, rfl, h3.symm⟩, Or.inl ⟨h3, rfl, rfl⟩⟩
    · simp only [Value.slice.injEq] at h3
      obtain ⟨rfl, rfl, rfl⟩ := h3
      refine ⟨⟨rfl, rfl, rfl, rfl, rfl, rfl, rfl⟩, Or.inr ⟨g, rfl, h4, h5, h6, h7, fun j hj => ?_⟩⟩
      obtain ⟨o, k, n, nm, fl, M, p, a, b⟩ := h8 j hj
      exact ⟨o, k, n, nm, fl, M, p, a, m, b⟩
theorem Et.op {S : Nat → Prop} {w : World} {o k n : Int} {nm fl : ByteArray} {M : Value} {p : Int} {t : Tr} {d : Nd} (h : Et S w (ev o k n nm fl M p) t) (hd : t [] = some d) : o = d.op := by
  obtain ⟨m, h⟩ := h
  cases m with
  | zero => exact h.elim
  | succ m =>
    obtain ⟨nd, M, h1, hv, hL⟩ := h
    obtain rfl := Option.some.inj (h1.symm.trans hd)
    unfold ev at hv
    simp only [Value.agg.injEq, Array.mk.injEq, List.cons.injEq, Value.int.injEq, true_and] at hv
    exact hv.1
def kn1 : TL := (toks [97, 32, 43, 32, 50, 32, 42, 32, 98] false).1
theorem kn1_is : toks [97, 32, 43, 32, 50, 32, 42, 32, 98] false = (kn1, none) := by
  have h : (toks [97, 32, 43, 32, 50, 32, 42, 32, 98] false).2 = none := by kernel_rfl
  exact Prod.ext rfl h
def kn2 : TL := (toks [80, 82, 79, 71, 82, 65, 77, 32, 112, 32, 86, 65, 82, 32, 120, 32, 58, 32, 73, 78, 84, 32, 58, 61, 32, 53, 59, 32, 69, 78, 68, 95, 86, 65, 82, 32, 120, 32, 58, 61, 32, 120, 32, 43, 32, 49, 59, 32, 73, 70, 32, 120, 32, 62, 32, 51, 32, 84, 72, 69, 78, 32, 120, 32, 58, 61, 32, 48, 59, 32, 69, 78, 68, 95, 73, 70, 59, 32, 69, 78, 68, 95, 80, 82, 79, 71, 82, 65, 77] false).1
theorem kn2_is : toks [80, 82, 79, 71, 82, 65, 77, 32, 112, 32, 86, 65, 82, 32, 120, 32, 58, 32, 73, 78, 84, 32, 58, 61, 32, 53, 59, 32, 69, 78, 68, 95, 86, 65, 82, 32, 120, 32, 58, 61, 32, 120, 32, 43, 32, 49, 59, 32, 73, 70, 32, 120, 32, 62, 32, 51, 32, 84, 72, 69, 78, 32, 120, 32, 58, 61, 32, 48, 59, 32, 69, 78, 68, 95, 73, 70, 59, 32, 69, 78, 68, 95, 80, 82, 79, 71, 82, 65, 77] false = (kn2, none) := by
  have h : (toks [80, 82, 79, 71, 82, 65, 77, 32, 112, 32, 86, 65, 82, 32, 120, 32, 58, 32, 73, 78, 84, 32, 58, 61, 32, 53, 59, 32, 69, 78, 68, 95, 86, 65, 82, 32, 120, 32, 58, 61, 32, 120, 32, 43, 32, 49, 59, 32, 73, 70, 32, 120, 32, 62, 32, 51, 32, 84, 72, 69, 78, 32, 120, 32, 58, 61, 32, 48, 59, 32, 69, 78, 68, 95, 73, 70, 59, 32, 69, 78, 68, 95, 80, 82, 79, 71, 82, 65, 77] false).2 = none := by kernel_rfl
  exact Prod.ext rfl h
def kn3 : TL := (toks [80, 82, 79, 71, 82, 65, 77, 32, 112, 32, 120, 32, 61, 32, 49, 59, 32, 69, 78, 68, 95, 80, 82, 79, 71, 82, 65, 77] false).1
theorem kn3_is : toks [80, 82, 79, 71, 82, 65, 77, 32, 112, 32, 120, 32, 61, 32, 49, 59, 32, 69, 78, 68, 95, 80, 82, 79, 71, 82, 65, 77] false = (kn3, none) := by
  have h : (toks [80, 82, 79, 71, 82, 65, 77, 32, 112, 32, 120, 32, 61, 32, 49, 59, 32, 69, 78, 68, 95, 80, 82, 79, 71, 82, 65, 77] false).2 = none := by kernel_rfl
  exact Prod.ext rfl h
theorem kn1_e : (onl kn1).e = 0 := by kernel_rfl
theorem kn1_s : (onl kn1).v.isSome = true := by kernel_rfl
theorem kn1_r : ((onl kn1).v.bind fun t => t []) = some ⟨8, 0, 0, [], [], 2, 2⟩ := by kernel_rfl
theorem kn1_c : ((onl kn1).v.bind fun t => t [1]) = some ⟨5, 0, 0, [], [], 6, 2⟩ := by kernel_rfl
theorem kn2_p : (prg kn2).v = some ([112], 1, [1, 2]) := by kernel_rfl
theorem kn2_e : (prg kn2).e = 0 := by kernel_rfl
theorem kn3_v : (prg kn3).v.isNone = true := by kernel_rfl
theorem kn3_e : (prg kn3).e = 130 := by kernel_rfl
theorem kn3_k : ca kn3 (prg kn3).k = 12 := by kernel_rfl
theorem kn1_ok : ∃ t k, onl kn1 = ok t k ∧ t [] = some ⟨8, 0, 0, [], [], 2, 2⟩ ∧ t [1] = some ⟨5, 0, 0, [], [], 6, 2⟩ := by
  obtain ⟨t, ht⟩ := Option.isSome_iff_exists.1 kn1_s
  have h1 := kn1_r
  have h2 := kn1_c
  rw [ht] at h1 h2
  exact ⟨t, _, ok_of ht kn1_e, h1, h2⟩
end Go.Proofs.YtgdoanhemgklpaaGreatDoor
