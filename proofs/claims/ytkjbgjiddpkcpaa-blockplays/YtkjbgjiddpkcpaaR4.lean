/- The reference's Write and Spoil whole (stage 8). -/
import Derived.Test.YtkjbgjiddpkcpaaR3
import Derived.Test.YtkjbgjiddpkcpaaR5
namespace Go.Proofs.Ytkjbgjiddpkcpaa
open Go.RowKit
open Pdu
theorem writer_c {w : World} {r q h c n : Nat} {ao : Option Addr} {s : SS} {bs : List Nat} (t : Rf w r q h s) (hh : h < w.heap.size) (i : Int) (hs : Sl w (.slice ao n c) (u8s bs)) (hn : n = bs.length) (hB : Bytes bs) (hne : u8s bs ≠ [] → ∀ a, ao = some a → a.block ∉ [r, q]) (hn9 : s.n ≤ 1000000) :
    Calls Try.prog 17 #[.pointer (some ⟨r, 0, none⟩), .int .i64 i, .slice ao n c] w fun e w' => e = .returned (.int .i64 (s.errW i bs.length : Int)) ∧ Rf w' r q h (s.wr i bs) ∧ Only [r, q] w w' := by
  have no : s.err i ≠ 0 → Calls Try.prog 17 #[.pointer (some ⟨r, 0, none⟩), .int .i64 i, .slice ao n c] w fun e w' => e = .returned (.int .i64 (s.errW i bs.length : Int)) ∧ Rf w' r q h (s.wr i bs) ∧ Only [r, q] w w' := by
    intro hne0
    have e1 : s.wr i bs = s := by
      unfold SS.wr
      rw [if_pos (Or.inl hne0)]
    have e2 : s.errW i bs.length = s.err i := by
      unfold SS.errW
      rw [if_pos hne0]
    rw [e1, e2]
    refine (writer_no t i _ hne0).mono ?_
    rintro _ w' ⟨rfl, rfl⟩
    exact ⟨rfl, t, Only.refl _ _⟩
  rcases s.err_cases i with ⟨hd, he⟩ | ⟨hd, hi, he⟩ | ⟨hd, he, k, rfl, hk⟩
  · exact no (by rw [he]; decide)
  · exact no (by rw [he]; decide)
  · by_cases hz : bs.length = s.sz
    · have e1 : s.wr k bs = if s.lft = 0 then s.torn k bs else s.dn k bs := by
        unfold SS.wr
        rw [if_neg (by rw [he, hz]; simp)]
      have e2 : s.errW k bs.length = if s.lft = 0 then 82 else 0 := by
        unfold SS.errW
        rw [if_neg (by rw [he]; simp), if_neg (by rw [hz]; simp)]
      have hcap : n ≤ c := by
        rcases hs with ⟨h0, _⟩ | ⟨b, off, cap, e, h1, _⟩
        · have := t.ok.lo
          have : bs.length = 0 := by rw [u8s_nil h0]; rfl
          omega
        · simp only [Value.slice.injEq] at e
          omega
      rw [e1, e2]
      rw [hz] at hn
      subst hn
      by_cases hl : s.lft = 0
      · rw [if_pos hl, if_pos hl]
        refine (writer_yes (m := clip s.sz s.pre) (d := true) t hh hd hk (Or.inl ⟨hl, rfl, rfl⟩) hs hz hB hcap hne hn9).mono ?_
        rintro e w' ⟨h1, h2, h3⟩
        rw [if_pos rfl] at h2
        rcases h1 with ⟨_, rfl⟩ | ⟨h, _⟩
        · exact ⟨rfl, h2, h3⟩
        · cases h
      · rw [if_neg hl, if_neg hl]
        refine (writer_yes (m := s.sz) (d := false) t hh hd hk (Or.inr ⟨hl, rfl, rfl⟩) hs hz hB hcap hne hn9).mono ?_
        rintro e w' ⟨h1, h2, h3⟩
        rw [if_neg (by decide)] at h2
        rcases h1 with ⟨h, _⟩ | ⟨_, rfl⟩
        · cases h
        · exact ⟨rfl, h2, h3⟩
    · have e1 : s.wr k bs = s := by
        unfold SS.wr
        rw [if_pos (Or.inr hz)]
      have e2 : s.errW k bs.length = 81 := by
        unfold SS.errW
        rw [if_neg (by rw [he]; simp), if_pos hz]
      rw [e1, e2]
      refine (writer_size t hd hk (by rw [hn]; exact hz)).mono ?_
      rintro _ w' ⟨rfl, rfl⟩
      exact ⟨rfl, t, Only.refl _ _⟩
theorem spoilr_c {w : World} {r q h x : Nat} {s : SS} (t : Rf w r q h s) (hh : h < w.heap.size) (i a : Int) : Calls Try.prog 23 #[.pointer (some ⟨r, 0, none⟩), .int .i64 i, .int .i64 a, .int .u8 (x : Int)] w fun e w' => e = .returned (.tuple #[]) ∧ Rf w' r q h (s.spl i a x) ∧ Only [r, q] w w' := by
  by_cases ho : s.err i ≠ 0 ∨ a < 0 ∨ (s.sz : Int) ≤ a
  · have e1 : s.spl i a x = s := by
      unfold SS.spl
      rw [if_pos ho]
    rw [e1]
    refine (spoilr_no t i a _ ho).mono ?_
    rintro _ w' ⟨rfl, rfl⟩
    exact ⟨rfl, t, Only.refl _ _⟩
  · rcases s.err_cases i with h1 | h1 | ⟨hd, he, k, rfl, hk⟩
    · exact absurd (Or.inl (by rw [h1.2]; decide)) ho
    · exact absurd (Or.inl (by rw [h1.2.2]; decide)) ho
    · obtain ⟨b, rfl⟩ : ∃ b : Nat, a = b := ⟨a.toNat, by omega⟩
      have e1 : s.spl k b x = { s with rows := s.rows.set k ((s.row k).set b (xr ((s.row k).getD b 0) x)) } := by
        unfold SS.spl
        rw [if_neg ho, Int.toNat_natCast, Int.toNat_natCast]
      rw [e1]
      exact spoilr_at t hh hd hk (by omega)
end Go.Proofs.Ytkjbgjiddpkcpaa
