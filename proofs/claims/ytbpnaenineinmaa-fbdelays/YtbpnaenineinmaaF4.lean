/- The walks of Pin, pinNumbers (stage 17). -/
import Derived.Test.YtbpnaenineinmaaF3
namespace Go.Proofs.Ytbpnaenineinmaa
open Go.RowKit
open Fb
theorem tx_eq (a b : List UInt8) : ((tx a).toList == (tx b).toList) = decide (a = b) := by
  rw [ByteArray.toList_eq, ByteArray.toList_eq]
  show (a == b) = decide (a = b)
  by_cases h : a = b
  · subst h; simp
  · rw [decide_eq_false h, beq_eq_false_iff_ne]; exact h
theorem kdf_drop {l : List (List UInt8 × Int)} {q : List UInt8} {k : Nat} (h : k < l.length) : kdf q (l.drop k) = if (l[k]'h).1 = q then (l[k]'h).2 else kdf q (l.drop (k + 1)) := by
  rw [List.drop_eq_getElem_cons h]; rfl
theorem pI_pos (k : Nat) (hk : k < 10) : 0 < (pI k).length := by
  match k, hk with
  | 0, _ => exact (by decide)
  | 1, _ => exact (by decide)
  | 2, _ => exact (by decide)
  | 3, _ => exact (by decide)
  | 4, _ => exact (by decide)
  | 5, _ => exact (by decide)
  | 6, _ => exact (by decide)
  | 7, _ => exact (by decide)
  | 8, _ => exact (by decide)
  | 9, _ => exact (by decide)
theorem own_at {w : World} {base n s : Nat} {e : TypeId} {v : Value} {vs : List Value} (h : w.ownsRow base e s v n vs) (h0 : 0 < n) : ∃ g c, v = .slice (some ⟨g, 0, none⟩) n c := by
  rcases h.2 with ⟨_, h'⟩ | ⟨g, cap, cur, e, _⟩
  · omega
  · exact ⟨g, cap, e⟩
theorem pwd_own (w : World) (k : Nat) : (pwd w k).ownsRow w.heap.size 86 2 (.slice (some ⟨w.heap.size, 0, none⟩) (pI k).length (pI k).length) (pI k).length (prow (pI k)) := by
  have h1 := pI_le k
  have := World.ownsRow_lit (base := w.heap.size) (size := 2) (e := 86) w (prow (pI k)).toArray (pI k).length (Nat.le_refl _) (by unfold maxLen; omega) (by simp [prow_len]; omega)
  exact this.alloc _
set_option maxHeartbeats 800000 in
theorem pin_c (k : Nat) (hk : k < 10) (q : List UInt8) (w : World) : Calls Try.prog 29 #[.string (nm k), .string (tx q)] w fun e w' => e = .returned (.int .i64 (kdf q (pI k ++ pO k))) ∧ Below w.heap.size w w' := by
  obtain ⟨i0, hi, hz0, hz1, hz2⟩ := info_parts Try.infoPin
  have PO := hid_as (pinsOf_c k hk w)
  have h1 := pI_le k
  have h2 := pO_le k
  have OI := hid_as (pwd_own w k)
  have LO := hid_as (pwd_out w k).news
  have PL := hid_as (show (prow (pO k)).length = (pO k).length * 2 by rw [prow_len]; omega)
  have PB := hid_as (pwd_below w k)
  have PS := hid_as (pwd_size w k)
  have HP := hid_as (pI_pos k hk)
  obtain ⟨l, hl⟩ : ∃ l, l = pI k ++ pO k := ⟨_, rfl⟩
  have hll : l.length = (pI k).length + (pO k).length := by rw [hl, List.length_append]
  have HL := hid_as (show prow l = prow (pI k) ++ prow (pO k) by rw [hl, prow_app])
  rw [← hl]
  clear hl
  generalize (pI k).length = n at *
  generalize (pO k).length = m at *
  generalize pwd w k = w1 at *
  obtain ⟨N, hN⟩ : ∃ N, N = n + m := ⟨_, rfl⟩
  rw [← hN] at hll
  have hN9 : N ≤ 8 := by omega
  have HN0 := hid_as (show 0 < N by have := HP.out; omega)
  have HN := hid_as hN.symm
  have HLL := hid_as hll
  clear hll hN
  go_enter Try.func29, Try.ntmps29
  go_wp2_with fail
  refine PO.out.mono ?_
  rintro e w1' ⟨rfl, hw⟩
  subst w1'
  clear PO
  go_wp2_with (at_builtin; go_must (refine wpList_append_own _ rfl _ _ 76 rfl w.heap.size 86 i0 (.agg #[.string ⟨#[]⟩, .int .i64 0]) 2 24 Try.underlying76 hi hz0 hz1 hz2 rfl (by decide) _ n _ rfl OI.out ⟨w.heap.size + 1, 0, none⟩ m m _ rfl PL.out LO.out (prow_one _) (by unfold maxLen; omega) (by omega) (by rw [PS.out]; omega) ?_); intro v' w2 hown hgrow _; rw [← HL.out, HN.out] at hown; obtain ⟨g, c, hv⟩ := own_at hown HN0.out; subst hv)
  have KB : Hid (Below w.heap.size w w2) := PB.out.grown hgrow (by rw [PS.out]; omega) (fun g hg' => (OI.out.lt g hg').1)
  have OW := hid_as hown
  clear hgrow OI LO PL HL PB PS hown
  go_loopw [18] (fun i wr => ∃ j : Nat, j ≤ N ∧ i = .int .i64 j ∧ kdf q l = kdf q (l.drop j) ∧ Below w2.heap.size w2 wr) (fun i _ => N - (intOf i).toNat)
  case atStart => exact ⟨0, by omega, rfl, rfl, Below.refl _ _⟩
  case round =>
    obtain ⟨j, hj, rfl, hkd, hB⟩ := hrel
    have HK := hid_as hkd
    have BB := hid_as hB
    clear hkd hB
    by_cases hjn : j < N
    · have hj2 : (j : Int) < (N : Int) := by omega
      have hjl : j < l.length := by rw [HLL.out]; exact hjn
      have c0 := (BB.out.cell (p := ⟨g, j * 2, none⟩) (OW.out.lt g rfl).2).trans ((OW.out.cellAt (j * 2) (by omega)).trans (prow_at l j hjl).1)
      have c1 := (BB.out.cell (p := ⟨g, j * 2 + 1, none⟩) (OW.out.lt g rfl).2).trans ((OW.out.cellAt (j * 2 + 1) (by omega)).trans (prow_at l j hjl).2)
      have HD := hid_as (kdf_drop (q := q) hjl)
      have TE := tx_eq (l[j]).1 q
      generalize l[j] = p at *
      obtain ⟨p1, p2⟩ := p
      simp only at c0 c1 TE
      by_cases hpq : p1 = q
      · rw [decide_eq_true hpq] at TE
        have RE : Hid (p2 = kdf q l) := hid_as (by rw [HK.out, HD.out, if_pos hpq])
        have hpq := hid_as hpq
        go_wp2
        go_ret
        exact ⟨ret_int RE.out, KB.out.trans ((below_new BB.out _).mono KB.out.size)⟩
      · rw [decide_eq_false hpq] at TE
        have RE : Hid (kdf q l = kdf q (l.drop (j + 1))) := hid_as (by rw [HK.out, HD.out, if_neg hpq])
        have hpq := hid_as hpq
        go_wp2
        go_roundw
        case rel => exact ⟨j + 1, by omega, by go_num, RE.out, below_new BB.out _⟩
        case measure => simp [intOf]; omega
    · have RE : Hid (0 = kdf q l) := hid_as (by rw [HK.out, List.drop_eq_nil_of_le (by rw [HLL.out]; omega)]; rfl)
      obtain rfl : j = N := by omega
      go_wp2
      go_ret
      exact ⟨ret_int RE.out, KB.out.trans (BB.out.mono KB.out.size)⟩
end Go.Proofs.Ytbpnaenineinmaa
