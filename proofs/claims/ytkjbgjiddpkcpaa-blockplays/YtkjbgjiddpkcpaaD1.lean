/- The walks of the law's small helps: drawn (stage 8). -/
import Derived.Test.YtkjbgjiddpkcpaaS1
namespace Go.Proofs.Ytkjbgjiddpkcpaa
open Go.RowKit
open Pdu
/-- Bytes of a block's size, out of others. -/
def dr (bs : List Nat) (n : Nat) : List Nat := (List.range n).map fun i => if bs.length = 0 then 0 else (bs.getD (i % bs.length) 0 + (i / bs.length) % 256) % 256
theorem dr_len (bs : List Nat) (n : Nat) : (dr bs n).length = n := by simp [dr]
theorem dr_bytes (bs : List Nat) (n : Nat) : Bytes (dr bs n) := by
  intro x hx
  simp only [dr, List.mem_map] at hx
  obtain ⟨i, _, rfl⟩ := hx
  split
  · decide
  · exact Nat.mod_lt _ (by decide)
theorem dr_none (n : Nat) : dr [] n = List.replicate n 0 := by
  apply List.ext_getElem?
  intro k
  by_cases hk : k < n
  · simp [dr, hk]
  · simp [dr, hk]
/-- So far: the first k are there, the others zeros. -/
def drK (bs : List Nat) (n k : Nat) : List Nat := dr bs k ++ List.replicate (n - k) 0
theorem drK_zero (bs : List Nat) (n : Nat) : drK bs n 0 = List.replicate n 0 := by simp [drK, dr]
theorem drK_all (bs : List Nat) (n : Nat) : drK bs n n = dr bs n := by simp [drK]
theorem drK_len (bs : List Nat) {n k : Nat} (h : k ≤ n) : (drK bs n k).length = n := by
  simp [drK, dr_len]
  omega
theorem drK_step (bs : List Nat) {n k : Nat} (h0 : bs.length ≠ 0) (hk : k < n) : (drK bs n k).set k ((bs.getD (k % bs.length) 0 + (k / bs.length) % 256) % 256) = drK bs n (k + 1) := by
  unfold drK
  rw [List.set_append_right _ _ (by rw [dr_len]; exact Nat.le_refl _), dr_len, Nat.sub_self, show n - k = (n - (k + 1)) + 1 by omega, List.replicate_succ, List.set_cons_zero]
  have : dr bs (k + 1) = dr bs k ++ [(bs.getD (k % bs.length) 0 + (k / bs.length) % 256) % 256] := by
    unfold dr
    rw [List.range_succ, List.map_append, List.map_singleton, if_neg h0]
  rw [this, List.append_assoc]
  rfl
def DrI (w wr : World) (g : Nat) (l : List Nat) : Prop := wr.heap[g]? = some (.cells (u8s l).toArray 5 (0, 0)) ∧ Below w.heap.size w wr
set_option maxHeartbeats 800000 in
theorem drawn_none (n : Nat) (ao : Option Addr) (c : Nat) (w : World) (hn : n ≤ 100000) : Calls Try.prog 13 #[.slice ao 0 c, .int .i64 (n : Int)] w fun e w' => e = .returned (.slice (some ⟨w.heap.size, 0, none⟩) n n) ∧ DrI w w' w.heap.size (dr [] n) := by
  obtain ⟨w1, hm, hb1, k1, sz1⟩ := mk_run w n (by omega)
  have D : Hid (DrI w w1 w.heap.size (dr [] n)) := ⟨by rw [dr_none]; exact hb1, k1⟩
  clear hb1 k1 sz1
  go_enter Try.func13, Try.ntmps13
  go_wp2
  go_loopw [6] (fun i wr => i = .int .i64 0 ∧ wr = w1) (fun _ _ => 0)
  case atStart => exact ⟨rfl, rfl⟩
  case round =>
    obtain ⟨rfl, rfl⟩ := hrel
    by_cases h0 : 0 < n
    · have h1 : (0 : Int) < (n : Int) := by omega
      go_wp2
      go_ret
      exact ⟨rfl, D.out⟩
    · have h1 : ¬ (0 : Int) < (n : Int) := by omega
      go_wp2
      go_ret
      exact ⟨rfl, D.out⟩
set_option maxHeartbeats 1600000 in
theorem drawn_some (n m c b off : Nat) (bs : List Nat) (w : World) (hn : n ≤ 100000) (hm0 : m = bs.length) (h0 : 0 < m) (hB : Bytes bs) (hL : Lies w b off (u8s bs)) : Calls Try.prog 13 #[.slice (some ⟨b, off, none⟩) m c, .int .i64 (n : Int)] w fun e w' => e = .returned (.slice (some ⟨w.heap.size, 0, none⟩) n n) ∧ DrI w w' w.heap.size (dr bs n) := by
  obtain ⟨w1, hm, hb1, k1, sz1⟩ := mk_run w n (by omega)
  have D : Hid (DrI w w1 w.heap.size (drK bs n 0)) := ⟨by rw [drK_zero]; exact hb1, k1⟩
  have HL := hid_as hL
  have HM := hid_as hm0
  have h2 : (0 : Int) < (m : Int) := by omega
  have h3 : ¬ (m : Int) = 0 := by omega
  obtain ⟨g, hg⟩ : ∃ g, g = w.heap.size := ⟨_, rfl⟩
  have HG : Hid (w.heap.size ≤ g) := Nat.le_of_eq hg.symm
  rw [← hg] at hm D ⊢
  clear hb1 k1 sz1 hL hm0 hg
  go_enter Try.func13, Try.ntmps13
  go_wp2
  go_loopw [6] (fun i wr => ∃ k : Nat, k ≤ n ∧ i = .int .i64 k ∧ DrI w wr g (drK bs n k)) (fun i _ => n - (intOf i).toNat)
  case atStart => exact ⟨0, Nat.zero_le _, rfl, D.out⟩
  case round =>
    obtain ⟨k, hk, rfl, HP⟩ := hrel
    have P := hid_as HP
    clear HP D
    by_cases hkn : k < n
    · have hk2 : (k : Int) < (n : Int) := by omega
      obtain ⟨x, hx⟩ : ∃ x, x = k % m := ⟨_, rfl⟩
      obtain ⟨y, hy⟩ : ∃ y, y = k / m := ⟨_, rfl⟩
      have hxm : x < m := by rw [hx]; exact Nat.mod_lt _ h0
      have ex : (k : Int).tmod (m : Int) = (x : Int) := by rw [hx, Int.tmod_eq_emod_of_nonneg (by omega)]; rfl
      have ey : (k : Int).tdiv (m : Int) = (y : Int) := by rw [hy, Int.tdiv_eq_ediv_of_nonneg (by omega)]; rfl
      have hxk : x ≤ k := by rw [hx]; exact Nat.mod_le _ _
      have hyk : y ≤ k := by rw [hy]; exact Nat.div_le_self _ _
      have cx : wr.cell? ⟨b, off + x, none⟩ = some (.int .u8 (bs.getD x 0 : Nat)) := ((HL.out.below P.out.2)).u8 x (by rw [← HM.out]; exact hxm)
      have hbx := hB.at x
      have hxm2 : (x : Int) < (m : Int) := by omega
      obtain ⟨v, hv⟩ : ∃ v, v = bs.getD x 0 := ⟨_, rfl⟩
      rw [← hv] at cx hbx
      have ck : wr.cell? ⟨g, k, none⟩ = some (.int .u8 (((drK bs n k).getD k 0 : Nat) : Int)) := cell_row P.out.1 (u8s_at _ k (by rw [drK_len bs hk]; exact hkn))
      have fk : wr.frozen? ⟨g, k, none⟩ = false := frozen_row P.out.1
      generalize (((drK bs n k).getD k 0 : Nat) : Int) = z at ck
      obtain ⟨y8, hy8⟩ : ∃ y8, y8 = y % 256 := ⟨_, rfl⟩
      obtain ⟨z8, hz8⟩ : ∃ z8, z8 = (v + y8) % 256 := ⟨_, rfl⟩
      have e8 : IntKind.u8.wrap (y : Int) = (y8 : Int) := by rw [IntKind.wrap_u8]; omega
      have e9 : IntKind.u8.wrap ((v : Int) + (y8 : Int)) = (z8 : Int) := by rw [IntKind.wrap_u8]; omega
      have i1 : IntKind.i64.wrap (x : Int) = (x : Int) := by rw [IntKind.wrap_i64]; omega
      have i2 : IntKind.i64.wrap (y : Int) = (y : Int) := by rw [IntKind.wrap_i64]; omega
      have HX : Hid (z8 = (bs.getD (k % bs.length) 0 + (k / bs.length) % 256) % 256) := by rw [hz8, hy8, hv, hx, hy, HM.out]; rfl
      have NX : Hid (DrI w (wr.setCell ⟨g, k, none⟩ (.int .u8 (z8 : Int))) g (drK bs n (k + 1))) := by
        refine ⟨?_, P.out.2.trans (((Turn.refl g wr).set k _).below HG.out P.out.2.size)⟩
        rw [set_row P.out.1, ← u8s_set, HX.out, drK_step bs (by rw [← HM.out]; omega) hkn]
      clear hx hy hv hy8 hz8 HX
      go_wp2
      go_region
      go_wp2
      go_roundw
      case rel => exact ⟨k + 1, by omega, by go_num, ⟨NX.out.1, below_drewN NX.out.2 1⟩⟩
      case measure => simp [intOf]; omega
    · obtain rfl : k = n := by omega
      have D : Hid (DrI w wr g (dr bs k)) := by
        have := P.out
        rw [drK_all] at this
        exact this
      go_wp2
      go_ret
      exact ⟨rfl, D.out⟩
theorem drawn_c {v : Value} {bs : List Nat} {w : World} {n : Nat} (hs : Sl w v (u8s bs)) (hB : Bytes bs) (hn : n ≤ 100000) : Calls Try.prog 13 #[v, .int .i64 (n : Int)] w fun e w' => e = .returned (.slice (some ⟨w.heap.size, 0, none⟩) n n) ∧ w'.ownsRow w.heap.size 5 1 (.slice (some ⟨w.heap.size, 0, none⟩) n n) (dr bs n).length (u8s (dr bs n)) ∧ Below w.heap.size w w' := by
  have fin : ∀ (e : Ending) w', (e = .returned (.slice (some ⟨w.heap.size, 0, none⟩) n n) ∧ DrI w w' w.heap.size (dr bs n)) → e = .returned (.slice (some ⟨w.heap.size, 0, none⟩) n n) ∧ w'.ownsRow w.heap.size 5 1 (.slice (some ⟨w.heap.size, 0, none⟩) n n) (dr bs n).length (u8s (dr bs n)) ∧ Below w.heap.size w w' := by
    rintro e w' ⟨rfl, d1, d2⟩
    refine ⟨rfl, ?_, d2⟩
    have := own_of_block (base := w.heap.size) d1 (Nat.le_refl _) (by rw [dr_len]; omega)
    rw [dr_len] at this ⊢
    exact this
  rcases hs with ⟨h, ao, cap, rfl, h0⟩ | ⟨b, off, cap, rfl, hcap, hc⟩
  · obtain rfl := u8s_nil h
    exact (drawn_none n ao cap w hn).mono fin
  · by_cases h0 : bs = []
    · subst h0
      exact (drawn_none n _ cap w hn).mono fin
    · exact (drawn_some n _ cap b off bs w hn (u8s_len bs) (by rw [u8s_len]; exact List.length_pos_iff.2 h0) hB hc).mono fin
end Go.Proofs.Ytkjbgjiddpkcpaa
