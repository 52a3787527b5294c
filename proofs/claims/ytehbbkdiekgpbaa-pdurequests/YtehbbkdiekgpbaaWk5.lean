/- The walks: bits taken out of bytes. -/
import Derived.Test.YtehbbkdiekgpbaaWk4
namespace Go.Proofs.Ytehbbkdiekgpbaa
open Go.RowKit
open Pdu
theorem and1_8 (a : Nat) : bits .and .u8 (a : Int) 1 = ((a % 2 : Nat) : Int) := by
  show IntKind.u8.wrap ((BitVec.ofInt 8 (a : Int) &&& BitVec.ofInt 8 1).toNat : Int) = _
  have h : (BitVec.ofInt 8 (a : Int) &&& BitVec.ofInt 8 1).toNat = a % 2 := by
    rw [BitVec.toNat_and, BitVec.ofInt_natCast, BitVec.toNat_ofNat, show (BitVec.ofInt 8 1).toNat = 1 from rfl, Nat.and_one_is_mod]
    omega
  rw [h, IntKind.wrap_u8]
  omega
theorem bit_8 (x r : Nat) : (bits .and .u8 ((x : Int) / 2 ^ r) 1 == 1) = x.testBit r := by
  rw [show (x : Int) / 2 ^ r = ((x / 2 ^ r : Nat) : Int) by simp, and1_8, Nat.testBit_eq_decide_div_mod_eq]
  generalize x / 2 ^ r % 2 = y
  by_cases h : y = 1
  · subst h; rfl
  · rw [decide_eq_false h, beq_eq_false_iff_ne]
    omega
/-- The bits so far, in a row of the call's own. -/
def Bitting (w wr : World) (g m : Nat) (bs : List Nat) (k : Nat) : Prop := wr.ownsRow w.heap.size 4 1 (.slice (some ⟨g, 0, none⟩) m m) m (bls (ub bs k ++ List.replicate (m - k) false)) ∧ Below w.heap.size w wr
theorem bitting_step {w wr : World} {g m k : Nat} {bs : List Nat} {t : Bool} (h : Bitting w wr g m bs k) (hk : k < m) (ht : t = (bs.getD (k / 8) 0).testBit (k % 8)) :
    Bitting w (wr.setCell ⟨g, k, none⟩ (.bool t)) g m bs (k + 1) := by
  have own := h.1
  refine ⟨?_, h.2.setCell (p := ⟨g, k, none⟩) (own.lt g rfl).1 _⟩
  have := (own.stored k (.bool t)).1
  rw [← bls_set] at this
  rw [ub_succ, ← ht]
  rw [List.set_append_right _ _ (by rw [ub_length]; omega), ub_length, Nat.sub_self, show m - k = (m - (k + 1)) + 1 by omega, List.replicate_succ, List.set_cons_zero] at this
  rw [List.append_assoc]
  exact this
theorem made_bls (n : Nat) : (madeCells (Value.cells (.bool false)) (n * 1)).toList = bls (List.replicate n false) := by
  apply List.ext_getElem?
  intro i
  by_cases h : i < n <;> simp [madeCells, Value.cells, bls, h, Nat.mod_one]
def cut (z : Int) : Nat := (min (max z 0) 2000).toNat
theorem cut_nat (n : Nat) : cut n = min n 2000 := by unfold cut; omega
set_option maxHeartbeats 1600000 in
theorem bits_at (b off n cap : Nat) (bs : List Nat) (z : Int) (w : World) (hl : n = bs.length) (hlies : Lies w b off (u8s bs)) :
    Calls Try.prog 27 #[.slice (some ⟨b, off, none⟩) n cap, .int .i64 z] w fun e w' => ∃ v', e = .returned v' ∧ w'.ownsRow w.heap.size 4 1 v' (cut z) (bls (ub bs (cut z))) ∧ Below w.heap.size w w' := by
  obtain ⟨i0, hi, hz0, hz1, hz2⟩ := info_parts Try.infoBool
  have HN : Hid (n = bs.length) := hl
  have HL : Hid (Lies w b off (u8s bs)) := hlies
  obtain ⟨m, hm⟩ : ∃ m, m = cut z := ⟨_, rfl⟩
  have hmz : min (max z 0) 2000 = (m : Int) := by rw [hm]; unfold cut; omega
  have hm2 : m ≤ 2000 := by omega
  rw [← hm]
  clear hl hlies hm
  go_enter Try.func27, Try.ntmps27
  go_wp2_with (at_make; refine wpList_make_full _ rfl _ _ 23 rfl w.heap.size 4 i0 (.bool false) 1 Try.underlying23 hi hz0 hz1 _ _ _ _ m rfl rfl (by omega) (by omega) (by rw [hz2]; omega) (by unfold maxLen; omega) (Nat.le_refl _) ?_; intro w1 hown1 hgrow1)
  all_goals
    have HP : Hid (Bitting w w1 w.heap.size m bs 0) := ⟨by rw [made_bls] at hown1; exact hown1, (Below.refl _ w).grown hgrow1 (Nat.le_refl _) fun k hk => by cases (show (none : Option Nat) = some k from hk)⟩
    clear hown1 hgrow1
    go_loopw [13] (fun i wr => ∃ k : Nat, k ≤ m ∧ i = .int .i64 k ∧ Bitting w wr w.heap.size m bs k) (fun i _ => m - (intOf i).toNat)
    case atStart => exact ⟨0, by omega, rfl, HP⟩
    case round =>
      obtain ⟨k, hk, rfl, HP⟩ := hrel
      by_cases hkm : k < m
      · obtain ⟨j, hj⟩ : ∃ j, j = k / 8 := ⟨_, rfl⟩
        obtain ⟨r, hr⟩ : ∃ r, r = k % 8 := ⟨_, rfl⟩
        obtain ⟨x, hx⟩ : ∃ x, x = bs.getD j 0 := ⟨_, rfl⟩
        have own := HP.1
        have hcl : wr.cell? ⟨w.heap.size, k, none⟩ = some (.bool false) := by
          rw [own.cellAt k (by omega), bls_at _ k (by rw [List.length_append, ub_length, List.length_replicate]; omega), List.getD_eq_getElem?_getD, List.getElem?_append_right (by rw [ub_length]; omega), ub_length, Nat.sub_self, List.getElem?_replicate, if_pos (by omega)]
          rfl
        have hfz : wr.frozen? ⟨w.heap.size, k, none⟩ = false := own.frozenAt k
        have e2 : (k : Int).tdiv 8 = (j : Int) := by rw [hj, Int.tdiv_eq_ediv_of_nonneg (by omega)]; omega
        have e3 : (k : Int).tmod 8 = (r : Int) := by rw [hr, Int.tmod_eq_emod_of_nonneg (by omega)]; omega
        have hr8 : r < 8 := by omega
        have hj' : j ≤ 2000 := by omega
        by_cases hjn : j < n
        · have hjl : j < bs.length := by rw [← (show n = _ from HN)]; exact hjn
          have h0 := HL.out.u8 j hjl
          have hc : wr.cell? ⟨b, off + j, none⟩ = some (.int .u8 x) := by rw [hx, HP.2.cell (p := ⟨b, off + j, none⟩) (lt_of_cell h0)]; exact h0
          have hb8 := bit_8 x r
          have HR : Hid (Bitting w (wr.setCell ⟨w.heap.size, k, none⟩ (.bool (x.testBit r))) w.heap.size m bs (k + 1)) := bitting_step HP hkm (by rw [hx, hj, hr])
          clear own HP h0 hx hj hr
          go_wp2
          first | omega | skip
          all_goals go_roundw
          all_goals first | exact ⟨k + 1, by omega, by go_num, HR⟩ | (simp [intOf]; omega)
        · have hjl : ¬ j < bs.length := by rw [← (show n = _ from HN)]; exact hjn
          have HR : Hid (Bitting w (wr.setCell ⟨w.heap.size, k, none⟩ (.bool false)) w.heap.size m bs (k + 1)) := bitting_step HP hkm (by rw [← hj, List.getD_eq_getElem?_getD, List.getElem?_eq_none (by omega)]; simp)
          clear own HP hx hj hr
          go_wp2
          first | omega | skip
          all_goals go_roundw
          all_goals first | exact ⟨k + 1, by omega, by go_num, HR⟩ | (simp [intOf]; omega)
      · obtain rfl : k = m := by omega
        have HP : Hid (Bitting w wr w.heap.size k bs k) := HP
        go_wp2
        go_ret
        have h1 := HP.out.1
        rw [Nat.sub_self, List.replicate_zero, List.append_nil] at h1
        exact ⟨_, rfl, h1, HP.out.2⟩
set_option maxHeartbeats 1600000 in
theorem bits_none (ao : Option Addr) (cap : Nat) (z : Int) (w : World) :
    Calls Try.prog 27 #[.slice ao 0 cap, .int .i64 z] w fun e w' => ∃ v', e = .returned v' ∧ w'.ownsRow w.heap.size 4 1 v' (cut z) (bls (ub [] (cut z))) ∧ Below w.heap.size w w' := by
  obtain ⟨i0, hi, hz0, hz1, hz2⟩ := info_parts Try.infoBool
  obtain ⟨m, hm⟩ : ∃ m, m = cut z := ⟨_, rfl⟩
  have hmz : min (max z 0) 2000 = (m : Int) := by rw [hm]; unfold cut; omega
  have hm2 : m ≤ 2000 := by omega
  rw [← hm]
  clear hm
  go_enter Try.func27, Try.ntmps27
  go_wp2_with (at_make; refine wpList_make_full _ rfl _ _ 23 rfl w.heap.size 4 i0 (.bool false) 1 Try.underlying23 hi hz0 hz1 _ _ _ _ m rfl rfl (by omega) (by omega) (by rw [hz2]; omega) (by unfold maxLen; omega) (Nat.le_refl _) ?_; intro w1 hown1 hgrow1)
  all_goals
    have HP : Hid (Bitting w w1 w.heap.size m [] 0) := ⟨by rw [made_bls] at hown1; exact hown1, (Below.refl _ w).grown hgrow1 (Nat.le_refl _) fun k hk => by cases (show (none : Option Nat) = some k from hk)⟩
    clear hown1 hgrow1
    go_loopw [13] (fun i wr => ∃ k : Nat, k ≤ m ∧ i = .int .i64 k ∧ Bitting w wr w.heap.size m [] k) (fun i _ => m - (intOf i).toNat)
    case atStart => exact ⟨0, by omega, rfl, HP⟩
    case round =>
      obtain ⟨k, hk, rfl, HP⟩ := hrel
      by_cases hkm : k < m
      · obtain ⟨j, hj⟩ : ∃ j, j = k / 8 := ⟨_, rfl⟩
        have own := HP.1
        have hcl : wr.cell? ⟨w.heap.size, k, none⟩ = some (.bool false) := by
          rw [own.cellAt k (by omega), bls_at _ k (by rw [List.length_append, ub_length, List.length_replicate]; omega), List.getD_eq_getElem?_getD, List.getElem?_append_right (by rw [ub_length]; omega), ub_length, Nat.sub_self, List.getElem?_replicate, if_pos (by omega)]
          rfl
        have hfz : wr.frozen? ⟨w.heap.size, k, none⟩ = false := own.frozenAt k
        have e2 : (k : Int).tdiv 8 = (j : Int) := by rw [hj, Int.tdiv_eq_ediv_of_nonneg (by omega)]; omega
        have hj' : j ≤ 2000 := by omega
        have HR : Hid (Bitting w (wr.setCell ⟨w.heap.size, k, none⟩ (.bool false)) w.heap.size m [] (k + 1)) := bitting_step HP hkm (by simp)
        clear own HP hj
        go_wp2
        first | omega | skip
        all_goals go_roundw
        all_goals first | exact ⟨k + 1, by omega, by go_num, HR⟩ | (simp [intOf]; omega)
      · obtain rfl : k = m := by omega
        have HP : Hid (Bitting w wr w.heap.size k [] k) := HP
        go_wp2
        go_ret
        have h1 := HP.out.1
        rw [Nat.sub_self, List.replicate_zero, List.append_nil] at h1
        exact ⟨_, rfl, h1, HP.out.2⟩
theorem u8s_nil {l : List Nat} (h : u8s l = []) : l = [] := by
  have := congrArg List.length h
  rw [u8s_len] at this
  exact List.length_eq_zero_iff.1 (by simpa using this)
theorem bits_c {v : Value} {bs : List Nat} {w : World} (z : Int) (h : Sl w v (u8s bs)) :
    Calls Try.prog 27 #[v, .int .i64 z] w fun e w' => ∃ v', e = .returned v' ∧ w'.ownsRow w.heap.size 4 1 v' (cut z) (bls (ub bs (cut z))) ∧ Below w.heap.size w w' := by
  rcases h with ⟨h, ao, cap, rfl, _⟩ | ⟨b, off, cap, rfl, _, hc⟩
  · obtain rfl := u8s_nil h
    exact bits_none ao cap z w
  · rw [u8s_len]
    exact bits_at b off _ cap bs z w rfl hc
end Go.Proofs.Ytehbbkdiekgpbaa
