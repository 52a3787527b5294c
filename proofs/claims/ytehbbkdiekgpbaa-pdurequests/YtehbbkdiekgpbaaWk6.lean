/- The walks: bits taken out of bytes, the document's. -/
import Derived.Test.YtehbbkdiekgpbaaWk5
namespace Go.Proofs.Ytehbbkdiekgpbaa
open Go.RowKit
open Pdu
def Gather (w wr : World) (v : Value) (bs : List Nat) (k : Nat) : Prop := wr.ownsRow w.heap.size 4 1 v k (bls (ub bs k)) ∧ Below w.heap.size w wr
theorem one_cell (w : World) (e : TypeId) (x : Value) : ∀ j u, [x][j]? = some u → (w.alloc (.cells #[x] e)).cell? ((⟨w.heap.size, 0, none⟩ : Addr).add j) = some u := by
  intro j u hj
  match j, hj with
  | 0, hj => simp at hj; subst hj; simp [Addr.add]
theorem one_bool (x : Bool) : ∀ u ∈ [Value.bool x], u.oneCell' = true := by
  intro u hu
  simp at hu
  subst hu
  rfl
theorem one_int (k : IntKind) (x : Int) : ∀ u ∈ [Value.int k x], u.oneCell' = true := by
  intro u hu
  simp at hu
  subst hu
  rfl
theorem gather_step {w wr w1 : World} {v v' : Value} {bs : List Nat} {k : Nat} {t : Bool} {o : Obj} (h : Gather w wr v bs k) (ht : t = (bs.getD (k / 8) 0).testBit (k % 8)) (hown : w1.ownsRow w.heap.size 4 1 v' (k + 1) (bls (ub bs k) ++ [.bool t])) (hg : (wr.alloc o).grownBy w1 v.ownBlock) : Gather w w1 v' bs (k + 1) := by
  obtain ⟨h1, h2⟩ := h
  have hs := h2.size
  refine ⟨?_, (h2.alloc (by omega) o).grown hg (by simp; omega) (fun g hg' => (h1.lt g hg').1)⟩
  rw [ub_succ, ← ht, bls_app]
  exact hown
set_option maxHeartbeats 1600000 in
theorem rbits_at (b off n cap : Nat) (bs : List Nat) (z : Int) (w : World) (hl : n = bs.length) (hlies : Lies w b off (u8s bs)) :
    Calls Try.prog 30 #[.slice (some ⟨b, off, none⟩) n cap, .int .i64 z] w fun e w' => ∃ v', e = .returned v' ∧ w'.ownsRow w.heap.size 4 1 v' (cut z) (bls (ub bs (cut z))) ∧ Below w.heap.size w w' := by
  obtain ⟨i0, hi, hz0, hz1, hz2⟩ := info_parts Try.infoBool
  have HN : Hid (n = bs.length) := hl
  have HL : Hid (Lies w b off (u8s bs)) := hlies
  obtain ⟨m, hm⟩ : ∃ m, m = cut z := ⟨_, rfl⟩
  have hmz : min (max z 0) 2000 = (m : Int) := by rw [hm]; unfold cut; omega
  have hm2 : m ≤ 2000 := by omega
  rw [← hm]
  clear hl hlies hm
  go_enter Try.func30, Try.ntmps30
  go_wp2
  go_loopw [5, 6] (fun v i wr => ∃ k : Nat, k ≤ m ∧ i = .int .i64 k ∧ Gather w wr v bs k) (fun _ i _ => m - (intOf i).toNat)
  case atStart => exact ⟨0, by omega, rfl, World.ownsRow_nil .., Below.refl _ _⟩
  case round =>
    obtain ⟨k, hk, rfl, HP⟩ := hrel
    have hsize : w.heap.size ≤ wr.heap.size := HP.2.size
    by_cases hkm : k < m
    · obtain ⟨j, hj⟩ : ∃ j, j = k / 8 := ⟨_, rfl⟩
      obtain ⟨r, hr⟩ : ∃ r, r = k % 8 := ⟨_, rfl⟩
      obtain ⟨x, hx⟩ : ∃ x, x = bs.getD j 0 := ⟨_, rfl⟩
      have e2 : (k : Int).tdiv 8 = (j : Int) := by rw [hj, Int.tdiv_eq_ediv_of_nonneg (by omega)]; omega
      have e3 : (k : Int).tmod 8 = (r : Int) := by rw [hr, Int.tmod_eq_emod_of_nonneg (by omega)]; omega
      have hr8 : r < 8 := by omega
      have hj' : j ≤ 2000 := by omega
      have hkz : (k : Int) < z := by omega
      by_cases hjn : j < n
      · have hjl : j < bs.length := by rw [← (show n = _ from HN)]; exact hjn
        have h0 := HL.out.u8 j hjl
        have hc : wr.cell? ⟨b, off + j, none⟩ = some (.int .u8 x) := by rw [hx, HP.2.cell (p := ⟨b, off + j, none⟩) (lt_of_cell h0)]; exact h0
        have hb8 := bit_8 x r
        have HT : Hid (x.testBit r = (bs.getD (k / 8) 0).testBit (k % 8)) := by rw [hx, hj, hr]; exact rfl
        have HP : Hid (Gather w wr u5 bs k) := HP
        clear h0 hx hj hr
        go_wp2_with (at_builtin; refine wpList_append_own _ rfl (.tmp 13) (.tmp 31) 23 rfl w.heap.size 4 i0 (.bool false) 1 1 Try.underlying23 hi hz0 hz1 hz2 rfl (by decide) _ k _ rfl (HP.out.1.alloc _) ⟨wr.heap.size, 0, none⟩ 1 1 [.bool (x.testBit r)] rfl rfl (one_cell _ _ _) (one_bool _) (by unfold maxLen; omega) (by omega) (by simp; omega) ?_; intro v' w1 hown' hgrow _)
        all_goals
          have HR : Hid (Gather w w1 v' bs (k + 1)) := gather_step HP HT hown' hgrow
          clear hown' hgrow HP
          go_wp2
          go_roundw
          all_goals first | exact ⟨k + 1, by omega, by go_num, HR⟩ | (simp [intOf]; omega)
      · have hjl : ¬ j < bs.length := by rw [← (show n = _ from HN)]; exact hjn
        have HT : Hid (false = (bs.getD (k / 8) 0).testBit (k % 8)) := show false = _ by rw [← hj, List.getD_eq_getElem?_getD, List.getElem?_eq_none (by omega)]; simp
        have HP : Hid (Gather w wr u5 bs k) := HP
        clear hx hj hr
        go_wp2_with (at_builtin; refine wpList_append_own _ rfl (.tmp 13) (.tmp 31) 23 rfl w.heap.size 4 i0 (.bool false) 1 1 Try.underlying23 hi hz0 hz1 hz2 rfl (by decide) _ k _ rfl (HP.out.1.alloc _) ⟨wr.heap.size, 0, none⟩ 1 1 [.bool false] rfl rfl (one_cell _ _ _) (one_bool _) (by unfold maxLen; omega) (by omega) (by simp; omega) ?_; intro v' w1 hown' hgrow _)
        all_goals
          have HR : Hid (Gather w w1 v' bs (k + 1)) := gather_step HP HT hown' hgrow
          clear hown' hgrow HP
          go_wp2
          go_roundw
          all_goals first | exact ⟨k + 1, by omega, by go_num, HR⟩ | (simp [intOf]; omega)
    · obtain rfl : k = m := by omega
      have HP : Hid (Gather w wr u5 bs k) := HP
      go_wp2
      all_goals first | omega | skip
      all_goals go_ret
      all_goals exact ⟨_, rfl, HP.out.1, HP.out.2⟩
set_option maxHeartbeats 1600000 in
theorem rbits_none (ao : Option Addr) (cap : Nat) (z : Int) (w : World) :
    Calls Try.prog 30 #[.slice ao 0 cap, .int .i64 z] w fun e w' => ∃ v', e = .returned v' ∧ w'.ownsRow w.heap.size 4 1 v' (cut z) (bls (ub [] (cut z))) ∧ Below w.heap.size w w' := by
  obtain ⟨i0, hi, hz0, hz1, hz2⟩ := info_parts Try.infoBool
  obtain ⟨m, hm⟩ : ∃ m, m = cut z := ⟨_, rfl⟩
  have hmz : min (max z 0) 2000 = (m : Int) := by rw [hm]; unfold cut; omega
  have hm2 : m ≤ 2000 := by omega
  rw [← hm]
  clear hm
  go_enter Try.func30, Try.ntmps30
  go_wp2
  go_loopw [5, 6] (fun v i wr => ∃ k : Nat, k ≤ m ∧ i = .int .i64 k ∧ Gather w wr v [] k) (fun _ i _ => m - (intOf i).toNat)
  case atStart => exact ⟨0, by omega, rfl, World.ownsRow_nil .., Below.refl _ _⟩
  case round =>
    obtain ⟨k, hk, rfl, HP⟩ := hrel
    have hsize : w.heap.size ≤ wr.heap.size := HP.2.size
    by_cases hkm : k < m
    · obtain ⟨j, hj⟩ : ∃ j, j = k / 8 := ⟨_, rfl⟩
      have e2 : (k : Int).tdiv 8 = (j : Int) := by rw [hj, Int.tdiv_eq_ediv_of_nonneg (by omega)]; omega
      have hj' : j ≤ 2000 := by omega
      have hkz : (k : Int) < z := by omega
      have HT : Hid (false = (([] : List Nat).getD (k / 8) 0).testBit (k % 8)) := show false = _ by simp
      have HP : Hid (Gather w wr u5 [] k) := HP
      clear hj
      go_wp2_with (at_builtin; refine wpList_append_own _ rfl (.tmp 13) (.tmp 31) 23 rfl w.heap.size 4 i0 (.bool false) 1 1 Try.underlying23 hi hz0 hz1 hz2 rfl (by decide) _ k _ rfl (HP.out.1.alloc _) ⟨wr.heap.size, 0, none⟩ 1 1 [.bool false] rfl rfl (one_cell _ _ _) (one_bool _) (by unfold maxLen; omega) (by omega) (by simp; omega) ?_; intro v' w1 hown' hgrow _)
      all_goals
        have HR : Hid (Gather w w1 v' [] (k + 1)) := gather_step HP HT hown' hgrow
        clear hown' hgrow HP
        go_wp2
        go_roundw
        all_goals first | exact ⟨k + 1, by omega, by go_num, HR⟩ | (simp [intOf]; omega)
    · obtain rfl : k = m := by omega
      have HP : Hid (Gather w wr u5 [] k) := HP
      go_wp2
      all_goals first | omega | skip
      all_goals go_ret
      all_goals exact ⟨_, rfl, HP.out.1, HP.out.2⟩
theorem rbits_c {v : Value} {bs : List Nat} {w : World} (z : Int) (h : Sl w v (u8s bs)) :
    Calls Try.prog 30 #[v, .int .i64 z] w fun e w' => ∃ v', e = .returned v' ∧ w'.ownsRow w.heap.size 4 1 v' (cut z) (bls (ub bs (cut z))) ∧ Below w.heap.size w w' := by
  rcases h with ⟨h, ao, cap, rfl, _⟩ | ⟨b, off, cap, rfl, _, hc⟩
  · obtain rfl := u8s_nil h
    exact rbits_none ao cap z w
  · rw [u8s_len]
    exact rbits_at b off _ cap bs z w rfl hc
end Go.Proofs.Ytehbbkdiekgpbaa
