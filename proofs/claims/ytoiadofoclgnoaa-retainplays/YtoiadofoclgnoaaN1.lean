/- The law's own helpers: numbers, Nums, store (stage 9). -/
import Derived.Test.YtoiadofoclgnoaaJ7
import Derived.Test.YtoiadofoclgnoaaH1
namespace Go.Proofs.Ytoiadofoclgnoaa
open Go.RowKit
open Pdu
def nx0 (seed : Int) : Int := IntKind.u64.wrap (IntKind.u64.wrap (IntKind.u64.wrap seed * 11400714819323198485) + 1)
def nxs (x : Int) : Int := IntKind.u64.wrap (IntKind.u64.wrap (x * 6364136223846793005) + 1442695040888963407)
def nxk (seed : Int) : Nat → Int
  | 0 => nx0 seed
  | k + 1 => nxs (nxk seed k)
/-- The numbers that a seed begins. -/
def nel (seed : Int) (k : Nat) : Int := wrap64 (nxk seed (k + 1) / 2 ^ (k % 50))
def nbs (seed : Int) (n : Nat) : List Int := (List.range n).map (nel seed)
theorem nbs_len (seed : Int) (n : Nat) : (nbs seed n).length = n := by simp [nbs]
theorem nbs_step (seed : Int) (n : Nat) : nbs seed (n + 1) = nbs seed n ++ [nel seed n] := by simp [nbs, List.range_succ]
theorem nxk_ok (seed : Int) (k : Nat) : 0 ≤ nxk seed k ∧ nxk seed k < 18446744073709551616 := by
  cases k with
  | zero => unfold nxk nx0; rw [IntKind.wrap_u64]; omega
  | succ k => unfold nxk nxs; rw [IntKind.wrap_u64]; omega
theorem nel_ok (seed : Int) (k : Nat) : -9223372036854775808 ≤ nel seed k ∧ nel seed k ≤ 9223372036854775807 := by
  unfold nel wrap64
  omega
theorem nbs_ints (seed : Int) (n : Nat) : Ints (nbs seed n) := by
  intro x hx
  simp only [nbs, List.mem_map] at hx
  obtain ⟨k, _, rfl⟩ := hx
  exact nel_ok seed k
set_option maxHeartbeats 1600000 in
theorem numbers_c (seed : Int) (n : Nat) (w : World) (hn : n ≤ 100000) : Calls Try.prog 14 #[.int .i64 seed, .int .i64 (n : Int)] w fun e w' => ∃ v, e = .returned v ∧ w'.ownsRow w.heap.size 2 1 v n (i64s (nbs seed n)) ∧ Below w.heap.size w w' := by
  obtain ⟨i0, hi, hz0, hz1, hz2⟩ := info_parts Try.info64
  go_enter Try.func14, Try.ntmps14
  go_wp2
  go_loopw [5, 6, 7] (fun v x i wr => ∃ k : Nat, k ≤ n ∧ i = .int .i64 k ∧ x = .int .u64 (nxk seed k) ∧ wr.ownsRow w.heap.size 2 1 v k (i64s (nbs seed k)) ∧ Below w.heap.size w wr) (fun _ _ i _ => n - (intOf i).toNat)
  case atStart =>
    exact ⟨0, by omega, rfl, rfl, World.ownsRow_nil .., Below.refl _ _⟩
  case round =>
    obtain ⟨k, hk, rfl, rfl, own, hB⟩ := hrel
    have OW := hid_as own
    have KB := hid_as hB
    obtain ⟨ao, c, rfl⟩ := (own_sl own).shape
    rw [i64s_len, nbs_len] at *
    have hx := nxk_ok seed k
    have hx2 := nxk_ok seed (k + 1)
    have e1 : nxk seed (k + 1) = nxs (nxk seed k) := rfl
    clear own hB
    by_cases hkn : k < n
    · have hk2 : (k : Int) < (n : Int) := by omega
      generalize nxk seed k = x at *
      go_upto_region 7 with fail
      generalize hy : IntKind.u64.wrap (IntKind.u64.wrap (x * 6364136223846793005) + 1442695040888963407) = y
      have ey : nxk seed (k + 1) = y := by rw [e1, ← hy]; rfl
      rw [ey] at hx2
      have EY := hid_as ey
      obtain ⟨r, hr⟩ : ∃ r, r = k % 50 := ⟨_, rfl⟩
      have hr1 : (k : Int) % 50 = (r : Int) := by omega
      have hr2 : r < 50 := by omega
      have hr3 : (k : Int).tmod 50 = (r : Int) := by rw [Int.tmod_eq_emod_of_nonneg (by omega)]; exact hr1
      have HR := hid_as hr
      clear ey e1 hy hr hx
      go_wp2_with (at_builtin; refine wpList_append_own _ rfl _ _ 29 rfl w.heap.size 2 i0 (.int .i64 0) 1 8 Try.underlying29 hi hz0 hz1 hz2 rfl (by decide) _ k _ rfl (OW.out.alloc _) ⟨wr.heap.size, 0, none⟩ 1 1 [.int .i64 _] rfl rfl (one_cell _ _ _) (one_int _ _) (by unfold maxLen; omega) (by omega) (by have := KB.out.size; simp; omega) ?_; intro v' w1 hown hgrow _)
      have OW2 := hid_as hown
      have KB2 : Hid (Below w.heap.size w w1) := (KB.out.alloc KB.out.size _).grown hgrow (by have := KB.out.size; simp; omega) (fun g hg' => (OW.out.lt g hg').1)
      clear hown hgrow
      go_roundw
      case rel =>
        refine ⟨k + 1, by omega, by go_num, by rw [EY.out], ?_, KB2.out⟩
        rw [nbs_step, i64s_app]
        have e : nel seed k = wrap64 (y / 2 ^ r) := by
          show wrap64 (nxk seed (k + 1) / 2 ^ (k % 50)) = _
          rw [EY.out, ← HR.out]
        rw [e]
        exact OW2.out
      case measure => simp [intOf]; omega
    · obtain rfl : k = n := by omega
      go_wp2
      go_ret
      exact ⟨_, rfl, OW.out, KB.out⟩
theorem sl64_at {w : World} {ao : Option Addr} {n c k : Nat} {l : List Int} (h : Sl w (.slice ao n c) (i64s l)) (hk : k < l.length) : ∃ b off, ao = some ⟨b, off, none⟩ ∧ w.cell? ⟨b, off + k, none⟩ = some (.int .i64 (l.getD k 0)) := by
  rcases h with ⟨h0, _⟩ | ⟨b, off, cap, e, _, hl⟩
  · have := congrArg List.length h0
    rw [i64s_len] at this
    simp at this
    simp [this] at hk
  · simp only [Value.slice.injEq] at e
    exact ⟨b, off, e.1, hl k _ (i64s_at l k hk)⟩
theorem take_eq_succ {a b : List Int} {k : Nat} (h : a.take k = b.take k) (ha : k < a.length) (hb : k < b.length) (e : a.getD k 0 = b.getD k 0) : a.take (k + 1) = b.take (k + 1) := by
  rw [List.getD_eq_getElem?_getD, List.getD_eq_getElem?_getD, List.getElem?_eq_getElem ha, List.getElem?_eq_getElem hb] at e
  rw [List.take_add_one, List.take_add_one, h, List.getElem?_eq_getElem ha, List.getElem?_eq_getElem hb]
  simp only [Option.getD_some] at e
  rw [e]
set_option maxHeartbeats 800000 in
theorem nums_at {w : World} {a b : List Int} {ao bo : Option Addr} {n m c d : Nat} (ha : Sl w (.slice ao n c) (i64s a)) (hb : Sl w (.slice bo m d) (i64s b)) (hn : n = a.length) (hm : m = b.length) (h9 : n ≤ 1000000) :
    Calls Try.prog 20 #[.slice ao n c, .slice bo m d] w fun e w' => e = .returned (.bool (decide (a = b))) ∧ Same w w' := by
  have HA := hid_as ha
  have HB := hid_as hb
  have HN := hid_as hn
  have HM := hid_as hm
  clear ha hb hn hm
  by_cases hnm : n = m
  · subst hnm
    go_enter Try.func20, Try.ntmps20
    go_wp2
    go_loopw [5] (fun i wr => ∃ k : Nat, k ≤ n ∧ i = .int .i64 k ∧ a.take k = b.take k ∧ Same w wr) (fun i _ => n - (intOf i).toNat)
    case atStart => exact ⟨0, by omega, rfl, rfl, Same.refl _⟩
    case round =>
      obtain ⟨k, hk, rfl, ht, hS⟩ := hrel
      have HT := hid_as ht
      have KS := hid_as hS
      clear ht hS
      by_cases hkn : k < n
      · have hk2 : (k : Int) < (n : Int) := by omega
        obtain ⟨b1, f1, rfl, c1⟩ := sl64_at (HA.out.same KS.out) (k := k) (by rw [← HN.out]; exact hkn)
        obtain ⟨b2, f2, rfl, c2⟩ := sl64_at (HB.out.same KS.out) (k := k) (by rw [← HM.out]; exact hkn)
        obtain ⟨x, hx⟩ : ∃ x, x = a.getD k 0 := ⟨_, rfl⟩
        obtain ⟨y, hy⟩ : ∃ y, y = b.getD k 0 := ⟨_, rfl⟩
        rw [← hx] at c1
        rw [← hy] at c2
        have HX := hid_as hx
        have HY := hid_as hy
        clear hx hy
        by_cases he : x = y
        · have TE := hid_as (take_eq_succ HT.out (by rw [← HN.out]; exact hkn) (by rw [← HM.out]; exact hkn) (by rw [← HX.out, ← HY.out]; exact he))
          subst he
          go_upto_region 6 with fail
          go_quiet (fail)
          go_wp2
          go_roundw
          case rel => exact ⟨k + 1, by omega, by go_num, TE.out, KS.out.trans (Same.drewN _ _)⟩
          case measure => simp [intOf]; omega
        · have NE : Hid (decide (a = b) = false) := decide_eq_false (fun e => he (by rw [HX.out, HY.out, e]))
          have hb1 : (x == y) = false := by rw [beq_eq_false_iff_ne]; exact he
          have hb2 : (x != y) = true := by rw [bne_iff_ne]; exact he
          go_upto_region 6 with fail
          go_quiet (fail)
          go_wp2
          go_ret
          exact ⟨congrArg (fun t => Ending.returned (Value.bool t)) NE.out.symm, KS.out.trans (Same.drewN _ _)⟩
      · obtain rfl : k = n := by omega
        have EQ : Hid (decide (a = b) = true) := decide_eq_true (by
          have := HT.out
          rw [List.take_of_length_le (by rw [← HN.out]; exact Nat.le_refl _), List.take_of_length_le (by rw [← HM.out]; exact Nat.le_refl _)] at this
          exact this)
        go_wp2
        go_ret
        exact ⟨congrArg (fun t => Ending.returned (Value.bool t)) EQ.out.symm, KS.out⟩
  · have NE : Hid (decide (a = b) = false) := decide_eq_false (fun e => hnm (by rw [HN.out, HM.out, e]))
    have hb1 : ((n : Int) == (m : Int)) = false := by rw [beq_eq_false_iff_ne]; omega
    have hb2 : ((n : Int) != (m : Int)) = true := by rw [bne_iff_ne]; omega
    clear HA HB
    go_enter Try.func20, Try.ntmps20
    go_wp2
    go_ret
    exact ⟨congrArg (fun t => Ending.returned (Value.bool t)) NE.out.symm, Same.refl _⟩
theorem nums_c {w : World} {a b : List Int} {va vb : Value} (ha : Sl w va (i64s a)) (hb : Sl w vb (i64s b)) (h9 : a.length ≤ 1000000) :
    Calls Try.prog 20 #[va, vb] w fun e w' => e = .returned (.bool (decide (a = b))) ∧ Same w w' := by
  obtain ⟨ao, c, rfl⟩ := ha.shape
  obtain ⟨bo, d, rfl⟩ := hb.shape
  have e1 := i64s_len a
  have e2 := i64s_len b
  rw [e1] at ha ⊢
  rw [e2] at hb ⊢
  exact nums_at ha hb rfl rfl h9
set_option maxHeartbeats 400000 in
theorem store_c (size : Int) (w : World) : Calls Try.prog 10 #[.int .i64 size] w fun e w' => ∃ z : Nat, 128 ≤ z ∧ z < 428 ∧ e = .returned (.pointer (some ⟨w.heap.size + 1, 0, none⟩)) ∧ St w' (w.heap.size + 1) w.heap.size (SS.new 8 z) ∧ Below w.heap.size w w' := by
  have P := hid_as (place_c size 300 (by decide) (by decide) w)
  have NB := hid_as (fun (p : Nat) (hp : p < 300) => newb_c 8 (128 + p) 8 (128 + (p : Int)) w (by omega) (by omega))
  go_enter Try.func10, Try.ntmps10
  go_wp2_with fail
  refine P.out.mono ?_
  rintro e w1 ⟨⟨p, hp, rfl⟩, hw⟩
  subst w1
  clear P
  go_wp2_with fail
  refine (NB.out p hp).mono ?_
  rintro e w1 ⟨rfl, t, k, _⟩
  have T := hid_as t
  have K := hid_as k
  clear t k NB
  go_wp2
  go_ret
  exact ⟨128 + p, by omega, by omega, rfl, T.out, K.out⟩
end Go.Proofs.Ytoiadofoclgnoaa
