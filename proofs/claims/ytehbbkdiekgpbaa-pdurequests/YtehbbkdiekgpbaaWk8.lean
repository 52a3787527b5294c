/- The walks: lists held against one another; copies. -/
import Derived.Test.YtehbbkdiekgpbaaWk7
import Derived.Laws.BytesArg
namespace Go.Proofs.Ytehbbkdiekgpbaa
open Go.RowKit
open Pdu
def ints (bs : List Nat) : List Int := bs.map fun (x : Nat) => (x : Int)
theorem str_none (a : Addr) (c : Nat) (w : World) : (convert 29 9 (.slice (some a) 0 c)).run Try.prog w = .ok (.string (strOfNums [])) w := by
  rw [run_convert_bytes_string w 29 9 5 _ 0 c Try.underlying29 Try.underlying5 Try.underlying9]
  have hl : (loadCells a 0).run Try.prog w = .ok (([] : List Int).map (Value.int .u8)).toArray w := rfl
  rw [run_bytesToString w _ 0 c [] hl]
  rfl
theorem str_c {v : Value} {bs : List Nat} {w : World} (h : Sl w v (u8s bs)) : (convert 29 9 v).run Try.prog w = .ok (.string (strOfNums (ints bs))) w := by
  rcases h with ⟨h, ao, cap, rfl, h0⟩ | ⟨c, off, cap, rfl, _, hc⟩
  · obtain rfl := u8s_nil h
    match ao with
    | none => exact run_convert_bytes_nil w 29 5 Try.underlying29 Try.underlying5 0 cap 9 Try.underlying9
    | some a => exact str_none a cap w
  · rw [u8s_len]
    refine run_convert_bytes_arg w 29 5 Try.underlying29 Try.underlying5 c off bs.length cap (ints bs) (by simp [ints]) (fun i hi => ?_) 9 Try.underlying9
    rw [hc.u8 i hi]
    simp [ints, List.getD, List.getElem?_eq_getElem hi]
theorem str_eq {xs ys : List Nat} (ha : Bytes xs) (hb : Bytes ys) : ((strOfNums (ints xs)).toList == (strOfNums (ints ys)).toList) = decide (xs = ys) := by
  have h : ∀ zs : List Nat, Bytes zs → (zs.map fun x => UInt8.ofNat x).map UInt8.toNat = zs := by
    intro zs hz
    rw [List.map_map]
    conv => rhs; rw [← List.map_id zs]
    apply List.map_congr_left
    intro x hx
    have := hz x hx
    simp [UInt8.toNat_ofNat']
    omega
  have e : ∀ zs : List Nat, (strOfNums (ints zs)).toList = zs.map fun x => UInt8.ofNat x := by
    intro zs
    rw [ByteArray.toList_eq, strOfNums_data]
    simp [ints]
  rw [e, e]
  by_cases hxy : xs = ys
  · subst hxy; simp
  · rw [decide_eq_false hxy, beq_eq_false_iff_ne]
    intro h'
    apply hxy
    rw [← h xs ha, ← h ys hb, h']
theorem take_same {α : Type} {xs ys : List α} {k : Nat} {d : α} (hx : k < xs.length) (hy : k < ys.length) (h : xs.take k = ys.take k) (e : xs.getD k d = ys.getD k d) : xs.take (k + 1) = ys.take (k + 1) := by
  rw [List.take_add_one, List.take_add_one, h]
  simp only [List.getD_eq_getElem?_getD, List.getElem?_eq_getElem hx, List.getElem?_eq_getElem hy, Option.getD_some] at e ⊢
  rw [e]
set_option maxHeartbeats 1600000 in
theorem bytes_c {v u : Value} {xs ys : List Nat} {w : World} (h : Sl w v (u8s xs)) (k : Sl w u (u8s ys)) (ha : Bytes xs) (hb : Bytes ys) : Calls Try.prog 13 #[v, u] w fun e w' => e = .returned (.bool (decide (xs = ys))) ∧ w' = w := by
  have h1 := str_c h
  have h2 := str_c k
  have h3 := str_eq ha hb
  clear h k
  go_enter Try.func13, Try.ntmps13
  go_wp2
  go_ret
  exact ⟨rfl, rfl⟩
set_option maxHeartbeats 1600000 in
theorem rsame_c {v u : Value} {xs ys : List Nat} {w : World} (h : Sl w v (u8s xs)) (k : Sl w u (u8s ys)) (ha : Bytes xs) (hb : Bytes ys) : Calls Try.prog 46 #[v, u] w fun e w' => e = .returned (.bool (decide (xs = ys))) ∧ w' = w := by
  have h1 := str_c h
  have h2 := str_c k
  have h3 := str_eq ha hb
  clear h k
  go_enter Try.func46, Try.ntmps46
  go_wp2
  go_ret
  exact ⟨rfl, rfl⟩
set_option maxHeartbeats 1600000 in
theorem equal_c {v u : Value} {xs ys : List Nat} {w : World} (h : Sl w v (u8s xs)) (k : Sl w u (u8s ys)) (ha : Bytes xs) (hb : Bytes ys) : Calls Try.prog 58 #[v, u] w fun e w' => e = .returned (.bool (decide (xs = ys))) ∧ w' = w := by
  have h1 := str_c h
  have h2 := str_c k
  have h3 := str_eq ha hb
  clear h k
  go_enter Try.func58, Try.ntmps58
  go_wp2
  go_ret
  exact ⟨rfl, rfl⟩
set_option maxHeartbeats 1600000 in
theorem hbits_at (b off b' off' n cap cap' : Nat) (xs ys : List Bool) (w : World) (hx : n = xs.length) (hy : n = ys.length) (hm : n ≤ 9223372036854775807) (lx : Lies w b off (bls xs)) (ly : Lies w b' off' (bls ys)) :
    Calls Try.prog 26 #[.slice (some ⟨b, off, none⟩) n cap, .slice (some ⟨b', off', none⟩) n cap'] w fun e w' => e = .returned (.bool (decide (xs = ys))) ∧ ∃ m, w' = w.drewN m := by
  have HX : Hid (n = xs.length) := hx
  have HY : Hid (n = ys.length) := hy
  have LX : Hid (Lies w b off (bls xs)) := lx
  have LY : Hid (Lies w b' off' (bls ys)) := ly
  clear hx hy lx ly
  go_enter Try.func26, Try.ntmps26
  go_wp2
  go_loopw [5] (fun i wr => ∃ k : Nat, k ≤ n ∧ i = .int .i64 k ∧ xs.take k = ys.take k ∧ ∃ d, wr = w.drewN d) (fun i _ => n - (intOf i).toNat)
  case atStart => exact ⟨0, by omega, rfl, by simp, 0, rfl⟩
  case round =>
    obtain ⟨k, hk, rfl, HT, d, rfl⟩ := hrel
    have HT : Hid (xs.take k = ys.take k) := HT
    by_cases hkn : k < n
    · obtain ⟨x, ex⟩ : ∃ x, x = xs.getD k false := ⟨_, rfl⟩
      obtain ⟨y, ey⟩ : ∃ y, y = ys.getD k false := ⟨_, rfl⟩
      have hcx : w.cell? ⟨b, off + k, none⟩ = some (.bool x) := by rw [ex]; exact LX.out.bl k (by rw [← (show n = _ from HX)]; exact hkn)
      have hcy : w.cell? ⟨b', off' + k, none⟩ = some (.bool y) := by rw [ey]; exact LY.out.bl k (by rw [← (show n = _ from HY)]; exact hkn)
      have EX : Hid (x = xs.getD k false) := ex
      have EY : Hid (y = ys.getD k false) := ey
      clear ex ey
      by_cases hxy : x = y
      · subst hxy
        go_wp2
        go_quiet (fail)
        go_wp2
        go_roundw
        case rel => exact ⟨k + 1, by omega, by go_num, take_same (by rw [← (show n = _ from HX)]; exact hkn) (by rw [← (show n = _ from HY)]; exact hkn) HT (EX.out.symm.trans EY.out), _, rfl⟩
        case measure => simp [intOf]; omega
      · have hne : (x == y) = false := by simpa using hxy
        have hd : ¬ xs = ys := fun h => by rw [h] at EX; exact hxy (EX.out.trans EY.out.symm)
        go_wp2
        go_quiet (fail)
        go_wp2
        go_ret
        rw [decide_eq_false hd]
        exact ⟨rfl, d + nq, by simp⟩
    · obtain rfl : k = n := by omega
      go_wp2
      go_ret
      have h1 : xs = ys := by
        have := HT.out
        rw [List.take_of_length_le (Nat.le_of_eq HX.out.symm), List.take_of_length_le (Nat.le_of_eq HY.out.symm)] at this
        exact this
      rw [decide_eq_true h1]
      exact ⟨rfl, _, rfl⟩
set_option maxHeartbeats 1600000 in
theorem hregs_at (b off b' off' n cap cap' : Nat) (xs ys : List Nat) (w : World) (hx : n = xs.length) (hy : n = ys.length) (hm : n ≤ 9223372036854775807) (lx : Lies w b off (u16s xs)) (ly : Lies w b' off' (u16s ys)) :
    Calls Try.prog 40 #[.slice (some ⟨b, off, none⟩) n cap, .slice (some ⟨b', off', none⟩) n cap'] w fun e w' => e = .returned (.bool (decide (xs = ys))) ∧ ∃ m, w' = w.drewN m := by
  have HX : Hid (n = xs.length) := hx
  have HY : Hid (n = ys.length) := hy
  have LX : Hid (Lies w b off (u16s xs)) := lx
  have LY : Hid (Lies w b' off' (u16s ys)) := ly
  clear hx hy lx ly
  go_enter Try.func40, Try.ntmps40
  go_wp2
  go_loopw [5] (fun i wr => ∃ k : Nat, k ≤ n ∧ i = .int .i64 k ∧ xs.take k = ys.take k ∧ ∃ d, wr = w.drewN d) (fun i _ => n - (intOf i).toNat)
  case atStart => exact ⟨0, by omega, rfl, by simp, 0, rfl⟩
  case round =>
    obtain ⟨k, hk, rfl, HT, d, rfl⟩ := hrel
    have HT : Hid (xs.take k = ys.take k) := HT
    by_cases hkn : k < n
    · obtain ⟨x, ex⟩ : ∃ x, x = xs.getD k 0 := ⟨_, rfl⟩
      obtain ⟨y, ey⟩ : ∃ y, y = ys.getD k 0 := ⟨_, rfl⟩
      have hcx : w.cell? ⟨b, off + k, none⟩ = some (.int .u16 x) := by rw [ex]; exact LX.out.u16 k (by rw [← (show n = _ from HX)]; exact hkn)
      have hcy : w.cell? ⟨b', off' + k, none⟩ = some (.int .u16 y) := by rw [ey]; exact LY.out.u16 k (by rw [← (show n = _ from HY)]; exact hkn)
      have EX : Hid (x = xs.getD k 0) := ex
      have EY : Hid (y = ys.getD k 0) := ey
      clear ex ey
      by_cases hxy : x = y
      · subst hxy
        go_wp2
        go_quiet (fail)
        go_wp2
        go_roundw
        case rel => exact ⟨k + 1, by omega, by go_num, take_same (by rw [← (show n = _ from HX)]; exact hkn) (by rw [← (show n = _ from HY)]; exact hkn) HT (EX.out.symm.trans EY.out), _, rfl⟩
        case measure => simp [intOf]; omega
      · have hne : ((x : Int) == (y : Int)) = false := by rw [beq_eq_false_iff_ne]; omega
        have hd : ¬ xs = ys := fun h => by rw [h] at EX; exact hxy (EX.out.trans EY.out.symm)
        go_wp2
        go_quiet (fail)
        go_wp2
        go_ret
        rw [decide_eq_false hd]
        exact ⟨rfl, d + nq, by simp⟩
    · obtain rfl : k = n := by omega
      go_wp2
      go_ret
      have h1 : xs = ys := by
        have := HT.out
        rw [List.take_of_length_le (Nat.le_of_eq HX.out.symm), List.take_of_length_le (Nat.le_of_eq HY.out.symm)] at this
        exact this
      rw [decide_eq_true h1]
      exact ⟨rfl, _, rfl⟩
set_option maxHeartbeats 1600000 in
theorem hbits_none (ao bo : Option Addr) (cap cap' : Nat) (w : World) : Calls Try.prog 26 #[.slice ao 0 cap, .slice bo 0 cap'] w fun e w' => e = .returned (.bool true) ∧ w' = w := by
  go_enter Try.func26, Try.ntmps26
  go_wp2
  go_loop [5] (fun i => i = .int .i64 0) (fun _ => 0)
  case atStart => rfl
  case round =>
    obtain rfl := hrel
    go_wp2
    go_ret
    exact ⟨rfl, rfl⟩
set_option maxHeartbeats 1600000 in
theorem hbits_other (ao bo : Option Addr) (n n' cap cap' : Nat) (w : World) (h : n ≠ n') : Calls Try.prog 26 #[.slice ao n cap, .slice bo n' cap'] w fun e w' => e = .returned (.bool false) ∧ w' = w := by
  have h' : ((n : Int) == (n' : Int)) = false := by rw [beq_eq_false_iff_ne]; omega
  go_enter Try.func26, Try.ntmps26
  go_wp2
  go_ret
  exact ⟨rfl, rfl⟩
theorem hbits_c {v u : Value} {xs ys : List Bool} {w : World} (h : Sl w v (bls xs)) (k : Sl w u (bls ys)) (hm : xs.length ≤ 1000000) : Calls Try.prog 26 #[v, u] w fun e w' => e = .returned (.bool (decide (xs = ys))) ∧ ∃ m, w' = w.drewN m := by
  by_cases hl : xs.length = ys.length
  · rcases h with ⟨h, ao, cap, rfl, _⟩ | ⟨b, off, cap, rfl, _, hc⟩
    · have hx : xs = [] := List.length_eq_zero_iff.1 (by rw [← bls_len, h]; rfl)
      subst hx
      have hy : ys = [] := List.length_eq_zero_iff.1 hl.symm
      subst hy
      obtain ⟨bo, cap', rfl⟩ := k.shape
      refine (hbits_none ao bo cap cap' w).mono ?_
      rintro e w' ⟨rfl, rfl⟩
      exact ⟨rfl, 0, rfl⟩
    · rcases k with ⟨k, bo, cap', rfl, _⟩ | ⟨b', off', cap', rfl, _, hc'⟩
      · have hy : ys = [] := List.length_eq_zero_iff.1 (by rw [← bls_len, k]; rfl)
        subst hy
        have hx : xs = [] := List.length_eq_zero_iff.1 hl
        subst hx
        refine (hbits_none _ bo cap cap' w).mono ?_
        rintro e w' ⟨rfl, rfl⟩
        exact ⟨rfl, 0, rfl⟩
      · rw [bls_len, bls_len, ← hl]
        exact hbits_at b off b' off' xs.length cap cap' xs ys w rfl hl (by omega) hc hc'
  · obtain ⟨ao, cap, rfl⟩ := h.shape
    obtain ⟨bo, cap', rfl⟩ := k.shape
    rw [bls_len, bls_len]
    refine (hbits_other ao bo _ _ cap cap' w hl).mono ?_
    rintro e w' ⟨rfl, rfl⟩
    rw [decide_eq_false (fun h => hl (by rw [h]))]
    exact ⟨rfl, 0, rfl⟩
set_option maxHeartbeats 1600000 in
theorem hregs_none (ao bo : Option Addr) (cap cap' : Nat) (w : World) : Calls Try.prog 40 #[.slice ao 0 cap, .slice bo 0 cap'] w fun e w' => e = .returned (.bool true) ∧ w' = w := by
  go_enter Try.func40, Try.ntmps40
  go_wp2
  go_loop [5] (fun i => i = .int .i64 0) (fun _ => 0)
  case atStart => rfl
  case round =>
    obtain rfl := hrel
    go_wp2
    go_ret
    exact ⟨rfl, rfl⟩
set_option maxHeartbeats 1600000 in
theorem hregs_other (ao bo : Option Addr) (n n' cap cap' : Nat) (w : World) (h : n ≠ n') : Calls Try.prog 40 #[.slice ao n cap, .slice bo n' cap'] w fun e w' => e = .returned (.bool false) ∧ w' = w := by
  have h' : ((n : Int) == (n' : Int)) = false := by rw [beq_eq_false_iff_ne]; omega
  go_enter Try.func40, Try.ntmps40
  go_wp2
  go_ret
  exact ⟨rfl, rfl⟩
theorem hregs_c {v u : Value} {xs ys : List Nat} {w : World} (h : Sl w v (u16s xs)) (k : Sl w u (u16s ys)) (hm : xs.length ≤ 1000000) : Calls Try.prog 40 #[v, u] w fun e w' => e = .returned (.bool (decide (xs = ys))) ∧ ∃ m, w' = w.drewN m := by
  by_cases hl : xs.length = ys.length
  · rcases h with ⟨h, ao, cap, rfl, _⟩ | ⟨b, off, cap, rfl, _, hc⟩
    · have hx : xs = [] := List.length_eq_zero_iff.1 (by rw [← u16s_len, h]; rfl)
      subst hx
      have hy : ys = [] := List.length_eq_zero_iff.1 hl.symm
      subst hy
      obtain ⟨bo, cap', rfl⟩ := k.shape
      refine (hregs_none ao bo cap cap' w).mono ?_
      rintro e w' ⟨rfl, rfl⟩
      exact ⟨rfl, 0, rfl⟩
    · rcases k with ⟨k, bo, cap', rfl, _⟩ | ⟨b', off', cap', rfl, _, hc'⟩
      · have hy : ys = [] := List.length_eq_zero_iff.1 (by rw [← u16s_len, k]; rfl)
        subst hy
        have hx : xs = [] := List.length_eq_zero_iff.1 hl
        subst hx
        refine (hregs_none _ bo cap cap' w).mono ?_
        rintro e w' ⟨rfl, rfl⟩
        exact ⟨rfl, 0, rfl⟩
      · rw [u16s_len, u16s_len, ← hl]
        exact hregs_at b off b' off' xs.length cap cap' xs ys w rfl hl (by omega) hc hc'
  · obtain ⟨ao, cap, rfl⟩ := h.shape
    obtain ⟨bo, cap', rfl⟩ := k.shape
    rw [u16s_len, u16s_len]
    refine (hregs_other ao bo _ _ cap cap' w hl).mono ?_
    rintro e w' ⟨rfl, rfl⟩
    rw [decide_eq_false (fun h => hl (by rw [h]))]
    exact ⟨rfl, 0, rfl⟩
end Go.Proofs.Ytehbbkdiekgpbaa
