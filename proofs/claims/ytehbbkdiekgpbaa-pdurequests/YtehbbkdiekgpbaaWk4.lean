/- The walks: bits packed into bytes. -/
import Derived.Test.YtehbbkdiekgpbaaWk1
namespace Go.Proofs.Ytehbbkdiekgpbaa
open Go.RowKit
open Pdu
theorem pow_8 {r : Nat} (hr : r < 8) : 2 ^ r < 256 := Nat.pow_lt_pow_right (a := 2) (m := r) (n := 8) (by decide) hr
theorem or_8 {a b : Nat} (ha : a < 256) (hb : b < 256) : bits .or .u8 (a : Int) (b : Int) = ((a ||| b : Nat) : Int) := by
  show IntKind.u8.wrap ((BitVec.ofInt 8 (a : Int) ||| BitVec.ofInt 8 (b : Int)).toNat : Int) = _
  have h : (BitVec.ofInt 8 (a : Int) ||| BitVec.ofInt 8 (b : Int)).toNat = a ||| b := by
    rw [BitVec.toNat_or, BitVec.ofInt_natCast, BitVec.toNat_ofNat, BitVec.ofInt_natCast, BitVec.toNat_ofNat, Nat.mod_eq_of_lt ha, Nat.mod_eq_of_lt hb]
  have hlt : a ||| b < 2 ^ 8 := Nat.or_lt_two_pow ha hb
  rw [h, IntKind.wrap_u8]
  omega
theorem or_bit {x r : Nat} (hx : x < 256) (hr : r < 8) : bits .or .u8 (x : Int) (2 ^ r % 256) = ((x ||| 2 ^ r : Nat) : Int) := by
  have h := pow_8 hr
  have e : ((2 : Int) ^ r) = ((2 ^ r : Nat) : Int) := by simp
  have e2 : ((2 : Int) ^ r % 256) = ((2 ^ r : Nat) : Int) := by
    rw [e]
    generalize 2 ^ r = z at h
    omega
  rw [e2]
  exact or_8 hx h
/-- The bytes so far, in a row of the call's own. -/
def Packing (w wr : World) (g m : Nat) (l : List Bool) (k : Nat) : Prop := wr.ownsRow w.heap.size 5 1 (.slice (some ⟨g, 0, none⟩) m m) m (u8s (pk l m k)) ∧ Below w.heap.size w wr
theorem packing_off {w wr : World} {g m k : Nat} {l : List Bool} (h : Packing w wr g m l k) (hb : l.getD k false = false) : Packing w wr g m l (k + 1) := by
  refine ⟨?_, h.2⟩
  simp only [pk]
  rw [if_neg (by rw [hb]; decide)]
  exact h.1
theorem packing_on {w wr : World} {g m k j r x : Nat} {l : List Bool} (h : Packing w wr g m l k) (hb : l.getD k false = true) (hj : j = k / 8) (hr : r = k % 8) (hx : x = (pk l m k).getD j 0) :
    Packing w ((wr.setCell ⟨g, j, none⟩ (.int .u8 (bits .or .u8 (x : Int) (2 ^ r % 256)))).drew) g m l (k + 1) := by
  have hx8 : x < 256 := by rw [hx]; exact (pk_bytes l m k).at j
  rw [or_bit hx8 (by omega)]
  have own := h.1
  refine ⟨?_, (h.2.setCell (p := ⟨g, j, none⟩) (own.lt g rfl).1 _).drew⟩
  have := (own.stored j (.int .u8 ((x ||| 2 ^ r : Nat) : Int))).1.drew
  simp only [pk]
  rw [if_pos hb, u8s_set, ← hj, ← hr, ← hx]
  exact this
theorem made_u8s (n : Nat) : (madeCells (Value.cells (.int .u8 0)) (n * 1)).toList = u8s (List.replicate n 0) := by
  apply List.ext_getElem?
  intro i
  by_cases h : i < n <;> simp [madeCells, Value.cells, u8s, h, Nat.mod_one]
set_option maxHeartbeats 1600000 in
theorem pack_at (b off n cap : Nat) (l : List Bool) (w : World) (hl : n = l.length) (hsz : n ≤ 1000000) (hlies : Lies w b off (bls l)) :
    Calls Try.prog 24 #[.slice (some ⟨b, off, none⟩) n cap] w fun e w' => ∃ v', e = .returned v' ∧ v' = .slice (some ⟨w.heap.size, 0, none⟩) (packed n) (packed n) ∧ w'.ownsRow w.heap.size 5 1 v' (packed n) (u8s (pack l)) ∧ Below w.heap.size w w' := by
  obtain ⟨i0, hi, hz0, hz1, hz2⟩ := info_parts Try.infoByte
  have HN : Hid (n = l.length) := hl
  have HL : Hid (Lies w b off (bls l)) := hlies
  have hpk : packed n ≤ 1000000 := by unfold packed; omega
  obtain ⟨m, hm⟩ : ∃ m, m = packed n := ⟨_, rfl⟩
  have hm8 : n ≤ 8 * m := by rw [hm]; unfold packed; omega
  rw [← hm] at hpk
  have HM : Hid (m = packed n) := hm
  have hpc : Calls Try.prog 47 #[.int .i64 n] w fun e w' => e = .returned (.int .i64 (m : Nat)) ∧ w' = w := by rw [hm]; exact packed_c n hsz w
  clear hl hlies hm
  go_enter Try.func24, Try.ntmps24
  go_wp2_with (first | (go_at_call 47; refine hpc.mono ?_; rintro e w' ⟨rfl, hw⟩; subst w') | (at_make; refine wpList_make_full _ rfl _ _ 29 rfl w.heap.size 5 i0 (.int .u8 0) 1 Try.underlying29 hi hz0 hz1 _ _ _ _ m rfl rfl rfl rfl (by rw [hz2]; omega) (by unfold maxLen; omega) (Nat.le_refl _) ?_; intro w1 hown1 hgrow1))
  have HP : Hid (Packing w w1 w.heap.size m l 0) := ⟨by rw [made_u8s] at hown1; exact hown1, (Below.refl _ w).grown hgrow1 (Nat.le_refl _) fun k hk => by cases (show (none : Option Nat) = some k from hk)⟩
  clear hown1 hgrow1
  go_loopw [12] (fun i wr => ∃ k : Nat, k ≤ n ∧ i = .int .i64 k ∧ Packing w wr w.heap.size m l k) (fun i _ => n - (intOf i).toNat)
  case atStart => exact ⟨0, by omega, rfl, HP⟩
  case round =>
    obtain ⟨k, hk, rfl, HP⟩ := hrel
    obtain ⟨on, hon⟩ : ∃ on, on = l.getD k false := ⟨_, rfl⟩
    have hcell : k < n → wr.cell? ⟨b, off + k, none⟩ = some (.bool on) := fun h => by
      have hk' : k < l.length := by rw [← (show n = _ from HN)]; exact h
      have h0 := HL.out.bl k hk'
      rw [hon, HP.2.cell (p := ⟨b, off + k, none⟩) (lt_of_cell h0)]
      exact h0
    have HON : Hid (on = l.getD k false) := hon
    have HP : Hid (Packing w wr w.heap.size m l k) := HP
    clear hon
    go_wp2
    · have hkn : k < n := by assumption
      have hb : on = true := by assumption
      have own := HP.out.1
      obtain ⟨j, hj⟩ : ∃ j, j = k / 8 := ⟨_, rfl⟩
      obtain ⟨r, hr⟩ : ∃ r, r = k % 8 := ⟨_, rfl⟩
      obtain ⟨x, hx⟩ : ∃ x, x = (pk l m k).getD j 0 := ⟨_, rfl⟩
      have hjm : j < m := by omega
      have hx8 : x < 256 := by rw [hx]; exact (pk_bytes l m k).at j
      have hc : wr.cell? ⟨w.heap.size, j, none⟩ = some (.int .u8 x) := by rw [own.cellAt j (by omega), hx]; exact u8s_at _ j (by rw [pk_length]; exact hjm)
      have hfz : wr.frozen? ⟨w.heap.size, j, none⟩ = false := own.frozenAt j
      have e2 : (k : Int).tdiv 8 = (j : Int) := by rw [hj, Int.tdiv_eq_ediv_of_nonneg (by omega)]; omega
      have e3 : (k : Int).tmod 8 = (r : Int) := by rw [hr, Int.tmod_eq_emod_of_nonneg (by omega)]; omega
      have hr8 : r < 8 := by omega
      have HR : Hid (_) := packing_on HP (by rw [← (show on = _ from HON)]; exact hb) hj hr hx
      clear own HP hx hj hr hcell
      go_region
      go_wp2
      go_roundw
      case rel => exact ⟨k + 1, by omega, by go_num, HR⟩
      case measure => simp [intOf]; omega
    · have hb : on = false := by assumption
      go_roundw
      case rel => exact ⟨k + 1, by omega, by go_num, packing_off HP (by rw [← (show on = _ from HON)]; exact hb)⟩
      case measure => simp [intOf]; omega
    · obtain rfl : k = n := by omega
      go_ret
      refine ⟨_, rfl, congrArg (fun t => Value.slice (some ⟨w.heap.size, 0, none⟩) t t) HM.out, ?_, HP.out.2⟩
      have h1 := HP.out.1
      rw [show m = _ from HM] at h1 ⊢
      unfold pack
      rw [← (show k = _ from HN)]
      exact h1
set_option maxHeartbeats 1600000 in
theorem rpack_at (b off n cap : Nat) (l : List Bool) (w : World) (hl : n = l.length) (hsz : n ≤ 1000000) (hlies : Lies w b off (bls l)) :
    Calls Try.prog 25 #[.slice (some ⟨b, off, none⟩) n cap] w fun e w' => ∃ v', e = .returned v' ∧ v' = .slice (some ⟨w.heap.size, 0, none⟩) (packed n) (packed n) ∧ w'.ownsRow w.heap.size 5 1 v' (packed n) (u8s (pack l)) ∧ Below w.heap.size w w' := by
  obtain ⟨i0, hi, hz0, hz1, hz2⟩ := info_parts Try.infoByte
  have HN : Hid (n = l.length) := hl
  have HL : Hid (Lies w b off (bls l)) := hlies
  have hpk : packed n ≤ 1000000 := by unfold packed; omega
  obtain ⟨m, hm⟩ : ∃ m, m = packed n := ⟨_, rfl⟩
  have hm8 : n ≤ 8 * m := by rw [hm]; unfold packed; omega
  rw [← hm] at hpk
  have HM : Hid (m = packed n) := hm
  have hq : ((n : Int) + 7).tdiv 8 = (m : Int) := by rw [hm, Int.tdiv_eq_ediv_of_nonneg (by omega)]; unfold packed; omega
  clear hl hlies hm
  go_enter Try.func25, Try.ntmps25
  go_wp2_with (first | (at_make; refine wpList_make_full _ rfl _ _ 29 rfl w.heap.size 5 i0 (.int .u8 0) 1 Try.underlying29 hi hz0 hz1 _ _ _ _ m rfl rfl rfl rfl (by rw [hz2]; omega) (by unfold maxLen; omega) (Nat.le_refl _) ?_; intro w1 hown1 hgrow1))
  have HP : Hid (Packing w w1 w.heap.size m l 0) := ⟨by rw [made_u8s] at hown1; exact hown1, (Below.refl _ w).grown hgrow1 (Nat.le_refl _) fun k hk => by cases (show (none : Option Nat) = some k from hk)⟩
  clear hown1 hgrow1
  go_loopw [4] (fun i wr => ∃ k : Nat, k ≤ n ∧ i = .int .i64 k ∧ Packing w wr w.heap.size m l k) (fun i _ => n - (intOf i).toNat)
  case atStart => exact ⟨0, by omega, rfl, HP⟩
  case round =>
    obtain ⟨k, hk, rfl, HP⟩ := hrel
    obtain ⟨on, hon⟩ : ∃ on, on = l.getD k false := ⟨_, rfl⟩
    have hcell : k < n → wr.cell? ⟨b, off + k, none⟩ = some (.bool on) := fun h => by
      have hk' : k < l.length := by rw [← (show n = _ from HN)]; exact h
      have h0 := HL.out.bl k hk'
      rw [hon, HP.2.cell (p := ⟨b, off + k, none⟩) (lt_of_cell h0)]
      exact h0
    have HON : Hid (on = l.getD k false) := hon
    have HP : Hid (Packing w wr w.heap.size m l k) := HP
    clear hon
    go_wp2
    · have hkn : k < n := by assumption
      have hb : on = true := by assumption
      have own := HP.out.1
      obtain ⟨j, hj⟩ : ∃ j, j = k / 8 := ⟨_, rfl⟩
      obtain ⟨r, hr⟩ : ∃ r, r = k % 8 := ⟨_, rfl⟩
      obtain ⟨x, hx⟩ : ∃ x, x = (pk l m k).getD j 0 := ⟨_, rfl⟩
      have hjm : j < m := by omega
      have hx8 : x < 256 := by rw [hx]; exact (pk_bytes l m k).at j
      have hc : wr.cell? ⟨w.heap.size, j, none⟩ = some (.int .u8 x) := by rw [own.cellAt j (by omega), hx]; exact u8s_at _ j (by rw [pk_length]; exact hjm)
      have hfz : wr.frozen? ⟨w.heap.size, j, none⟩ = false := own.frozenAt j
      have e2 : (k : Int).tdiv 8 = (j : Int) := by rw [hj, Int.tdiv_eq_ediv_of_nonneg (by omega)]; omega
      have e3 : (k : Int).tmod 8 = (r : Int) := by rw [hr, Int.tmod_eq_emod_of_nonneg (by omega)]; omega
      have hr8 : r < 8 := by omega
      have HR : Hid (_) := packing_on HP (by rw [← (show on = _ from HON)]; exact hb) hj hr hx
      clear own HP hx hj hr hcell
      go_region
      go_wp2
      go_roundw
      case rel => exact ⟨k + 1, by omega, by go_num, HR⟩
      case measure => simp [intOf]; omega
    · have hb : on = false := by assumption
      go_roundw
      case rel => exact ⟨k + 1, by omega, by go_num, packing_off HP (by rw [← (show on = _ from HON)]; exact hb)⟩
      case measure => simp [intOf]; omega
    · obtain rfl : k = n := by omega
      go_ret
      refine ⟨_, rfl, congrArg (fun t => Value.slice (some ⟨w.heap.size, 0, none⟩) t t) HM.out, ?_, HP.out.2⟩
      have h1 := HP.out.1
      rw [show m = _ from HM] at h1 ⊢
      unfold pack
      rw [← (show k = _ from HN)]
      exact h1
set_option maxHeartbeats 1600000 in
theorem pack_none (ao : Option Addr) (cap : Nat) (w : World) : Calls Try.prog 24 #[.slice ao 0 cap] w fun e w' => ∃ v', e = .returned v' ∧ v' = .slice (some ⟨w.heap.size, 0, none⟩) 0 0 ∧ w'.ownsRow w.heap.size 5 1 v' 0 (u8s (pack [])) ∧ Below w.heap.size w w' := by
  obtain ⟨i0, hi, hz0, hz1, hz2⟩ := info_parts Try.infoByte
  have hpc : Calls Try.prog 47 #[.int .i64 0] w fun e w' => e = .returned (.int .i64 (0 : Nat)) ∧ w' = w := packed_c 0 (by decide) w
  go_enter Try.func24, Try.ntmps24
  go_wp2_with (first | (go_at_call 47; refine hpc.mono ?_; rintro e w' ⟨rfl, hw⟩; subst w') | (at_make; refine wpList_make_full _ rfl _ _ 29 rfl w.heap.size 5 i0 (.int .u8 0) 1 Try.underlying29 hi hz0 hz1 _ _ _ _ 0 rfl rfl rfl rfl (by rw [hz2]; omega) (by unfold maxLen; omega) (Nat.le_refl _) ?_; intro w1 hown1 hgrow1))
  have HP : Hid (w1.ownsRow w.heap.size 5 1 (.slice (some ⟨w.heap.size, 0, none⟩) 0 0) 0 (u8s (pack [])) ∧ Below w.heap.size w w1) := ⟨by rw [made_u8s] at hown1; exact hown1, (Below.refl _ w).grown hgrow1 (Nat.le_refl _) fun k hk => by cases (show (none : Option Nat) = some k from hk)⟩
  clear hown1 hgrow1
  go_loop [12] (fun i => i = .int .i64 0) (fun _ => 0)
  case atStart => rfl
  case round =>
    obtain rfl := hrel
    go_wp2
    go_ret
    exact ⟨_, rfl, rfl, HP.out.1, HP.out.2⟩
set_option maxHeartbeats 1600000 in
theorem rpack_none (ao : Option Addr) (cap : Nat) (w : World) : Calls Try.prog 25 #[.slice ao 0 cap] w fun e w' => ∃ v', e = .returned v' ∧ v' = .slice (some ⟨w.heap.size, 0, none⟩) 0 0 ∧ w'.ownsRow w.heap.size 5 1 v' 0 (u8s (pack [])) ∧ Below w.heap.size w w' := by
  obtain ⟨i0, hi, hz0, hz1, hz2⟩ := info_parts Try.infoByte
  go_enter Try.func25, Try.ntmps25
  go_wp2_with (at_make; refine wpList_make_full _ rfl _ _ 29 rfl w.heap.size 5 i0 (.int .u8 0) 1 Try.underlying29 hi hz0 hz1 _ _ _ _ 0 rfl rfl rfl rfl (by rw [hz2]; omega) (by unfold maxLen; omega) (Nat.le_refl _) ?_; intro w1 hown1 hgrow1)
  have HP : Hid (w1.ownsRow w.heap.size 5 1 (.slice (some ⟨w.heap.size, 0, none⟩) 0 0) 0 (u8s (pack [])) ∧ Below w.heap.size w w1) := ⟨by rw [made_u8s] at hown1; exact hown1, (Below.refl _ w).grown hgrow1 (Nat.le_refl _) fun k hk => by cases (show (none : Option Nat) = some k from hk)⟩
  clear hown1 hgrow1
  go_loop [4] (fun i => i = .int .i64 0) (fun _ => 0)
  case atStart => rfl
  case round =>
    obtain rfl := hrel
    go_wp2
    go_ret
    exact ⟨_, rfl, rfl, HP.out.1, HP.out.2⟩
theorem bls_nil {l : List Bool} (h : bls l = []) : l = [] := by
  have := congrArg List.length h
  rw [bls_len] at this
  exact List.length_eq_zero_iff.1 (by simpa using this)
theorem pack_c {v : Value} {l : List Bool} {w : World} (h : Sl w v (bls l)) (hsz : l.length ≤ 1000000) :
    Calls Try.prog 24 #[v] w fun e w' => ∃ v', e = .returned v' ∧ v' = .slice (some ⟨w.heap.size, 0, none⟩) (pack l).length (pack l).length ∧ w'.ownsRow w.heap.size 5 1 v' (pack l).length (u8s (pack l)) ∧ Below w.heap.size w w' := by
  rw [pack_length]
  rcases h with ⟨h, ao, cap, rfl, _⟩ | ⟨b, off, cap, rfl, _, hc⟩
  · obtain rfl := bls_nil h
    exact pack_none ao cap w
  · rw [bls_len]
    exact pack_at b off _ cap l w rfl hsz hc
theorem rpack_c {v : Value} {l : List Bool} {w : World} (h : Sl w v (bls l)) (hsz : l.length ≤ 1000000) :
    Calls Try.prog 25 #[v] w fun e w' => ∃ v', e = .returned v' ∧ v' = .slice (some ⟨w.heap.size, 0, none⟩) (pack l).length (pack l).length ∧ w'.ownsRow w.heap.size 5 1 v' (pack l).length (u8s (pack l)) ∧ Below w.heap.size w w' := by
  rw [pack_length]
  rcases h with ⟨h, ao, cap, rfl, _⟩ | ⟨b, off, cap, rfl, _, hc⟩
  · obtain rfl := bls_nil h
    exact rpack_none ao cap w
  · rw [bls_len]
    exact rpack_at b off _ cap l w rfl hsz hc
end Go.Proofs.Ytehbbkdiekgpbaa
