/- Numbers of at most three digits: the project's readNumber, the reference's number, of any text (stage 12). -/
import Derived.Test.YtnponognncdkcaaDoorM1
namespace Go.Proofs.YtnponognncdkcaaDoor
open Go.RowKit
open Adr
theorem hid_as {p : Prop} (h : p) : Hid p := h
theorem bytes_at (s : ByteArray) (k : Nat) (h : k < s.size) : s[k] = s.data.toList[k]'(by rw [← Lib.size_eq]; exact h) := rfl
theorem text_0 {s : ByteArray} (h : 0 < s.size) : (s.toList == []) = false := by
  rw [Lib.toList_data]
  cases e : s.data.toList with
  | nil => rw [Lib.size_eq, e] at h; simp at h
  | cons => rfl
theorem head_at {s : ByteArray} (h : 0 < s.size) : s.data.toList.head? = some s[0] := by
  rw [bytes_at s 0 h, List.head?_eq_getElem?, List.getElem?_eq_getElem]
theorem not_48 {c : UInt8} (h : ¬ c.toNat = 48) : ¬ c = 48 := fun e => h (by rw [e]; rfl)
theorem is_48 {c : UInt8} (h : c.toNat = 48) : c = 48 := UInt8.toNat_inj.1 h
theorem dgt_yes {c : UInt8} (h : 48 ≤ c.toNat) (h2 : c.toNat ≤ 57) : dgt c = true := by unfold dgt; rw [decide_eq_true h, decide_eq_true h2]; rfl
theorem dgt_lo {c : UInt8} (h : c.toNat < 48) : dgt c = false := by unfold dgt; rw [decide_eq_false (p := 48 ≤ c.toNat) (by omega)]; rfl
theorem dgt_hi {c : UInt8} (h : 57 < c.toNat) : dgt c = false := by unfold dgt; rw [decide_eq_false (p := c.toNat ≤ 57) (by omega)]; simp

theorem rn_none {s : ByteArray} (h : nb s.data.toList = false) : Ending.returned (.tuple #[.int .i64 0, .bool false]) = .returned (.tuple #[.int .i64 (nv s.data.toList), .bool (nb s.data.toList)]) := by rw [nv_no h, h]; rfl
theorem rn_some {s : ByteArray} {k : Nat} (h : nb s.data.toList = true) (hk : ¬ k < s.size) : Ending.returned (.tuple #[.int .i64 (vl (s.data.toList.take k)), .bool true]) = .returned (.tuple #[.int .i64 (nv s.data.toList), .bool (nb s.data.toList)]) := by
  rw [List.take_of_length_le (by rw [← Lib.size_eq]; omega), nv_yes h, h]

set_option maxHeartbeats 800000 in
theorem rn_0 (s : ByteArray) (w : World) (h : s = ⟨#[]⟩) : Calls Tryd.prog 82 #[.string s] w fun e w' => e = .returned (.tuple #[.int .i64 (nv s.data.toList), .bool (nb s.data.toList)]) ∧ w' = w := by
  subst h
  go_enter Tryd.func82, Tryd.ntmps82
  go_wp2
  go_ret2
  refine ⟨?_, rfl⟩
  exact rn_none (s := ⟨#[]⟩) rfl

set_option maxHeartbeats 800000 in
theorem rn_4 (s : ByteArray) (w : World) (h : 3 < s.size) : Calls Tryd.prog 82 #[.string s] w fun e w' => e = .returned (.tuple #[.int .i64 (nv s.data.toList), .bool (nb s.data.toList)]) ∧ w' = w := by
  have e0 := text_0 (s := s) (by omega)
  have h0 : 0 < s.size := by omega
  have h1' : ¬ (s.size : Int) < 1 := by omega
  have h3' : (3 : Int) < s.size := by omega
  have hn := hid_as (nb_4 (l := s.data.toList) (by rw [← Lib.size_eq]; exact h))
  go_enter Tryd.func82, Tryd.ntmps82
  go_wp2
  go_ret2
  refine ⟨?_, rfl⟩
  exact rn_none hn.out

set_option maxHeartbeats 800000 in
theorem rn_00 (s : ByteArray) (w : World) (h1 : 1 < s.size) (h3 : s.size ≤ 3) (h0 : s[0].toNat = 48) : Calls Tryd.prog 82 #[.string s] w fun e w' => e = .returned (.tuple #[.int .i64 (nv s.data.toList), .bool (nb s.data.toList)]) ∧ w' = w := by
  have e0 := text_0 (s := s) (by omega)
  have hp : 0 < s.size := by omega
  have e1 : ((s[0].toNat : Int) == 48) = true := by rw [beq_iff_eq]; omega
  have h1' : ¬ (s.size : Int) < 1 := by omega
  have h3' : (s.size : Int) ≤ 3 := by omega
  have h1'' : (1 : Int) < s.size := by omega
  have hn := hid_as (nb_nought (l := s.data.toList) (by rw [← Lib.size_eq]; exact h1) (by rw [head_at hp, is_48 h0]))
  go_enter Tryd.func82, Tryd.ntmps82
  go_wp2
  go_ret2
  refine ⟨?_, rfl⟩
  exact rn_none hn.out

set_option maxHeartbeats 800000 in
theorem rn_1 (s : ByteArray) (w : World) (h1 : s.size = 1) : Calls Tryd.prog 82 #[.string s] w fun e w' => e = .returned (.tuple #[.int .i64 (nv s.data.toList), .bool (nb s.data.toList)]) ∧ w' = w := by
  have hp : 0 < s.size := by omega
  have h3 : s.size ≤ 3 := by omega
  have h1'' : ¬ (1 : Int) < s.size := by omega
  have hh : s.data.toList.length ≤ 1 ∨ ¬ s.data.toList.head? = some 48 := Or.inl (by rw [← Lib.size_eq]; omega)
  have e0 := text_0 hp
  have h1' : ¬ (s.size : Int) < 1 := by omega
  have h3' : (s.size : Int) ≤ 3 := by omega
  replace hh := hid_as hh
  go_enter Tryd.func82, Tryd.ntmps82
  go_wp2
  go_loop [4, 25] (fun n i => ∃ k : Nat, k ≤ s.size ∧ i = .int .i64 k ∧ n = .int .i64 (vl (s.data.toList.take k)) ∧ Hid ((s.data.toList.take k).all dgt = true)) (fun _ i => s.size - (intOf i).toNat)
  case atStart => exact ⟨0, by omega, rfl, rfl, hid_as rfl⟩
  case round =>
    obtain ⟨k, hk, rfl, rfl, hd⟩ := hrel
    by_cases hlt : k < s.size
    · have hv := val_999 (l := s.data.toList.take k) (by rw [List.length_take]; omega) hd.out
      by_cases hlo : (s[k].toNat : Int) < 48
      · go_wp2
        go_ret2
        exact ⟨rn_none (nb_odd (all_odd (k := k) (by rw [← Lib.size_eq]; exact hlt) (dgt_lo (by rw [← bytes_at s k hlt]; omega)))), rfl⟩
      · by_cases hhi : 57 < (s[k].toNat : Int)
        · go_wp2
          go_ret2
          exact ⟨rn_none (nb_odd (all_odd (k := k) (by rw [← Lib.size_eq]; exact hlt) (dgt_hi (by rw [← bytes_at s k hlt]; omega)))), rfl⟩
        · have hda := all_at (k := k) (by rw [← Lib.size_eq]; exact hlt) hd.out (dgt_yes (by rw [← bytes_at s k hlt]; omega) (by rw [← bytes_at s k hlt]; omega))
          have hva := val_at (l := s.data.toList) (k := k) (by rw [← Lib.size_eq]; exact hlt)
          rw [← bytes_at s k hlt] at hva
          replace hva := hid_as hva
          replace hda := hid_as hda
          go_wp2
          go_round
          case rel => exact ⟨k + 1, by omega, by go_num, by rw [hva.out]; go_num, hda⟩
          case measure => simp [intOf]; omega
    · have hall : s.data.toList.all dgt = true := by
        have h := hd.out
        rw [List.take_of_length_le (by rw [← Lib.size_eq]; omega)] at h
        exact h
      go_wp2
      go_ret2
      exact ⟨rn_some (nb_yes (by rw [← Lib.size_eq]; omega) (by rw [← Lib.size_eq]; omega) hh.out hall) hlt, rfl⟩

set_option maxHeartbeats 800000 in
theorem rn_2 (s : ByteArray) (w : World) (h1 : 1 < s.size) (h3 : s.size ≤ 3) (h0 : ¬ s[0].toNat = 48) : Calls Tryd.prog 82 #[.string s] w fun e w' => e = .returned (.tuple #[.int .i64 (nv s.data.toList), .bool (nb s.data.toList)]) ∧ w' = w := by
  have hp : 0 < s.size := by omega
  have e1 : ((s[0].toNat : Int) == 48) = false := by rw [beq_eq_false_iff_ne]; omega
  have h1'' : (1 : Int) < s.size := by omega
  have hh : s.data.toList.length ≤ 1 ∨ ¬ s.data.toList.head? = some 48 := Or.inr (by rw [head_at hp]; exact fun e => not_48 h0 (Option.some.inj e))
  have e0 := text_0 hp
  have h1' : ¬ (s.size : Int) < 1 := by omega
  have h3' : (s.size : Int) ≤ 3 := by omega
  replace hh := hid_as hh
  go_enter Tryd.func82, Tryd.ntmps82
  go_wp2
  go_loop [4, 25] (fun n i => ∃ k : Nat, k ≤ s.size ∧ i = .int .i64 k ∧ n = .int .i64 (vl (s.data.toList.take k)) ∧ Hid ((s.data.toList.take k).all dgt = true)) (fun _ i => s.size - (intOf i).toNat)
  case atStart => exact ⟨0, by omega, rfl, rfl, hid_as rfl⟩
  case round =>
    obtain ⟨k, hk, rfl, rfl, hd⟩ := hrel
    by_cases hlt : k < s.size
    · have hv := val_999 (l := s.data.toList.take k) (by rw [List.length_take]; omega) hd.out
      by_cases hlo : (s[k].toNat : Int) < 48
      · go_wp2
        go_ret2
        exact ⟨rn_none (nb_odd (all_odd (k := k) (by rw [← Lib.size_eq]; exact hlt) (dgt_lo (by rw [← bytes_at s k hlt]; omega)))), rfl⟩
      · by_cases hhi : 57 < (s[k].toNat : Int)
        · go_wp2
          go_ret2
          exact ⟨rn_none (nb_odd (all_odd (k := k) (by rw [← Lib.size_eq]; exact hlt) (dgt_hi (by rw [← bytes_at s k hlt]; omega)))), rfl⟩
        · have hda := all_at (k := k) (by rw [← Lib.size_eq]; exact hlt) hd.out (dgt_yes (by rw [← bytes_at s k hlt]; omega) (by rw [← bytes_at s k hlt]; omega))
          have hva := val_at (l := s.data.toList) (k := k) (by rw [← Lib.size_eq]; exact hlt)
          rw [← bytes_at s k hlt] at hva
          replace hva := hid_as hva
          replace hda := hid_as hda
          go_wp2
          go_round
          case rel => exact ⟨k + 1, by omega, by go_num, by rw [hva.out]; go_num, hda⟩
          case measure => simp [intOf]; omega
    · have hall : s.data.toList.all dgt = true := by
        have h := hd.out
        rw [List.take_of_length_le (by rw [← Lib.size_eq]; omega)] at h
        exact h
      go_wp2
      go_ret2
      exact ⟨rn_some (nb_yes (by rw [← Lib.size_eq]; omega) (by rw [← Lib.size_eq]; omega) hh.out hall) hlt, rfl⟩

/-- the project's readNumber, of any text. -/
theorem rn_c (s : ByteArray) (w : World) : Calls Tryd.prog 82 #[.string s] w fun e w' => e = .returned (.tuple #[.int .i64 (nv s.data.toList), .bool (nb s.data.toList)]) ∧ w' = w := by
  by_cases hz : s.size = 0
  · exact rn_0 s w (by cases s with | mk d => exact congrArg ByteArray.mk (Array.eq_empty_of_size_eq_zero hz))
  · by_cases h3 : 3 < s.size
    · exact rn_4 s w h3
    · by_cases h1 : s.size = 1
      · exact rn_1 s w h1
      · by_cases h0 : (s[0]'(by omega)).toNat = 48
        · exact rn_00 s w (by omega) (by omega) h0
        · exact rn_2 s w (by omega) (by omega) h0

theorem nu_none {s : ByteArray} (h : nb s.data.toList = false) : Ending.returned (.int .i64 (-1)) = .returned (.int .i64 (nm s.data.toList)) := by rw [nm_no h]
theorem nu_some {s : ByteArray} {k : Nat} (h : nb s.data.toList = true) (hk : ¬ k < s.size) : Ending.returned (.int .i64 (vl (s.data.toList.take k))) = .returned (.int .i64 (nm s.data.toList)) := by
  rw [List.take_of_length_le (by rw [← Lib.size_eq]; omega), nm_yes h, nv_yes h]

set_option maxHeartbeats 800000 in
theorem nu_0 (s : ByteArray) (w : World) (h : s = ⟨#[]⟩) : Calls Tryd.prog 75 #[.string s] w fun e w' => e = .returned (.int .i64 (nm s.data.toList)) ∧ w' = w := by
  subst h
  go_enter Tryd.func75, Tryd.ntmps75
  go_wp2
  go_ret
  refine ⟨?_, rfl⟩
  exact nu_none (s := ⟨#[]⟩) rfl

set_option maxHeartbeats 800000 in
theorem nu_4 (s : ByteArray) (w : World) (h : 3 < s.size) : Calls Tryd.prog 75 #[.string s] w fun e w' => e = .returned (.int .i64 (nm s.data.toList)) ∧ w' = w := by
  have e0 := text_0 (s := s) (by omega)
  have h0 : 0 < s.size := by omega
  have h1' : ¬ (s.size : Int) < 1 := by omega
  have h3' : (3 : Int) < s.size := by omega
  have hn := hid_as (nb_4 (l := s.data.toList) (by rw [← Lib.size_eq]; exact h))
  go_enter Tryd.func75, Tryd.ntmps75
  go_wp2
  go_ret
  refine ⟨?_, rfl⟩
  exact nu_none hn.out

set_option maxHeartbeats 800000 in
theorem nu_00 (s : ByteArray) (w : World) (h1 : 1 < s.size) (h3 : s.size ≤ 3) (h0 : s[0].toNat = 48) : Calls Tryd.prog 75 #[.string s] w fun e w' => e = .returned (.int .i64 (nm s.data.toList)) ∧ w' = w := by
  have e0 := text_0 (s := s) (by omega)
  have hp : 0 < s.size := by omega
  have e1 : ((s[0].toNat : Int) == 48) = true := by rw [beq_iff_eq]; omega
  have h1' : ¬ (s.size : Int) < 1 := by omega
  have h3' : (s.size : Int) ≤ 3 := by omega
  have h1'' : (1 : Int) < s.size := by omega
  have hn := hid_as (nb_nought (l := s.data.toList) (by rw [← Lib.size_eq]; exact h1) (by rw [head_at hp, is_48 h0]))
  go_enter Tryd.func75, Tryd.ntmps75
  go_wp2
  go_ret
  refine ⟨?_, rfl⟩
  exact nu_none hn.out

set_option maxHeartbeats 800000 in
theorem nu_1a (s : ByteArray) (w : World) (h1 : s.size = 1) (h0 : s[0].toNat = 48) : Calls Tryd.prog 75 #[.string s] w fun e w' => e = .returned (.int .i64 (nm s.data.toList)) ∧ w' = w := by
  have e1 : ((s[0].toNat : Int) == 48) = true := by rw [beq_iff_eq]; omega
  have hp : 0 < s.size := by omega
  have h3 : s.size ≤ 3 := by omega
  have h1'' : ¬ (1 : Int) < s.size := by omega
  have hh : s.data.toList.length ≤ 1 ∨ ¬ s.data.toList.head? = some 48 := Or.inl (by rw [← Lib.size_eq]; omega)
  have e0 := text_0 hp
  have h1' : ¬ (s.size : Int) < 1 := by omega
  have h3' : (s.size : Int) ≤ 3 := by omega
  replace hh := hid_as hh
  go_enter Tryd.func75, Tryd.ntmps75
  go_wp2
  go_loop [3, 4] (fun n i => ∃ k : Nat, k ≤ s.size ∧ i = .int .i64 k ∧ n = .int .i64 (vl (s.data.toList.take k)) ∧ Hid ((s.data.toList.take k).all dgt = true)) (fun _ i => s.size - (intOf i).toNat)
  case atStart => exact ⟨0, by omega, rfl, rfl, hid_as rfl⟩
  case round =>
    obtain ⟨k, hk, rfl, rfl, hd⟩ := hrel
    by_cases hlt : k < s.size
    · have hv := val_999 (l := s.data.toList.take k) (by rw [List.length_take]; omega) hd.out
      by_cases hlo : (s[k].toNat : Int) < 48
      · go_wp2
        go_ret
        exact ⟨nu_none (nb_odd (all_odd (k := k) (by rw [← Lib.size_eq]; exact hlt) (dgt_lo (by rw [← bytes_at s k hlt]; omega)))), rfl⟩
      · by_cases hhi : 57 < (s[k].toNat : Int)
        · go_wp2
          go_ret
          exact ⟨nu_none (nb_odd (all_odd (k := k) (by rw [← Lib.size_eq]; exact hlt) (dgt_hi (by rw [← bytes_at s k hlt]; omega)))), rfl⟩
        · have hda := all_at (k := k) (by rw [← Lib.size_eq]; exact hlt) hd.out (dgt_yes (by rw [← bytes_at s k hlt]; omega) (by rw [← bytes_at s k hlt]; omega))
          have hva := val_at (l := s.data.toList) (k := k) (by rw [← Lib.size_eq]; exact hlt)
          rw [← bytes_at s k hlt] at hva
          replace hva := hid_as hva
          replace hda := hid_as hda
          go_wp2
          go_round
          case rel => exact ⟨k + 1, by omega, by go_num, by rw [hva.out]; go_num, hda⟩
          case measure => simp [intOf]; omega
    · have hall : s.data.toList.all dgt = true := by
        have h := hd.out
        rw [List.take_of_length_le (by rw [← Lib.size_eq]; omega)] at h
        exact h
      go_wp2
      go_ret
      exact ⟨nu_some (nb_yes (by rw [← Lib.size_eq]; omega) (by rw [← Lib.size_eq]; omega) hh.out hall) hlt, rfl⟩

set_option maxHeartbeats 800000 in
theorem nu_1b (s : ByteArray) (w : World) (h1 : s.size = 1) (h0 : ¬ s[0].toNat = 48) : Calls Tryd.prog 75 #[.string s] w fun e w' => e = .returned (.int .i64 (nm s.data.toList)) ∧ w' = w := by
  have e1 : ((s[0].toNat : Int) == 48) = false := by rw [beq_eq_false_iff_ne]; omega
  have hp : 0 < s.size := by omega
  have h3 : s.size ≤ 3 := by omega
  have h1'' : ¬ (1 : Int) < s.size := by omega
  have hh : s.data.toList.length ≤ 1 ∨ ¬ s.data.toList.head? = some 48 := Or.inl (by rw [← Lib.size_eq]; omega)
  have e0 := text_0 hp
  have h1' : ¬ (s.size : Int) < 1 := by omega
  have h3' : (s.size : Int) ≤ 3 := by omega
  replace hh := hid_as hh
  go_enter Tryd.func75, Tryd.ntmps75
  go_wp2
  go_loop [3, 4] (fun n i => ∃ k : Nat, k ≤ s.size ∧ i = .int .i64 k ∧ n = .int .i64 (vl (s.data.toList.take k)) ∧ Hid ((s.data.toList.take k).all dgt = true)) (fun _ i => s.size - (intOf i).toNat)
  case atStart => exact ⟨0, by omega, rfl, rfl, hid_as rfl⟩
  case round =>
    obtain ⟨k, hk, rfl, rfl, hd⟩ := hrel
    by_cases hlt : k < s.size
    · have hv := val_999 (l := s.data.toList.take k) (by rw [List.length_take]; omega) hd.out
      by_cases hlo : (s[k].toNat : Int) < 48
      · go_wp2
        go_ret
        exact ⟨nu_none (nb_odd (all_odd (k := k) (by rw [← Lib.size_eq]; exact hlt) (dgt_lo (by rw [← bytes_at s k hlt]; omega)))), rfl⟩
      · by_cases hhi : 57 < (s[k].toNat : Int)
        · go_wp2
          go_ret
          exact ⟨nu_none (nb_odd (all_odd (k := k) (by rw [← Lib.size_eq]; exact hlt) (dgt_hi (by rw [← bytes_at s k hlt]; omega)))), rfl⟩
        · have hda := all_at (k := k) (by rw [← Lib.size_eq]; exact hlt) hd.out (dgt_yes (by rw [← bytes_at s k hlt]; omega) (by rw [← bytes_at s k hlt]; omega))
          have hva := val_at (l := s.data.toList) (k := k) (by rw [← Lib.size_eq]; exact hlt)
          rw [← bytes_at s k hlt] at hva
          replace hva := hid_as hva
          replace hda := hid_as hda
          go_wp2
          go_round
          case rel => exact ⟨k + 1, by omega, by go_num, by rw [hva.out]; go_num, hda⟩
          case measure => simp [intOf]; omega
    · have hall : s.data.toList.all dgt = true := by
        have h := hd.out
        rw [List.take_of_length_le (by rw [← Lib.size_eq]; omega)] at h
        exact h
      go_wp2
      go_ret
      exact ⟨nu_some (nb_yes (by rw [← Lib.size_eq]; omega) (by rw [← Lib.size_eq]; omega) hh.out hall) hlt, rfl⟩

set_option maxHeartbeats 800000 in
theorem nu_2 (s : ByteArray) (w : World) (h1 : 1 < s.size) (h3 : s.size ≤ 3) (h0 : ¬ s[0].toNat = 48) : Calls Tryd.prog 75 #[.string s] w fun e w' => e = .returned (.int .i64 (nm s.data.toList)) ∧ w' = w := by
  have hp : 0 < s.size := by omega
  have e1 : ((s[0].toNat : Int) == 48) = false := by rw [beq_eq_false_iff_ne]; omega
  have h1'' : (1 : Int) < s.size := by omega
  have hh : s.data.toList.length ≤ 1 ∨ ¬ s.data.toList.head? = some 48 := Or.inr (by rw [head_at hp]; exact fun e => not_48 h0 (Option.some.inj e))
  have e0 := text_0 hp
  have h1' : ¬ (s.size : Int) < 1 := by omega
  have h3' : (s.size : Int) ≤ 3 := by omega
  replace hh := hid_as hh
  go_enter Tryd.func75, Tryd.ntmps75
  go_wp2
  go_loop [3, 4] (fun n i => ∃ k : Nat, k ≤ s.size ∧ i = .int .i64 k ∧ n = .int .i64 (vl (s.data.toList.take k)) ∧ Hid ((s.data.toList.take k).all dgt = true)) (fun _ i => s.size - (intOf i).toNat)
  case atStart => exact ⟨0, by omega, rfl, rfl, hid_as rfl⟩
  case round =>
    obtain ⟨k, hk, rfl, rfl, hd⟩ := hrel
    by_cases hlt : k < s.size
    · have hv := val_999 (l := s.data.toList.take k) (by rw [List.length_take]; omega) hd.out
      by_cases hlo : (s[k].toNat : Int) < 48
      · go_wp2
        go_ret
        exact ⟨nu_none (nb_odd (all_odd (k := k) (by rw [← Lib.size_eq]; exact hlt) (dgt_lo (by rw [← bytes_at s k hlt]; omega)))), rfl⟩
      · by_cases hhi : 57 < (s[k].toNat : Int)
        · go_wp2
          go_ret
          exact ⟨nu_none (nb_odd (all_odd (k := k) (by rw [← Lib.size_eq]; exact hlt) (dgt_hi (by rw [← bytes_at s k hlt]; omega)))), rfl⟩
        · have hda := all_at (k := k) (by rw [← Lib.size_eq]; exact hlt) hd.out (dgt_yes (by rw [← bytes_at s k hlt]; omega) (by rw [← bytes_at s k hlt]; omega))
          have hva := val_at (l := s.data.toList) (k := k) (by rw [← Lib.size_eq]; exact hlt)
          rw [← bytes_at s k hlt] at hva
          replace hva := hid_as hva
          replace hda := hid_as hda
          go_wp2
          go_round
          case rel => exact ⟨k + 1, by omega, by go_num, by rw [hva.out]; go_num, hda⟩
          case measure => simp [intOf]; omega
    · have hall : s.data.toList.all dgt = true := by
        have h := hd.out
        rw [List.take_of_length_le (by rw [← Lib.size_eq]; omega)] at h
        exact h
      go_wp2
      go_ret
      exact ⟨nu_some (nb_yes (by rw [← Lib.size_eq]; omega) (by rw [← Lib.size_eq]; omega) hh.out hall) hlt, rfl⟩

/-- the reference's number, of any text. -/
theorem nu_c (s : ByteArray) (w : World) : Calls Tryd.prog 75 #[.string s] w fun e w' => e = .returned (.int .i64 (nm s.data.toList)) ∧ w' = w := by
  by_cases hz : s.size = 0
  · exact nu_0 s w (by cases s with | mk d => exact congrArg ByteArray.mk (Array.eq_empty_of_size_eq_zero hz))
  · by_cases h3 : 3 < s.size
    · exact nu_4 s w h3
    · by_cases h1 : s.size = 1
      · exact (Decidable.em ((s[0]).toNat = 48)).elim (nu_1a s w h1) (nu_1b s w h1)
      · by_cases h0 : (s[0]'(by omega)).toNat = 48
        · exact nu_00 s w (by omega) (by omega) h0
        · exact nu_2 s w (by omega) (by omega) h0

end Go.Proofs.YtnponognncdkcaaDoor
