/- The walks: the reference's Mbap. -/
import Derived.Test.YtjfaocpbhhpbdaaW1
import Derived.Test.YtjfaocpbhhpbdaaB3
namespace Go.Proofs.Ytjfaocpbhhpbdaa
open Go.RowKit
open Pdu
set_option maxRecDepth 100000 in
set_option maxHeartbeats 1600000 in
theorem mbap_no (x0 x1 : Value) (ao : Option Addr) (n cap : Nat) (w : World) (hb : n ≤ 1000000) (hf : ¬ (1 ≤ n ∧ n ≤ 253)) :
    Calls Try.prog 14 #[.agg #[x0, x1, .slice ao n cap]] w fun e w' => e = .returned (.tuple #[.slice none 0 0, .int .i64 41]) ∧ Below w.heap.size w w' := by
  by_cases h1 : 1 ≤ n
  · have d1 : decide ((n : Int) < 1) = false := decide_eq_false (by omega)
    have d2 : decide ((253 : Int) < n) = true := decide_eq_true (by omega)
    clear hf h1
    go_enter Try.func14, Try.ntmps14
    go_wp2
    go_ret2
    exact ⟨rfl, below_new (Below.refl _ w) _⟩
  · have d1 : decide ((n : Int) < 1) = true := decide_eq_true (by omega)
    clear hf h1
    go_enter Try.func14, Try.ntmps14
    go_wp2
    go_ret2
    exact ⟨rfl, below_new (Below.refl _ w) _⟩
set_option maxRecDepth 100000 in
set_option maxHeartbeats 1600000 in
theorem mbap_yes (id unit n cap m : Nat) (pdu : List Nat) (ao : Option Addr) (w : World) (hn : n = pdu.length) (hm : (n : Int) + 1 = (m : Int)) (hf : 1 ≤ n ∧ n ≤ 253) (hi : id < 65536) (hs : Sl w (.slice ao n cap) (u8s pdu)) :
    Calls Try.prog 14 #[.agg #[.int .u16 id, .int .u8 unit, .slice ao n cap]] w fun e w' => ∃ v', e = .returned (.tuple #[v', .int .i64 0]) ∧ w'.ownsRow w.heap.size 5 1 v' (mb id unit pdu).length (u8s (mb id unit pdu)) ∧ Below w.heap.size w w' := by
  obtain ⟨i0, hi0, hz0, hz1, hz2⟩ := info_parts Try.infoByte
  have d1 : decide ((n : Int) < 1) = false := decide_eq_false (by omega)
  have d2 : decide ((253 : Int) < n) = false := decide_eq_false (by omega)
  have HS := hid_as hs
  have HN := hid_as hn
  clear hs hn
  go_enter Try.func14, Try.ntmps14
  go_upto_region 3 with fail
  generalize hX : World.alloc w _ = X
  have BX : Hid (Box X w.heap.size (.int .u16 id) (.int .u8 unit) (.slice ao n cap)) := by rw [← hX]; exact Box.new w _ _ _ _
  have KX : Hid (Below w.heap.size w X) := by rw [← hX]; exact below_new (Below.refl _ w) _
  have hXs : w.heap.size < X.heap.size := by rw [← hX, World.size_alloc]; omega
  clear hX
  obtain ⟨c0, c1, c2⟩ := BX.out
  have hWX1 : w.heap.size < X.heap.size + 1 := by omega
  have LP : Hid (Sl X (.slice ao n cap) (u8s pdu)) := HS.out.below KX.out
  have OP : Hid (Old X.heap.size (.slice ao n cap) (u8s pdu)) := HS.out.old (Nat.le_of_lt hXs)
  have OX : Hid (X.ownsRow X.heap.size 5 1 (.slice none 0 0) ([] : List Nat).length (u8s [])) := World.ownsRow_nil ..
  have hm3 : m < 65536 := by omega
  have e1 : IntKind.i64.wrap (m : Int) = m := by rw [IntKind.wrap_i64]; omega
  have e2 : IntKind.u16.wrap (m : Int) = m := by rw [IntKind.wrap_u16]; omega
  have TA := hid_as (next_two_d (base := X.heap.size) (bs := []) (l := [id, 0, m]) (n := 3) (a := #[.int .u16 (id : Int), .int .u16 0, .int .u16 (m : Int)]) rfl rfl (words_three hi (by decide) hm3) (by simp) OX.out (Nat.le_refl _))
  have TB := hid_as (two_B (base := X.heap.size) (bs := []) (l := [id, 0, m]) (n := 3) (a := #[.int .u16 (id : Int), .int .u16 0, .int .u16 (m : Int)]) (z := (unit : Int)) rfl rfl (words_three hi (by decide) hm3) (by simp) OX.out (Nat.le_refl _))
  have TC := hid_as (two_C (base := X.heap.size) (bs := []) (l := [id, 0, m]) (n := 3) (a := #[.int .u16 (id : Int), .int .u16 0, .int .u16 (m : Int)]) (z := (unit : Int)) rfl rfl (words_three hi (by decide) hm3) (by simp) OX.out (Nat.le_refl _))
  have hz1 : ([] ++ wds [id, 0, m]).length ≤ 50000 := by simp [wd, wds]
  have hz2 : ([] ++ wds [id, 0, m]).length + [unit].length ≤ 60000 := by simp [wd, wds]
  have hz3 : ([] ++ wds [id, 0, m] ++ [unit]).length + pdu.length ≤ 60000 := by have := HN.out; simp [wd, wds]; omega
  go_region_held3 (fun w' => w'.cell? ⟨w.heap.size, 0, none⟩ = some (.int .u16 id) ∧ w'.cell? ⟨w.heap.size, 1, none⟩ = some (.int .u8 unit) ∧ w'.cell? ⟨w.heap.size, 2, none⟩ = some (.slice ao n cap)) (first | exact ⟨c0, c1, c2⟩ | exact ⟨j0, j1, j2⟩ | exact ⟨i0, i1, i2⟩ | exact ⟨l0, l1, l2⟩ | (simp [World.cell?_alloc_past, hXs, hWX1, c0, c1, c2]; done) | (simp [World.cell?_alloc_past, hs2w, j0, j1, j2]; done)) (first
    | (go_at_call 22; (with_reducible refine TA.out.mono ?_); rintro e w2 ⟨v2, rfl, own2, k2⟩; obtain ⟨j0, j1, j2⟩ := BX.out.below k2 hXs; have LP2 := LP.out.keep OP.out k2; have hs2 := k2.size; have hs2w := Nat.lt_of_lt_of_le hXs hs2)
    | (go_at_call 22; (with_reducible refine TB.out.mono ?_); rintro e w2 ⟨v2, rfl, own2, k2, lit2⟩; obtain ⟨j0, j1, j2⟩ := BX.out.below k2 hXs; have LP2 := LP.out.keep OP.out k2; have hs2 := k2.size; have hs2w := Nat.lt_of_lt_of_le hXs hs2)
    | (go_at_call 22; (with_reducible refine TC.out.mono ?_); rintro e w2 ⟨v2, rfl, own2, k2, lit2⟩; obtain ⟨j0, j1, j2⟩ := BX.out.below k2 hXs; have LP2 := LP.out.keep OP.out k2; have hs2 := k2.size; have hs2w := Nat.lt_of_lt_of_le hXs hs2)
    | (refine step_push0 rfl (.tmp 22) (.tmp 25) rfl X.heap.size _ ([] ++ wds [id, 0, m]) unit _ rfl rfl rfl own2 hz1 hs2 ?_; intro v3 w3 own3 k3; obtain ⟨i0, i1, i2⟩ := (Box.mk j0 j1 j2).below k3 hXs; have LP3 := LP2.keep OP.out k3; have hs3 := k3.size)
    | (refine step_join rfl (.tmp 22) (.tmp 25) rfl X.heap.size _ ([] ++ wds [id, 0, m]) [unit] (X.heap.size + 1) 1 1 rfl rfl rfl own2 (one_lit lit2 rfl) hz2 hs2 ?_; intro v3 w3 own3 k3; obtain ⟨i0, i1, i2⟩ := (Box.mk j0 j1 j2).below k3 hXs; have LP3 := LP2.keep OP.out k3; have hs3 := k3.size)
    | (refine step_join rfl (.tmp 22) (.tmp 25) rfl X.heap.size _ ([] ++ wds [id, 0, m]) [unit] X.heap.size 1 1 rfl rfl rfl own2 (one_lit lit2 rfl) hz2 hs2 ?_; intro v3 w3 own3 k3; obtain ⟨i0, i1, i2⟩ := (Box.mk j0 j1 j2).below k3 hXs; have LP3 := LP2.keep OP.out k3; have hs3 := k3.size)
    | (refine step_append_own2 rfl (.tmp 26) (.tmp 28) rfl X.heap.size _ _ ([] ++ wds [id, 0, m] ++ [unit]) pdu rfl rfl own3 LP3 hz3 (Nat.le_trans hs2 hs3) ?_; intro v4 w4 own4 k4; obtain ⟨l0, l1, l2⟩ := (Box.mk i0 i1 i2).below k4 hXs; have K4 := hid_as (KX.out.trans ((k2.mono (Nat.le_of_lt hXs)).trans ((k3.mono (Nat.le_of_lt hXs)).trans (k4.mono (Nat.le_of_lt hXs))))); have O4 := hid_as own4; clear k2 k3 k4 own2 own3 own4))
  all_goals
    go_wp2
    go_ret2
    have e : [] ++ wds [id, 0, m] ++ [unit] ++ pdu = mb id unit pdu := by
      have hm' : m = pdu.length + 1 := by have := HN.out; omega
      rw [hm']
      simp [mb, wds]
    refine ⟨_, rfl, ?_, K4.out⟩
    have h := O4.out
    rw [e] at h
    exact own_base h (Nat.le_of_lt hXs)
end Go.Proofs.Ytjfaocpbhhpbdaa
