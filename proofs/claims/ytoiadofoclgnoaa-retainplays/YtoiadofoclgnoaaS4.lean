/- The walks of a store's Spoil, Copy, New (stage 9). -/
import Derived.Test.YtoiadofoclgnoaaS3
namespace Go.Proofs.Ytoiadofoclgnoaa
open Go.RowKit
open Pdu
set_option maxHeartbeats 400000 in
theorem spoilb_no {w : World} {g h : Nat} {s : SS} (t : St w g h s) (i a : Int) (x : Value) (he : s.err i ≠ 0) : Calls Try.prog 24 #[.pointer (some ⟨g, 0, none⟩), .int .i64 i, .int .i64 a, x] w fun e w' => e = .returned (.tuple #[]) ∧ Same w w' := by
  have A := hid_as (ask_c t i)
  have hE : s.err i = 82 ∨ s.err i = 80 := by
    rcases s.err_cases i with h | h | h
    · exact Or.inl h.2
    · exact Or.inr h.2.2
    · exact absurd h.2.1 he
  clear t he
  rcases hE with hE | hE
  · rw [hE] at A
    clear hE
    go_enter Try.func24, Try.ntmps24
    go_wp2_with fail
    refine A.out.mono ?_
    rintro e w1 ⟨rfl, k1⟩
    have K1 := hid_as k1
    clear k1 A
    go_wp2
    refine bodyPost_ret (v := .tuple #[]) (by simp [results, Try.results24, go_sem]) rfl ⟨rfl, K1.out⟩
  · rw [hE] at A
    clear hE
    go_enter Try.func24, Try.ntmps24
    go_wp2_with fail
    refine A.out.mono ?_
    rintro e w1 ⟨rfl, k1⟩
    have K1 := hid_as k1
    clear k1 A
    go_wp2
    refine bodyPost_ret (v := .tuple #[]) (by simp [results, Try.results24, go_sem]) rfl ⟨rfl, K1.out⟩
set_option maxHeartbeats 400000 in
theorem spoilb_out {w : World} {g h : Nat} {s : SS} (t : St w g h s) (i a : Int) (x : Value) (he : s.err i = 0) (ha : a < 0 ∨ (s.sz : Int) ≤ a) : Calls Try.prog 24 #[.pointer (some ⟨g, 0, none⟩), .int .i64 i, .int .i64 a, x] w fun e w' => e = .returned (.tuple #[]) ∧ Same w w' := by
  have A := hid_as (ask_c t i)
  rw [he] at A
  have S := hid_as t
  clear t he
  by_cases h0 : a < 0
  · clear ha
    go_enter Try.func24, Try.ntmps24
    go_wp2_with fail
    refine A.out.mono ?_
    rintro e w1 ⟨rfl, k1⟩
    have K1 := hid_as k1
    clear k1 A
    go_wp2
    refine bodyPost_ret (v := .tuple #[]) (by simp [results, Try.results24, go_sem]) rfl ⟨rfl, K1.out⟩
  · have h1 : (s.sz : Int) ≤ a := by omega
    clear ha
    go_enter Try.func24, Try.ntmps24
    go_wp2_with fail
    refine A.out.mono ?_
    rintro e w1 ⟨rfl, k1⟩
    have K1 := hid_as k1
    have c1 := (S.out.same k1).cSize
    clear k1 A
    go_wp2
    refine bodyPost_ret (v := .tuple #[]) (by simp [results, Try.results24, go_sem]) rfl ⟨rfl, K1.out⟩
set_option maxHeartbeats 800000 in
theorem spoilb_at {w : World} {g h k a x : Nat} {s : SS} (t : St w g h s) (he : s.err k = 0) (hk : k < s.rows.length) (ha : a < s.sz) : Calls Try.prog 24 #[.pointer (some ⟨g, 0, none⟩), .int .i64 (k : Int), .int .i64 (a : Int), .int .u8 (x : Int)] w fun e w' => e = .returned (.tuple #[]) ∧ St w' g h { s with rows := s.rows.set k ((s.row k).set a (xr ((s.row k).getD a 0) x)) } ∧ Turn h w w' := by
  have A := hid_as (ask_c t k)
  rw [he] at A
  have S := hid_as t
  have HK := hid_as hk
  clear t he hk
  have h1 : ¬ (s.sz : Int) ≤ (a : Int) := by omega
  have h2 : (a : Int) < (s.sz : Int) := by omega
  have hx1 := xr_is ((s.row k).getD a 0) x
  go_enter Try.func24, Try.ntmps24
  go_wp2_with fail
  refine A.out.mono ?_
  rintro e w1 ⟨rfl, k1⟩
  have K1 := hid_as k1
  have S1 := hid_as (S.out.same k1)
  have c1 := S1.out.cSize
  have BK := hid_as (blk_c S1.out HK.out)
  clear k1 A
  go_wp2_with fail
  refine BK.out.mono ?_
  rintro e w2 ⟨rfl, k2⟩
  have S2 := hid_as (S1.out.same k2)
  have K2 := hid_as (K1.out.trans k2)
  have hkz : k * s.sz + s.sz ≤ s.rows.length * s.sz := by
    rw [← Nat.succ_mul]
    exact Nat.mul_le_mul_right _ HK.out
  have cc : w2.cell? ⟨h, k * s.sz + a, none⟩ = some (.int .u8 (((s.row k).getD a 0 : Nat) : Int)) := by
    have := (S2.out.lies).u8 (k * s.sz + a) (by rw [rows_len S2.out]; omega)
    rw [Nat.zero_add, flat_at S2.out.ok.len HK.out ha] at this
    unfold SS.row
    rw [Int.toNat_natCast]
    exact this
  have ff : w2.frozen? ⟨h, k * s.sz + a, none⟩ = false := frozen_row S2.out.room
  have RM : Hid ((w2.setCell ⟨h, k * s.sz + a, none⟩ (.int .u8 (xr ((s.row k).getD a 0) x : Nat))).heap[h]? = some (.cells (u8s (s.rows.set k ((s.row k).set a (xr ((s.row k).getD a 0) x))).flatten).toArray 5 (0, 0))) := by
    show _ = _
    rw [set_row S2.out.room, ← u8s_set, flat_set S2.out.ok.len HK.out ha]
    unfold SS.row
    rw [Int.toNat_natCast]
  have TT := hid_as ((Turn.refl h w2).set (k * s.sz + a) (.int .u8 (xr ((s.row k).getD a 0) x : Nat)))
  have S3 := hid_as (S2.out.rooms TT.out RM.out (by simp) (S2.out.ok.upd (by rw [List.length_set]; exact (S2.out.ok.row HK.out).1) (bytes_set (S2.out.ok.row HK.out).2 _ (xr_lt _ _)) _ _ _ _ S2.out.ok.mx))
  clear BK k2 RM hkz
  go_wp2
  go_end0
  exact ⟨rfl, S3.out, (Turn.ofBelow K2.out.below).trans TT.out⟩
theorem spoilb_c {w : World} {g h x : Nat} {s : SS} (t : St w g h s) (i a : Int) : Calls Try.prog 24 #[.pointer (some ⟨g, 0, none⟩), .int .i64 i, .int .i64 a, .int .u8 (x : Int)] w fun e w' => e = .returned (.tuple #[]) ∧ St w' g h (s.spl i a x) ∧ Only [g, h] w w' := by
  by_cases he : s.err i = 0
  · by_cases ha : a < 0 ∨ (s.sz : Int) ≤ a
    · have e1 : s.spl i a x = s := by
        unfold SS.spl
        rw [if_pos (Or.inr ha)]
      rw [e1]
      refine (spoilb_out t i a _ he ha).mono ?_
      rintro _ w' ⟨rfl, k⟩
      exact ⟨rfl, t.same k, k.only _⟩
    · rcases s.err_cases i with h | h | ⟨_, _, k, rfl, hk⟩
      · rw [h.2] at he; cases he
      · rw [h.2.2] at he; cases he
      · obtain ⟨b, rfl⟩ : ∃ b : Nat, a = b := ⟨a.toNat, by omega⟩
        have e1 : s.spl k b x = { s with rows := s.rows.set k ((s.row k).set b (xr ((s.row k).getD b 0) x)) } := by
          unfold SS.spl
          rw [if_neg (by rw [he]; intro q; rcases q with q | q; exact q rfl; exact ha q), Int.toNat_natCast, Int.toNat_natCast]
        rw [e1]
        refine (spoilb_at t he hk (by omega)).mono ?_
        rintro _ w' ⟨rfl, s1, k⟩
        exact ⟨rfl, s1, Only.ofTurn k (by simp)⟩
  · have e1 : s.spl i a x = s := by
      unfold SS.spl
      rw [if_pos (Or.inl he)]
    rw [e1]
    refine (spoilb_no t i a _ he).mono ?_
    rintro _ w' ⟨rfl, k⟩
    exact ⟨rfl, t.same k, k.only _⟩
set_option maxHeartbeats 800000 in
theorem newb_c (nb sz : Nat) (b z : Int) (w : World) (hb : (b < 1 ∧ (nb : Int) = 1) ∨ (64 < b ∧ (nb : Int) = 64) ∨ (1 ≤ b ∧ b ≤ 64 ∧ (nb : Int) = b)) (hz : (z < 16 ∧ (sz : Int) = 16) ∨ (4096 < z ∧ (sz : Int) = 4096) ∨ (16 ≤ z ∧ z ≤ 4096 ∧ (sz : Int) = z)) :
    Calls Try.prog 25 #[.int .i64 b, .int .i64 z] w fun e w' => e = .returned (.pointer (some ⟨w.heap.size + 1, 0, none⟩)) ∧ St w' (w.heap.size + 1) w.heap.size (SS.new nb sz) ∧ Below w.heap.size w w' ∧ w'.heap.size = w.heap.size + 2 := by
  have X1 := hid_as (within_c b 1 64 nb w (by decide) hb)
  have X2 := hid_as (within_c z 16 4096 sz w (by decide) hz)
  have h1 : 16 ≤ sz ∧ sz ≤ 4096 := by omega
  have h2 : 1 ≤ nb ∧ nb ≤ 64 := by omega
  have hp : (nb : Int) * (sz : Int) = ((nb * sz : Nat) : Int) := (Int.natCast_mul ..).symm
  have hL : nb * sz ≤ 262144 := Nat.mul_le_mul h2.2 h1.2
  obtain ⟨w1, hm, hb1, k1, sz1⟩ := mk_run w (nb * sz) (by omega)
  have FIN : Hid (∀ W, W = w1.alloc (.cells #[.int .i64 (sz : Int), .slice (some ⟨w.heap.size, 0, none⟩) (nb * sz) (nb * sz), .int .i64 0, .bool false, .int .i64 (-1), .int .i64 0] 74) → St W (w.heap.size + 1) w.heap.size (SS.new nb sz) ∧ Below w.heap.size w W ∧ W.heap.size = w.heap.size + 2) := by
    rintro W rfl
    refine ⟨⟨?_, ?_, SS.new_ok h1.1 h1.2 h2.1 h2.2, Int.le_refl _, by show (0 : Int) ≤ (sz : Int); omega⟩, below_new k1 _, by rw [World.size_alloc, sz1]⟩
    · rw [← sz1, heap_alloc_new]
      simp [SS.new]
    · rw [Below.heap_alloc _ _ _ (by rw [sz1]; omega), hb1]
      show _ = some (Obj.cells (u8s (List.replicate nb (List.replicate sz 0)).flatten).toArray 5 (0, 0))
      rw [flat_zeros]
  have SZ := hid_as sz1
  clear hb1 k1 h1 h2 hb hz sz1
  generalize nb * sz = L at *
  go_enter Try.func25, Try.ntmps25
  go_wp2_with fail
  refine X1.out.mono ?_
  rintro e wx ⟨rfl, hw⟩
  subst wx
  go_wp2_with fail
  refine X2.out.mono ?_
  rintro e wx ⟨rfl, hw⟩
  subst wx
  clear X1 X2
  go_wp2
  rw [SZ.out]
  go_ret
  exact ⟨rfl, FIN.out _ rfl⟩
end Go.Proofs.Ytoiadofoclgnoaa
