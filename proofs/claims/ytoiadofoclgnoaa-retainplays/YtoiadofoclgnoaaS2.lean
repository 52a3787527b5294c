/- The walks of a store's Read, Cut, Power (stage 9). -/
import Derived.Test.YtoiadofoclgnoaaS1
namespace Go.Proofs.Ytoiadofoclgnoaa
open Go.RowKit
open Pdu
def SS.got (s : SS) (i : Int) : List Nat := if s.err i = 0 then s.row i else []
theorem St.row_sl {w : World} {g h k : Nat} {s : SS} (t : St w g h s) (hk : k < s.rows.length) : Sl w (.slice (some ⟨h, k * s.sz, none⟩) s.sz (s.rows.length * s.sz - k * s.sz)) (u8s (s.row k)) := by
  have hkz : k * s.sz + s.sz ≤ s.rows.length * s.sz := by
    rw [← Nat.succ_mul]
    exact Nat.mul_le_mul_right _ hk
  have := sub_sl t.lies (k * s.sz) s.sz (s.rows.length * s.sz - k * s.sz) (by rw [rows_len t]; exact hkz) (by omega)
  rw [flat_sub t.ok.len hk, Nat.zero_add] at this
  unfold SS.row
  rw [Int.toNat_natCast]
  exact this
set_option maxHeartbeats 400000 in
theorem read_no {w : World} {g h : Nat} {s : SS} (t : St w g h s) (i : Int) (he : s.err i ≠ 0) : Calls Try.prog 40 #[.pointer (some ⟨g, 0, none⟩), .int .i64 i] w fun e w' => e = .returned (.tuple #[.slice none 0 0, .int .i64 (s.err i : Int)]) ∧ Same w w' := by
  have A := hid_as (ask_c t i)
  have hE : s.err i = 82 ∨ s.err i = 80 := by
    rcases s.err_cases i with h | h | h
    · exact Or.inl h.2
    · exact Or.inr h.2.2
    · exact absurd h.2.1 he
  clear t he
  rcases hE with hE | hE
  · rw [hE] at A ⊢
    clear hE
    go_enter Try.func40, Try.ntmps40
    go_wp2_with fail
    refine A.out.mono ?_
    rintro e w1 ⟨rfl, k1⟩
    have K1 := hid_as k1
    clear k1 A
    go_wp2
    refine bodyPost_ret (v := .tuple #[.slice none 0 0, .int .i64 82]) (by simp [results, Try.results40, go_sem]) rfl ⟨rfl, K1.out⟩
  · rw [hE] at A ⊢
    clear hE
    go_enter Try.func40, Try.ntmps40
    go_wp2_with fail
    refine A.out.mono ?_
    rintro e w1 ⟨rfl, k1⟩
    have K1 := hid_as k1
    clear k1 A
    go_wp2
    refine bodyPost_ret (v := .tuple #[.slice none 0 0, .int .i64 80]) (by simp [results, Try.results40, go_sem]) rfl ⟨rfl, K1.out⟩
set_option maxHeartbeats 800000 in
theorem read_yes {w : World} {g h k : Nat} {s : SS} (t : St w g h s) (hd : s.err k = 0) (hk : k < s.rows.length) : Calls Try.prog 40 #[.pointer (some ⟨g, 0, none⟩), .int .i64 (k : Int)] w fun e w' => ∃ v, e = .returned (.tuple #[v, .int .i64 0]) ∧ w'.ownsRow w.heap.size 5 1 v s.sz (u8s (s.row k)) ∧ Below w.heap.size w w' := by
  have A := hid_as (ask_c t k)
  rw [hd] at A
  have S := hid_as t
  have HK := hid_as hk
  have hz := t.ok.hi
  clear t hk
  go_enter Try.func40, Try.ntmps40
  go_wp2_with fail
  refine A.out.mono ?_
  rintro e w1 ⟨rfl, k1⟩
  have K1 := hid_as k1
  have c1 := (S.out.same k1).cSize
  obtain ⟨w2, hm, hb2, k2, sz2⟩ := mk_run w1 s.sz (by omega)
  have B2 := hid_as hb2
  have K2 := hid_as k2
  have S2 := hid_as ((S.out.same k1).below k2)
  have BK := hid_as (blk_c S2.out HK.out)
  clear k1 A hb2 k2 sz2
  go_wp2_with fail
  refine BK.out.mono ?_
  rintro e w3 ⟨rfl, k3⟩
  have K3 := hid_as k3
  have S3 := hid_as (S2.out.same k3)
  obtain ⟨w4, hr, hb4, t4⟩ := cp_run (w := w3) (g := w1.heap.size) (off := 0) (m := s.sz) (c := s.sz) 3 (by rw [k3.heap]; exact B2.out) (S3.out.row_sl HK.out) (S3.out.ok.row HK.out).1.symm (Nat.le_refl _) (by rw [List.length_replicate]; omega)
  have e4 : splice (List.replicate s.sz 0) 0 (s.row k) = s.row k := by
    unfold splice
    rw [Nat.zero_add, (S3.out.ok.row HK.out).1]
    simp
  rw [e4] at hb4
  have O4 : Hid (w4.ownsRow w.heap.size 5 1 (.slice (some ⟨w1.heap.size, 0, none⟩) s.sz s.sz) s.sz (u8s (s.row k))) := by
    have := own_of_block (base := w.heap.size) hb4 (by rw [K1.out.heap]; exact Nat.le_refl _) (by rw [(S3.out.ok.row HK.out).1]; omega)
    rw [(S3.out.ok.row HK.out).1] at this
    exact this
  have K4 : Hid (Below w.heap.size w w4) := by
    have h1 := K1.out.below
    have h2 := below_and (below_and h1 K2.out) K3.out.below
    have h3 : Below w.heap.size w3 w4 := t4.below (by rw [K1.out.heap]; exact Nat.le_refl _) h2.size
    exact h2.trans h3
  clear BK k3 hb4 t4 e4 hm
  go_wp2
  refine bodyPost_ret (v := .tuple #[.slice (some ⟨w1.heap.size, 0, none⟩) s.sz s.sz, .int .i64 0]) (by simp [results, Try.results40, go_sem]) rfl ⟨_, rfl, O4.out, K4.out⟩
theorem read_c {w : World} {g h : Nat} {s : SS} (t : St w g h s) (i : Int) : Calls Try.prog 40 #[.pointer (some ⟨g, 0, none⟩), .int .i64 i] w fun e w' => ∃ v, e = .returned (.tuple #[v, .int .i64 (s.err i : Int)]) ∧ w'.ownsRow w.heap.size 5 1 v (s.got i).length (u8s (s.got i)) ∧ Below w.heap.size w w' := by
  by_cases he : s.err i = 0
  · rcases s.err_cases i with h | h | ⟨_, _, k, rfl, hk⟩
    · rw [h.2] at he; cases he
    · rw [h.2.2] at he; cases he
    · have e : s.got k = s.row k := by unfold SS.got; rw [if_pos he]
      rw [e, (t.ok.row hk).1, he]
      exact read_yes t he hk
  · have e : s.got i = [] := by unfold SS.got; rw [if_neg he]
    rw [e]
    refine (read_no t i he).mono ?_
    rintro _ w' ⟨rfl, k⟩
    exact ⟨_, rfl, World.ownsRow_nil .., k.below⟩
def SS.cut (s : SS) (n p : Int) : SS := { s with lft := n, pre := clip s.sz p }
theorem clip_within (sz : Nat) (p : Int) : (p < 0 ∧ (clip sz p : Int) = 0) ∨ ((sz : Int) < p ∧ (clip sz p : Int) = sz) ∨ (0 ≤ p ∧ p ≤ sz ∧ (clip sz p : Int) = p) := by
  unfold clip
  omega
set_option maxHeartbeats 400000 in
theorem cutb_c {w : World} {g h : Nat} {s : SS} (t : St w g h s) (n p : Int) (hn : n ≤ 9223372036854775807) : Calls Try.prog 18 #[.pointer (some ⟨g, 0, none⟩), .int .i64 n, .int .i64 p] w fun e w' => e = .returned (.tuple #[]) ∧ St w' g h (s.cut n p) ∧ Turn g w w' := by
  have T1 := hid_as (t.setLeft n hn)
  have U1 := hid_as ((Turn.refl g w).set 4 (.int .i64 n))
  have f4 := t.free 4
  have c4 := t.cLeft
  have W := hid_as (fun (W : World) => within_c p 0 s.sz (clip s.sz p) W (by omega) (clip_within s.sz p))
  have c1 := T1.out.cSize
  have c5 := T1.out.cPre
  have f5 := T1.out.free 5
  clear t
  go_enter Try.func18, Try.ntmps18
  go_upto_region 1 with fail
  generalize w.setCell ⟨g, 4, none⟩ (.int .i64 n) = X at T1 U1 c1 c5 f5 ⊢
  go_wp2_with fail
  refine (W.out _).mono ?_
  rintro e w1 ⟨rfl, hw⟩
  subst w1
  clear W
  go_wp2
  go_end0
  exact ⟨rfl, T1.out.setPre (clip s.sz p) (by omega) (by have := clip_le s.sz p; show (clip s.sz p : Int) ≤ (s.sz : Int); omega), U1.out.set 5 _⟩
def SS.pwr (s : SS) : SS := { s with dead := false, lft := -1, pre := 0 }
set_option maxHeartbeats 400000 in
theorem powb_c {w : World} {g h : Nat} {s : SS} (t : St w g h s) : Calls Try.prog 19 #[.pointer (some ⟨g, 0, none⟩)] w fun e w' => e = .returned (.tuple #[]) ∧ St w' g h s.pwr ∧ Turn g w w' := by
  have T1 := hid_as (t.setDead false)
  have U1 := hid_as ((Turn.refl g w).set 3 (.bool false))
  have f4 := t.free 3
  have c4 := t.cDead
  clear t
  go_enter Try.func19, Try.ntmps19
  go_upto_region 1 with fail
  generalize w.setCell ⟨g, 3, none⟩ (.bool false) = X at T1 U1 ⊢
  have CT := hid_as (cutb_c T1.out (-1) 0 (by decide))
  go_wp2_with fail
  refine CT.out.mono ?_
  rintro e w1 ⟨rfl, s1, u1⟩
  have S1 := hid_as s1
  have U2 := hid_as (U1.out.trans u1)
  clear s1 u1 CT
  go_wp2
  go_end0
  refine ⟨rfl, ?_, U2.out⟩
  have h := S1.out
  have e : SS.cut { s with dead := false } (-1) 0 = s.pwr := by
    unfold SS.cut SS.pwr clip
    simp
  rw [e] at h
  exact h
end Go.Proofs.Ytoiadofoclgnoaa
