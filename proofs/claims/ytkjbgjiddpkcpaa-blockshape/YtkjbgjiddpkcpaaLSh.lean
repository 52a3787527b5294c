/- The walk of BlockShape (stage 8). -/
import Derived.Test.YtkjbgjiddpkcpaaK1
namespace Go.Proofs.Ytkjbgjiddpkcpaa
open Go.RowKit
open Pdu
theorem new_len (nb sz : Nat) : (SS.new nb sz).rows.length = nb := by simp [SS.new]
theorem new_err {nb sz k : Nat} (h : k < nb) : (SS.new nb sz).err k = 0 := by
  unfold SS.err
  rw [new_len, if_neg (by simp [SS.new]), if_neg (by omega)]
theorem new_row {nb sz k : Nat} (h : k < nb) : (SS.new nb sz).row k = List.replicate sz 0 := by
  unfold SS.row SS.new
  simp [List.getD_eq_getElem?_getD, h]
theorem new_got {nb sz k : Nat} (h : k < nb) : (SS.new nb sz).got k = List.replicate sz 0 := by
  unfold SS.got
  rw [if_pos (new_err h), new_row h]
theorem zeros_bytes (n : Nat) : Bytes (List.replicate n 0) := fun x hx => by rw [List.eq_of_mem_replicate hx]; decide
set_option maxRecDepth 100000 in
set_option maxHeartbeats 1600000 in
theorem shape_w (nb sz : Nat) (b z : Int) (w : World) (hb : (b < 1 ∧ (nb : Int) = 1) ∨ (64 < b ∧ (nb : Int) = 64) ∨ (1 ≤ b ∧ b ≤ 64 ∧ (nb : Int) = b)) (hz : (z < 16 ∧ (sz : Int) = 16) ∨ (4096 < z ∧ (sz : Int) = 4096) ∨ (16 ≤ z ∧ z ≤ 4096 ∧ (sz : Int) = z)) :
    Calls Try.prog 5 #[.int .i64 b, .int .i64 z] w fun e w' => e = .returned (.bool true) ∧ Below w.heap.size w w' := by
  have X := hid_as (known_law w)
  have h1 : 16 ≤ sz ∧ sz ≤ 4096 := by omega
  have h2 : 1 ≤ nb ∧ nb ≤ 64 := by omega
  have HB := hid_as hb
  have HZ := hid_as hz
  clear hb hz
  go_enter Try.func5, Try.ntmps5
  go_wp2_with fail
  refine X.out.mono ?_
  rintro e w1 ⟨rfl, k1⟩
  have N := hid_as (new_h k1 HB.out HZ.out)
  clear k1 X
  go_wp2_with fail
  refine N.out.mono ?_
  rintro e w2 ⟨g, h, rfl, s2⟩
  have S2 := hid_as s2
  have B := hid_as s2.blocks
  rw [new_len] at B
  clear s2 N
  go_upto_region 4 with fail
  go_cut [36] from 14 to 35 (fun v wx => v = .bool false ∧ Hs w wx g h (SS.new nb sz))
  case first =>
    go_wp2_with fail
    refine B.out.mono ?_
    rintro e w3 ⟨rfl, s3, -⟩
    have S3 := hid_as s3
    have Q1 := hid_as s3.size
    have Q2 := hid_as s3.dead
    have Q3 := hid_as s3.writes
    rw [show (SS.new nb sz).sz = sz from rfl] at Q1
    rw [show (SS.new nb sz).dead = false from rfl] at Q2
    rw [show (SS.new nb sz).n = 0 from rfl] at Q3
    have MB : Hid (min (max b 1) 64 = (nb : Int)) := by
      have := HB.out
      show _ = _
      omega
    have MZ : Hid (min (max z 16) 4096 = (sz : Int)) := by
      have := HZ.out
      show _ = _
      omega
    clear s3 B S2
    rcases HB.out with ⟨p1, p2⟩ | ⟨p1, p2⟩ | ⟨p1, p2, p3⟩
    all_goals first
      | (have e0 : nb = 1 := (by omega); subst e0)
      | (have e0 : nb = 64 := (by omega); subst e0; have p4 : ¬ b < 1 := (by omega))
      | (have e0 : b = (nb : Int) := (by omega); subst e0; have p4 : ¬ (nb : Int) < 1 := (by omega); have p5 : ¬ (64 : Int) < (nb : Int) := (by omega))
    all_goals
      rcases HZ.out with ⟨q1, q2⟩ | ⟨q1, q2⟩ | ⟨q1, q2, q3⟩
      all_goals first
        | (have e0 : sz = 16 := (by omega); subst e0)
        | (have e0 : sz = 4096 := (by omega); subst e0; have q3 : ¬ z < 16 := (by omega))
        | (have e0 : z = (sz : Int) := (by omega); subst e0; have q4 : ¬ (sz : Int) < 16 := (by omega); have q5 : ¬ (4096 : Int) < (sz : Int) := (by omega))
      all_goals
        clear HB HZ MB MZ h1 h2
        go_wp2_with fail
        refine Q1.out.mono ?_
        rintro e wx ⟨rfl, hw⟩
        subst wx
        go_wp2_with fail
        refine Q2.out.mono ?_
        rintro e wx ⟨rfl, hw⟩
        subst wx
        go_wp2_with fail
        refine Q3.out.mono ?_
        rintro e wx ⟨rfl, hw⟩
        subst wx
        go_wp2
        go_meet
        case rel => exact ⟨rfl, S3.out⟩
  case rest =>
    obtain ⟨rfl, s3⟩ := hcut
    have S3 := hid_as s3
    clear s3 B S2
    go_wp2_with fail
    go_loopw [6] (fun v wr => ∃ I : Nat, v = .int .i64 (I : Int) ∧ I ≤ 200 ∧ Hs w wr g h (SS.new nb sz)) (fun v _ => nb - (intOf v).toNat)
    case atStart => exact ⟨0, rfl, by omega, S3.out⟩
    case round =>
      obtain ⟨I, rfl, hI, s4⟩ := hrel
      have BB := hid_as (fun (W : World) (s : Hs w W g h (SS.new nb sz)) => s.blocks)
      rw [new_len] at BB
      have B4 := hid_as (BB.out wr s4)
      clear s4 S3
      go_wp2_with fail
      refine B4.out.mono ?_
      rintro e w5 ⟨rfl, s5, -⟩
      by_cases hlt : I < nb
      · have hlt2 : (I : Int) < (nb : Int) := by omega
        have R := hid_as (s5.read I)
        rw [new_err hlt, new_got hlt] at R
        clear s5 B4
        go_wp2_with fail
        refine R.out.mono ?_
        rintro e w6 ⟨v6, rfl, o6, s6, -⟩
        have Z6 := hid_as s6.size
        rw [show (SS.new nb sz).sz = sz from rfl] at Z6
        obtain ⟨w7, hm, hb7, k7, -⟩ := mk_run w6 sz (by omega)
        obtain ⟨gv, cv, rfl, -⟩ := own_some o6 (fun e => by have := congrArg List.length e; rw [List.length_replicate] at this; simp at this; omega)
        rw [List.length_replicate] at o6 ⊢
        have O7 := hid_as (own_sl (own_below o6 k7 (Nat.le_refl _)))
        have M7 := hid_as (own_sl (own_of_block hb7 (Nat.le_refl _) (by rw [List.length_replicate]; omega)))
        rw [List.length_replicate] at M7
        have Y := hid_as (bytes_t O7.out M7.out (zeros_bytes sz))
        have S7 := hid_as (s6.below k7)
        clear R o6 s6 hb7 k7
        go_wp2_with fail
        refine Z6.out.mono ?_
        rintro e wx ⟨rfl, hw⟩
        subst wx
        go_wp2_with fail
        refine Y.out.mono ?_
        rintro e wx ⟨rfl, hw⟩
        subst wx
        have B7 := hid_as (BB.out _ S7.out)
        have hd : (nb : Int).tdiv 5 = ((nb / 5 : Nat) : Int) := by rw [Int.tdiv_eq_ediv_of_nonneg (by omega)]; rfl
        obtain ⟨m5, hm5⟩ : ∃ m5, m5 = nb / 5 := ⟨_, rfl⟩
        have hm6 : m5 ≤ 64 := by omega
        rw [← hm5] at hd
        clear Y Z6 O7 M7 hm hm5
        go_wp2_with fail
        refine B7.out.mono ?_
        rintro e w8 ⟨rfl, s8, -⟩
        have S8 := hid_as s8
        clear B7 s8
        go_wp2
        go_roundw
        case rel => exact ⟨I + (1 + m5), by go_num, by omega, S8.out⟩
        case measure => simp [intOf]; omega
      · have hlt2 : ¬ (I : Int) < (nb : Int) := by omega
        have K5 := hid_as s5.k
        clear s5 B4
        go_wp2
        go_ret
        exact ⟨rfl, K5.out⟩
theorem shape_law (b z : Int) (w : World) : Calls Try.prog 5 #[.int .i64 b, .int .i64 z] w fun e w' => e = .returned (.bool true) ∧ Below w.heap.size w w' := by
  refine shape_w (min (max b 1) 64).toNat (min (max z 16) 4096).toNat b z w ?_ ?_
  · omega
  · omega
end Go.Proofs.Ytkjbgjiddpkcpaa
