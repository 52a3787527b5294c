/- The walk of RetainSpoilt (stage 9). -/
import Derived.Test.YtoiadofoclgnoaaM6
namespace Go.Proofs.Ytoiadofoclgnoaa
open Go.RowKit
open Pdu
def lsp (seeds : List Int) (n t : Nat) : Last := if t = 0 then none else some (t, nbs (seeds.getD (t - 1) 0) n)
theorem lsp_some {seeds : List Int} {n t : Nat} (h : t ≠ 0) : lsp seeds n t = some (t, nbs (seeds.getD (t - 1) 0) n) := by unfold lsp; rw [if_neg h]
def SpR (w W : World) (gj g h n k : Nat) (seeds : List Int) : Prop := ∃ (J : JS) (s : SS), Hj w W gj g h J s n k (lsp seeds n k) ∧ s.lft < 0 ∧ Zr s ∧ (1 ≤ k → J.set = true)
theorem Spt.wide {s s' : SS} {a x : Nat} {P P' : Nat → Prop} (h : Spt s s' a x P) (e : ∀ j, j < 4 → (P j ↔ P' j)) : Spt s s' a x P' := ⟨fun i hi q => h.hit i hi ((e i hi).2 q), fun i hi q => h.miss i hi (fun z => q ((e i hi).1 z)), h.ok, h.sz, h.dead, h.len⟩
/-- The store while it is being spoilt. -/
structure SqW (w W : World) (g h : Nat) (s s2 : SS) (a x : Nat) (P : Nat → Prop) : Prop where
  st : St W g h s2
  k : Below w.heap.size w W
  g0 : w.heap.size ≤ g
  h0 : w.heap.size ≤ h
  sp : Spt s s2 a x P
structure SqR (w W : World) (g h : Nat) (s : SS) (a x : Nat) (P : Nat → Prop) : Prop where
  ex : ∃ s2, SqW w W g h s s2 a x P
theorem SqW.same {w W W' : World} {g h : Nat} {s s2 : SS} {a x : Nat} {P : Nat → Prop} (q : SqW w W g h s s2 a x P) (k : Same W W') : SqW w W' g h s s2 a x P := ⟨q.st.same k, below_and q.k k.below, q.g0, q.h0, q.sp⟩
theorem SqW.skip {w W : World} {g h : Nat} {s s2 : SS} {a x : Nat} {P P' : Nat → Prop} (q : SqW w W g h s s2 a x P) (e : ∀ j, P j ↔ P' j) : SqR w W g h s a x P' := ⟨s2, q.st, q.k, q.g0, q.h0, q.sp.wide (fun j _ => e j)⟩
theorem SqR.stp {w W : World} {g h : Nat} {s : SS} {a x : Nat} {P P' : Nat → Prop} (q : SqR w W g h s a x P) (e : ∀ j, P j ↔ P' j) : SqR w W g h s a x P' := by
  obtain ⟨s2, q⟩ := q.ex
  exact q.skip e
theorem SqW.spoil_c {w W : World} {g h i : Nat} {s s2 : SS} {a x : Nat} {Q : Nat → Prop} (q : SqW w W g h s s2 a x (fun j => j < i ∧ Q j)) (hi : i < s.rows.length) (ha : a < s.sz) :
    Calls Try.prog 24 #[.pointer (some ⟨g, 0, none⟩), .int .i64 (i : Int), .int .i64 (a : Int), .int .u8 (x : Int)] W fun e W' => e = .returned (.tuple #[]) ∧ SqR w W' g h s a x (fun j => (j < i ∧ Q j) ∨ j = i) := by
  refine (spoilb_c q.st (i : Int) (a : Int)).mono ?_
  rintro e W' ⟨rfl, t, k⟩
  refine ⟨rfl, _, t, q.k.trans (k.below (by intro j hj; simp only [List.mem_cons, List.not_mem_nil, or_false] at hj; rcases hj with rfl | rfl; exact q.g0; exact q.h0) q.k.size), q.g0, q.h0, ?_⟩
  have hi2 : i < s2.rows.length := by rw [q.sp.len]; exact hi
  have he : s2.err (i : Int) = 0 := by unfold SS.err; rw [q.sp.dead, if_neg (by decide), if_neg (by omega)]
  have ha2 : a < s2.sz := by rw [q.sp.sz]; exact ha
  have es : s2.spl i a x = { s2 with rows := s2.rows.set ((i : Int)).toNat (sp1 a x (s2.row i)) } := by
    unfold SS.spl sp1
    rw [if_neg (by rw [he]; omega)]
    simp only [Int.toNat_natCast]
  have hr : ∀ j : Nat, (s2.spl i a x).row j = if i = j then sp1 a x (s2.row i) else s2.row j := by
    intro j
    rw [es]
    exact row_set s2 i j _ _ _ _ _ hi2
  refine ⟨fun j hj hP => ?_, fun j hj hP => ?_, t.ok, by rw [es]; exact q.sp.sz, by rw [es]; exact q.sp.dead, by rw [es]; simp [q.sp.len]⟩
  · rw [hr]
    by_cases e : i = j
    · subst e
      rw [if_pos rfl, q.sp.miss i hj (fun z => by omega)]
    · rw [if_neg e]
      rcases hP with hP | hP
      · exact q.sp.hit j hj hP
      · exact absurd hP.symm e
  · rw [hr, if_neg (fun e => hP (Or.inr e.symm))]
    exact q.sp.miss j hj (fun z => hP (Or.inl z))
set_option maxRecDepth 100000 in
set_option maxHeartbeats 3200000 in
theorem spoilt_t (size n at_ which : Int) (x sb so m c : Nat) (seeds : List Int) (w : World) (hl : Lies w sb so (i64s seeds)) (hm : m = seeds.length) (hm1 : 1 ≤ m) (hm2 : m ≤ 12) (hx0 : x ≠ 0) (hx : x < 256) :
    Calls Try.prog 5 #[.int .i64 size, .int .i64 n, .slice (some ⟨sb, so, none⟩) m c, .int .i64 at_, .int .i64 which, .int .u8 (x : Int), .bool true] w fun e w' => e = .returned (.bool true) ∧ Below w.heap.size w w' := by
  have HL := hid_as hl
  have HM := hid_as hm
  have HX0 := hid_as hx0
  have d1 : ¬ (12 : Int) < (m : Int) := by omega
  have d2 : decide ((12 : Int) < (m : Int)) = false := decide_eq_false d1
  have d3 : ((m : Int) == 0) = false := by rw [beq_eq_false_iff_ne]; omega
  have d4 : ((x : Int) == 0) = false := by rw [beq_eq_false_iff_ne]; omega
  clear hl hm hx0
  have KN := hid_as (known_c w)
  go_enter Try.func5, Try.ntmps5
  go_wp2_with fail
  with_reducible refine KN.out.mono ?_
  rintro e w1 ⟨rfl, k1⟩
  have K1 := hid_as k1
  have ST := hid_as (store_c size w1)
  clear KN k1
  go_wp2_with fail
  with_reducible refine ST.out.mono ?_
  rintro e w2 ⟨z, hz1, hz2, rfl, t2, k2⟩
  have RM := hid_as (room_c t2)
  rw [new_room hz1] at RM
  have T2 := hid_as t2
  have K2 := hid_as (below_and K1.out k2)
  have GZ : Hid (w.heap.size ≤ w1.heap.size) := K1.out.size
  have GY : Hid (w.heap.size ≤ w1.heap.size + 1) := Nat.le_succ_of_le K1.out.size
  clear ST t2 k2 K1
  generalize w1.heap.size + 1 = g at *
  generalize w1.heap.size = h at *
  obtain ⟨r, hr⟩ : ∃ r, r = (z - 36) / 8 := ⟨_, rfl⟩
  rw [← hr] at RM
  have hr1 : r ≤ 60 := by omega
  have HR := hid_as hr
  clear hr
  go_upto_region 6 with fail
  go_cut [1] from 44 to 49 (fun v wx => ∃ a : Nat, a ≤ r ∧ a ≤ 30 ∧ v = .int .i64 a ∧ Same w2 wx)
  case first =>
    go_wp2_with fail
    with_reducible refine RM.out.mono ?_
    rintro e w3 ⟨rfl, k3⟩
    have K3 := hid_as k3
    clear RM k3
    by_cases hl : (30 : Int) < (r : Int)
    · have PA := hid_as (fun W => place_i n 31 (by decide) (by decide) W)
      go_wp2_with fail
      with_reducible refine (PA.out _).mono ?_
      rintro e w4 ⟨⟨a, ha, rfl⟩, hw⟩
      subst w4
      clear PA
      go_wp2_with fail
      go_meet
      exact ⟨a, by omega, by omega, rfl, K3.out⟩
    · have PA := hid_as (fun W => place_i n (1 + (r : Int)) (by omega) (by omega) W)
      go_wp2_with fail
      with_reducible refine (PA.out _).mono ?_
      rintro e w4 ⟨⟨a, ha, rfl⟩, hw⟩
      subst w4
      clear PA
      go_wp2_with fail
      go_meet
      exact ⟨a, by omega, by omega, rfl, K3.out⟩
  case rest =>
  obtain ⟨a, har, ha5, rfl, k3⟩ := hcut
  have H3 : Hid (Hk w wc g h (SS.new 8 z) a 0 none) := ⟨T2.out.same k3, below_and K2.out k3.below, GY.out, GZ.out, sg_new (by decide) (by omega) (by have := HR.out; omega) (by omega)⟩
  clear RM T2 K2 k3 HR
  have OP := hid_as (H3.out.opn (ni := a) rfl rfl)
  go_wp2_with fail
  with_reducible refine OP.out.mono ?_
  rintro e w4 ⟨gj, J, v, f, rfl, op⟩
  obtain ⟨rfl, rfl⟩ := op.told
  have R0 : Hid (SpR w w4 gj g h a 0 seeds) := ⟨J, _, op.hj, show (-1 : Int) < 0 by decide, Zr.new 8 z (by decide), fun q => by omega⟩
  clear OP op H3
  go_wp2
  go_loopw [20] (fun i wr => ∃ k : Nat, k ≤ m ∧ i = .int .i64 k ∧ SpR w wr gj g h a k seeds) (fun i _ => m - (intOf i).toNat)
  case atStart => exact ⟨0, by omega, rfl, R0.out⟩
  case round =>
    obtain ⟨k, hk, rfl, hR⟩ := hrel
    have RR := hid_as hR
    clear hR R0
    by_cases hkm : k < m
    · have hkm2 : (k : Int) < (m : Int) := by omega
      obtain ⟨J, s, hj, hlft, hzr, hset⟩ := RR.out
      have HJ := hid_as hj
      have LT := hid_as hj.lts
      have LF := hid_as hlft
      have ZR := hid_as hzr
      have hcell : wr.cell? ⟨sb, so + k, none⟩ = some (.int .i64 (seeds.getD k 0)) := (hj.k.cell (p := ⟨sb, so + k, none⟩) (lt_of_cell (HL.out k _ (i64s_at seeds k (by rw [← HM.out]; exact hkm))))).trans (HL.out k _ (i64s_at seeds k (by rw [← HM.out]; exact hkm)))
      obtain ⟨sd, hsd⟩ : ∃ sd, sd = seeds.getD k 0 := ⟨_, rfl⟩
      rw [← hsd] at hcell
      have HSD := hid_as hsd
      have NB := hid_as (fun (W : World) => num_i sd a (ni := a) rfl W (by omega))
      clear hj hlft hzr hset hsd RR
      go_wp2_with fail
      with_reducible refine (NB.out _).mono ?_
      rintro e w5 ⟨v5, rfl, own5, k5⟩
      have LY := hid_as ((HJ.out.below k5).lay0 (sc := k + 1) (sci := (k : Int) + 1) LF.out (by omega) own5 LT.out.1 LT.out.2.1 LT.out.2.2 (nbs_len _ _) (nbs_ints _ _) (by omega) (by omega))
      clear HJ own5 k5
      go_wp2_with fail
      with_reducible refine LY.out.mono ?_
      rintro e w6 ⟨rfl, J6, s6, ly⟩
      have R6 : Hid (SpR w w6 gj g h a (k + 1) seeds) := by
        refine ⟨J6, s6, ?_, ly.lft, ZR.out.kp ly.kp, fun _ => ly.set⟩
        rw [lsp_some (by omega), show k + 1 - 1 = k by omega, ← HSD.out]
        exact ly.hj
      clear LY ly NB
      go_wp2
      go_roundw
      case rel => exact ⟨k + 1, by omega, by go_num, R6.out⟩
      case measure => simp [intOf]; omega
    · obtain rfl : k = m := by omega
      obtain ⟨J, s, hj, hlft, hzr, hset⟩ := RR.out
      rw [lsp_some (by omega)] at hj
      obtain ⟨sd, hsd⟩ : ∃ sd, sd = seeds.getD (k - 1) 0 := ⟨_, rfl⟩
      rw [← hsd] at hj
      have HSD := hid_as hsd
      have HJ := hid_as hj
      have ZR := hid_as hzr
      have SD := hid_as (hj.set (hset hm1))
      have hf4 := fit_is hj.sg.fit
      have hnb := hj.jr.st.ok.nhi
      have hszh := hj.jr.st.ok.hi
      have HBk := hid_as (fun (W : World) (q : Same wr W) => blocks_c (hj.jr.st.same q))
      have HSz := hid_as (fun (W : World) (q : Same wr W) => size_c (hj.jr.st.same q))
      obtain ⟨nb, hnbe⟩ : ∃ nb, nb = s.rows.length := ⟨_, rfl⟩
      rw [← hnbe] at HBk hf4 hnb
      have HNB := hid_as hnbe
      obtain ⟨zz, hzze⟩ : ∃ zz, zz = s.sz := ⟨_, rfl⟩
      rw [← hzze] at HSz hf4 hszh
      have HZZ := hid_as hzze
      clear hj hlft hzr hset hsd hnbe hzze RR
      have PA := hid_as (fun W => place_i at_ (zz : Int) (by omega) (by omega) W)
      have PB := hid_as (fun W => place_i which (nb : Int) (by omega) (by omega) W)
      go_wp2_with fail
      with_reducible refine (HSz.out _ (Same.refl _)).mono ?_
      rintro e w5 ⟨rfl, hw⟩
      subst w5
      go_wp2_with fail
      with_reducible refine (PA.out _).mono ?_
      rintro e w5 ⟨⟨pa, hpa, rfl⟩, hw⟩
      subst w5
      go_wp2_with fail
      with_reducible refine (HBk.out _ (Same.refl _)).mono ?_
      rintro e w5 ⟨rfl, k5⟩
      go_wp2_with fail
      with_reducible refine (PB.out _).mono ?_
      rintro e w6 ⟨⟨wh, hwh, rfl⟩, hw⟩
      subst w6
      have hpa2 : pa < zz := by omega
      have hwh2 : wh < nb := by omega
      have Q0 : Hid (SqR w w5 g h s pa x (fun j => j < 0 ∧ (True ∨ j = wh))) := ⟨s, HJ.out.jr.st.same k5, below_and HJ.out.k k5.below, HJ.out.g0, HJ.out.h0, ⟨fun i _ q => absurd q.1 (by omega), fun i _ _ => rfl, HJ.out.jr.st.ok, rfl, HJ.out.dead, rfl⟩⟩
      clear PA PB HBk HSz hpa hwh k5
      go_wp2
      go_loopw [21] (fun iv wq => ∃ i : Nat, i ≤ nb ∧ iv = .int .i64 i ∧ SqR w wq g h s pa x (fun j => j < i ∧ (True ∨ j = wh))) (fun iv _ => nb - (intOf iv).toNat)
      case atStart => exact ⟨0, by omega, rfl, Q0.out⟩
      case round =>
        obtain ⟨i, hi, rfl, hQ⟩ := hrel
        obtain ⟨s2, hq⟩ := hQ.ex
        have QQ := hid_as hq
        clear hQ hq Q0
        have bk := blocks_c QQ.out.st
        rw [QQ.out.sp.len, ← HNB.out] at bk
        have BK := hid_as bk
        clear bk
        by_cases hin : i < nb
        · have hin2 : (i : Int) < (nb : Int) := by omega
          go_wp2_with fail
          with_reducible refine BK.out.mono ?_
          rintro e w7 ⟨rfl, k7⟩
          have Q7 := hid_as (QQ.out.same k7)
          clear BK k7 QQ
          have SB := hid_as (Q7.out.spoil_c (i := i) (by rw [← HNB.out]; exact hin) (by rw [← HZZ.out]; exact hpa2))
          go_wp2_with fail
          with_reducible refine SB.out.mono ?_
          rintro e w8 ⟨rfl, q8⟩
          have Q8 : Hid (SqR w w8 g h s pa x (fun j => j < i + 1 ∧ (True ∨ j = wh))) := q8.stp (fun j => by simp only [true_or, and_true]; omega)
          clear SB q8
          go_wp2
          go_roundw
          case rel => exact ⟨i + 1, by omega, by go_num, Q8.out⟩
          case measure => simp [intOf]; omega
        · obtain rfl : i = nb := by omega
          go_wp2_with fail
          with_reducible refine BK.out.mono ?_
          rintro e w7 ⟨rfl, k7⟩
          have Q7 := hid_as (QQ.out.same k7)
          clear BK k7 QQ
          have hfit2 : s2.fit = true := by
            unfold SS.fit
            rw [decide_eq_true_eq, Q7.out.sp.len, Q7.out.sp.sz, ← HNB.out, ← HZZ.out]
            exact hf4
          have OC := hid_as (open_c (n := a) Q7.out.st Q7.out.sp.dead hfit2 ((room_is hfit2).2 (by rw [Q7.out.sp.sz]; exact HJ.out.sg.room)))
          go_wp2_with fail
          with_reducible refine OC.out.mono ?_
          rintro e w8 ⟨g8, J8, v8, f8, rfl, op8⟩
          have B8 : Hid (Below w.heap.size w w8) := below_and Q7.out.k op8.k
          obtain ⟨rfl, rfl⟩ := Spt.every1 (fun j => trivial) (Q7.out.sp.wide (P' := fun _ => True) (fun j hj => by simp; omega)) HJ.out.jr.st.ok HJ.out.sg.fit ZR.out (by rw [← HZZ.out]; exact hpa2) HX0.out hx SD.out op8.fnd
          clear OC op8 Q7
          by_cases hk1 : k = 1
          · subst hk1
            go_wp2
            go_ret
            exact ⟨rfl, B8.out⟩
          · have hk2 : (0 : Int) < (k : Int) - 1 := by omega
            have hk3 : decide ((0 : Int) < (k : Int) - 1) = true := decide_eq_true hk2
            go_wp2
            go_ret
            exact ⟨rfl, B8.out⟩
set_option maxRecDepth 100000 in
set_option maxHeartbeats 3200000 in
theorem spoilt_f (size n at_ which : Int) (x sb so m c : Nat) (seeds : List Int) (w : World) (hl : Lies w sb so (i64s seeds)) (hm : m = seeds.length) (hm1 : 1 ≤ m) (hm2 : m ≤ 12) (hx0 : x ≠ 0) (hx : x < 256) :
    Calls Try.prog 5 #[.int .i64 size, .int .i64 n, .slice (some ⟨sb, so, none⟩) m c, .int .i64 at_, .int .i64 which, .int .u8 (x : Int), .bool false] w fun e w' => e = .returned (.bool true) ∧ Below w.heap.size w w' := by
  have HL := hid_as hl
  have HM := hid_as hm
  have HX0 := hid_as hx0
  have d1 : ¬ (12 : Int) < (m : Int) := by omega
  have d2 : decide ((12 : Int) < (m : Int)) = false := decide_eq_false d1
  have d3 : ((m : Int) == 0) = false := by rw [beq_eq_false_iff_ne]; omega
  have d4 : ((x : Int) == 0) = false := by rw [beq_eq_false_iff_ne]; omega
  clear hl hm hx0
  have KN := hid_as (known_c w)
  go_enter Try.func5, Try.ntmps5
  go_wp2_with fail
  with_reducible refine KN.out.mono ?_
  rintro e w1 ⟨rfl, k1⟩
  have K1 := hid_as k1
  have ST := hid_as (store_c size w1)
  clear KN k1
  go_wp2_with fail
  with_reducible refine ST.out.mono ?_
  rintro e w2 ⟨z, hz1, hz2, rfl, t2, k2⟩
  have RM := hid_as (room_c t2)
  rw [new_room hz1] at RM
  have T2 := hid_as t2
  have K2 := hid_as (below_and K1.out k2)
  have GZ : Hid (w.heap.size ≤ w1.heap.size) := K1.out.size
  have GY : Hid (w.heap.size ≤ w1.heap.size + 1) := Nat.le_succ_of_le K1.out.size
  clear ST t2 k2 K1
  generalize w1.heap.size + 1 = g at *
  generalize w1.heap.size = h at *
  obtain ⟨r, hr⟩ : ∃ r, r = (z - 36) / 8 := ⟨_, rfl⟩
  rw [← hr] at RM
  have hr1 : r ≤ 60 := by omega
  have HR := hid_as hr
  clear hr
  go_upto_region 6 with fail
  go_cut [1] from 44 to 49 (fun v wx => ∃ a : Nat, a ≤ r ∧ a ≤ 30 ∧ v = .int .i64 a ∧ Same w2 wx)
  case first =>
    go_wp2_with fail
    with_reducible refine RM.out.mono ?_
    rintro e w3 ⟨rfl, k3⟩
    have K3 := hid_as k3
    clear RM k3
    by_cases hl : (30 : Int) < (r : Int)
    · have PA := hid_as (fun W => place_i n 31 (by decide) (by decide) W)
      go_wp2_with fail
      with_reducible refine (PA.out _).mono ?_
      rintro e w4 ⟨⟨a, ha, rfl⟩, hw⟩
      subst w4
      clear PA
      go_wp2_with fail
      go_meet
      exact ⟨a, by omega, by omega, rfl, K3.out⟩
    · have PA := hid_as (fun W => place_i n (1 + (r : Int)) (by omega) (by omega) W)
      go_wp2_with fail
      with_reducible refine (PA.out _).mono ?_
      rintro e w4 ⟨⟨a, ha, rfl⟩, hw⟩
      subst w4
      clear PA
      go_wp2_with fail
      go_meet
      exact ⟨a, by omega, by omega, rfl, K3.out⟩
  case rest =>
  obtain ⟨a, har, ha5, rfl, k3⟩ := hcut
  have H3 : Hid (Hk w wc g h (SS.new 8 z) a 0 none) := ⟨T2.out.same k3, below_and K2.out k3.below, GY.out, GZ.out, sg_new (by decide) (by omega) (by have := HR.out; omega) (by omega)⟩
  clear RM T2 K2 k3 HR
  have OP := hid_as (H3.out.opn (ni := a) rfl rfl)
  go_wp2_with fail
  with_reducible refine OP.out.mono ?_
  rintro e w4 ⟨gj, J, v, f, rfl, op⟩
  obtain ⟨rfl, rfl⟩ := op.told
  have R0 : Hid (SpR w w4 gj g h a 0 seeds) := ⟨J, _, op.hj, show (-1 : Int) < 0 by decide, Zr.new 8 z (by decide), fun q => by omega⟩
  clear OP op H3
  go_wp2
  go_loopw [20] (fun i wr => ∃ k : Nat, k ≤ m ∧ i = .int .i64 k ∧ SpR w wr gj g h a k seeds) (fun i _ => m - (intOf i).toNat)
  case atStart => exact ⟨0, by omega, rfl, R0.out⟩
  case round =>
    obtain ⟨k, hk, rfl, hR⟩ := hrel
    have RR := hid_as hR
    clear hR R0
    by_cases hkm : k < m
    · have hkm2 : (k : Int) < (m : Int) := by omega
      obtain ⟨J, s, hj, hlft, hzr, hset⟩ := RR.out
      have HJ := hid_as hj
      have LT := hid_as hj.lts
      have LF := hid_as hlft
      have ZR := hid_as hzr
      have hcell : wr.cell? ⟨sb, so + k, none⟩ = some (.int .i64 (seeds.getD k 0)) := (hj.k.cell (p := ⟨sb, so + k, none⟩) (lt_of_cell (HL.out k _ (i64s_at seeds k (by rw [← HM.out]; exact hkm))))).trans (HL.out k _ (i64s_at seeds k (by rw [← HM.out]; exact hkm)))
      obtain ⟨sd, hsd⟩ : ∃ sd, sd = seeds.getD k 0 := ⟨_, rfl⟩
      rw [← hsd] at hcell
      have HSD := hid_as hsd
      have NB := hid_as (fun (W : World) => num_i sd a (ni := a) rfl W (by omega))
      clear hj hlft hzr hset hsd RR
      go_wp2_with fail
      with_reducible refine (NB.out _).mono ?_
      rintro e w5 ⟨v5, rfl, own5, k5⟩
      have LY := hid_as ((HJ.out.below k5).lay0 (sc := k + 1) (sci := (k : Int) + 1) LF.out (by omega) own5 LT.out.1 LT.out.2.1 LT.out.2.2 (nbs_len _ _) (nbs_ints _ _) (by omega) (by omega))
      clear HJ own5 k5
      go_wp2_with fail
      with_reducible refine LY.out.mono ?_
      rintro e w6 ⟨rfl, J6, s6, ly⟩
      have R6 : Hid (SpR w w6 gj g h a (k + 1) seeds) := by
        refine ⟨J6, s6, ?_, ly.lft, ZR.out.kp ly.kp, fun _ => ly.set⟩
        rw [lsp_some (by omega), show k + 1 - 1 = k by omega, ← HSD.out]
        exact ly.hj
      clear LY ly NB
      go_wp2
      go_roundw
      case rel => exact ⟨k + 1, by omega, by go_num, R6.out⟩
      case measure => simp [intOf]; omega
    · obtain rfl : k = m := by omega
      obtain ⟨J, s, hj, hlft, hzr, hset⟩ := RR.out
      rw [lsp_some (by omega)] at hj
      obtain ⟨sd, hsd⟩ : ∃ sd, sd = seeds.getD (k - 1) 0 := ⟨_, rfl⟩
      rw [← hsd] at hj
      have HSD := hid_as hsd
      have HJ := hid_as hj
      have ZR := hid_as hzr
      have SD := hid_as (hj.set (hset hm1))
      have hf4 := fit_is hj.sg.fit
      have hnb := hj.jr.st.ok.nhi
      have hszh := hj.jr.st.ok.hi
      have HBk := hid_as (fun (W : World) (q : Same wr W) => blocks_c (hj.jr.st.same q))
      have HSz := hid_as (fun (W : World) (q : Same wr W) => size_c (hj.jr.st.same q))
      obtain ⟨nb, hnbe⟩ : ∃ nb, nb = s.rows.length := ⟨_, rfl⟩
      rw [← hnbe] at HBk hf4 hnb
      have HNB := hid_as hnbe
      obtain ⟨zz, hzze⟩ : ∃ zz, zz = s.sz := ⟨_, rfl⟩
      rw [← hzze] at HSz hf4 hszh
      have HZZ := hid_as hzze
      clear hj hlft hzr hset hsd hnbe hzze RR
      have PA := hid_as (fun W => place_i at_ (zz : Int) (by omega) (by omega) W)
      have PB := hid_as (fun W => place_i which (nb : Int) (by omega) (by omega) W)
      go_wp2_with fail
      with_reducible refine (HSz.out _ (Same.refl _)).mono ?_
      rintro e w5 ⟨rfl, hw⟩
      subst w5
      go_wp2_with fail
      with_reducible refine (PA.out _).mono ?_
      rintro e w5 ⟨⟨pa, hpa, rfl⟩, hw⟩
      subst w5
      go_wp2_with fail
      with_reducible refine (HBk.out _ (Same.refl _)).mono ?_
      rintro e w5 ⟨rfl, k5⟩
      go_wp2_with fail
      with_reducible refine (PB.out _).mono ?_
      rintro e w6 ⟨⟨wh, hwh, rfl⟩, hw⟩
      subst w6
      have hpa2 : pa < zz := by omega
      have hwh2 : wh < nb := by omega
      have Q0 : Hid (SqR w w5 g h s pa x (fun j => j < 0 ∧ (False ∨ j = wh))) := ⟨s, HJ.out.jr.st.same k5, below_and HJ.out.k k5.below, HJ.out.g0, HJ.out.h0, ⟨fun i _ q => absurd q.1 (by omega), fun i _ _ => rfl, HJ.out.jr.st.ok, rfl, HJ.out.dead, rfl⟩⟩
      clear PA PB HBk HSz hpa hwh k5
      go_wp2
      go_loopw [21] (fun iv wq => ∃ i : Nat, i ≤ nb ∧ iv = .int .i64 i ∧ SqR w wq g h s pa x (fun j => j < i ∧ (False ∨ j = wh))) (fun iv _ => nb - (intOf iv).toNat)
      case atStart => exact ⟨0, by omega, rfl, Q0.out⟩
      case round =>
        obtain ⟨i, hi, rfl, hQ⟩ := hrel
        obtain ⟨s2, hq⟩ := hQ.ex
        have QQ := hid_as hq
        clear hQ hq Q0
        have bk := blocks_c QQ.out.st
        rw [QQ.out.sp.len, ← HNB.out] at bk
        have BK := hid_as bk
        clear bk
        by_cases hin : i < nb
        · have hin2 : (i : Int) < (nb : Int) := by omega
          go_wp2_with fail
          with_reducible refine BK.out.mono ?_
          rintro e w7 ⟨rfl, k7⟩
          have Q7 := hid_as (QQ.out.same k7)
          clear BK k7 QQ
          by_cases hiw : i = wh
          · have hiw2 : ((i : Int) == (wh : Int)) = true := by rw [beq_iff_eq]; omega
            have HIW := hid_as hiw
            clear hiw
            have SB := hid_as (Q7.out.spoil_c (i := i) (by rw [← HNB.out]; exact hin) (by rw [← HZZ.out]; exact hpa2))
            go_wp2_with fail
            with_reducible refine SB.out.mono ?_
            rintro e w8 ⟨rfl, q8⟩
            have Q8 : Hid (SqR w w8 g h s pa x (fun j => j < i + 1 ∧ (False ∨ j = wh))) := q8.stp (fun j => by have := HIW.out; simp only [false_or]; omega)
            clear SB q8
            go_wp2
            go_roundw
            case rel => exact ⟨i + 1, by omega, by go_num, Q8.out⟩
            case measure => simp [intOf]; omega
          · have hiw2 : ((i : Int) == (wh : Int)) = false := by rw [beq_eq_false_iff_ne]; omega
            have Q8 : Hid (SqR w w7 g h s pa x (fun j => j < i + 1 ∧ (False ∨ j = wh))) := Q7.out.skip (fun j => by simp only [false_or]; omega)
            go_wp2
            go_roundw
            case rel => exact ⟨i + 1, by omega, by go_num, Q8.out⟩
            case measure => simp [intOf]; omega
        · obtain rfl : i = nb := by omega
          go_wp2_with fail
          with_reducible refine BK.out.mono ?_
          rintro e w7 ⟨rfl, k7⟩
          have Q7 := hid_as (QQ.out.same k7)
          clear BK k7 QQ
          have hfit2 : s2.fit = true := by
            unfold SS.fit
            rw [decide_eq_true_eq, Q7.out.sp.len, Q7.out.sp.sz, ← HNB.out, ← HZZ.out]
            exact hf4
          have OC := hid_as (open_c (n := a) Q7.out.st Q7.out.sp.dead hfit2 ((room_is hfit2).2 (by rw [Q7.out.sp.sz]; exact HJ.out.sg.room)))
          go_wp2_with fail
          with_reducible refine OC.out.mono ?_
          rintro e w8 ⟨g8, J8, v8, f8, rfl, op8⟩
          have B8 : Hid (Below w.heap.size w w8) := below_and Q7.out.k op8.k
          have hinv := Spt.lone (Q7.out.sp.wide (P' := fun j => j = wh) (fun j hj => by simp; omega)) HJ.out.jr.st.ok HJ.out.sg.fit ZR.out (by rw [← HZZ.out]; exact hpa2) HX0.out hx SD.out
          obtain ⟨rfl, own8⟩ := hinv.told op8.fnd
          have OW := hid_as own8
          clear OC op8 hinv own8 Q7
          obtain ⟨k', rfl⟩ : ∃ k', k = k' + 1 := ⟨k - 1, by omega⟩
          have hcell : w8.cell? ⟨sb, so + k', none⟩ = some (.int .i64 sd) := by
            rw [HSD.out, show k' + 1 - 1 = k' by omega]
            exact (B8.out.cell (p := ⟨sb, so + k', none⟩) (lt_of_cell (HL.out k' _ (i64s_at seeds k' (by rw [← HM.out]; omega))))).trans (HL.out k' _ (i64s_at seeds k' (by rw [← HM.out]; omega)))
          have hkk : (k' : Int) < ((k' + 1 : Nat) : Int) := by omega
          have NB := hid_as (fun (W : World) => num_i sd a (ni := a) rfl W (by omega))
          go_wp2_with fail
          with_reducible refine (NB.out _).mono ?_
          rintro e w9 ⟨v9, rfl, own9, k9⟩
          have NU : Hid (Calls Try.prog 20 #[v8, v9] w9 fun e w' => e = .returned (.bool true) ∧ Same w9 w') := by
            have := nums_told (own64_below OW.out k9) own9 (by rw [nbs_len]; omega)
            rwa [decide_eq_true rfl] at this
          have B9 : Hid (Below w.heap.size w w9) := below_and B8.out k9
          clear own9 k9 OW B8
          go_wp2_with fail
          with_reducible refine NU.out.mono ?_
          rintro e w10 ⟨rfl, k10⟩
          have B10 : Hid (Below w.heap.size w w10) := below_and B9.out k10.below
          clear NU k10 B9
          go_wp2
          go_ret
          exact ⟨rfl, B10.out⟩
set_option maxRecDepth 100000 in
set_option maxHeartbeats 1600000 in
theorem spoilt_no (size n at_ which : Int) (x m c : Nat) (ao : Option Addr) (al : Bool) (w : World) (h : (12 < m) ∨ (m ≤ 12 ∧ m = 0) ∨ (m ≤ 12 ∧ m ≠ 0 ∧ x = 0)) :
    Calls Try.prog 5 #[.int .i64 size, .int .i64 n, .slice ao m c, .int .i64 at_, .int .i64 which, .int .u8 (x : Int), .bool al] w fun e w' => e = .returned (.bool true) ∧ Below w.heap.size w w' := by
  have KN := hid_as (known_c w)
  rcases h with h | ⟨h, rfl⟩ | ⟨h, h0, rfl⟩
  · have d1 : (12 : Int) < (m : Int) := by omega
    have d2 : decide ((12 : Int) < (m : Int)) = true := decide_eq_true d1
    go_enter Try.func5, Try.ntmps5
    go_wp2_with fail
    with_reducible refine KN.out.mono ?_
    rintro e w1 ⟨rfl, k1⟩
    have K1 := hid_as k1
    clear KN k1
    go_wp2
    go_ret
    exact ⟨rfl, K1.out⟩
  · go_enter Try.func5, Try.ntmps5
    go_wp2_with fail
    with_reducible refine KN.out.mono ?_
    rintro e w1 ⟨rfl, k1⟩
    have K1 := hid_as k1
    clear KN k1
    go_wp2
    go_ret
    exact ⟨rfl, K1.out⟩
  · have d1 : ¬ (12 : Int) < (m : Int) := by omega
    have d2 : decide ((12 : Int) < (m : Int)) = false := decide_eq_false d1
    have d3 : ((m : Int) == 0) = false := by rw [beq_eq_false_iff_ne]; omega
    go_enter Try.func5, Try.ntmps5
    go_wp2_with fail
    with_reducible refine KN.out.mono ?_
    rintro e w1 ⟨rfl, k1⟩
    have K1 := hid_as k1
    clear KN k1
    go_wp2
    go_ret
    exact ⟨rfl, K1.out⟩
theorem spoilt_w {size n at_ which : Int} {x m c : Nat} {ao : Option Addr} {al : Bool} {seeds : List Int} {w : World} (hs : Sl w (.slice ao m c) (i64s seeds)) (hm : m = seeds.length) (hx : x < 256) :
    Calls Try.prog 5 #[.int .i64 size, .int .i64 n, .slice ao m c, .int .i64 at_, .int .i64 which, .int .u8 (x : Int), .bool al] w fun e w' => e = .returned (.bool true) ∧ Below w.heap.size w w' := by
  by_cases h : (12 < m) ∨ (m ≤ 12 ∧ m = 0) ∨ (m ≤ 12 ∧ m ≠ 0 ∧ x = 0)
  · exact spoilt_no size n at_ which x m c ao al w h
  · rcases hs with ⟨h0, _⟩ | ⟨b, off, cap, e, _, hl⟩
    · have h1 := congrArg List.length h0
      rw [i64s_len] at h1
      have h2 : m = 0 := by rw [hm, h1]; rfl
      exact absurd (Or.inr (Or.inl ⟨by omega, h2⟩)) h
    · simp only [Value.slice.injEq] at e
      obtain ⟨rfl, _, _⟩ := e
      cases al with
      | true => exact spoilt_t size n at_ which x b off m c seeds w hl hm (by omega) (by omega) (by omega) hx
      | false => exact spoilt_f size n at_ which x b off m c seeds w hl hm (by omega) (by omega) (by omega) hx
end Go.Proofs.Ytoiadofoclgnoaa
