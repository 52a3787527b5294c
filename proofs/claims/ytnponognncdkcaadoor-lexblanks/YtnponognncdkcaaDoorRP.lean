/- The reference's Parse, of any text that isn't too long (stage 12). -/
import Derived.Test.YtnponognncdkcaaDoorP2
import Derived.Test.YtnponognncdkcaaDoorW1
namespace Go.Proofs.YtnponognncdkcaaDoor
open Go.RowKit
open Adr
set_option maxHeartbeats 800000 in
theorem rsize_c (a : Int) (w : World) : Calls Tryd.prog 76 #[.int .i64 a] w fun e w' => e = .returned (.int .i64 (szI a)) ∧ w' = w := by
  rcases int_cases a with ⟨k, hk, rfl⟩ | h
  · have hc : k = 0 ∨ k = 1 ∨ k = 2 ∨ k = 3 ∨ k = 4 ∨ k = 5 ∨ k = 6 := by omega
    rcases hc with rfl | rfl | rfl | rfl | rfl | rfl | rfl
    all_goals
      go_enter Tryd.func76, Tryd.ntmps76
      go_wp2
      go_ret
      exact ⟨rfl, rfl⟩
  · rw [szI_out h]
    have n1 : (a == 1) = false := by rw [beq_eq_false_iff_ne]; omega
    have n2 : (a == 2) = false := by rw [beq_eq_false_iff_ne]; omega
    have n3 : (a == 3) = false := by rw [beq_eq_false_iff_ne]; omega
    have n4 : (a == 4) = false := by rw [beq_eq_false_iff_ne]; omega
    have n5 : (a == 5) = false := by rw [beq_eq_false_iff_ne]; omega
    have n6 : (a == 6) = false := by rw [beq_eq_false_iff_ne]; omega
    clear h
    go_enter Tryd.func76, Tryd.ntmps76
    go_wp2
    go_ret
    exact ⟨rfl, rfl⟩
set_option maxHeartbeats 800000 in
theorem rbit_c (a : Int) (w : World) : Calls Tryd.prog 74 #[.int .i64 a] w fun e w' => e = .returned (.bool (btI a)) ∧ w' = w := by
  rcases int_cases a with ⟨k, hk, rfl⟩ | h
  · have hc : k = 0 ∨ k = 1 ∨ k = 2 ∨ k = 3 ∨ k = 4 ∨ k = 5 ∨ k = 6 := by omega
    rcases hc with rfl | rfl | rfl | rfl | rfl | rfl | rfl
    all_goals
      go_enter Tryd.func74, Tryd.ntmps74
      go_wp2
      go_ret
      exact ⟨rfl, rfl⟩
  · rw [btI_out h]
    have n1 : (a == 1) = false := by rw [beq_eq_false_iff_ne]; omega
    have n2 : (a == 2) = false := by rw [beq_eq_false_iff_ne]; omega
    have n3 : (a == 3) = false := by rw [beq_eq_false_iff_ne]; omega
    clear h
    go_enter Tryd.func74, Tryd.ntmps74
    go_wp2
    go_ret
    exact ⟨rfl, rfl⟩
namespace Adr
theorem dot_ne : ∀ (l : List UInt8) (k : Nat) (_ : k < dot l) (h : k < l.length), ¬ (l[k]).toNat = 46
  | [], k, h, _ => by simp [dot] at h
  | b :: l, k, h, hl => by
    unfold dot at h
    by_cases hb : (b == 46) = true
    · rw [if_pos hb] at h; omega
    · rw [if_neg hb] at h
      match k, h, hl with
      | 0, _, _ => exact fun e => hb (beq_iff_eq.2 (UInt8.toNat_inj.1 e))
      | k + 1, h, hl => exact dot_ne l k (by omega) (by simpa using hl)
theorem dot_is : ∀ (l : List UInt8) (h : dot l < l.length), (l[dot l]).toNat = 46
  | [], h => by simp [dot] at h
  | b :: l, h => by
    by_cases hb : (b == 46) = true
    · have e : dot (b :: l) = 0 := by unfold dot; rw [if_pos hb]
      simp only [e]
      rw [List.getElem_cons_zero, beq_iff_eq.1 hb]
      rfl
    · have e : dot (b :: l) = dot l + 1 := by rw [dot, if_neg hb]
      simp only [e]
      rw [List.getElem_cons_succ]
      exact dot_is l (by rw [e, List.length_cons] at h; omega)
theorem nv_small {l : List UInt8} (h : nb l = true) (hv : nv l < 8) : l.length = 1 := by
  unfold nb at h
  simp only [Bool.and_eq_true, Bool.or_eq_true, decide_eq_true_eq] at h
  obtain ⟨⟨⟨h1, h3⟩, h0⟩, hd⟩ := h
  rcases h0 with h0 | h0
  · omega
  · have hn : nb l = true := nb_yes h1 h3 (Or.inr (by simpa using h0)) hd
    rw [nv_yes hn] at hv
    match l, h1, h3, h0, hd, hv with
    | [a], _, _, _, _, _ => rfl
    | [a, b], _, _, h0, hd, hv =>
      exfalso
      simp [vl, dgt] at hd hv
      have : ¬ a = 48 := by simpa using h0
      have : ¬ a.toNat = 48 := fun e => this (UInt8.toNat_inj.1 e)
      omega
    | [a, b, c], _, _, h0, hd, hv =>
      exfalso
      simp [vl, dgt] at hd hv
      have : ¬ a = 48 := by simpa using h0
      have : ¬ a.toNat = 48 := fun e => this (UInt8.toNat_inj.1 e)
      omega
theorem nb_one {c : UInt8} : nb [c] = dgt c := by simp [nb]
theorem nv_one {c : UInt8} (h : dgt c = true) : nv [c] = c.toNat - 48 := by rw [nv_yes (by rw [nb_one]; exact h)]; simp [vl]
theorem aft_one {r : List UInt8} (h : r.length = dot r + 2) : aft r = [r[dot r + 1]'(by omega)] := by
  unfold aft
  apply List.ext_getElem
  · simp; omega
  · intro i h1 h2
    simp only [List.length_cons, List.length_nil] at h2
    obtain rfl : i = 0 := by omega
    simp
/-- Too short, or too long, behind the point. -/
theorem pb_len {r : List UInt8} (h : ¬ r.length = dot r + 2) : pb true r = false := by
  cases e : pb true r with
  | false => rfl
  | true =>
    exfalso
    simp only [pb, if_true, Bool.and_eq_true, decide_eq_true_eq] at e
    have := nv_small e.1.2 (by omega)
    unfold aft at this
    rw [List.length_drop] at this
    omega
theorem pb_odd {r : List UInt8} (h : r.length = dot r + 2) (hc : ¬ (48 ≤ (r[dot r + 1]'(by omega)).toNat ∧ (r[dot r + 1]'(by omega)).toNat ≤ 55)) : pb true r = false := by
  cases e : pb true r with
  | false => rfl
  | true =>
    exfalso
    simp only [pb, if_true, Bool.and_eq_true, decide_eq_true_eq] at e
    rw [aft_one h] at e
    have hd : dgt (r[dot r + 1]'(by omega)) = true := by rw [← nb_one]; exact e.1.2
    have hv := e.2
    rw [nv_one hd] at hv
    simp only [dgt, Bool.and_eq_true, decide_eq_true_eq] at hd
    omega
theorem pb_bef {r : List UInt8} (h : nb (bef r) = false) : pb true r = false := by simp [pb, h]
theorem pb_all {r : List UInt8} (h : r.length = dot r + 2) (h0 : 48 ≤ (r[dot r + 1]'(by omega)).toNat) (h7 : (r[dot r + 1]'(by omega)).toNat ≤ 55) (hb : nb (bef r) = true) : pb true r = true ∧ pv true r = 8 * nv (bef r) + ((r[dot r + 1]'(by omega)).toNat - 48) := by
  have hd : dgt (r[dot r + 1]'(by omega)) = true := dgt_yes h0 (by omega)
  have hv := nv_one hd
  refine ⟨?_, ?_⟩
  · simp only [pb, if_true, hb, Bool.true_and, Bool.and_eq_true, decide_eq_true_eq]
    rw [aft_one h, nb_one]
    refine ⟨hd, ?_⟩
    rw [hv]
    omega
  · simp only [pv, if_true]
    rw [aft_one h, hv]
    omega
end Adr

def cells6r : Array Value := #[.string ⟨#[37, 73, 88]⟩, .string ⟨#[37, 81, 88]⟩, .string ⟨#[37, 77, 88]⟩, .string ⟨#[37, 73, 87]⟩, .string ⟨#[37, 81, 87]⟩, .string ⟨#[37, 77, 87]⟩]
theorem cells6r_at (k : Nat) (h : k < 6) : cells6r[k]? = some (.string (hed (k + 1))) := by
  rcases (show k = 0 ∨ k = 1 ∨ k = 2 ∨ k = 3 ∨ k = 4 ∨ k = 5 by omega) with rfl | rfl | rfl | rfl | rfl | rfl <;> rfl
theorem six_at (w : World) (k : Nat) (h : k < 6) : (w.alloc (.cells cells6r 9)).cell? ⟨w.heap.size, k, none⟩ = some (.string (hed (k + 1))) := by
  rw [← cells6r_at k h]
  exact cell_of_row _ _ _ cells6r 9 (0, 0) (MapKept.heap_alloc w _).1
theorem Same.cell {w w' : World} (h : Same w w') (a : Addr) : w'.cell? a = w.cell? a := World.cell?_of_block (by rw [h.heap])
theorem name_3 (k : Nat) (h : k < 6) : (hed (k + 1)).size = 3 := by
  rcases (show k = 0 ∨ k = 1 ∨ k = 2 ∨ k = 3 ∨ k = 4 ∨ k = 5 by omega) with rfl | rfl | rfl | rfl | rfl | rfl <;> rfl
theorem pre_is {s : ByteArray} {k : Nat} (h : k < 6) (h4 : 4 ≤ s.size) : Lib.hasPrefix s.data.toList (hed (k + 1)).data.toList = ((s.extract 0 3).toList == (hed (k + 1)).toList) := by
  rw [← Lib.hasPrefix_raw, name_3 k h, decide_eq_true (by omega)]
  rfl
theorem pb_nil (b : Bool) : pb b [] = false := by cases b <;> rfl
theorem hit_short {l : List UInt8} {k : Nat} (h : k < 6) (h4 : l.length < 4) : hit (k + 1) l = false := by
  have e : rst (k + 1) l = [] := by
    unfold rst
    rw [← Lib.size_eq, name_3 k h]
    exact List.drop_eq_nil_of_le (by omega)
  exact hit_odd (by rw [e]; exact pb_nil _)
theorem rest_is {s : ByteArray} {k : Nat} (h : k < 6) : (s.extract 3 s.size).data.toList = rst (k + 1) s.data.toList := by
  rw [tx_drop, tx_list]
  unfold rst
  rw [← Lib.size_eq, name_3 k h]
theorem bt_next (k : Nat) (h : k < 6) : btI ((k : Int) + 1) = bt (k + 1) := by
  rw [show ((k : Int) + 1) = ((k + 1 : Nat) : Int) by omega]
  exact btI_nat (k + 1) (by omega)
theorem nu_t {s : ByteArray} {l : List UInt8} (h : s.data.toList = l) (w : World) : Calls Tryd.prog 75 #[.string s] w fun e w' => e = .returned (.int .i64 (nm l)) ∧ w' = w := by
  subst h; exact nu_c s w
theorem chr_at {r : ByteArray} {R : List UInt8} (e : r.data.toList = R) {m : Nat} (h : m < r.size) (h' : m < R.length) : r[m] = R[m] := by subst e; rfl
theorem has_next {k : Nat} {n : Int} : hasI ((k : Int) + 1) n = hasI ((k + 1 : Nat) : Int) n := by rw [show ((k : Int) + 1) = ((k + 1 : Nat) : Int) by omega]
set_option maxHeartbeats 8000000 in
set_option maxRecDepth 100000 in
/-- The reference's Parse. -/
theorem rparse_c (s : ByteArray) (hs : s.size ≤ 2000) (w : World) : Calls Tryd.prog 55 #[.string s] w fun e w' => e = .returned (.tuple #[.int .i64 (pa s.data.toList), .int .i64 (pn s.data.toList), .int .i64 (pe s.data.toList)]) ∧ Below w.heap.size w w' := by
  have C := hid_as (fun k h => six_at w k h)
  unfold cells6r at C
  go_enter Tryd.func55, Tryd.ntmps55
  go_wp2
  obtain ⟨V, hV⟩ : ∃ V, V = w.alloc (.cells #[.string ⟨#[37, 73, 88]⟩, .string ⟨#[37, 81, 88]⟩, .string ⟨#[37, 77, 88]⟩, .string ⟨#[37, 73, 87]⟩, .string ⟨#[37, 81, 87]⟩, .string ⟨#[37, 77, 87]⟩] 9) := ⟨_, rfl⟩
  rw [← hV] at C ⊢
  have B := hid_as (show Below w.heap.size w V by rw [hV]; exact (Below.refl _ _).alloc (Nat.le_refl _) _)
  clear hV
  go_loopw [6] (fun i wr => ∃ k : Nat, k ≤ 6 ∧ i = .int .i64 k ∧ Hid (Same V wr) ∧ Hid (∀ j, j < k + 1 → hit j s.data.toList = false)) (fun i wr => 6 - (intOf i).toNat)
  case atStart => exact ⟨0, by omega, rfl, hid_as (Same.refl _), hid_as (none_yet (k := 0) (fun j hj => by omega) (hit_far rfl))⟩
  case round =>
    obtain ⟨k, hk, rfl, hw, hn⟩ := hrel
    by_cases hlt : k < 6
    · have c := (hw.out.cell _).trans (C.out k hlt)
      have hlt' : (k : Int) < 6 := by omega
      by_cases h4 : s.size < 4
      · have hd4 : decide ((s.size : Int) < 4) = true := decide_eq_true (by omega)
        have hs2 := hid_as (none_yet hn.out (hit_short hlt (by rw [← Lib.size_eq]; exact h4)))
        clear h4
        go_wp2
        go_quiet (fail)
        clear hd4
        go_wp2
        go_roundw
        case rel => exact ⟨k + 1, by omega, by go_num, hid_as (hw.out.trans (Same.drewN _ _)), hs2⟩
        case measure => simp [intOf]; omega
      · have h4' : ¬ (s.size : Int) < 4 := by omega
        have hd4 : decide ((s.size : Int) < 4) = false := decide_eq_false h4'
        have h3 : (3 : Int) ≤ s.size := by omega
        cases he : ((s.extract 0 3).toList == (hed (k + 1)).toList) with
        | false =>
          have hs2 := hid_as (none_yet hn.out (hit_no ((pre_is hlt (by omega)).trans he)))
          go_wp2
          go_quiet (fail)
          clear hd4
          go_wp2
          go_roundw
          case rel => exact ⟨k + 1, by omega, by go_num, hid_as (hw.out.trans (Same.drewN _ _)), hs2⟩
          case measure => simp [intOf]; omega
        | true =>
          have hp := hid_as ((pre_is hlt (by omega)).trans he)
          obtain ⟨r, hr⟩ : ∃ r, r = s.extract 3 s.size := ⟨_, rfl⟩
          have hR := hid_as (show r.data.toList = rst (k + 1) s.data.toList by rw [hr]; exact rest_is hlt)
          have hz : r.size ≤ 2000 := by rw [Lib.size_eq, hR.out]; unfold rst; rw [List.length_drop, ← Lib.size_eq]; omega
          have hrl := hid_as (show r.size = (rst (k + 1) s.data.toList).length by rw [Lib.size_eq, hR.out])
          cases hb : btI ((k : Int) + 1) with
          | false =>
            have hbt := hid_as ((bt_next k hlt).symm.trans hb)
            have NU := hid_as (nu_t hR.out)
            cases hq : nb (rst (k + 1) s.data.toList) with
            | false =>
              have hs2 := hid_as (none_yet hn.out (hit_odd (k := k + 1) (by rw [hbt.out]; exact hq)))
              rw [nm_no hq] at NU
              clear hq
              go_wp2
              go_quiet (fail)
              clear hd4
              go_wp2
              go_quiet (fail)
              rw [← hr]
              replace hr := hid_as hr
              go_wp2_with (first | (go_at_call 74; refine (rbit_c _ _).mono ?_; rintro e w' ⟨rfl, hw⟩; subst w'; rw [hb]) | (go_at_call 75; (with_reducible refine (NU.out _).mono ?_); rintro e w' ⟨rfl, hw⟩; subst w'))
              go_roundw
              case rel => exact ⟨k + 1, by omega, by go_num, hid_as (hw.out.trans (Same.drewN _ _)), hs2⟩
              case measure => simp [intOf]; omega
            | true =>
              obtain ⟨x, hx⟩ : ∃ x, x = nv (rst (k + 1) s.data.toList) := ⟨_, rfl⟩
              rw [nm_yes hq, ← hx] at NU
              have hxz : x < 1000 := by rw [hx]; exact nv_lt _
              have hpb := hid_as (show pb (bt (k + 1)) (rst (k + 1) s.data.toList) = true by rw [hbt.out]; exact hq)
              have hpv := hid_as (show pv (bt (k + 1)) (rst (k + 1) s.data.toList) = x by rw [hbt.out, hx]; rfl)
              clear hq hx
              cases hh : hasI ((k : Int) + 1) (x : Int) with
              | false =>
                have hs2 := hid_as (none_yet hn.out (hit_far (k := k + 1) (by rw [hpv.out, ← has_next]; exact hh)))
                have hlz : decide ((x : Int) < szI ((k : Int) + 1)) = false := by
                  unfold hasI at hh
                  rw [decide_eq_true (show (0 : Int) ≤ x by omega)] at hh
                  exact hh
                clear hh
                go_wp2
                go_quiet (fail)
                clear hd4
                generalize hg : wr.drewN nq = W1
                have hw1 := hid_as (hw.out.trans (show Same wr W1 by rw [← hg]; exact Same.drewN _ _))
                clear hg
                go_wp2
                go_quiet (fail)
                generalize hg : W1.drewN nq = W2
                have hw2 := hid_as (hw1.out.trans (show Same W1 W2 by rw [← hg]; exact Same.drewN _ _))
                clear hg
                rw [← hr]
                replace hr := hid_as hr
                go_wp2_with (first | (go_at_call 74; refine (rbit_c _ _).mono ?_; rintro e w' ⟨rfl, hw⟩; subst w'; rw [hb]) | (go_at_call 75; (with_reducible refine (NU.out _).mono ?_); rintro e w' ⟨rfl, hw⟩; subst w') | (go_at_call 76; refine (rsize_c _ _).mono ?_; rintro e w' ⟨rfl, hw⟩; subst w'))
                go_roundw
                case rel => exact ⟨k + 1, by omega, by go_num, hid_as hw2.out, hs2⟩
                case measure => simp [intOf]; omega
              | true =>
                have e := hid_as (fnd_at (l := s.data.toList) (k := k + 1) (by omega) (hit_yes hp.out hpb.out (by rw [hpv.out, ← has_next]; exact hh)) hn.out)
                have hlz : decide ((x : Int) < szI ((k : Int) + 1)) = true := by
                  unfold hasI at hh
                  rw [decide_eq_true (show (0 : Int) ≤ x by omega)] at hh
                  exact hh
                clear hh
                go_wp2
                go_quiet (fail)
                clear hd4
                generalize hg : wr.drewN nq = W1
                have hw1 := hid_as (hw.out.trans (show Same wr W1 by rw [← hg]; exact Same.drewN _ _))
                clear hg
                go_wp2
                go_quiet (fail)
                generalize hg : W1.drewN nq = W2
                have hw2 := hid_as (hw1.out.trans (show Same W1 W2 by rw [← hg]; exact Same.drewN _ _))
                clear hg
                rw [← hr]
                replace hr := hid_as hr
                go_wp2_with (first | (go_at_call 74; refine (rbit_c _ _).mono ?_; rintro e w' ⟨rfl, hw⟩; subst w'; rw [hb]) | (go_at_call 75; (with_reducible refine (NU.out _).mono ?_); rintro e w' ⟨rfl, hw⟩; subst w') | (go_at_call 76; refine (rsize_c _ _).mono ?_; rintro e w' ⟨rfl, hw⟩; subst w'))
                go_ret3
                exact ⟨ret_three (by unfold pa; rw [e.out]; rfl) (by unfold pn; rw [e.out]; exact congrArg Int.ofNat hpv.out.symm) (by unfold pe; rw [e.out]; rfl), B.out.trans (hw2.out.below.mono B.out.size)⟩
          | true =>
            have hbt := hid_as ((bt_next k hlt).symm.trans hb)
            obtain ⟨R, hRR⟩ : ∃ R, R = rst (k + 1) s.data.toList := ⟨_, rfl⟩
            rw [← hRR] at hR hrl
            have N := hid_as (show ∀ (m : Nat) (h : m < r.size), m < dot R → ((r[m].toNat : Int) == 46) = false from fun m h hm => by
              have h' : m < R.length := by rw [← hrl.out]; exact h
              rw [chr_at hR.out h h', beq_eq_false_iff_ne]
              have := dot_ne R m hm h'
              omega)
            have hdz : dot R ≤ r.size := by rw [hrl.out]; exact dot_le R
            have hNo := hid_as (show pb true R = false → ∀ j, j < k + 1 + 1 → hit j s.data.toList = false from fun h => none_yet hn.out (hit_odd (k := k + 1) (by rw [hbt.out, ← hRR]; exact h)))
            by_cases hlen : r.size = dot R + 2
            · have hin : dot R < r.size := by omega
              have hl2 := hid_as (show R.length = dot R + 2 by rw [← hrl.out]; exact hlen)
              have hpt := hid_as (show ((r[dot R].toNat : Int) == 46) = true by
                have h' : dot R < R.length := by rw [← hrl.out]; exact hin
                rw [chr_at hR.out hin h', beq_iff_eq]
                have := dot_is R h'
                omega)
              have hin1 : dot R + 1 < r.size := by omega
              have hch := hid_as (chr_at hR.out hin1 (by rw [← hrl.out]; exact hin1))
              by_cases hlo : ((r[dot R + 1]).toNat : Int) < 48
              · have hs2 := hid_as (hNo.out (pb_odd hl2.out (by rw [← hch.out]; omega)))
                generalize dot R = d at *
                have hln : ((r.size : Int) == (d : Int) + 2) = true := beq_iff_eq.2 (by omega)
                have hpt2 := hpt.out
                replace hlen := hid_as hlen
                go_wp2
                go_quiet (fail)
                clear hd4
                generalize hg : wr.drewN nq = W1
                have hw1 := hid_as (hw.out.trans (show Same wr W1 by rw [← hg]; exact Same.drewN _ _))
                clear hg
                go_wp2
                go_quiet (fail)
                generalize hg : W1.drewN nq = W2
                have hw2 := hid_as (hw1.out.trans (show Same W1 W2 by rw [← hg]; exact Same.drewN _ _))
                clear hg
                rw [← hr]
                replace hr := hid_as hr
                go_wp2_with (first | (go_at_call 74; refine (rbit_c _ _).mono ?_; rintro e w' ⟨rfl, hw⟩; subst w'; rw [hb]) | (go_at_call 75; (with_reducible refine (NU.out _).mono ?_); rintro e w' ⟨rfl, hw⟩; subst w') | (go_at_call 76; refine (rsize_c _ _).mono ?_; rintro e w' ⟨rfl, hw⟩; subst w'))
                go_loop [10] (fun i => ∃ m : Nat, m ≤ d ∧ i = .int .i64 m) (fun i => d - (intOf i).toNat)
                case atStart => exact ⟨0, by omega, rfl⟩
                case round =>
                  obtain ⟨m, hm, rfl⟩ := hrel
                  by_cases hmd : m < d
                  · have hm1 : m < r.size := by omega
                    have hm2 := N.out m hm1 hmd
                    go_wp2
                    go_round
                    case rel => exact ⟨m + 1, by omega, by go_num⟩
                    case measure => simp [intOf]; omega
                  · have hmd2 : m = d := by omega
                    subst hmd2
                    clear hmd
                    go_wp2
                    go_roundw
                    case rel => exact ⟨k + 1, by omega, by go_num, hid_as hw2.out, hs2⟩
                    case measure => simp [intOf]; omega
              · by_cases hhi : 55 < ((r[dot R + 1]).toNat : Int)
                · have hs2 := hid_as (hNo.out (pb_odd hl2.out (by rw [← hch.out]; omega)))
                  generalize dot R = d at *
                  have hln : ((r.size : Int) == (d : Int) + 2) = true := beq_iff_eq.2 (by omega)
                  have hpt2 := hpt.out
                  replace hlen := hid_as hlen
                  go_wp2
                  go_quiet (fail)
                  clear hd4
                  generalize hg : wr.drewN nq = W1
                  have hw1 := hid_as (hw.out.trans (show Same wr W1 by rw [← hg]; exact Same.drewN _ _))
                  clear hg
                  go_wp2
                  go_quiet (fail)
                  generalize hg : W1.drewN nq = W2
                  have hw2 := hid_as (hw1.out.trans (show Same W1 W2 by rw [← hg]; exact Same.drewN _ _))
                  clear hg
                  rw [← hr]
                  replace hr := hid_as hr
                  go_wp2_with (first | (go_at_call 74; refine (rbit_c _ _).mono ?_; rintro e w' ⟨rfl, hw⟩; subst w'; rw [hb]) | (go_at_call 75; (with_reducible refine (NU.out _).mono ?_); rintro e w' ⟨rfl, hw⟩; subst w') | (go_at_call 76; refine (rsize_c _ _).mono ?_; rintro e w' ⟨rfl, hw⟩; subst w'))
                  go_loop [10] (fun i => ∃ m : Nat, m ≤ d ∧ i = .int .i64 m) (fun i => d - (intOf i).toNat)
                  case atStart => exact ⟨0, by omega, rfl⟩
                  case round =>
                    obtain ⟨m, hm, rfl⟩ := hrel
                    by_cases hmd : m < d
                    · have hm1 : m < r.size := by omega
                      have hm2 := N.out m hm1 hmd
                      go_wp2
                      go_round
                      case rel => exact ⟨m + 1, by omega, by go_num⟩
                      case measure => simp [intOf]; omega
                    · have hmd2 : m = d := by omega
                      subst hmd2
                      clear hmd
                      go_wp2
                      go_roundw
                      case rel => exact ⟨k + 1, by omega, by go_num, hid_as hw2.out, hs2⟩
                      case measure => simp [intOf]; omega
                · have NU := hid_as (nu_t (s := r.extract 0 (dot R)) (l := bef R) (by rw [tx_take, tx_list, hR.out]; rfl))
                  cases hq : nb (bef R) with
                  | false =>
                    have hs2 := hid_as (hNo.out (pb_bef hq))
                    rw [nm_no hq] at NU
                    clear hq
                    generalize dot R = d at *
                    have hln : ((r.size : Int) == (d : Int) + 2) = true := beq_iff_eq.2 (by omega)
                    have hpt2 := hpt.out
                    replace hlen := hid_as hlen
                    go_wp2
                    go_quiet (fail)
                    clear hd4
                    generalize hg : wr.drewN nq = W1
                    have hw1 := hid_as (hw.out.trans (show Same wr W1 by rw [← hg]; exact Same.drewN _ _))
                    clear hg
                    go_wp2
                    go_quiet (fail)
                    generalize hg : W1.drewN nq = W2
                    have hw2 := hid_as (hw1.out.trans (show Same W1 W2 by rw [← hg]; exact Same.drewN _ _))
                    clear hg
                    rw [← hr]
                    replace hr := hid_as hr
                    go_wp2_with (first | (go_at_call 74; refine (rbit_c _ _).mono ?_; rintro e w' ⟨rfl, hw⟩; subst w'; rw [hb]) | (go_at_call 75; (with_reducible refine (NU.out _).mono ?_); rintro e w' ⟨rfl, hw⟩; subst w') | (go_at_call 76; refine (rsize_c _ _).mono ?_; rintro e w' ⟨rfl, hw⟩; subst w'))
                    go_loop [10] (fun i => ∃ m : Nat, m ≤ d ∧ i = .int .i64 m) (fun i => d - (intOf i).toNat)
                    case atStart => exact ⟨0, by omega, rfl⟩
                    case round =>
                      obtain ⟨m, hm, rfl⟩ := hrel
                      by_cases hmd : m < d
                      · have hm1 : m < r.size := by omega
                        have hm2 := N.out m hm1 hmd
                        go_wp2
                        go_round
                        case rel => exact ⟨m + 1, by omega, by go_num⟩
                        case measure => simp [intOf]; omega
                      · have hmd2 : m = d := by omega
                        subst hmd2
                        clear hmd
                        go_wp2_with (first | (go_at_call 74; refine (rbit_c _ _).mono ?_; rintro e w' ⟨rfl, hw⟩; subst w'; rw [hb]) | (go_at_call 75; (with_reducible refine (NU.out _).mono ?_); rintro e w' ⟨rfl, hw⟩; subst w') | (go_at_call 76; refine (rsize_c _ _).mono ?_; rintro e w' ⟨rfl, hw⟩; subst w'))
                        go_roundw
                        case rel => exact ⟨k + 1, by omega, by go_num, hid_as hw2.out, hs2⟩
                        case measure => simp [intOf]; omega
                  | true =>
                    obtain ⟨hA1, hA2⟩ := pb_all hl2.out (by rw [← hch.out]; omega) (by rw [← hch.out]; omega) hq
                    rw [← hch.out] at hA2
                    obtain ⟨x, hx⟩ : ∃ x, x = nv (bef R) := ⟨_, rfl⟩
                    rw [nm_yes hq, ← hx] at NU
                    rw [← hx] at hA2
                    have hxz : x < 1000 := by rw [hx]; exact nv_lt _
                    have hpb := hid_as (show pb (bt (k + 1)) (rst (k + 1) s.data.toList) = true by rw [hbt.out, ← hRR]; exact hA1)
                    have hpv := hid_as (show pv (bt (k + 1)) (rst (k + 1) s.data.toList) = 8 * x + ((r[dot R + 1]).toNat - 48) by rw [hbt.out, ← hRR]; exact hA2)
                    clear hA1 hA2 hx hq hch hl2 hNo
                    have hn0 : decide ((0 : Int) ≤ 8 * (x : Int) + (((r[dot R + 1]).toNat : Int) - 48)) = true := decide_eq_true (by omega)
                    have hn1 := hid_as (show (((8 * x + ((r[dot R + 1]).toNat - 48) : Nat)) : Int) = 8 * (x : Int) + (((r[dot R + 1]).toNat : Int) - 48) by omega)
                    cases hh : hasI ((k : Int) + 1) (8 * (x : Int) + (((r[dot R + 1]).toNat : Int) - 48)) with
                    | false =>
                      have hs2 := hid_as (none_yet hn.out (hit_far (k := k + 1) (by rw [hpv.out, ← has_next, hn1.out]; exact hh)))
                      have hlz : decide (8 * (x : Int) + (((r[dot R + 1]).toNat : Int) - 48) < szI ((k : Int) + 1)) = false := by
                        unfold hasI at hh
                        rw [hn0] at hh
                        exact hh
                      clear hh hpv hpb
                      generalize dot R = d at *
                      have hln : ((r.size : Int) == (d : Int) + 2) = true := beq_iff_eq.2 (by omega)
                      have hpt2 := hpt.out
                      replace hlen := hid_as hlen
                      go_wp2
                      go_quiet (fail)
                      clear hd4
                      generalize hg : wr.drewN nq = W1
                      have hw1 := hid_as (hw.out.trans (show Same wr W1 by rw [← hg]; exact Same.drewN _ _))
                      clear hg
                      go_wp2
                      go_quiet (fail)
                      generalize hg : W1.drewN nq = W2
                      have hw2 := hid_as (hw1.out.trans (show Same W1 W2 by rw [← hg]; exact Same.drewN _ _))
                      clear hg
                      rw [← hr]
                      replace hr := hid_as hr
                      go_wp2_with (first | (go_at_call 74; refine (rbit_c _ _).mono ?_; rintro e w' ⟨rfl, hw⟩; subst w'; rw [hb]) | (go_at_call 75; (with_reducible refine (NU.out _).mono ?_); rintro e w' ⟨rfl, hw⟩; subst w') | (go_at_call 76; refine (rsize_c _ _).mono ?_; rintro e w' ⟨rfl, hw⟩; subst w'))
                      go_loop [10] (fun i => ∃ m : Nat, m ≤ d ∧ i = .int .i64 m) (fun i => d - (intOf i).toNat)
                      case atStart => exact ⟨0, by omega, rfl⟩
                      case round =>
                        obtain ⟨m, hm, rfl⟩ := hrel
                        by_cases hmd : m < d
                        · have hm1 : m < r.size := by omega
                          have hm2 := N.out m hm1 hmd
                          go_wp2
                          go_round
                          case rel => exact ⟨m + 1, by omega, by go_num⟩
                          case measure => simp [intOf]; omega
                        · have hmd2 : m = d := by omega
                          subst hmd2
                          clear hmd
                          go_wp2_with (first | (go_at_call 74; refine (rbit_c _ _).mono ?_; rintro e w' ⟨rfl, hw⟩; subst w'; rw [hb]) | (go_at_call 75; (with_reducible refine (NU.out _).mono ?_); rintro e w' ⟨rfl, hw⟩; subst w') | (go_at_call 76; refine (rsize_c _ _).mono ?_; rintro e w' ⟨rfl, hw⟩; subst w'))
                          go_quiet ((go_at_call 75; exact Calls.quiet_of_same (NU.out _)))
                          replace hw2 := hid_as (hw2.out.trans (Same.drewN _ nq))
                          go_wp2_with (first | (go_at_call 74; refine (rbit_c _ _).mono ?_; rintro e w' ⟨rfl, hw⟩; subst w'; rw [hb]) | (go_at_call 75; (with_reducible refine (NU.out _).mono ?_); rintro e w' ⟨rfl, hw⟩; subst w') | (go_at_call 76; refine (rsize_c _ _).mono ?_; rintro e w' ⟨rfl, hw⟩; subst w'))
                          go_roundw
                          case rel => exact ⟨k + 1, by omega, by go_num, hid_as hw2.out, hs2⟩
                          case measure => simp [intOf]; omega
                    | true =>
                      have e := hid_as (fnd_at (l := s.data.toList) (k := k + 1) (by omega) (hit_yes hp.out hpb.out (by rw [hpv.out, ← has_next, hn1.out]; exact hh)) hn.out)
                      have hlz : decide (8 * (x : Int) + (((r[dot R + 1]).toNat : Int) - 48) < szI ((k : Int) + 1)) = true := by
                        unfold hasI at hh
                        rw [hn0] at hh
                        exact hh
                      have hfin := hid_as (hn1.out.symm.trans (congrArg Int.ofNat hpv.out.symm))
                      clear hh hpv hpb hn1
                      generalize dot R = d at *
                      have hln : ((r.size : Int) == (d : Int) + 2) = true := beq_iff_eq.2 (by omega)
                      have hpt2 := hpt.out
                      replace hlen := hid_as hlen
                      go_wp2
                      go_quiet (fail)
                      clear hd4
                      generalize hg : wr.drewN nq = W1
                      have hw1 := hid_as (hw.out.trans (show Same wr W1 by rw [← hg]; exact Same.drewN _ _))
                      clear hg
                      go_wp2
                      go_quiet (fail)
                      generalize hg : W1.drewN nq = W2
                      have hw2 := hid_as (hw1.out.trans (show Same W1 W2 by rw [← hg]; exact Same.drewN _ _))
                      clear hg
                      rw [← hr]
                      replace hr := hid_as hr
                      go_wp2_with (first | (go_at_call 74; refine (rbit_c _ _).mono ?_; rintro e w' ⟨rfl, hw⟩; subst w'; rw [hb]) | (go_at_call 75; (with_reducible refine (NU.out _).mono ?_); rintro e w' ⟨rfl, hw⟩; subst w') | (go_at_call 76; refine (rsize_c _ _).mono ?_; rintro e w' ⟨rfl, hw⟩; subst w'))
                      go_loop [10] (fun i => ∃ m : Nat, m ≤ d ∧ i = .int .i64 m) (fun i => d - (intOf i).toNat)
                      case atStart => exact ⟨0, by omega, rfl⟩
                      case round =>
                        obtain ⟨m, hm, rfl⟩ := hrel
                        by_cases hmd : m < d
                        · have hm1 : m < r.size := by omega
                          have hm2 := N.out m hm1 hmd
                          go_wp2
                          go_round
                          case rel => exact ⟨m + 1, by omega, by go_num⟩
                          case measure => simp [intOf]; omega
                        · have hmd2 : m = d := by omega
                          subst hmd2
                          clear hmd
                          go_wp2_with (first | (go_at_call 74; refine (rbit_c _ _).mono ?_; rintro e w' ⟨rfl, hw⟩; subst w'; rw [hb]) | (go_at_call 75; (with_reducible refine (NU.out _).mono ?_); rintro e w' ⟨rfl, hw⟩; subst w') | (go_at_call 76; refine (rsize_c _ _).mono ?_; rintro e w' ⟨rfl, hw⟩; subst w'))
                          go_quiet ((go_at_call 75; exact Calls.quiet_of_same (NU.out _)))
                          replace hw2 := hid_as (hw2.out.trans (Same.drewN _ nq))
                          go_wp2_with (first | (go_at_call 74; refine (rbit_c _ _).mono ?_; rintro e w' ⟨rfl, hw⟩; subst w'; rw [hb]) | (go_at_call 75; (with_reducible refine (NU.out _).mono ?_); rintro e w' ⟨rfl, hw⟩; subst w') | (go_at_call 76; refine (rsize_c _ _).mono ?_; rintro e w' ⟨rfl, hw⟩; subst w'))
                          go_ret3
                          exact ⟨ret_three (by unfold pa; rw [e.out]; rfl) (by unfold pn; rw [e.out]; exact hfin.out) (by unfold pe; rw [e.out]; rfl), B.out.trans (hw2.out.below.mono B.out.size)⟩
            · have hs2 := hid_as (hNo.out (pb_len (by rw [← hrl.out]; exact hlen)))
              by_cases hin : dot R < r.size
              · have hpt := hid_as (show ((r[dot R].toNat : Int) == 46) = true by
                  have h' : dot R < R.length := by rw [← hrl.out]; exact hin
                  rw [chr_at hR.out hin h', beq_iff_eq]
                  have := dot_is R h'
                  omega)
                generalize dot R = d at *
                have hln : ((r.size : Int) == (d : Int) + 2) = false := beq_eq_false_iff_ne.2 (by omega)
                have hpt2 := hpt.out
                clear hlen
                go_wp2
                go_quiet (fail)
                clear hd4
                generalize hg : wr.drewN nq = W1
                have hw1 := hid_as (hw.out.trans (show Same wr W1 by rw [← hg]; exact Same.drewN _ _))
                clear hg
                go_wp2
                go_quiet (fail)
                generalize hg : W1.drewN nq = W2
                have hw2 := hid_as (hw1.out.trans (show Same W1 W2 by rw [← hg]; exact Same.drewN _ _))
                clear hg
                rw [← hr]
                replace hr := hid_as hr
                go_wp2_with (first | (go_at_call 74; refine (rbit_c _ _).mono ?_; rintro e w' ⟨rfl, hw⟩; subst w'; rw [hb]) | (go_at_call 75; (with_reducible refine (NU.out _).mono ?_); rintro e w' ⟨rfl, hw⟩; subst w') | (go_at_call 76; refine (rsize_c _ _).mono ?_; rintro e w' ⟨rfl, hw⟩; subst w'))
                go_loop [10] (fun i => ∃ m : Nat, m ≤ d ∧ i = .int .i64 m) (fun i => d - (intOf i).toNat)
                case atStart => exact ⟨0, by omega, rfl⟩
                case round =>
                  obtain ⟨m, hm, rfl⟩ := hrel
                  by_cases hmd : m < d
                  · have hm1 : m < r.size := by omega
                    have hm2 := N.out m hm1 hmd
                    go_wp2
                    go_round
                    case rel => exact ⟨m + 1, by omega, by go_num⟩
                    case measure => simp [intOf]; omega
                  · have hmd2 : m = d := by omega
                    subst hmd2
                    clear hmd
                    go_wp2
                    go_roundw
                    case rel => exact ⟨k + 1, by omega, by go_num, hid_as hw2.out, hs2⟩
                    case measure => simp [intOf]; omega
              · generalize dot R = d at *
                have hde : d = r.size := by omega
                subst hde
                clear hlen hin
                have hdn : decide ((r.size : Int) < (r.size : Int)) = false := decide_eq_false (by omega)
                go_wp2
                go_quiet (fail)
                clear hd4
                generalize hg : wr.drewN nq = W1
                have hw1 := hid_as (hw.out.trans (show Same wr W1 by rw [← hg]; exact Same.drewN _ _))
                clear hg
                go_wp2
                go_quiet (fail)
                generalize hg : W1.drewN nq = W2
                have hw2 := hid_as (hw1.out.trans (show Same W1 W2 by rw [← hg]; exact Same.drewN _ _))
                clear hg
                rw [← hr]
                replace hr := hid_as hr
                go_wp2_with (first | (go_at_call 74; refine (rbit_c _ _).mono ?_; rintro e w' ⟨rfl, hw⟩; subst w'; rw [hb]) | (go_at_call 75; (with_reducible refine (NU.out _).mono ?_); rintro e w' ⟨rfl, hw⟩; subst w') | (go_at_call 76; refine (rsize_c _ _).mono ?_; rintro e w' ⟨rfl, hw⟩; subst w'))
                go_loop [10] (fun i => ∃ m : Nat, m ≤ r.size ∧ i = .int .i64 m) (fun i => r.size - (intOf i).toNat)
                case atStart => exact ⟨0, by omega, rfl⟩
                case round =>
                  obtain ⟨m, hm, rfl⟩ := hrel
                  by_cases hmd : m < r.size
                  · have hm1 : m < r.size := by omega
                    have hm2 := N.out m hm1 hm1
                    go_wp2
                    go_round
                    case rel => exact ⟨m + 1, by omega, by go_num⟩
                    case measure => simp [intOf]; omega
                  · have hmd2 : m = r.size := by omega
                    subst hmd2
                    clear hmd
                    go_wp2
                    go_roundw
                    case rel => exact ⟨k + 1, by omega, by go_num, hid_as hw2.out, hs2⟩
                    case measure => simp [intOf]; omega
    · have e := hid_as (fnd_none (l := s.data.toList) (fun j hj => hn.out j (by omega)))
      go_wp2
      go_ret3
      exact ⟨ret_three (by unfold pa; rw [e.out]; rfl) (by unfold pn; rw [e.out]; rfl) (by unfold pe; rw [e.out]; rfl), B.out.trans (hw.out.below.mono B.out.size)⟩
end Go.Proofs.YtnponognncdkcaaDoor
