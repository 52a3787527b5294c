/- The law of the texts: every text is a direct address, or none, as the document says (stage 10). -/
import Derived.Test.YtkalcabhafcdoaaDoorR1
import Derived.Test.YtkalcabhafcdoaaDoorK1
namespace Go.Proofs.YtkalcabhafcdoaaDoor
open Go.RowKit
open Adr
namespace Adr
theorem u8_back {a : UInt8} {n : Nat} (h : n = a.toNat) : UInt8.ofNat n = a := by subst h; exact UInt8.ofNat_toNat
/-- A number's digits are the ones that wrote it. -/
theorem dd_nv {l : List UInt8} (h : nb l = true) (hv : nv l < 100) : dd (nv l) = l := by
  have hn := h
  unfold nb at h
  simp only [Bool.and_eq_true, Bool.or_eq_true, decide_eq_true_eq] at h
  obtain ⟨⟨⟨h1, h3⟩, h0⟩, hd⟩ := h
  rw [nv_yes hn] at hv ⊢
  clear hn
  match l, h1, h3, h0, hd, hv with
  | [a], _, _, _, hd, _ =>
    have hd' : 48 ≤ a.toNat ∧ a.toNat ≤ 57 := by simpa [dgt] using hd
    have e : vl [a] = a.toNat - 48 := by simp [vl]
    rw [e, dd_one (by omega), u8_back (a := a) (by omega)]
  | [a, b], _, _, h0, hd, hv =>
    have hd' : (48 ≤ a.toNat ∧ a.toNat ≤ 57) ∧ 48 ≤ b.toNat ∧ b.toNat ≤ 57 := by simpa [dgt] using hd
    have h48 : ¬ a = 48 := by simpa using h0
    have h48' : ¬ a.toNat = 48 := fun e => h48 (UInt8.toNat_inj.1 e)
    have e : vl [a, b] = 10 * (a.toNat - 48) + (b.toNat - 48) := by simp [vl]
    rw [e, dd_two (by omega)]
    unfold dgs
    rw [u8_back (a := a) (by omega), u8_back (a := b) (by omega)]
  | [a, b, c], _, _, h0, hd, hv =>
    exfalso
    have hd' : (48 ≤ a.toNat ∧ a.toNat ≤ 57) ∧ (48 ≤ b.toNat ∧ b.toNat ≤ 57) ∧ 48 ≤ c.toNat ∧ c.toNat ≤ 57 := by simpa [dgt] using hd
    have h48 : ¬ a = 48 := by simpa using h0
    have h48' : ¬ a.toNat = 48 := fun e => h48 (UInt8.toNat_inj.1 e)
    have e : vl [a, b, c] = 10 * (10 * (a.toNat - 48) + (b.toNat - 48)) + (c.toNat - 48) := by simp [vl]
    omega
theorem pre_rest {k : Nat} {l : List UInt8} (h : Lib.hasPrefix l (hed k).data.toList = true) : l = (hed k).data.toList ++ rst k l := by
  rw [← Lib.hasPrefix_of_take, Bool.and_eq_true, beq_iff_eq] at h
  conv => lhs; rw [← List.take_append_drop (hed k).data.toList.length l, h.2]
  rfl
theorem dot_split {r : List UInt8} (h : dot r < r.length) : r = bef r ++ [46] ++ aft r := by
  unfold bef aft
  have e : r[dot r] = 46 := UInt8.toNat_inj.1 (dot_is r h)
  rw [← e, List.append_assoc, List.singleton_append, List.getElem_cons_drop, List.take_append_drop]
/-- A text that names a place is the place's text. -/
theorem text_back {k : Nat} {l : List UInt8} (hk : k < 7) (h : hit k l = true) : txt k (pv (bt k) (rst k l)) = l := by
  unfold hit at h
  rw [Bool.and_eq_true, Bool.and_eq_true] at h
  obtain ⟨hp, hb, hh⟩ := h
  obtain ⟨h0, h1, h2, h3, h4⟩ := hasI_yes hh
  have hl := pre_rest hp
  cases e : bt k with
  | true =>
    rw [e] at hb hh h2
    rw [txt_bit hh (by rw [btI_nat k hk]; exact e)]
    have hb2 := hb
    simp only [pb, if_true, Bool.and_eq_true, decide_eq_true_eq] at hb2
    obtain ⟨⟨b1, b2⟩, b3⟩ := hb2
    have hlen : (rst k l).length = dot (rst k l) + 2 := by
      by_cases q : (rst k l).length = dot (rst k l) + 2
      · exact q
      · rw [pb_len q] at hb; cases hb
    have hpv : pv true (rst k l) = nv (bef (rst k l)) * 8 + nv (aft (rst k l)) := rfl
    rw [hpv] at h2 ⊢
    have q1 : ((((nv (bef (rst k l)) * 8 + nv (aft (rst k l)) : Nat) : Int)) / 8).toNat = nv (bef (rst k l)) := by omega
    have q2 : ((((nv (bef (rst k l)) * 8 + nv (aft (rst k l)) : Nat) : Int)) % 8).toNat = nv (aft (rst k l)) := by omega
    rw [q1, q2, dd_nv b1 (by omega), dd_nv b2 (by omega), Int.toNat_natCast]
    conv => rhs; rw [hl, dot_split (r := rst k l) (by omega)]
    simp only [List.append_assoc]
  | false =>
    rw [e] at hb hh h2
    rw [txt_reg hh (by rw [btI_nat k hk]; exact e)]
    have hb2 : nb (rst k l) = true := hb
    have hpv : pv false (rst k l) = nv (rst k l) := rfl
    have h1' := h1
    rw [szI_nat k hk, e, hpv] at h1'
    have hs : sz k ≤ 64 := by
      rcases seven_cases hk with rfl | rfl | rfl | rfl | rfl | rfl | rfl <;> first | decide | (exact absurd e (by decide))
    rw [hpv, Int.toNat_natCast, Int.toNat_natCast, dd_nv hb2 (by omega)]
    exact hl.symm
theorem parse_text {l : List UInt8} (h : pe l = 0) : txt (pa l) (pn l) = l := by
  unfold pe at h
  cases e : fnd l with
  | none => rw [e] at h; cases h
  | some k =>
    have e2 := e
    unfold fnd at e2
    rw [List.find?_range_eq_some] at e2
    have := text_back (k := k) (l := l) (by simpa using e2.2.1) e2.1
    unfold pa pn
    rw [e]
    exact this
theorem pe_is (l : List UInt8) : pe l = 0 ∨ pe l = 100 := by unfold pe; split <;> simp
end Adr
set_option maxHeartbeats 2000000 in
theorem parses_0 (s : ByteArray) (a n : Nat) (w : World) (hA : AreasAt w) (hs : (s.size : Int) ≤ 100)
    (P : Hid (∀ w, AreasAt w → Calls Tryd.prog 7 #[.string s] w fun e w' => e = .returned (.tuple #[.int .i64 a, .int .i64 n, .int .i64 0]) ∧ Same w w'))
    (R : Hid (∀ w, Calls Tryd.prog 8 #[.string s] w fun e w' => e = .returned (.tuple #[.int .i64 a, .int .i64 n, .int .i64 0]) ∧ Below w.heap.size w w'))
    (T : Hid (∀ w, AreasAt w → Calls Tryd.prog 9 #[.int .i64 a, .int .i64 n] w fun e w' => e = .returned (.string s) ∧ Same w w')) :
    Calls Tryd.prog 3 #[.string s] w fun e w' => e = .returned (.bool true) ∧ Below w.heap.size w w' := by
  have K := Below.refl w.heap.size w
  go_enter Tryd.func3, Tryd.ntmps3
  go_wp2_with (first
    | (go_at_call 6; refine (known_c _ hA).mono ?_; rintro e w1 ⟨rfl, s1⟩; replace K := K.trans s1.below; clear s1)
    | (go_at_call 7; (with_reducible refine (P.out _ (hA.below K)).mono ?_); rintro e w1 ⟨rfl, s1⟩; replace K := K.trans (s1.below.mono K.size); clear s1)
    | (go_at_call 8; (with_reducible refine (R.out _).mono ?_); rintro e w1 ⟨rfl, s1⟩; replace K := K.trans (s1.mono K.size); clear s1)
    | (go_at_call 9; (with_reducible refine (T.out _ (hA.below K)).mono ?_); rintro e w1 ⟨rfl, s1⟩; replace K := K.trans (s1.below.mono K.size); clear s1))
  go_ret
  exact ⟨rfl, K⟩
set_option maxHeartbeats 2000000 in
theorem parses_1 (s : ByteArray) (a n : Nat) (w : World) (hA : AreasAt w) (hs : (s.size : Int) ≤ 100)
    (P : Hid (∀ w, AreasAt w → Calls Tryd.prog 7 #[.string s] w fun e w' => e = .returned (.tuple #[.int .i64 a, .int .i64 n, .int .i64 100]) ∧ Same w w'))
    (R : Hid (∀ w, Calls Tryd.prog 8 #[.string s] w fun e w' => e = .returned (.tuple #[.int .i64 a, .int .i64 n, .int .i64 100]) ∧ Below w.heap.size w w')) :
    Calls Tryd.prog 3 #[.string s] w fun e w' => e = .returned (.bool true) ∧ Below w.heap.size w w' := by
  have K := Below.refl w.heap.size w
  go_enter Tryd.func3, Tryd.ntmps3
  go_wp2_with (first
    | (go_at_call 6; refine (known_c _ hA).mono ?_; rintro e w1 ⟨rfl, s1⟩; replace K := K.trans s1.below; clear s1)
    | (go_at_call 7; (with_reducible refine (P.out _ (hA.below K)).mono ?_); rintro e w1 ⟨rfl, s1⟩; replace K := K.trans (s1.below.mono K.size); clear s1)
    | (go_at_call 8; (with_reducible refine (R.out _).mono ?_); rintro e w1 ⟨rfl, s1⟩; replace K := K.trans (s1.mono K.size); clear s1))
  go_ret
  exact ⟨rfl, K⟩
theorem parses_all (s : ByteArray) (w : World) (hA : AreasAt w) : Calls Tryd.prog 3 #[.string s] w fun e w' => e = .returned (.bool true) ∧ Below w.heap.size w w' := by
  by_cases hs : 100 < (s.size : Int)
  · go_enter Tryd.func3, Tryd.ntmps3
    go_wp2_with (go_at_call 6; refine (known_c _ hA).mono ?_; rintro e w1 ⟨rfl, s1⟩)
    go_ret
    exact ⟨rfl, s1.below⟩
  · have hz : s.size ≤ 1000 := by omega
    rcases pe_is s.data.toList with h | h
    · refine parses_0 s (pa s.data.toList) (pn s.data.toList) w hA (by omega) (hid_as fun w hw => ?_) (hid_as fun w => ?_) (hid_as fun w hw => text_at _ _ s (by rw [parse_text h, tx_of]) w hw)
      · have := parse_c s hz w hw; rw [h] at this; exact this
      · have := rparse_c s hz w; rw [h] at this; exact this
    · refine parses_1 s (pa s.data.toList) (pn s.data.toList) w hA (by omega) (hid_as fun w hw => ?_) (hid_as fun w => ?_)
      · have := parse_c s hz w hw; rw [h] at this; exact this
      · have := rparse_c s hz w; rw [h] at this; exact this
end Go.Proofs.YtkalcabhafcdoaaDoor
