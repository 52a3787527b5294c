/- The walk of a store's Write (stage 9). -/
import Derived.Test.YtoiadofoclgnoaaS2
namespace Go.Proofs.Ytoiadofoclgnoaa
open Go.RowKit
open Pdu
set_option maxHeartbeats 400000 in
theorem write_no {w : World} {g h : Nat} {s : SS} (t : St w g h s) (i : Int) (v : Value) (he : s.err i ≠ 0) : Calls Try.prog 48 #[.pointer (some ⟨g, 0, none⟩), .int .i64 i, v] w fun e w' => e = .returned (.int .i64 (s.err i : Int)) ∧ Same w w' := by
  have A := hid_as (ask_c t i)
  have hE : s.err i = 82 ∨ s.err i = 80 := by
    rcases s.err_cases i with h | h | h
    · exact Or.inl h.2
    · exact Or.inr h.2.2
    · exact absurd h.2.1 he
  clear t he
  rcases hE with hE | hE
  · rw [hE] at A ⊢
    clear hE
    go_enter Try.func48, Try.ntmps48
    go_wp2_with fail
    refine A.out.mono ?_
    rintro e w1 ⟨rfl, k1⟩
    have K1 := hid_as k1
    clear k1 A
    go_wp2
    go_ret
    exact ⟨rfl, K1.out⟩
  · rw [hE] at A ⊢
    clear hE
    go_enter Try.func48, Try.ntmps48
    go_wp2_with fail
    refine A.out.mono ?_
    rintro e w1 ⟨rfl, k1⟩
    have K1 := hid_as k1
    clear k1 A
    go_wp2
    go_ret
    exact ⟨rfl, K1.out⟩
set_option maxHeartbeats 400000 in
theorem write_size {w : World} {g h n c : Nat} {ao : Option Addr} {s : SS} (t : St w g h s) (i : Int) (he : s.err i = 0) (hn : n ≠ s.sz) : Calls Try.prog 48 #[.pointer (some ⟨g, 0, none⟩), .int .i64 i, .slice ao n c] w fun e w' => e = .returned (.int .i64 81) ∧ Same w w' := by
  have A := hid_as (ask_c t i)
  rw [he] at A
  have S := hid_as t
  clear t he
  have d : ((n : Int) == (s.sz : Int)) = false := by rw [beq_eq_false_iff_ne]; omega
  have d2 : ¬ ((n : Int) = (s.sz : Int)) := by omega
  clear hn
  go_enter Try.func48, Try.ntmps48
  go_wp2_with fail
  refine A.out.mono ?_
  rintro e w1 ⟨rfl, k1⟩
  have K1 := hid_as k1
  have c1 := (S.out.same k1).cSize
  clear k1 A
  go_wp2
  go_ret
  exact ⟨rfl, K1.out⟩
theorem St.put {w w' : World} {g h k : Nat} {s : SS} {bs : List Nat} (t : St w g h s) (hk : k < s.rows.length) (hl : bs.length ≤ s.sz) (hB : Bytes bs) (u : Turn h w w') (hr : w'.heap[h]? = some (.cells (u8s (splice s.rows.flatten (k * s.sz) bs)).toArray 5 (0, 0))) : St w' g h { s with rows := s.rows.set k (bs ++ (s.row k).drop bs.length) } := by
  rw [flat_splice t.ok.len hk hl] at hr
  refine t.rooms u ?_ (by simp) (t.ok.upd ?_ (hB.app ((t.ok.row hk).2.drop _)) _ _ _ _ t.ok.mx)
  · rw [hr]
    unfold SS.row
    rw [Int.toNat_natCast]
  · rw [List.length_append, List.length_drop, (t.ok.row hk).1]
    omega
set_option maxHeartbeats 800000 in
theorem write_torn {w : World} {g h k c : Nat} {ao : Option Addr} {s : SS} {bs : List Nat} (t : St w g h s) (he : s.err k = 0) (hk : k < s.rows.length) (hl : s.lft = 0) (hs : Sl w (.slice ao s.sz c) (u8s bs)) (hn : bs.length = s.sz) (hB : Bytes bs) (hcap : s.sz ≤ c) :
    Calls Try.prog 48 #[.pointer (some ⟨g, 0, none⟩), .int .i64 (k : Int), .slice ao s.sz c] w fun e w' => e = .returned (.int .i64 82) ∧ St w' g h (s.torn k bs) ∧ Only [g, h] w w' := by
  have A := hid_as (ask_c t k)
  rw [he] at A
  have S := hid_as t
  have HK := hid_as hk
  have HS := hid_as hs
  have HN := hid_as hn
  obtain ⟨p, hp⟩ : ∃ p : Nat, s.pre = p := ⟨s.pre.toNat, by have := t.pre0; omega⟩
  have hp1 : p ≤ s.sz := by have := t.pre1; omega
  have HP := hid_as hp
  have hp2 : (p : Int) ≤ (c : Int) := by omega
  have HL := hid_as hl
  clear t he hk hs hn hp hl
  go_enter Try.func48, Try.ntmps48
  go_wp2_with fail
  refine A.out.mono ?_
  rintro e w1 ⟨rfl, k1⟩
  have K1 := hid_as k1
  have S1 := hid_as (S.out.same k1)
  have c1 := S1.out.cSize
  have c4 := S1.out.cLeft
  have c5 := S1.out.cPre
  rw [HP.out] at c5
  rw [HL.out] at c4
  have BK := hid_as (fun (W : World) (e : Same w1 W) => blk_c (S1.out.same e) HK.out)
  have CP := hid_as (fun (W w2 : World) (e : Same w1 W) (e2 : Same W w2) => cp_run (w := w2) (off := k * s.sz) (m := s.sz) (c := s.rows.length * s.sz - k * s.sz) (n := p) (c2 := c) 3 (S1.out.same (e.trans e2)).room (sl_pre (HS.out.same (K1.out.trans (e.trans e2))) hp1) (by rw [List.length_take, HN.out]; omega) hp1 (by rw [rows_len S1.out]; have : k * s.sz + s.sz ≤ s.rows.length * s.sz := (by rw [← Nat.succ_mul]; exact Nat.mul_le_mul_right _ HK.out); omega))
  clear k1 A
  go_upto_region 7 with fail
  have PC := hid_as (fun (W : World) (e : Same w1 W) => show W.cell? ⟨g, 5, none⟩ = some (.int .i64 (p : Int)) from by have := (S1.out.same e).cPre; rw [HP.out] at this; exact this)
  have PT := hid_as (fun (W W' : World) (e : Same w1 W) (u : Turn h W W') => show W'.cell? ⟨g, 5, none⟩ = some (.int .i64 (p : Int)) from (World.cell?_of_block (a := ⟨g, 5, none⟩) (u.block g (S1.out.same e).lt (fun q => S1.out.ne (by simpa using q)))).trans (PC.out W e))
  go_region_held3 (fun w' => w'.cell? ⟨g, 5, none⟩ = some (.int .i64 (p : Int))) (first | exact c5 | exact cZ | exact c6) (first
    | (go_at_call 39; (with_reducible refine (BK.out _ ?_).mono ?_); (first | exact Same.refl _ | exact Same.drew _ | exact Same.drewN _ _); rintro e w2 ⟨rfl, k2⟩; have cZ := PC.out w2 ((Same.drew w1).trans k2); obtain ⟨w3, hr, hb3, t3⟩ := CP.out _ w2 (Same.drew w1) k2; have c6 := PT.out w2 w3 ((Same.drew w1).trans k2) t3))
  all_goals
    have hclip : clip s.sz s.pre = p := by
      unfold clip
      rw [HP.out]
      omega
    have S3 := (S1.out.same ((Same.drew w1).trans k2)).put HK.out (bs := bs.take p) (by rw [List.length_take, HN.out]; omega) (hB.take p) t3 hb3
    have S4 := hid_as (S3.setDead true)
    have d3 := S3.cDead
    have f3 := S3.free 3
    have O4 := hid_as (((K1.out.trans ((Same.drew w1).trans k2)).only [g, h]).trans ((Only.ofTurn t3 (by simp)).trans (Only.ofTurn ((Turn.refl g w3).set 3 (.bool true)) (by simp))))
    have HE : Hid (({ s with rows := s.rows.set k (bs.take p ++ (s.row k).drop (bs.take p).length), dead := true } : SS) = s.torn k bs) := by
      show _ = _
      unfold SS.torn
      rw [hclip, List.length_take, HN.out, Nat.min_eq_left hp1, Int.toNat_natCast]
    clear S3 hb3 t3 k2 hr hclip
    go_wp2
    go_ret
    refine ⟨rfl, ?_, O4.out⟩
    rw [← HE.out]
    exact S4.out
set_option maxHeartbeats 800000 in
theorem write_done {w : World} {g h k c : Nat} {ao : Option Addr} {s : SS} {bs : List Nat} (t : St w g h s) (he : s.err k = 0) (hk : k < s.rows.length) (hl : s.lft ≠ 0) (hs : Sl w (.slice ao s.sz c) (u8s bs)) (hn : bs.length = s.sz) (hB : Bytes bs) (hne : u8s bs ≠ [] → ∀ a, ao = some a → a.block ∉ [g, h]) (hn9 : s.n ≤ 1000000) :
    Calls Try.prog 48 #[.pointer (some ⟨g, 0, none⟩), .int .i64 (k : Int), .slice ao s.sz c] w fun e w' => e = .returned (.int .i64 0) ∧ St w' g h (s.dn k bs) ∧ Only [g, h] w w' := by
  have A := hid_as (ask_c t k)
  rw [he] at A
  have S := hid_as t
  have HK := hid_as hk
  have HS := hid_as hs
  have HN := hid_as hn
  have HNE := hid_as hne
  have hmx := t.ok.mx
  have EQ := hid_as (fun (X : World) (n : Nat) (l : Int) (hX : Only [g, h] w X) (sX : St X g h { s with lft := l }) => cp_run (w := X) (off := k * s.sz) (m := s.sz) (c := s.rows.length * s.sz - k * s.sz) (n := s.sz) (c2 := c) 3 sX.room (HS.out.only hX HNE.out) HN.out.symm (Nat.le_refl _) (by rw [rows_len sX]; show k * s.sz + s.sz ≤ s.rows.length * s.sz; rw [← Nat.succ_mul]; exact Nat.mul_le_mul_right _ HK.out))
  have HE : Hid (∀ l, l = (if 0 < s.lft then s.lft - 1 else s.lft) → ({ s with rows := s.rows.set k (bs ++ (s.row k).drop bs.length), lft := l, n := s.n + 1 } : SS) = s.dn k bs) := by
    intro l hl
    unfold SS.dn
    rw [hl, HN.out, Int.toNat_natCast, List.drop_of_length_le (by rw [(S.out.ok.row HK.out).1]; exact Nat.le_refl _), List.append_nil]
  clear t he hk hs hn hne
  by_cases hp : 0 < s.lft
  · go_enter Try.func48, Try.ntmps48
    go_wp2_with fail
    refine A.out.mono ?_
    rintro e w1 ⟨rfl, k1⟩
    have K1 := hid_as k1
    have S1 := hid_as (S.out.same k1)
    have c1 := S1.out.cSize
    have c4 := S1.out.cLeft
    have f4 := S1.out.free 4
    have S2 := hid_as (S1.out.setLeft (s.lft - 1) (by omega))
    have U2 := hid_as ((k1.only [g, h]).trans (Only.ofTurn ((Turn.refl g w1).set 4 (.int .i64 (s.lft - 1))) (by simp)))
    clear k1 A
    go_upto_region 12 with fail
    generalize w1.setCell ⟨g, 4, none⟩ (.int .i64 (s.lft - 1)) = X at S2 U2 ⊢
    have BK := hid_as (blk_c S2.out HK.out)
    clear c1 c4 f4 S1 K1
    go_wp2_with fail
    refine BK.out.mono ?_
    rintro e w2 ⟨rfl, k2⟩
    obtain ⟨w3, hr, hb3, t3⟩ := EQ.out w2 0 (s.lft - 1) (U2.out.trans (k2.only _)) (S2.out.same k2)
    have S3 := (S2.out.same k2).put HK.out (bs := bs) (by rw [HN.out]; exact Nat.le_refl _) hB t3 hb3
    have c2 := S3.cN
    have f2 := S3.free 2
    have S4 := hid_as (S3.setN (s.n + 1))
    have O4 := hid_as ((U2.out.trans (k2.only _)).trans ((Only.ofTurn t3 (by simp)).trans (Only.ofTurn ((Turn.refl g w3).set 2 (.int .i64 ((s.n + 1 : Nat) : Int))) (by simp))))
    have HH := HE.out (s.lft - 1) (by rw [if_pos hp])
    have HEE := hid_as HH
    clear S3 hb3 t3 k2 BK HE HH
    go_wp2
    go_ret
    refine ⟨rfl, ?_, ?_⟩
    · have h5 : St (w3.setCell ⟨g, 2, none⟩ (.int .i64 ((s.n + 1 : Nat) : Int))) g h ({ s with rows := s.rows.set k (bs ++ (s.row k).drop bs.length), lft := s.lft - 1, n := s.n + 1 } : SS) := S4.out
      rw [HEE.out] at h5
      simpa using h5
    · simpa using O4.out
  · have hp2 : ¬ s.lft = 0 := hl
    go_enter Try.func48, Try.ntmps48
    go_wp2_with fail
    refine A.out.mono ?_
    rintro e w1 ⟨rfl, k1⟩
    have K1 := hid_as k1
    have S1 := hid_as (S.out.same k1)
    have c1 := S1.out.cSize
    have c4 := S1.out.cLeft
    have BK := hid_as (blk_c S1.out HK.out)
    clear k1 A
    go_wp2_with fail
    refine BK.out.mono ?_
    rintro e w2 ⟨rfl, k2⟩
    obtain ⟨w3, hr, hb3, t3⟩ := EQ.out w2 0 s.lft ((K1.out.only _).trans (k2.only _)) (S1.out.same k2)
    have S3 := (S1.out.same k2).put HK.out (bs := bs) (by rw [HN.out]; exact Nat.le_refl _) hB t3 hb3
    have c2 := S3.cN
    have f2 := S3.free 2
    have S4 := hid_as (S3.setN (s.n + 1))
    have O4 := hid_as (((K1.out.only [g, h]).trans (k2.only _)).trans ((Only.ofTurn t3 (by simp)).trans (Only.ofTurn ((Turn.refl g w3).set 2 (.int .i64 ((s.n + 1 : Nat) : Int))) (by simp))))
    have HH := HE.out s.lft (by rw [if_neg (by omega)])
    have HEE := hid_as HH
    clear S3 hb3 t3 k2 BK HE HH
    go_wp2
    go_ret
    refine ⟨rfl, ?_, ?_⟩
    · have h5 : St (w3.setCell ⟨g, 2, none⟩ (.int .i64 ((s.n + 1 : Nat) : Int))) g h ({ s with rows := s.rows.set k (bs ++ (s.row k).drop bs.length), lft := s.lft, n := s.n + 1 } : SS) := S4.out
      rw [HEE.out] at h5
      simpa using h5
    · simpa using O4.out
/-- Write, whatever it is asked. -/
theorem writeb_c {w : World} {g h c n : Nat} {ao : Option Addr} {s : SS} {bs : List Nat} (t : St w g h s) (i : Int) (hs : Sl w (.slice ao n c) (u8s bs)) (hn : n = bs.length) (hB : Bytes bs) (hne : u8s bs ≠ [] → ∀ a, ao = some a → a.block ∉ [g, h]) (hn9 : s.n ≤ 1000000) :
    Calls Try.prog 48 #[.pointer (some ⟨g, 0, none⟩), .int .i64 i, .slice ao n c] w fun e w' => e = .returned (.int .i64 (s.errW i bs.length : Int)) ∧ St w' g h (s.wr i bs) ∧ Only [g, h] w w' := by
  by_cases he : s.err i = 0
  · by_cases hz : bs.length = s.sz
    · rcases s.err_cases i with h | h | ⟨_, _, k, rfl, hk⟩
      · rw [h.2] at he; cases he
      · rw [h.2.2] at he; cases he
      · have e1 : s.wr k bs = if s.lft = 0 then s.torn k bs else s.dn k bs := by
          unfold SS.wr
          rw [if_neg (by rw [he, hz]; simp)]
        have e2 : s.errW k bs.length = if s.lft = 0 then 82 else 0 := by
          unfold SS.errW
          rw [if_neg (by rw [he]; simp), if_neg (by rw [hz]; simp)]
        have hcap : n ≤ c := by
          rcases hs with ⟨h0, _⟩ | ⟨b, off, cap, e, h1, _⟩
          · have := t.ok.lo
            have : bs.length = 0 := by rw [u8s_nil h0]; rfl
            omega
          · simp only [Value.slice.injEq] at e
            omega
        rw [e1, e2]
        rw [hz] at hn
        subst hn
        by_cases hl : s.lft = 0
        · rw [if_pos hl, if_pos hl]
          exact write_torn t he hk hl hs hz hB hcap
        · rw [if_neg hl, if_neg hl]
          exact write_done t he hk hl hs hz hB hne hn9
    · have e1 : s.wr i bs = s := by
        unfold SS.wr
        rw [if_pos (Or.inr hz)]
      have e2 : s.errW i bs.length = 81 := by
        unfold SS.errW
        rw [if_neg (by rw [he]; simp), if_pos hz]
      rw [e1, e2]
      refine (write_size t i he (by rw [hn]; exact hz)).mono ?_
      rintro _ w' ⟨rfl, k⟩
      exact ⟨rfl, t.same k, k.only _⟩
  · have e1 : s.wr i bs = s := by
      unfold SS.wr
      rw [if_pos (Or.inl he)]
    have e2 : s.errW i bs.length = s.err i := by
      unfold SS.errW
      rw [if_pos he]
    rw [e1, e2]
    refine (write_no t i _ he).mono ?_
    rintro _ w' ⟨rfl, k⟩
    exact ⟨rfl, t.same k, k.only _⟩
end Go.Proofs.Ytoiadofoclgnoaa
