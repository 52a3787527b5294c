/- The walk of the reference's Write (stage 8). -/
import Derived.Test.YtkjbgjiddpkcpaaR2
import Derived.BigRegion
namespace Go.Proofs.Ytkjbgjiddpkcpaa
open Go.RowKit
open Pdu
set_option maxHeartbeats 400000 in
theorem writer_no {w : World} {r q h : Nat} {s : SS} (t : Rf w r q h s) (i : Int) (v : Value) (he : s.err i ≠ 0) : Calls Try.prog 17 #[.pointer (some ⟨r, 0, none⟩), .int .i64 i, v] w fun e w' => e = .returned (.int .i64 (s.err i : Int)) ∧ w' = w := by
  have c5 := t.cDead
  obtain ⟨cap, c0, hcap⟩ := t.cells
  rcases s.err_cases i with ⟨hd, he⟩ | ⟨hd, hi, he⟩ | ⟨hd, he', k, rfl, hk⟩
  · rw [hd] at c5
    rw [he]
    clear t hd he
    go_enter Try.func17, Try.ntmps17
    go_wp2
    go_ret
    exact ⟨rfl, rfl⟩
  · rw [hd] at c5
    rw [he]
    by_cases h0 : i < 0
    · clear t hd he hi
      go_enter Try.func17, Try.ntmps17
      go_wp2
      go_ret
      exact ⟨rfl, rfl⟩
    · have h1 : (s.rows.length : Int) ≤ i := by omega
      clear t hd he hi
      go_enter Try.func17, Try.ntmps17
      go_wp2
      go_ret
      exact ⟨rfl, rfl⟩
  · exact absurd he' he
set_option maxHeartbeats 400000 in
theorem writer_size {w : World} {r q h k n c : Nat} {ao : Option Addr} {s : SS} (t : Rf w r q h s) (hd : s.dead = false) (hk : k < s.rows.length) (hn : n ≠ s.sz) : Calls Try.prog 17 #[.pointer (some ⟨r, 0, none⟩), .int .i64 (k : Int), .slice ao n c] w fun e w' => e = .returned (.int .i64 81) ∧ w' = w := by
  have c5 := t.cDead
  have c1 := t.cSize
  obtain ⟨cap, c0, hcap⟩ := t.cells
  rw [hd] at c5
  have d : ((n : Int) == (s.sz : Int)) = false := by rw [beq_eq_false_iff_ne]; omega
  have d2 : ¬ ((n : Int) = (s.sz : Int)) := by omega
  have h1 : ¬ (s.rows.length : Int) ≤ k := by omega
  clear t hd hn
  go_enter Try.func17, Try.ntmps17
  go_wp2
  go_ret
  exact ⟨rfl, rfl⟩
/-- The row put together of two. -/
theorem app2 {X : World} {h p c n cc m : Nat} {ao : Option Addr} {bs row : List Nat} {a2 : Addr} (hs : Sl X (.slice ao n cc) (u8s bs)) (hn : n = bs.length) (hr : RowIn X h (.slice (some ⟨p, 0, none⟩) n c) row) (hrn : n = row.length) (hm : m ≤ n) (hn9 : n ≤ 4096) (h0 : 1 ≤ n) (hh : h < X.heap.size) (ha : (c = m ∧ a2 = ⟨p, 0, none⟩) ∨ (¬ c = m ∧ a2 = ⟨p, m, none⟩)) :
    ∃ v1 w1 p2 c2 w2, (Builtin.append_ #[30, 30] 30 #[.slice none 0 0, .slice ao m cc]).run Try.prog X = .ok v1 w1 ∧ (Builtin.append_ #[30, 30] 30 #[v1, .slice (some a2) (n - m) (c - m)]).run Try.prog w1 = .ok (.slice (some ⟨p2, 0, none⟩) n c2) w2 ∧ RowIn w2 h (.slice (some ⟨p2, 0, none⟩) n c2) (bs.take m ++ row.drop m) ∧ Below X.heap.size X w1 ∧ Below X.heap.size X w2 := by
  obtain ⟨i0, hi, hz0, hz1, hz2⟩ := info_parts Try.infoByte
  have h1 : Sl X (.slice ao m cc) (u8s (bs.take m)) := sl_pre hs hm
  have l1 : (bs.take m).length = m := by rw [List.length_take]; omega
  obtain ⟨v1, w1, hr1, own1, g1⟩ := run_append_sl (P := Try.prog) (w := X) X.heap.size 30 30 5 i0 (.int .u8 0) 1 Try.underlying30 hi hz0 hz1 hz2 rfl (.slice none 0 0) 0 [] (World.ownsRow_nil ..) _ _ h1 (u8s_one _) (by rw [u8s_len, l1]; unfold maxLen; omega) (by rw [u8s_len, l1]; omega) (Nat.le_refl _)
  have k1 : Below X.heap.size X w1 := (Below.refl _ X).grown g1 (Nat.le_refl _) (fun g hg => by simp [Value.ownBlock] at hg)
  rw [List.nil_append, u8s_len, l1, Nat.zero_add] at own1
  have hrow := hr.sl.below k1
  have h2 : Sl w1 (.slice (some a2) (n - m) (c - m)) (u8s (row.drop m)) := by
    obtain ⟨p', c', cur, e, hc, _⟩ := hr
    simp only [Value.slice.injEq, Option.some.injEq, Addr.mk.injEq, and_true] at e
    obtain ⟨rfl, e1, rfl⟩ := e
    rcases hrow with ⟨e2, _⟩ | ⟨b, off, cap, e2, hcap, hl⟩
    · have := u8s_nil e2
      subst this
      simp at hrn
      omega
    · simp only [Value.slice.injEq, Option.some.injEq, Addr.mk.injEq, and_true] at e2
      obtain ⟨⟨rfl, rfl⟩, _, rfl⟩ := e2
      have := cut_sl (k := m) (cap := c) (by rw [u8s_len]; exact hrn) (by omega) hm hl
      rw [← u8s_drop] at this
      unfold cutV cutA at this
      rcases ha with ⟨e3, rfl⟩ | ⟨e3, rfl⟩
      · rw [if_pos e3] at this
        exact this
      · rw [if_neg e3, Nat.zero_add] at this
        exact this
  have l2 : (row.drop m).length = n - m := by rw [List.length_drop]; omega
  obtain ⟨v2, w2, hr2, own2, g2⟩ := run_append_sl (P := Try.prog) (w := w1) X.heap.size 30 30 5 i0 (.int .u8 0) 1 Try.underlying30 hi hz0 hz1 hz2 rfl v1 _ _ own1 _ _ h2 (u8s_one _) (by rw [u8s_len, l2]; unfold maxLen; omega) (by rw [u8s_len, l2]; omega) k1.size
  have k2 : Below X.heap.size X w2 := k1.trans ((Below.refl _ w1).grown g2 k1.size (fun g hg => (own1.lt g hg).1))
  have l3 : (bs.take m ++ row.drop m).length = n := by rw [List.length_append, l1, l2]; omega
  rw [← u8s_app, u8s_len, l2, show m + (n - m) = (bs.take m ++ row.drop m).length by rw [l3]; omega] at own2
  have hin := RowIn.of_own own2 (fun e => by rw [e] at l3; simp at l3; omega) hh
  obtain ⟨p2, c2, cur2, hv2, _⟩ := hin
  have hin := RowIn.of_own own2 (fun e => by rw [e] at l3; simp at l3; omega) hh
  rw [l3] at hv2
  subst hv2
  exact ⟨v1, w1, p2, c2, w2, hr1, hr2, hin, k1, k2⟩
theorem app3 {X : World} {h p c n cc m : Nat} {ao : Option Addr} {bs row : List Nat} (hs : Sl X (.slice ao n cc) (u8s bs)) (hn : n = bs.length) (hr : RowIn X h (.slice (some ⟨p, 0, none⟩) n c) row) (hrn : n = row.length) (hm : m ≤ n) (hn9 : n ≤ 4096) (h0 : 1 ≤ n) (hh : h < X.heap.size) :
    ∃ v1 w1 p2 c2 w2, (Builtin.append_ #[30, 30] 30 #[.slice none 0 0, .slice ao m cc]).run Try.prog X = .ok v1 w1 ∧ (Builtin.append_ #[30, 30] 30 #[v1, .slice (if c = m then some ⟨p, 0, none⟩ else some ⟨p, m, none⟩) (n - m) (c - m)]).run Try.prog w1 = .ok (.slice (some ⟨p2, 0, none⟩) n c2) w2 ∧ RowIn w2 h (.slice (some ⟨p2, 0, none⟩) n c2) (bs.take m ++ row.drop m) ∧ Below X.heap.size X w1 ∧ Below X.heap.size X w2 := by
  by_cases e : c = m
  · rw [if_pos e]
    exact app2 hs hn hr hrn hm hn9 h0 hh (Or.inl ⟨e, rfl⟩)
  · rw [if_neg e]
    exact app2 hs hn hr hrn hm hn9 h0 hh (Or.inr ⟨e, rfl⟩)
/-- What the write is to be: torn, or done. -/
def SS.way (s : SS) (m : Nat) (d : Bool) : Prop := (s.lft = 0 ∧ m = clip s.sz s.pre ∧ d = true) ∨ (s.lft ≠ 0 ∧ m = s.sz ∧ d = false)
set_option maxHeartbeats 1600000 in
theorem writer_yes {w : World} {r q h k c m : Nat} {d : Bool} {ao : Option Addr} {s : SS} {bs : List Nat} (t : Rf w r q h s) (hh : h < w.heap.size) (hd : s.dead = false) (hk : k < s.rows.length) (hw : s.way m d) (hs : Sl w (.slice ao s.sz c) (u8s bs)) (hn : bs.length = s.sz) (hB : Bytes bs) (hcap : s.sz ≤ c) (hne : u8s bs ≠ [] → ∀ a, ao = some a → a.block ∉ [r, q]) (hn9 : s.n ≤ 1000000) :
    Calls Try.prog 17 #[.pointer (some ⟨r, 0, none⟩), .int .i64 (k : Int), .slice ao s.sz c] w fun e w' => (d = true ∧ e = .returned (.int .i64 82) ∨ d = false ∧ e = .returned (.int .i64 0)) ∧ Rf w' r q h (if d = true then s.torn k bs else s.dn k bs) ∧ Only [r, q] w w' := by
  have c5 := t.cDead
  have c1 := t.cSize
  have c3 := t.cLeft
  have c4 := t.cPre
  obtain ⟨cap, c0, hcp⟩ := t.cells
  rw [hd] at c5
  have f5 := t.free 5
  have h1 : ¬ (s.rows.length : Int) ≤ k := by omega
  have T := hid_as t
  have hmz : m ≤ s.sz := by
    rcases hw with ⟨_, h, _⟩ | ⟨_, h, _⟩
    · rw [h]; exact clip_le _ _
    · omega
  have HW := hid_as hw
  have HS := hid_as hs
  have HN := hid_as hn
  have HNE := hid_as hne
  have HK := hid_as hk
  have HD := hid_as hd
  clear t hs hn hne hw hd
  go_enter Try.func17, Try.ntmps17
  go_upto_if 38 with fail
  go_cut [7] from 34 to 51 (fun v wx => v = .int .i64 (m : Int) ∧ Rf wx r q h { s with dead := d } ∧ Only [r, q] w wx)
  case first =>
    rcases HW.out with ⟨hl, hm, rfl⟩ | ⟨hl, hm, rfl⟩
    · have CW : Hid ((s.pre < 0 ∧ (m : Int) = 0) ∨ ((s.sz : Int) < s.pre ∧ (m : Int) = s.sz) ∨ (0 ≤ s.pre ∧ s.pre ≤ s.sz ∧ (m : Int) = s.pre)) := by
        have := clip_within s.sz s.pre
        rw [← hm] at this
        exact this
      have T1 := hid_as ((T.out.same (Same.drew w)).setDead true)
      have U1 := hid_as (((Same.drew w).only [r, q]).trans (Only.ofTurn ((Turn.refl r w.drew).set 5 (.bool true)) (by simp)))
      clear hm
      rcases CW.out with ⟨h2, h3⟩ | ⟨h2, h3⟩ | ⟨h2, h3, h4⟩
      · have H3 := hid_as h3
        have h5 : ¬ (s.sz : Int) < 0 := by omega
        clear h3 CW
        go_wp2
        go_region
        go_wp2
        go_meet
        case rel => exact ⟨by rw [H3.out], T1.out, U1.out⟩
      · have H3 := hid_as h3
        have h5 : ¬ s.pre < 0 := by omega
        clear h3 CW
        go_wp2
        go_region
        go_wp2
        go_meet
        case rel => exact ⟨by rw [H3.out], T1.out, U1.out⟩
      · have H3 := hid_as h4
        have h5 : ¬ s.pre < 0 := by omega
        have h6 : ¬ (s.sz : Int) < s.pre := by omega
        clear h4 CW
        go_wp2
        go_region
        go_wp2
        go_meet
        case rel => exact ⟨by rw [H3.out], T1.out, U1.out⟩
    · have H3 := hid_as hm
      have d0 : (s.lft == 0) = false := by rw [beq_eq_false_iff_ne]; exact hl
      have T0 : Hid (Rf w r q h { s with dead := false }) := by
        have e : ({ s with dead := false } : SS) = s := by
          have := HD.out
          cases s
          simp_all
        rw [e]
        exact T.out
      clear hm
      go_wp2
      go_meet
      case rel => exact ⟨by rw [H3.out], T0.out, Only.refl _ _⟩
  case rest =>
    obtain ⟨rfl, t1, u1⟩ := hcut
    clear c0 c1 c3 c4 c5 f5 hcp
    have T1 := hid_as t1
    have U1 := hid_as u1
    clear t1 u1
    obtain ⟨cap, c0, hcp⟩ := T1.out.cells
    obtain ⟨p, cp, ck, hcp2, hrow⟩ := T1.out.cRow (k := k) HK.out
    have h1' : (k : Int) < (s.rows.length : Int) := by omega
    have mc : m ≤ c := by omega
    have mc2 : (m : Int) ≤ (c : Int) := by omega
    have mp2 : (m : Int) ≤ (s.sz : Int) := by omega
    have lo := T.out.ok.lo
    have hi := T.out.ok.hi
    have hszU := U1.out.size
    have hrl := (T.out.ok.row HK.out).1
    obtain ⟨v1, w1, p2, c2, w2, hr1, hr2, hrin, k1, k2⟩ := app3 (X := wc.drew) (h := h) ((HS.out.only U1.out HNE.out).drew1) HN.out.symm hrow hrl.symm hmz hi (by omega) (Nat.lt_of_lt_of_le hh hszU)
    have T2 := hid_as ((T1.out.same (Same.drew wc)).below k2)
    have a0 : w1.cell? ⟨r, 0, none⟩ = some (.slice (some ⟨q, 0, none⟩) s.rows.length cap) := keep_cell k1 c0
    have a1 : w2.cell? ⟨r, 0, none⟩ = some (.slice (some ⟨q, 0, none⟩) s.rows.length cap) := keep_cell k2 c0
    have b0 : w1.cell? ⟨q, k, none⟩ = some (.slice (some ⟨p, 0, none⟩) s.sz cp) := keep_cell k1 ck
    have b1 : w2.cell? ⟨q, k, none⟩ = some (.slice (some ⟨p, 0, none⟩) s.sz cp) := keep_cell k2 ck
    have bf := T2.out.freeq k
    have T3 := hid_as (T2.out.put (k := k) (v := .slice (some ⟨p2, 0, none⟩) s.sz c2) (bs := bs.take m ++ (s.row k).drop m) (by rw [List.length_append, List.length_take, List.length_drop, hrl, HN.out]; show _ = s.sz; omega) ((hB.take m).app ((T.out.ok.row HK.out).2.drop m)) hrin)
    have U3 := hid_as (U1.out.trans ((Only.ofBelow (drew_below wc)).trans ((Only.ofBelow k2).trans (Only.ofTurn ((Turn.refl q w2).set k (.slice (some ⟨p2, 0, none⟩) s.sz c2)) (by simp)))))
    clear hrow k1 k2 hrin T2 lo hi hrl hszU
    have d5 := T3.out.cDead
    have d3 := T3.out.cLeft
    have d2 := T3.out.cN
    have g2 := T3.out.free 2
    have g3 := T3.out.free 3
    obtain ⟨X3, hX3⟩ : ∃ X3, X3 = w2.setCell ⟨q, k, none⟩ (.slice (some ⟨p2, 0, none⟩) s.sz c2) := ⟨_, rfl⟩
    rw [← hX3] at T3 U3 d5 d3 d2 g2 g3
    have HX := hid_as hX3
    clear hX3
    go_upto_region 11 with fail
    go_cut [] from 52 to 71 (fun wx => wx = X3)
    case first =>
      clear d5 d3 d2 g2 g3
      go_region_law (first
        | refine step_append_run rfl (.const (.slice none 0 0)) (.tmp 59) 30 30 rfl (.slice none 0 0) (.slice ao m c) (by simp [Act.eval]) (by simp [Act.eval, Act.put]) v1 w1 hr1 ?_
        | refine step_append_run rfl (.tmp 60) (.tmp 69) 30 30 rfl v1 (.slice (if cp = m then some ⟨p, 0, none⟩ else some ⟨p, m, none⟩) (s.sz - m) (cp - m)) (by simp [Act.eval, Act.put]) (by simp [Act.eval, Act.put]) (.slice (some ⟨p2, 0, none⟩) s.sz c2) w2 hr2 ?_)
      all_goals
        rw [← HX.out]
        go_wp2
        all_goals
          go_meet
          case rel => exact rfl
    case rest =>
      obtain rfl := hcut
      clear c0 ck a0 a1 b0 b1 bf hr1 hr2
      have hmx := T.out.ok.mx
      simp only at d5 d3 d2
      rcases HW.out with ⟨hl, hm, rfl⟩ | ⟨hl, hm, rfl⟩
      · have HE : Hid (({ s with rows := s.rows.set k (bs.take m ++ (s.row k).drop m), dead := true } : SS) = s.torn k bs) := by
          show _ = _
          unfold SS.torn
          rw [hm, Int.toNat_natCast]
        clear hm hl
        go_wp2
        go_ret
        refine ⟨rfl, ?_, U3.out⟩
        rw [← HE.out]
        exact T3.out
      · have hT : Hid (bs.take m ++ (s.row k).drop m = bs) := by
          show _ = _
          rw [hm, List.take_of_length_le (by rw [HN.out]; exact Nat.le_refl _), List.drop_of_length_le (by rw [(T.out.ok.row HK.out).1]; exact Nat.le_refl _), List.append_nil]
        have HE : Hid (∀ l, l = (if 0 < s.lft then s.lft - 1 else s.lft) → ({ s with rows := s.rows.set k (bs.take m ++ (s.row k).drop m), dead := false, lft := l, n := s.n + 1 } : SS) = s.dn k bs) := by
          intro l hl
          unfold SS.dn
          rw [hl, hT.out, Int.toNat_natCast]
          have := HD.out
          cases s
          simp_all
        clear hm
        by_cases hp : 0 < s.lft
        · have T4 := hid_as ((T3.out.setLeft (s.lft - 1) (by omega)).setN (s.n + 1))
          have U4 := hid_as (U3.out.trans (Only.ofTurn (((Turn.refl r _).set 3 (.int .i64 (s.lft - 1))).set 2 (.int .i64 ((s.n + 1 : Nat) : Int))) (by simp)))
          have HH := HE.out (s.lft - 1) (by rw [if_pos hp])
          have HEE := hid_as HH
          clear HH HE
          go_wp2
          go_ret
          refine ⟨rfl, ?_, by simpa using U4.out⟩
          rw [← HEE.out]
          simpa using T4.out
        · have T4 := hid_as (T3.out.setN (s.n + 1))
          have U4 := hid_as (U3.out.trans (Only.ofTurn ((Turn.refl r _).set 2 (.int .i64 ((s.n + 1 : Nat) : Int))) (by simp)))
          have HH := HE.out s.lft (by rw [if_neg (by omega)])
          have HEE := hid_as HH
          clear HH HE
          go_wp2
          go_ret
          refine ⟨rfl, ?_, by simpa using U4.out⟩
          rw [← HEE.out]
          simpa using T4.out
end Go.Proofs.Ytkjbgjiddpkcpaa
