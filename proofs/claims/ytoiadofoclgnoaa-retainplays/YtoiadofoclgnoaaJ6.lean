/- The walks of Lay, Scan, Laid (stage 9). -/
import Derived.Test.YtoiadofoclgnoaaJ5
namespace Go.Proofs.Ytoiadofoclgnoaa
open Go.RowKit
open Pdu
set_option maxHeartbeats 400000 in
theorem load64_c (a : Addr) (x : Nat) (w : World) (hc : w.cell? a = some (.int .u64 (x : Int))) : Calls Try.prog 36 #[.pointer (some a)] w fun e w' => e = .returned (.int .u64 (x : Int)) ∧ w' = w := by
  have hl := run_call_load (P := Try.prog) Try.func50 (by kernel_rfl) (by kernel_rfl) (by kernel_rfl) .u64 (by kernel_rfl) hc
  go_enter Try.func36, Try.ntmps36
  go_wp2
  go_ret
  exact ⟨rfl, rfl⟩
set_option maxHeartbeats 400000 in
theorem add64_c (a : Addr) (x : Nat) (w : World) (hc : w.cell? a = some (.int .u64 (x : Int))) (hz : w.frozen? a = false) (hx : x < 1000000) : Calls Try.prog 35 #[.pointer (some a), .int .u64 1] w fun e w' => e = .returned (.int .u64 ((x + 1 : Nat) : Int)) ∧ w' = w.setCell a (.int .u64 ((x + 1 : Nat) : Int)) := by
  have hl := run_call_add (P := Try.prog) Try.func49 (by kernel_rfl) (by kernel_rfl) (by kernel_rfl) .u64 (by kernel_rfl) (y := 1) (s := ((x + 1 : Nat) : Int)) hc hz (by
    have e : IntKind.u64.wrap ((x : Int) + 1) = ((x + 1 : Nat) : Int) := by rw [IntKind.wrap_u64]; omega
    simp [Op.intArith, e])
  go_enter Try.func35, Try.ntmps35
  go_wp2
  go_ret
  exact ⟨rfl, rfl⟩
set_option maxHeartbeats 400000 in
theorem laid_c {w : World} {gj g : Nat} {J : JS} (q : Jn w gj g J) : Calls Try.prog 17 #[.pointer (some ⟨gj, 0, none⟩)] w fun e w' => e = .returned (.int .u64 (J.laid : Int)) ∧ w' = w := by
  have L := hid_as (load64_c ⟨gj, 6, none⟩ J.laid w q.c6)
  clear q
  go_enter Try.func17, Try.ntmps17
  go_wp2_with fail
  refine L.out.mono ?_
  rintro e w1 ⟨rfl, hw⟩
  subst w1
  clear L
  go_wp2
  go_ret
  exact ⟨rfl, rfl⟩
set_option maxHeartbeats 400000 in
theorem scan_c {w : World} {gj g h : Nat} {J : JS} {s : SS} (q : Jr w gj g h J s) (hd : s.dead = false) : Calls Try.prog 16 #[.pointer (some ⟨gj, 0, none⟩)] w fun e w' => ∃ sc : Nat, e = .returned (.int .u64 (sc : Int)) ∧ ScOf (Rs s) sc ∧ Jr w' gj g h { J with scan := sc } s ∧ Only [gj] w w' := by
  have LK := hid_as (look_c q hd)
  clear q
  go_enter Try.func16, Try.ntmps16
  go_wp2_with fail
  refine LK.out.mono ?_
  rintro e w1 ⟨V, sc, rfl, _, hsc, q1, o1⟩
  have c5 := q1.jn.c5
  have Q1 := hid_as q1
  have O1 := hid_as o1
  have HS := hid_as hsc
  clear LK q1 o1 hsc
  generalize (vwc (Rs s) V (Bg s)).toArray = vv at *
  go_wp2
  go_ret
  exact ⟨sc, rfl, HS.out, Q1.out, O1.out⟩
set_option maxHeartbeats 400000 in
theorem lay_no {w : World} {gj g m c : Nat} {ao : Option Addr} {J : JS} (q : Jn w gj g J) (sc : Int) (hm : m ≠ J.n) : Calls Try.prog 15 #[.pointer (some ⟨gj, 0, none⟩), .int .u64 sc, .slice ao m c] w fun e w' => e = .returned (.int .i64 90) ∧ w' = w := by
  have c1 := q.c1
  have h1 : ((m : Int) == (J.n : Int)) = false := by rw [beq_eq_false_iff_ne]; omega
  have h2 : ((m : Int) != (J.n : Int)) = true := by rw [bne_iff_ne]; omega
  clear q hm
  generalize J.n = n at *
  go_enter Try.func15, Try.ntmps15
  go_wp2
  go_ret
  exact ⟨rfl, rfl⟩
structure LayOut (w w' : World) (gj g h : Nat) (J J' : JS) (s s' : SS) (n T en : Nat) (o : Last) (sc : Nat) (l : List Int) : Prop where
  jr : Jr w' gj g h J' s'
  only : Only [gj, g, h] w w'
  jn : J'.n = J.n
  sz : s'.sz = s.sz
  sn : s'.n ≤ s.n + 3
  kp : en = 0 → Kp s s'
  how : (en = 0 ∧ s'.dead = false ∧ J'.laid = J.laid + 1 ∧ J'.set = true ∧ Sd s' n (T + 1) J'.slot J'.turn (some (sc, l)) ∧ (s.lft < 0 → s'.lft < 0)) ∨ (en = 82 ∧ s'.dead = true ∧ ¬ s.lft < 0 ∧ (Ivr s' n (T + 1) o ∨ Ivr s' n (T + 1) (some (sc, l))))
def LayPost (w : World) (gj g h : Nat) (J : JS) (s : SS) (n T : Nat) (o : Last) (sc : Nat) (l : List Int) (e : Ending) (w' : World) : Prop := ∃ (s' : SS) (J' : JS) (en : Nat), e = .returned (.int .i64 (en : Int)) ∧ LayOut w w' gj g h J J' s s' n T en o sc l
/-- How far a Lay is. -/
def LySt (k : Nat) (s : SS) (n T slot turn : Nat) (o : Last) (r : Rc) : Prop := match k with
  | 0 => Sd s n T slot turn o
  | 1 => Mid s n T (2 * (1 - slot)) turn r
  | _ => InvS s n r (T + 1) ∧ Rs s (2 * (1 - slot)) = r ∧ Rs s (2 * (1 - slot) + 1) = r
structure LyR (w wr : World) (gj g h gb : Nat) (J : JS) (s0 s : SS) (k n T : Nat) (o : Last) (r : Rc) : Prop where
  jr : Jr wr gj g h J s
  dead : s.dead = false
  row : ∃ p, Row wr gb p ∧ (∀ i, stm p i = stm (pk s.sz r.t r.s r.l) i) ∧ p.length = s.sz ∧ Bytes p
  only : Only [gj, g, h] w wr
  gb0 : w.heap.size ≤ gb
  lts : gj < w.heap.size ∧ g < w.heap.size ∧ h < w.heap.size
  sz : s.sz = s0.sz
  sn : s.n ≤ s0.n + 1 + k
  lft : s0.lft < 0 → s.lft < 0
  kp : Kp s0 s
  st : LySt k s n T J.slot J.turn o r
theorem Jr.setSet {w : World} {gj g h : Nat} {J : JS} {s : SS} (q : Jr w gj g h J s) (b : Bool) : Jr (w.setCell ⟨gj, 2, none⟩ (.bool b)) gj g h { J with set := b } s := by
  have t := (Turn.refl gj w).set 2 (.bool b)
  exact ⟨q.st.heap (t.block _ q.st.lt (fun e => q.n1 (by simpa using e.symm))) (t.block _ q.st.lth (fun e => q.n2 (by simpa using e.symm))), q.jn.setSet b, q.n1, q.n2, q.fit⟩
/-- The four fields that Lay sets at its end, and the count. -/
theorem Jr.ends {w : World} {gj g h : Nat} {J : JS} {s : SS} (q : Jr w gj g h J s) (slot turn sc : Nat) : Jr ((((w.setCell ⟨gj, 2, none⟩ (.bool true)).setCell ⟨gj, 3, none⟩ (.int .i64 (slot : Int))).setCell ⟨gj, 4, none⟩ (.int .u64 (turn : Int))).setCell ⟨gj, 5, none⟩ (.int .u64 (sc : Int))) gj g h { J with set := true, slot := slot, turn := turn, scan := sc } s ∧ Turn gj w ((((w.setCell ⟨gj, 2, none⟩ (.bool true)).setCell ⟨gj, 3, none⟩ (.int .i64 (slot : Int))).setCell ⟨gj, 4, none⟩ (.int .u64 (turn : Int))).setCell ⟨gj, 5, none⟩ (.int .u64 (sc : Int))) := by
  have t := ((((Turn.refl gj w).set 2 (.bool true)).set 3 (.int .i64 (slot : Int))).set 4 (.int .u64 (turn : Int))).set 5 (.int .u64 (sc : Int))
  exact ⟨⟨q.st.heap (t.block _ q.st.lt (fun e => q.n1 (by simpa using e.symm))) (t.block _ q.st.lth (fun e => q.n2 (by simpa using e.symm))), (((q.jn.setSet true).setSlot slot).setTurn turn).setScan sc, q.n1, q.n2, q.fit⟩, t⟩
theorem Jr.cnt1 {w : World} {gj g h : Nat} {J : JS} {s : SS} (q : Jr w gj g h J s) (n : Nat) : Jr (w.setCell ⟨gj, 6, none⟩ (.int .u64 (n : Int))) gj g h { J with laid := n } s ∧ Turn gj w (w.setCell ⟨gj, 6, none⟩ (.int .u64 (n : Int))) := by
  have t := (Turn.refl gj w).set 6 (.int .u64 (n : Int))
  exact ⟨⟨q.st.heap (t.block _ q.st.lt (fun e => q.n1 (by simpa using e.symm))) (t.block _ q.st.lth (fun e => q.n2 (by simpa using e.symm))), q.jn.setLaid n, q.n1, q.n2, q.fit⟩, t⟩
theorem LyR.write_c {w wr : World} {gj g h gb i : Nat} {ii : Int} {J : JS} {s0 s : SS} {k n T : Nat} {o : Last} {r : Rc} (q : LyR w wr gj g h gb J s0 s k n T o r) (hii : ii = (i : Int)) (hi : i < 4) (hn9 : s.n ≤ 900000) (hI : Ints r.l) (hl : 36 + 8 * r.l.length ≤ s.sz) (ht : r.t < 18446744073709551616) (hs : r.s < 18446744073709551616) :
    Calls Try.prog 34 #[.pointer (some ⟨gj, 0, none⟩), .int .i64 ii, .slice (some ⟨gb, 0, none⟩) s.sz s.sz] wr fun e w4 => ∃ (s' : SS) (en : Nat), e = .returned (.int .i64 (en : Int)) ∧ Wd s s' i r en ∧ Jr w4 gj g h J s' ∧ Only [gj, g, h] w w4 ∧ (∃ p, Row w4 gb p ∧ (∀ i, stm p i = stm (pk s'.sz r.t r.s r.l) i) ∧ p.length = s'.sz ∧ Bytes p) := by
  subst hii
  obtain ⟨p, hr, hp, hpl, hpB⟩ := q.row
  have hb := q.gb0
  have hlt := q.lts
  have hf := fit_is q.jr.fit
  refine (writej_c q.jr q.dead hi hn9 hr hpl hpB (by omega) (by omega) (by omega)).mono ?_
  rintro e w4 ⟨s', en, p', rfl, hw, j4, r4, o4⟩
  have wd := wrt_rec q.jr.st.ok q.jr.fit q.dead hi hI hl ht hs hp hw
  refine ⟨s', en, rfl, wd, j4, q.only.stp o4 ?_, p', r4, ?_⟩
  · intro k hk
    simp only [List.mem_cons, List.not_mem_nil, or_false] at hk ⊢
    rcases hk with e | e | e
    · exact Or.inl (Or.inr (Or.inl e))
    · exact Or.inl (Or.inr (Or.inr e))
    · exact Or.inr (by omega)
  · obtain ⟨k, hk1, hk3, _, _, rfl, _, _⟩ := hw
    rw [wd.sz]
    refine ⟨fun i => ?_, by rw [stm_len]; exact hpl, stm_bytes hpB (by omega)⟩
    rw [stm_stm (by omega), hp i]
set_option maxHeartbeats 1600000 in
theorem lay_c {w : World} {gj g h n T sc m c : Nat} {ao : Option Addr} {J : JS} {s : SS} {o : Last} {l : List Int} (q : Jr w gj g h J s) (hd : s.dead = false) (hn : J.n = n) (hn2 : n ≤ 1000) (hn9 : s.n ≤ 700000) (hT : T ≤ 1000000) (hl : 36 + 8 * n ≤ s.sz) (hinv : Ivr s n T o) (hset : J.set = true → Sd s n T J.slot J.turn o) (ho : ∀ x, o = some x → x.1 < 18446744073709551616 ∧ Ints x.2)
    (hs : Sl w (.slice ao m c) (i64s l)) (hm : m = n) (hlen : l.length = n) (hne : i64s l ≠ [] → ∀ a, ao = some a → a.block ∉ [gj, g, h]) (hI : Ints l) (hsc : sc < 18446744073709551616) (hld : J.laid < 1000000) :
    Calls Try.prog 15 #[.pointer (some ⟨gj, 0, none⟩), .int .u64 (sc : Int), .slice ao m c] w fun e w' => LayPost w gj g h J s n T o sc l e w' := by
  subst hm
  have c1 := q.jn.c1
  rw [hn] at c1
  have SE := hid_as (settle_c q hd hn hn2 (by omega) (by omega) hl hinv hset ho)
  have LT := hid_as q.lts
  have HN := hid_as hn
  have HS := hid_as hs
  have HNE := hid_as hne
  have HL := hid_as hlen
  have hsz := q.st.ok.hi
  have hfit := fit_is q.fit
  clear q hinv hset hs hne hlen
  go_enter Try.func15, Try.ntmps15
  go_wp2_with fail
  refine SE.out.mono ?_
  rintro e w1 ⟨s1, J1, en, rfl, so⟩
  have SO := hid_as so
  clear SE c1 so
  rcases SO.out.how with ⟨rfl, hd1, sd1, lf1⟩ | ⟨rfl, hd1, inv1, lf1⟩
  · have c2 := SO.out.jr.jn.c2
    have f2 := SO.out.jr.jn.free 2
    have QX := hid_as (SO.out.jr.setSet false)
    have OX : Hid (Only [gj, g, h] w (w1.setCell ⟨gj, 2, none⟩ (.bool false))) := SO.out.only.trans (Only.ofTurn ((Turn.refl gj w1).set 2 _) (by simp))
    go_upto_region 7 with fail
    generalize w1.setCell ⟨gj, 2, none⟩ (.bool false) = X at QX OX ⊢
    have c3 := QX.out.jn.c3
    have c4 := QX.out.jn.c4
    have c0 := QX.out.jn.c0
    have hslot := sd1.slot
    have hturn := sd1.turn
    obtain ⟨sl, hsl⟩ : ∃ sl, sl = J1.slot := ⟨_, rfl⟩
    obtain ⟨tu, htu⟩ : ∃ tu, tu = J1.turn := ⟨_, rfl⟩
    obtain ⟨tz, hto⟩ : ∃ tz, tz = 1 - sl := ⟨_, rfl⟩
    obtain ⟨tn, htn⟩ : ∃ tn, tn = tu + 1 := ⟨_, rfl⟩
    have k3 : X.cell? ⟨gj, 3, none⟩ = some (.int .i64 (sl : Int)) := by rw [hsl]; exact c3
    have k4 : X.cell? ⟨gj, 4, none⟩ = some (.int .u64 (tu : Int)) := by rw [htu]; exact c4
    clear c3 c4
    rw [← hsl] at hslot
    rw [← htu] at hturn
    have hto1 : (1 : Int) - (sl : Int) = (tz : Int) := by omega
    have htn1 : (tu : Int) + 1 = (tn : Int) := by omega
    have hto2 : tz < 2 := by omega
    have htn2 : tn < 18446744073709551616 := by omega
    have htw : IntKind.u64.wrap (tn : Int) = (tn : Int) := by rw [IntKind.wrap_u64]; omega
    have htw2 : IntKind.u64.wrap ((tu : Int) + 1) = (tn : Int) := by rw [IntKind.wrap_u64]; omega
    have HSL := hid_as hsl
    have HTU := hid_as htu
    have HTO := hid_as hto
    have HTN := hid_as htn
    have hs1 : s1.sz = s.sz := SO.out.sz
    have HSX : Hid (Sl X (.slice ao m c) (i64s l)) := HS.out.only OX.out HNE.out
    have SZ := hid_as (fun (W : World) (k : Same X W) => size_c (QX.out.st.same k))
    have L0 : Hid (∀ W, Same X W → Calls Try.prog 33 #[.agg #[.int .u64 (tn : Int), .int .u64 (sc : Int), .slice ao m c], .int .i64 (s1.sz : Int)] W fun e w3 => ∃ gb, e = .returned (.slice (some ⟨gb, 0, none⟩) s1.sz s1.sz) ∧ LyR w w3 gj g h gb { J1 with set := false } s s1 0 m T o ⟨tn, sc, l⟩) := by
      intro W k
      have hz := QX.out.st.ok.hi
      have hf := fit_is QX.out.fit
      refine (pack_c (HSX.out.below k.below) hI (by omega) hz (by rw [HL.out, hs1]; omega) htn2 hsc).mono ?_
      rintro e w3 ⟨gb, rfl, r3, k3, g3⟩
      have kk := below_and k.below k3
      have hW : W.heap.size = X.heap.size := by rw [k.heap]
      have hO := OX.out.size
      have hll : 36 + 8 * l.length ≤ s1.sz := by rw [HL.out, hs1]; exact hl
      refine ⟨gb, rfl, QX.out.below kk, hd1, ⟨_, r3, fun _ => rfl, pk_len hll, pk_bytes hll⟩, OX.out.trans (Only.ofBelow kk), by omega, LT.out, hs1, by have := SO.out.sn; omega, lf1, SO.out.kp rfl, sd1⟩
    have CA : Hid (∀ W, Same X W → W.cell? ⟨gj, 4, none⟩ = some (.int .u64 (tu : Int)) ∧ W.cell? ⟨gj, 0, none⟩ = some (.pointer (some ⟨g, 0, none⟩))) := fun W k => ⟨keep_cell k.below k4, keep_cell k.below c0⟩
    have CB : Hid (∀ (W : World) (gb : Nat), LyR w W gj g h gb { J1 with set := false } s s1 0 m T o ⟨tn, sc, l⟩ → W.cell? ⟨gj, 4, none⟩ = some (.int .u64 (tu : Int)) ∧ W.cell? ⟨gj, 0, none⟩ = some (.pointer (some ⟨g, 0, none⟩))) := fun W gb q => by
      have z := q.jr.jn.c4
      refine ⟨?_, q.jr.jn.c0⟩
      rw [HTU.out]
      exact z
    have HS1 := hid_as hs1
    clear hsl htu hto htn c2 f2 sd1 lf1 HSX hs1
    go_upto_region 8 with fail
    go_region_held3 (fun W => W.cell? ⟨gj, 4, none⟩ = some (.int .u64 (tu : Int)) ∧ W.cell? ⟨gj, 0, none⟩ = some (.pointer (some ⟨g, 0, none⟩))) (first | exact CA.out _ (Same.drew _) | exact CA.out _ (Same.refl _) | exact c3z) (first
      | (go_at_call 21; (with_reducible refine (SZ.out _ ?_).mono ?_); (first | exact Same.drew _); rintro e w3 ⟨rfl, hw⟩; subst w3)
      | (go_at_call 33; (with_reducible refine (L0.out _ ?_).mono ?_); (first | exact Same.drew _); rintro e w3 ⟨gb, rfl, l3⟩; have c3z := CB.out _ _ l3))
    have L3 := hid_as l3
    clear l3 c3z CA CB SZ L0 c0 k3 k4 QX OX htw htw2 hto1
    go_wp2
    go_loopw [46] (fun i wr => ∃ k : Nat, k ≤ 2 ∧ i = .int .i64 k ∧ ∃ sk, LyR w wr gj g h gb { J1 with set := false } s sk k m T o ⟨tn, sc, l⟩) (fun i _ => 2 - (intOf i).toNat)
    case atStart => exact ⟨0, by omega, rfl, _, L3.out⟩
    case round =>
      obtain ⟨k, hk, rfl, sk, HP⟩ := hrel
      have P := hid_as HP
      clear HP L3
      have TO2 : Hid (2 * (1 - J1.slot) = 2 * tz) := by rw [← HSL.out, HTO.out]; exact rfl
      have hkc : k = 0 ∨ k = 1 ∨ k = 2 := by omega
      by_cases hk2 : k < 2
      · have WRC : Hid (∀ ii : Int, ii = ((2 * (1 - J1.slot) + k : Nat) : Int) → Calls Try.prog 34 #[.pointer (some ⟨gj, 0, none⟩), .int .i64 ii, .slice (some ⟨gb, 0, none⟩) s1.sz s1.sz] wr fun e w4 => ∃ (s' : SS) (en : Nat), e = .returned (.int .i64 (en : Int)) ∧ Wd sk s' (2 * (1 - J1.slot) + k) ⟨tn, sc, l⟩ en ∧ Jr w4 gj g h { J1 with set := false } s' ∧ Only [gj, g, h] w w4 ∧ (∃ p, Row w4 gb p ∧ (∀ i, stm p i = stm (pk s'.sz tn sc l) i) ∧ p.length = s'.sz ∧ Bytes p)) := by
          intro ii hii
          have e1 : s1.sz = sk.sz := by rw [P.out.sz]; exact HS1.out
          rw [e1]
          have := P.out.sn
          exact P.out.write_c hii (by rw [TO2.out]; omega) (by omega) hI (by rw [HL.out, ← e1, HS1.out]; exact hl) htn2 hsc
        have NXT : Hid (∀ (w4 : World) (s' : SS) (en : Nat), Wd sk s' (2 * (1 - J1.slot) + k) ⟨tn, sc, l⟩ en → Jr w4 gj g h { J1 with set := false } s' → Only [gj, g, h] w w4 → (∃ p, Row w4 gb p ∧ (∀ i, stm p i = stm (pk s'.sz tn sc l) i) ∧ p.length = s'.sz ∧ Bytes p) → (en = 0 ∧ LyR w w4 gj g h gb { J1 with set := false } s s' (k + 1) m T o ⟨tn, sc, l⟩) ∨ (en = 82 ∧ LayPost w gj g h J s m T o sc l (.returned (.int .i64 82)) w4)) := by
          intro w4 s' en wd j4 o4 r4
          have sn := P.out.sn
          have n4 := wd.n
          have hc : k = 0 ∨ k = 1 := by omega
          have st := P.out.st
          rcases wd.how with ⟨rfl, d4, r4', l4⟩ | ⟨rfl, l4, d4, r4'⟩
          · left
            refine ⟨rfl, j4, d4, r4, o4, P.out.gb0, P.out.lts, by rw [wd.sz]; exact P.out.sz, by omega, fun z => l4 (P.out.lft z), P.out.kp.trans (wd.kp (by show tn ≠ 0; rw [HTN.out]; omega)), ?_⟩
            rcases hc with rfl | rfl
            · exact Sd.mid st wd.but r4' (by show tn = J1.turn + 1; rw [HTN.out, HTU.out]) HL.out
            · have e : tn = J1.turn + 1 := by rw [HTN.out, HTU.out]
              have hb := Mid.both (sc := sc) (l := l) (turn := J1.turn) (by rw [← e]; exact st) wd.but (by rw [← e]; exact r4') (by rw [TO2.out]; omega)
              rw [← e] at hb
              exact ⟨hb.1, hb.2, r4'⟩
          · right
            refine ⟨rfl, s', _, 82, rfl, j4, o4, SO.out.jn, by rw [wd.sz]; exact P.out.sz, by omega, fun q => absurd q (by decide), Or.inr ⟨rfl, d4, fun z => by have := P.out.lft z; omega, ?_⟩⟩
            have e : tn = J1.turn + 1 := by rw [HTN.out, HTU.out]
            rcases hc with rfl | rfl
            · rcases r4' with r4' | r4' | r4'
              · exact Or.inl ((Sd.tore st wd.but (Or.inl r4')).rise (by omega))
              · exact Or.inl ((Sd.tore st wd.but (Or.inr r4')).rise (by omega))
              · right
                have md := Sd.mid st wd.but r4' (by show tn = J1.turn + 1; rw [HTN.out, HTU.out]) HL.out
                rw [e] at md
                exact md.ivr (by rw [TO2.out]; omega)
            · right
              have st' : Mid sk m T (2 * (1 - J1.slot)) J1.turn ⟨J1.turn + 1, sc, l⟩ := by rw [← e]; exact st
              rcases r4' with r4' | r4' | r4'
              · exact (st'.nxt wd.but (Or.inl r4')).ivr (by rw [TO2.out]; omega)
              · exact (st'.nxt wd.but (Or.inr r4')).ivr (by rw [TO2.out]; omega)
              · have hb := Mid.both st' wd.but (by rw [← e]; exact r4') (by rw [TO2.out]; omega)
                exact ⟨_, hb.1⟩
        have hkk : (k : Int) < 2 := by omega
        clear hkc P
        go_wp2_with fail
        refine (WRC.out _ ?_).mono ?_
        · have := TO2.out
          omega
        rintro e w4 ⟨s', en, rfl, wd, j4, o4, r4⟩
        have NX := NXT.out w4 s' en wd j4 o4 r4
        clear WRC NXT wd j4 o4 r4
        rcases NX with ⟨rfl, n4⟩ | ⟨rfl, n4⟩
        · have N4 := hid_as n4
          clear n4
          go_wp2
          go_roundw
          case rel => exact ⟨k + 1, by omega, by go_num, _, N4.out⟩
          case measure => simp [intOf]; omega
        · have N4 := hid_as n4
          clear n4
          go_wp2
          go_ret
          exact N4.out
      · obtain rfl : k = 2 := by omega
        have c2 := P.out.jr.jn.c2
        have c3 := P.out.jr.jn.c3
        have c5 := P.out.jr.jn.c5
        have k4 : wr.cell? ⟨gj, 4, none⟩ = some (.int .u64 (tu : Int)) := by rw [HTU.out]; exact P.out.jr.jn.c4
        have fz := P.out.jr.jn.free
        have EN := hid_as (P.out.jr.ends tz tn sc)
        have htw2 : IntKind.u64.wrap ((tu : Int) + 1) = (tn : Int) := by rw [IntKind.wrap_u64]; omega
        have SN := hid_as P.out.sn
        have ST := hid_as P.out.st
        go_upto_region 17 with fail
        generalize hY : (((wr.setCell ⟨gj, 2, none⟩ (.bool true)).setCell ⟨gj, 3, none⟩ (.int .i64 (tz : Int))).setCell ⟨gj, 4, none⟩ (.int .u64 (tn : Int))).setCell ⟨gj, 5, none⟩ (.int .u64 (sc : Int)) = Y at EN ⊢
        have CN := hid_as (EN.out.1.cnt1 (J1.laid + 1))
        have hj1 : J1.laid = J.laid := SO.out.laid
        have AD := hid_as (add64_c ⟨gj, 6, none⟩ J1.laid Y EN.out.1.jn.c6 (EN.out.1.jn.free 6) (by omega))
        have F : Hid (LayPost w gj g h J s m T o sc l (.returned (.int .i64 0)) (Y.setCell ⟨gj, 6, none⟩ (.int .u64 ((J1.laid + 1 : Nat) : Int)))) := by
          refine ⟨sk, _, 0, rfl, CN.out.1, (P.out.only.trans (Only.ofTurn EN.out.2 (by simp))).trans (Only.ofTurn CN.out.2 (by simp)), SO.out.jn, P.out.sz, by have := SN.out; omega, fun _ => P.out.kp, Or.inl ⟨rfl, P.out.dead, by show J1.laid + 1 = J.laid + 1; omega, rfl, ⟨ST.out.1, hto2, ?_, ?_⟩, P.out.lft⟩⟩
          · have := ST.out.2.1
            rw [TO2.out] at this
            exact this
          · have := ST.out.2.2
            rw [TO2.out] at this
            exact this
        clear hY EN CN ST P c2 c3 c5 k4 fz hj1
        generalize J1.laid + 1 = ln at AD F
        go_wp2_with fail
        refine AD.out.mono ?_
        rintro e w5 ⟨rfl, hw⟩
        subst w5
        clear AD
        go_wp2
        go_ret
        exact F.out
  · have F : Hid (LayPost w gj g h J s m T o sc l (.returned (.int .i64 82)) w1) := ⟨s1, J1, 82, rfl, SO.out.jr, SO.out.only, SO.out.jn, SO.out.sz, by have := SO.out.sn; omega, fun q => absurd q (by decide), Or.inr ⟨rfl, hd1, by omega, Or.inl (inv1.rise (by omega))⟩⟩
    clear inv1 lf1 hd1
    go_wp2
    go_ret
    exact F.out
end Go.Proofs.Ytoiadofoclgnoaa
