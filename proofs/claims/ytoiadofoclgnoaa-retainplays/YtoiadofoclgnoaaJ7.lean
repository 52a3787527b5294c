/- The walk of Open (stage 9). -/
import Derived.Test.YtoiadofoclgnoaaJ6
namespace Go.Proofs.Ytoiadofoclgnoaa
open Go.RowKit
open Pdu
set_option maxHeartbeats 800000 in
theorem open_no {w : World} {g h : Nat} {s : SS} (t : St w g h s) (hd : s.dead = false) (n : Int) (hn : n < 0 ∨ (s.room : Int) < n ∨ s.fit = false) :
    Calls Try.prog 13 #[.pointer (some ⟨g, 0, none⟩), .int .i64 n] w fun e w' => e = .returned (.tuple #[.pointer none, .slice none 0 0, .int .i64 0, .int .i64 90]) ∧ Same w w' := by
  have D := hid_as (dead_c t)
  rw [hd] at D
  have R := hid_as (room_c t)
  have H := hid_as (fun W (k : Same w W) => holds_c (t.same k))
  have HF : Hid (s.fit = decide (4 ≤ s.rows.length ∧ 64 ≤ s.sz)) := rfl
  rw [← HF.out] at H
  clear t hd
  by_cases h0 : n < 0
  · have d0 : decide (n < 0) = true := decide_eq_true h0
    go_enter Try.func13, Try.ntmps13
    go_wp2_with fail
    refine D.out.mono ?_
    rintro e w1 ⟨rfl, hw⟩
    subst w1
    clear D
    go_wp2
    exact bodyPost_ret (v := .tuple #[.pointer none, .slice none 0 0, .int .i64 0, .int .i64 90]) (by simp [results, Try.results13, go_sem]) rfl ⟨rfl, Same.refl _⟩
  · have d0 : decide (n < 0) = false := decide_eq_false h0
    by_cases h1 : (s.room : Int) < n
    · have d1 : decide ((s.room : Int) < n) = true := decide_eq_true h1
      go_enter Try.func13, Try.ntmps13
      go_wp2_with fail
      refine D.out.mono ?_
      rintro e w1 ⟨rfl, hw⟩
      subst w1
      clear D
      go_wp2_with fail
      refine R.out.mono ?_
      rintro e w1 ⟨rfl, k1⟩
      have K1 := hid_as k1
      clear R k1
      go_wp2
      exact bodyPost_ret (v := .tuple #[.pointer none, .slice none 0 0, .int .i64 0, .int .i64 90]) (by simp [results, Try.results13, go_sem]) rfl ⟨rfl, K1.out⟩
    · have d1 : decide ((s.room : Int) < n) = false := decide_eq_false h1
      have hf : s.fit = false := by
        rcases hn with hn | hn | hn
        · exact absurd hn h0
        · exact absurd hn h1
        · exact hn
      rw [hf] at H
      go_enter Try.func13, Try.ntmps13
      go_wp2_with fail
      refine D.out.mono ?_
      rintro e w1 ⟨rfl, hw⟩
      subst w1
      clear D
      go_wp2_with fail
      refine R.out.mono ?_
      rintro e w1 ⟨rfl, k1⟩
      have K1 := hid_as k1
      clear R k1
      go_wp2_with fail
      refine (H.out _ K1.out).mono ?_
      rintro e w2 ⟨rfl, k2⟩
      have K2 := hid_as (K1.out.trans k2)
      clear k2 H
      go_wp2
      exact bodyPost_ret (v := .tuple #[.pointer none, .slice none 0 0, .int .i64 0, .int .i64 90]) (by simp [results, Try.results13, go_sem]) rfl ⟨rfl, K2.out⟩
/-- What Open tells of what it found. -/
def Fnd (s : SS) (n : Nat) (W : World) (base : Nat) (v : Value) (f : Int) : Prop := (f = 1 ∧ ∃ j, j < 4 ∧ okr (Rs s) n j ∧ (∀ i, i < 4 → okr (Rs s) n i → (Rs s i).t ≤ (Rs s j).t) ∧ W.ownsRow base 2 1 v (Rs s j).l.length (i64s (Rs s j).l)) ∨ (v = .slice none 0 0 ∧ (∀ i, i < 4 → ¬ okr (Rs s) n i) ∧ ((f = 2 ∧ (Bg s = true ∨ ∃ i, i < 4 ∧ (Rs s i).t ≠ 0)) ∨ (f = 0 ∧ ¬ (Bg s = true ∨ ∃ i, i < 4 ∧ (Rs s i).t ≠ 0))))
structure OpnOut (w w' : World) (gj g h : Nat) (J : JS) (s : SS) (n : Nat) (v : Value) (f : Int) : Prop where
  jr : Jr w' gj g h J s
  jn : J.n = n
  set : J.set = false
  laid : J.laid = 0
  k : Below w.heap.size w w'
  gj0 : w.heap.size ≤ gj
  fnd : Fnd s n w' w.heap.size v f
def OpnPost (w : World) (g h : Nat) (s : SS) (n : Nat) (e : Ending) (w' : World) : Prop := ∃ (gj : Nat) (J : JS) (v : Value) (f : Int), e = .returned (.tuple #[.pointer (some ⟨gj, 0, none⟩), v, .int .i64 f, .int .i64 0]) ∧ OpnOut w w' gj g h J s n v f
set_option maxHeartbeats 1600000 in
theorem open_c {w : World} {g h n : Nat} {s : SS} (t : St w g h s) (hd : s.dead = false) (hf : s.fit = true) (hn : n ≤ s.room) :
    Calls Try.prog 13 #[.pointer (some ⟨g, 0, none⟩), .int .i64 (n : Int)] w fun e w' => OpnPost w g h s n e w' := by
  have D := hid_as (dead_c t)
  rw [hd] at D
  have R := hid_as (room_c t)
  have H := hid_as (fun W (k : Same w W) => holds_c (t.same k))
  have HF : Hid (s.fit = decide (4 ≤ s.rows.length ∧ 64 ≤ s.sz)) := rfl
  rw [← HF.out, hf] at H
  have h0 : ¬ (n : Int) < 0 := by omega
  have d0 : decide ((n : Int) < 0) = false := decide_eq_false h0
  have h1 : ¬ (s.room : Int) < (n : Int) := by omega
  have d1 : decide ((s.room : Int) < (n : Int)) = false := decide_eq_false h1
  have hn2 : n ≤ 1000 := by
    have := t.ok.hi
    unfold SS.room at hn
    rw [if_pos hf] at hn
    omega
  have T := hid_as t
  have HD := hid_as hd
  have HFF := hid_as hf
  clear t hd hf HF
  go_enter Try.func13, Try.ntmps13
  go_wp2_with fail
  refine D.out.mono ?_
  rintro e w1 ⟨rfl, hw⟩
  subst w1
  clear D
  go_wp2_with fail
  refine R.out.mono ?_
  rintro e w1 ⟨rfl, k1⟩
  have K1 := hid_as k1
  clear R k1
  go_wp2_with fail
  refine (H.out _ K1.out).mono ?_
  rintro e w2 ⟨rfl, k2⟩
  have K2 := hid_as (K1.out.trans k2)
  clear k2 H K1
  go_upto_region 6 with fail
  obtain ⟨X0, hX0⟩ : ∃ X0, X0 = w2.alloc (.cells #[.pointer (some ⟨g, 0, none⟩), .int .i64 (n : Int), .bool false, .int .i64 0, .int .u64 0, .int .u64 0, .int .u64 0] 59) := ⟨_, rfl⟩
  have k2 : Below w2.heap.size w2 X0 := by rw [hX0]; exact below_new (Below.refl _ _) _
  have hgs : w2.heap.size = w.heap.size := by rw [K2.out.heap]
  have kX0 := hid_as (below_and K2.out.below k2)
  have zX0 : Hid (X0.heap.size = w.heap.size + 1) := by rw [hX0, World.size_alloc, hgs]; exact rfl
  have q0 : Jr X0 w2.heap.size g h ⟨n, false, 0, 0, 0, 0⟩ s := by
    refine ⟨T.out.below kX0.out, ⟨by rw [hX0, heap_alloc_new]; rfl⟩, ?_, ?_, HFF.out⟩
    · have := T.out.lt; omega
    · have := T.out.lth; omega
  rw [← hX0]
  have GJ : Hid (w.heap.size ≤ w2.heap.size) := by rw [hgs]; exact Nat.le_refl _
  have LK := hid_as (look_c q0 HD.out)
  clear hX0 k2 hgs q0 K2 T
  generalize w2.heap.size = gj at *
  go_wp2_with fail
  refine LK.out.mono ?_
  rintro e w3 ⟨V, sc, rfl, ov, _, q3, o3⟩
  obtain ⟨p0, q0', h0'⟩ : ∃ ao c, V 0 = .slice ao (Rs s 0).l.length c := by have := (own_sl (ov 0 (by decide))).shape; rw [i64s_len] at this; exact this
  obtain ⟨p1, q1', h1'⟩ : ∃ ao c, V 1 = .slice ao (Rs s 1).l.length c := by have := (own_sl (ov 1 (by decide))).shape; rw [i64s_len] at this; exact this
  obtain ⟨p2, q2', h2'⟩ : ∃ ao c, V 2 = .slice ao (Rs s 2).l.length c := by have := (own_sl (ov 2 (by decide))).shape; rw [i64s_len] at this; exact this
  obtain ⟨p3, q3', h3'⟩ : ∃ ao c, V 3 = .slice ao (Rs s 3).l.length c := by have := (own_sl (ov 3 (by decide))).shape; rw [i64s_len] at this; exact this
  obtain ⟨X, hX⟩ : ∃ X, X = w3.alloc (.cells (vwc (Rs s) V (Bg s)).toArray 64) := ⟨_, rfl⟩
  have VX : Hid (Vw X w3.heap.size X0.heap.size (Rs s) V (Bg s)) := by rw [hX]; exact view_new ov
  have KX : Below w3.heap.size w3 X := by rw [hX]; exact below_new (Below.refl _ _) _
  have Q1 := hid_as (q3.below KX)
  have O1 : Hid (Below w.heap.size w X) := (kX0.out.trans (o3.below (B := w.heap.size) (by intro j hj; simp only [List.mem_cons, List.not_mem_nil, or_false] at hj; rw [hj]; exact GJ.out) (by rw [zX0.out]; omega))).trans (KX.mono (by have := o3.size; rw [zX0.out] at this; omega))
  have VV : vwc (Rs s) V (Bg s) = vwc (Rs s) V (Bg s) := rfl
  conv at VV => rhs; unfold vwc; rw [h0', h1', h2', h3']
  rw [VV] at hX
  rw [VV]
  clear LK q3 o3 VV ov KX
  go_upto_region 7 with fail
  rw [← hX]
  clear hX h0' h1' h2' h3'
  generalize w3.heap.size = gv at *
  have N1 := hid_as (newest_c VX.out n (by omega) (by omega))
  go_wp2_with fail
  refine N1.out.mono ?_
  rintro e w4 ⟨⟨a, rfl, hnw⟩, k4⟩
  have V4 := hid_as (VX.out.below k4)
  have Q4 := hid_as (Q1.out.below k4)
  have O4 : Hid (Below w.heap.size w w4) := O1.out.trans (k4.mono O1.out.size)
  clear k4 N1 Q1 O1 VX
  have OUT : Hid (∀ (W : World) (v : Value) (f : Int), Below w4.heap.size w4 W → Fnd s n W w.heap.size v f → OpnPost w g h s n (.returned (.tuple #[.pointer (some ⟨gj, 0, none⟩), v, .int .i64 f, .int .i64 0])) W) := fun W v f k fn => ⟨gj, _, v, f, rfl, Q4.out.below k, rfl, rfl, rfl, O4.out.trans (k.mono O4.out.size), GJ.out, fn⟩
  rcases hnw with ⟨rfl, hno⟩ | ⟨j, hj, rfl, hok, hmax⟩
  · have LV := hid_as (laidv_c V4.out)
    have HNO := hid_as hno
    clear hno
    go_wp2_with fail
    refine LV.out.mono ?_
    rintro e w5 ⟨⟨b, rfl, hb⟩, k5⟩
    cases b with
    | true =>
      have F := hid_as (OUT.out w5 (.slice none 0 0) 2 k5 (Or.inr ⟨rfl, HNO.out, Or.inl ⟨rfl, hb.1 rfl⟩⟩))
      clear hb k5 LV OUT
      go_wp2
      exact bodyPost_ret (v := .tuple #[.pointer (some ⟨gj, 0, none⟩), .slice none 0 0, .int .i64 2, .int .i64 0]) (by simp [results, Try.results13, go_sem]) rfl F.out
    | false =>
      have F := hid_as (OUT.out w5 (.slice none 0 0) 0 k5 (Or.inr ⟨rfl, HNO.out, Or.inr ⟨rfl, fun z => by have := hb.2 z; cases this⟩⟩))
      clear hb k5 LV OUT
      go_wp2
      exact bodyPost_ret (v := .tuple #[.pointer (some ⟨gj, 0, none⟩), .slice none 0 0, .int .i64 0, .int .i64 0]) (by simp [results, Try.results13, go_sem]) rfl F.out
  · have cj := (V4.out.cells hj).2.2
    obtain ⟨ao, cc, hV⟩ := V4.out.shape hj
    have own := V4.out.own j hj
    rw [hV] at cj own
    have F : Hid (∀ W, Same w4 W → OpnPost w g h s n (.returned (.tuple #[.pointer (some ⟨gj, 0, none⟩), .slice ao (Rs s j).l.length cc, .int .i64 1, .int .i64 0])) W) := fun W k => OUT.out W _ 1 k.below (Or.inl ⟨rfl, j, hj, hok, hmax, own_base (own64_below own k.below) (by rw [zX0.out]; omega)⟩)
    have hj2 : (j : Int) < 4 := by omega
    have hj0 : ¬ (j : Int) < 0 := by omega
    have hj3 : (0 : Int) ≤ (j : Int) := by omega
    clear own hok hmax OUT
    go_upto_region 11 with fail
    go_quiet (fail)
    go_wp2
    exact bodyPost_ret (v := .tuple #[.pointer (some ⟨gj, 0, none⟩), .slice ao (Rs s j).l.length cc, .int .i64 1, .int .i64 0]) (by simp [results, Try.results13, go_sem]) rfl (F.out _ (Same.drewN _ _))
/-- What Open tells where it is known what was laid last. -/
def Told9 (o : Last) (W : World) (base : Nat) (v : Value) (f : Int) : Prop := match o with
  | none => f = 0 ∧ v = .slice none 0 0
  | some x => f = 1 ∧ W.ownsRow base 2 1 v x.2.length (i64s x.2)
theorem Ivr.told {s : SS} {n T : Nat} {o : Last} (hi : Ivr s n T o) {W : World} {base : Nat} {v : Value} {f : Int} (h : Fnd s n W base v f) : Told9 o W base v f := by
  cases o with
  | none =>
    rcases h with ⟨_, j, hj, hok, _⟩ | ⟨rfl, _, ⟨_, hb⟩ | ⟨rfl, _⟩⟩
    · exact absurd (hi.1 j hj) hok.1
    · rcases hb with hb | ⟨i, h1, h2⟩
      · rw [hi.2] at hb; cases hb
      · exact absurd (hi.1 i h1) h2
    · exact ⟨rfl, rfl⟩
  | some x =>
    obtain ⟨t, hs⟩ := hi
    obtain ⟨i, h1, h2⟩ := hs.is
    have ho : okr (Rs s) n i := ⟨by rw [h2]; exact hs.t0, Or.inr (by rw [h2, hs.len])⟩
    rcases h with ⟨rfl, j, hj, hok, hmax, own⟩ | ⟨_, hno, _⟩
    · have e : Rs s j = ⟨t, x.1, x.2⟩ := hs.uniq j hj (by have := hmax i h1 ho; rw [h2] at this; have := hs.top j hj; omega)
      rw [e] at own
      exact ⟨rfl, own⟩
    · exact absurd ho (hno i h1)
end Go.Proofs.Ytoiadofoclgnoaa
