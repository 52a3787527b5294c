/- The law's digits; trees in memory opened; two trees compared (stage 13). -/
import Derived.Test.YtgdoanhemgklpaaGreatDoorVT
import Derived.Test.YtgdoanhemgklpaaGreatDoorD1
namespace Go.Proofs.YtgdoanhemgklpaaGreatDoor
open Go.RowKit
open Adr Lx Sx
set_option maxHeartbeats 1000000 in
theorem digitz_lo (n : Nat) (h : n < 10) (w : World) : Calls Tryz.prog 20 #[.int .u64 n] w fun e w' => e = .returned (.string (tx (dgs 10 n))) ∧ w' = w := by
  have h' : (n : Int) < 10 := by omega
  have e := hid_as ((ten_fin ⟨n, h⟩).trans (congrArg tx (dgs_lo h).symm))
  have c1 : (0 : Int) ≤ n := by omega
  have c2 : (n : Int) + 1 ≤ 10 := by omega
  have c3 : (n : Int) ≤ (n : Int) + 1 := by omega
  have c4 : ((n : Int) + 1).toNat = n + 1 := by omega
  go_enter Tryz.func20, Tryz.ntmps20
  go_wp2
  go_ret
  exact ⟨ret_strs e.out, rfl⟩
set_option maxHeartbeats 1000000 in
theorem digitz_c : ∀ (n : Nat), n < 9223372036854775808 → ∀ (w : World), Calls Tryz.prog 20 #[.int .u64 n] w fun e w' => e = .returned (.string (tx (dgs 10 n))) ∧ w' = w := by
  intro n
  induction n using Nat.strongRecOn with
  | _ n ih =>
    intro hn w
    by_cases h : n < 10
    · exact digitz_lo n h w
    · have h' : ¬ (n : Int) < 10 := by omega
      have A : Hid (∀ W, Calls Tryz.prog 20 #[.int .u64 ((n : Int) / 10)] W fun e w' => e = .returned (.string (tx (dgs 10 (n / 10)))) ∧ w' = W) := fun W => ih (n / 10) (Nat.div_lt_self (by omega) (by omega)) (by omega) W
      have B : Hid (∀ W, Calls Tryz.prog 20 #[.int .u64 ((n : Int) % 10)] W fun e w' => e = .returned (.string (tx [sg (n % 10)])) ∧ w' = W) := fun W => by
        have q := digitz_lo (n % 10) (Nat.mod_lt _ (by omega)) W
        rw [dgs_lo (Nat.mod_lt _ (by omega))] at q
        exact q
      have e := hid_as ((tx_app (dgs 10 (n / 10)) [sg (n % 10)]).trans (congrArg tx (dgs_hi h (by omega)).symm))
      have hl := (dgs_len (b := 10) (by omega) 63 (n / 10) (Nat.lt_of_le_of_lt (Nat.div_le_self _ _) (Nat.lt_of_lt_of_le hn (by decide)))).1
      have hs1 : (tx (dgs 10 (n / 10))).size ≤ 64 := by rw [tx_size]; exact hl
      have hs2 : (tx [sg (n % 10)]).size = 1 := rfl
      have hs3 : ¬ 9223372036854775807 < (tx (dgs 10 (n / 10))).size + (tx [sg (n % 10)]).size := by omega
      clear hl hs1 hs2
      go_enter Tryz.func20, Tryz.ntmps20
      go_wp2_with (go_at_call 20; (first | (with_reducible refine (A.out _).mono ?_) | (with_reducible refine (B.out _).mono ?_)); rintro e w' ⟨rfl, hw⟩; subst w')
      go_ret
      exact ⟨ret_strs e.out, rfl⟩
/-- A node's operands in memory. -/
def SlE (S : Nat → Prop) (d : Nat) (w : World) (lp : Option Addr) (ln lc n : Nat) (t : Tr) : Prop := (n = 0 ∧ lp = none ∧ ln = 0 ∧ lc = 0) ∨ ∃ g, lp = some ⟨g, 0, none⟩ ∧ ln = n ∧ 0 < n ∧ n ≤ lc ∧ S g ∧ g < w.heap.size ∧
  ∀ j, j < n → ∃ (o k n : Int) (nm fl : ByteArray) (lp : Option Addr) (ln lc : Nat) (p : Int), RowE w g j o k n nm fl (.slice lp ln lc) p ∧ EA S d w (.agg #[.int .i64 o, .int .i64 k, .int .i64 n, .string nm, .string fl, .slice lp ln lc, .int .i64 p]) (fun q => t (j :: q))
theorem EA.slice {S : Nat → Prop} {d : Nat} {w : World} {o k n : Int} {nm fl : ByteArray} {L : Value} {p : Int} {t : Tr} (h : EA S d w (ev o k n nm fl L p) t) : ∃ lp ln lc, L = .slice lp ln lc := by
  cases d with
  | zero => exact h.elim
  | succ d =>
    obtain ⟨nd, M, _, hv, hL⟩ := h
    unfold ev at hv
    simp only [Value.agg.injEq, Array.mk.injEq, List.cons.injEq] at hv
    obtain ⟨_, _, _, _, _, rfl, _⟩ := hv
    rcases hL with ⟨_, rfl⟩ | ⟨g, cap, rfl, _⟩
    · exact ⟨_, _, _, rfl⟩
    · exact ⟨_, _, _, rfl⟩
theorem EA.kids {S : Nat → Prop} {d : Nat} {w : World} {o k n : Int} {nm fl : ByteArray} {lp : Option Addr} {ln lc : Nat} {p : Int} {t : Tr} (h : EA S (d + 1) w (.agg #[.int .i64 o, .int .i64 k, .int .i64 n, .string nm, .string fl, .slice lp ln lc, .int .i64 p]) t) : ∃ nd, t [] = some nd ∧ o = nd.op ∧ k = nd.kind ∧ n = nd.n ∧ nm = tx nd.name ∧ fl = tx nd.field ∧ p = nd.pl ∧ SlE S d w lp ln lc nd.ar t := by
  obtain ⟨nd, L, h1, hv, hL⟩ := h
  unfold ev at hv
  simp only [Value.agg.injEq, Array.mk.injEq, List.cons.injEq, Value.int.injEq, Value.string.injEq, true_and, and_true] at hv
  obtain ⟨a1, a2, a3, a4, a5, a6, a7⟩ := hv
  refine ⟨nd, h1, a1, a2, a3, a4, a5, a7, ?_⟩
  rcases hL with ⟨b1, b2⟩ | ⟨g, cap, b1, b2, b3, b4, b5, b6⟩
  · rw [b2] at a6
    cases a6
    exact Or.inl ⟨b1, rfl, rfl, rfl⟩
  · rw [b1] at a6
    cases a6
    refine Or.inr ⟨g, rfl, rfl, b2, b3, b4, b5, fun j hj => ?_⟩
    obtain ⟨o, k, n, nm, fl, M, p, x, y⟩ := b6 j hj
    obtain ⟨lp, ln, lc, rfl⟩ := y.slice
    exact ⟨o, k, n, nm, fl, lp, ln, lc, p, x, y⟩
theorem EA.below {S : Nat → Prop} {d : Nat} {w w' : World} {v : Value} {t : Tr} (h : EA S d w v t) (k : Below w.heap.size w w') : EA S d w' v t := h.keep k.size (fun x _ hl => k.block x hl)
theorem RowE.below {w w' : World} {g j : Nat} {o k n : Int} {nm fl : ByteArray} {L : Value} {p : Int} (h : RowE w g j o k n nm fl L p) (hg : g < w.heap.size) (k' : Below w.heap.size w w') : RowE w' g j o k n nm fl L p := h.keep (k'.block g hg)
/-- No node has too many operands. -/
def Sz (t : Tr) : Prop := ∀ q nd, t q = some nd → nd.ar ≤ 100000
set_option maxHeartbeats 4000000 in
set_option maxRecDepth 100000 in
theorem exprs_nil (w : World) : Calls Tryz.prog 21 #[.slice none 0 0, .slice none 0 0] w fun e w' => e = .returned (.bool true) ∧ Below w.heap.size w w' := by
  go_enter Tryz.func21, Tryz.ntmps21
  go_wp2
  go_loopw [5] (fun i wr => i = .int .i64 0 ∧ wr = w) (fun _ _ => 0)
  case atStart => exact ⟨rfl, rfl⟩
  case round =>
    obtain ⟨rfl, rfl⟩ := hrel
    go_wp2
    go_ret
    exact ⟨rfl, Below.refl _ _⟩
set_option maxHeartbeats 4000000 in
set_option maxRecDepth 100000 in
theorem exprs_rows {S S' : Nat → Prop} {d d' : Nat} (X : Hid (∀ (W : World) (o k n : Int) (nm fl : ByteArray) (lp : Option Addr) (ln lc : Nat) (p : Int) (o1 k1 n1 : Int) (nm1 fl1 : ByteArray) (lp1 : Option Addr) (ln1 lc1 : Nat) (p1 : Int) (u : Tr), Sz u → EA S d W (.agg #[.int .i64 o, .int .i64 k, .int .i64 n, .string nm, .string fl, .slice lp ln lc, .int .i64 p]) u → EA S' d' W (.agg #[.int .i64 o1, .int .i64 k1, .int .i64 n1, .string nm1, .string fl1, .slice lp1 ln1 lc1, .int .i64 p1]) u → Calls Tryz.prog 10 #[.agg #[.int .i64 o, .int .i64 k, .int .i64 n, .string nm, .string fl, .slice lp ln lc, .int .i64 p], .agg #[.int .i64 o1, .int .i64 k1, .int .i64 n1, .string nm1, .string fl1, .slice lp1 ln1 lc1, .int .i64 p1]] W fun e w' => e = .returned (.bool true) ∧ Below W.heap.size W w')) (w : World) (g g' cn cap cap' : Nat) (u : Tr) (hz : Sz u) (hn : cn ≤ 1000000) (hg : g < w.heap.size) (hg' : g' < w.heap.size)
    (R : Hid (∀ j, j < cn → ∃ (o k n : Int) (nm fl : ByteArray) (lp : Option Addr) (ln lc : Nat) (p : Int), RowE w g j o k n nm fl (.slice lp ln lc) p ∧ EA S d w (.agg #[.int .i64 o, .int .i64 k, .int .i64 n, .string nm, .string fl, .slice lp ln lc, .int .i64 p]) (fun q => u (j :: q))))
    (R' : Hid (∀ j, j < cn → ∃ (o1 k1 n1 : Int) (nm1 fl1 : ByteArray) (lp1 : Option Addr) (ln1 lc1 : Nat) (p1 : Int), RowE w g' j o1 k1 n1 nm1 fl1 (.slice lp1 ln1 lc1) p1 ∧ EA S' d' w (.agg #[.int .i64 o1, .int .i64 k1, .int .i64 n1, .string nm1, .string fl1, .slice lp1 ln1 lc1, .int .i64 p1]) (fun q => u (j :: q)))) :
    Calls Tryz.prog 21 #[.slice (some ⟨g, 0, none⟩) cn cap, .slice (some ⟨g', 0, none⟩) cn cap'] w fun e w' => e = .returned (.bool true) ∧ Below w.heap.size w w' := by
  go_enter Tryz.func21, Tryz.ntmps21
  go_wp2
  go_loopw [5] (fun i wr => ∃ m : Nat, m ≤ cn ∧ i = .int .i64 m ∧ Hid (Below w.heap.size w wr)) (fun i _ => cn - (intOf i).toNat)
  case atStart => exact ⟨0, by omega, rfl, hid_as (Below.refl _ _)⟩
  case round =>
    obtain ⟨m, hm, rfl, hK⟩ := hrel
    by_cases hlt : m < cn
    · have hlt' : (m : Int) < cn := by omega
      obtain ⟨o, k, n, nm, fl, lp, ln, lc, p, r, ea⟩ := R.out m hlt
      obtain ⟨o1, k1, n1, nm1, fl1, lp1, ln1, lc1, p1, r1, ea1⟩ := R'.out m hlt
      have z := hK.out.size
      have C : Hid (∀ W, Below w.heap.size w W → Calls Tryz.prog 10 #[.agg #[.int .i64 o, .int .i64 k, .int .i64 n, .string nm, .string fl, .slice lp ln lc, .int .i64 p], .agg #[.int .i64 o1, .int .i64 k1, .int .i64 n1, .string nm1, .string fl1, .slice lp1 ln1 lc1, .int .i64 p1]] W fun e w' => e = .returned (.bool true) ∧ Below W.heap.size W w') := fun W hW => X.out W _ _ _ _ _ _ _ _ _ _ _ _ _ _ _ _ _ _ _ (fun q nd hq => hz (m :: q) nd hq) (ea.below hW) (ea1.below hW)
      obtain ⟨a0, a1, a2, a3, a4, a5, a6⟩ := r.below hg hK.out
      obtain ⟨b0, b1, b2, b3, b4, b5, b6⟩ := r1.below hg' hK.out
      clear ea ea1 r r1
      go_wp2
      go_region_with (first
        | (go_at_call 10; (with_reducible refine (C.out _ ?_).mono ?_); (first | exact hK.out.drew | exact below_drewN hK.out _ | exact hK.out); rintro e w1 ⟨rfl, k1⟩; have K1 := hid_as (Below.trans (below_drewN hK.out 1) (k1.mono (by exact z))); clear k1))
      all_goals go_wp2
      all_goals go_roundw
      all_goals first | exact ⟨m + 1, by omega, rfl, K1⟩ | (show cn - ((m : Int) + 1).toNat < cn - (m : Int).toNat; omega)
    · have hlt' : ¬ (m : Int) < cn := by omega
      go_wp2
      go_ret
      exact ⟨rfl, hK.out⟩
set_option maxHeartbeats 4000000 in
set_option maxRecDepth 100000 in
theorem expr_eq : ∀ (d d' : Nat) (S S' : Nat → Prop), ∀ (W : World) (o k n : Int) (nm fl : ByteArray) (lp : Option Addr) (ln lc : Nat) (p : Int) (o1 k1 n1 : Int) (nm1 fl1 : ByteArray) (lp1 : Option Addr) (ln1 lc1 : Nat) (p1 : Int) (u : Tr), Sz u → EA S d W (.agg #[.int .i64 o, .int .i64 k, .int .i64 n, .string nm, .string fl, .slice lp ln lc, .int .i64 p]) u → EA S' d' W (.agg #[.int .i64 o1, .int .i64 k1, .int .i64 n1, .string nm1, .string fl1, .slice lp1 ln1 lc1, .int .i64 p1]) u → Calls Tryz.prog 10 #[.agg #[.int .i64 o, .int .i64 k, .int .i64 n, .string nm, .string fl, .slice lp ln lc, .int .i64 p], .agg #[.int .i64 o1, .int .i64 k1, .int .i64 n1, .string nm1, .string fl1, .slice lp1 ln1 lc1, .int .i64 p1]] W fun e w' => e = .returned (.bool true) ∧ Below W.heap.size W w'
  | 0, _, _, _, _, _, _, _, _, _, _, _, _, _, _, _, _, _, _, _, _, _, _, _, _, h, _ => h.elim
  | _ + 1, 0, _, _, _, _, _, _, _, _, _, _, _, _, _, _, _, _, _, _, _, _, _, _, _, _, h => h.elim
  | d + 1, d' + 1, S, S', w, o, k, n, nm, fl, lp, ln, lc, p, o1, k1, n1, nm1, fl1, lp1, ln1, lc1, p1, u, hsz, ea, ea' => by
    obtain ⟨nd, e0, rfl, rfl, rfl, rfl, rfl, rfl, hs⟩ := ea.kids
    obtain ⟨nd', e0', rfl, rfl, rfl, rfl, rfl, rfl, hs'⟩ := ea'.kids
    obtain rfl : nd = nd' := Option.some.inj (e0.symm.trans e0')
    have X := hid_as (expr_eq d d' S S')
    have C : Hid (∀ W, Below w.heap.size w W → Calls Tryz.prog 21 #[.slice lp ln lc, .slice lp1 ln1 lc1] W fun e w' => e = .returned (.bool true) ∧ Below W.heap.size W w') := fun W hW => by
      rcases hs with ⟨q1, rfl, rfl, rfl⟩ | ⟨g, rfl, rfl, q1, q2, q3, q4, q5⟩
      · rcases hs' with ⟨_, rfl, rfl, rfl⟩ | ⟨g', _, _, q6, _⟩
        · exact exprs_nil W
        · omega
      · rcases hs' with ⟨q6, _⟩ | ⟨g', rfl, rfl, _, _, _, q6, q7⟩
        · omega
        · have hz := hW.size
          refine exprs_rows X W g g' nd.ar _ _ u hsz (Nat.le_trans (hsz [] nd e0) (by decide)) (by omega) (by omega) (hid_as fun j hj => ?_) (hid_as fun j hj => ?_)
          · obtain ⟨o, k, n, nm, fl, lp, ln, lc, p, r, e⟩ := q5 j hj
            exact ⟨_, _, _, _, _, _, _, _, _, r.below q4 hW, e.below hW⟩
          · obtain ⟨o, k, n, nm, fl, lp, ln, lc, p, r, e⟩ := q7 j hj
            exact ⟨_, _, _, _, _, _, _, _, _, r.below q6 hW, e.below hW⟩
    clear ea ea' hs hs' e0 e0' X
    obtain ⟨op, kind, n, name, field, pl, ar⟩ := nd
    generalize tx name = NM
    generalize tx field = FL
    go_enter Tryz.func10, Tryz.ntmps10
    go_wp2_with (first
      | (go_at_call 21; (with_reducible refine (C.out _ ?_).mono ?_); (exact below_and (below_new1 _ _) (below_new1 _ _)); rintro e w1 ⟨rfl, k1⟩))
    go_ret
    exact ⟨rfl, below_and (below_and (below_new1 _ _) (below_new1 _ _)) k1⟩
end Go.Proofs.YtgdoanhemgklpaaGreatDoor
