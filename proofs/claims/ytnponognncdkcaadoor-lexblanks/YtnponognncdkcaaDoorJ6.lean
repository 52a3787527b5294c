/- Two tokens compared (stage 12). · The law's end of a token (stage 12). -/
import Derived.Test.YtnponognncdkcaaDoorJ5
import Derived.Laws.StructEq
import Derived.Test.YtnponognncdkcaaDoorX3
namespace Go.Proofs.YtnponognncdkcaaDoor
open Go.RowKit
open Adr Lx
/-- Is it the same token, but for its place? -/
def tke (x y : Tk) : Bool := ((x.tok : Int) == y.tok) && (((x.kind : Int) == y.kind) && ((x.n == y.n) && ((tx x.text).toList == (tx y.text).toList)))
theorem tke_eq {x y : Tk} (h : tke x y = true) : x = y := by
  unfold tke at h
  simp only [Bool.and_eq_true, beq_iff_eq] at h
  obtain ⟨h1, h2, h3, h4⟩ := h
  rw [tx_toList, tx_toList] at h4
  obtain ⟨a, b, c, d⟩ := x
  obtain ⟨a', b', c', d'⟩ := y
  replace h1 : (a : Int) = a' := h1
  replace h2 : (b : Int) = b' := h2
  replace h3 : c = c' := h3
  replace h4 : d = d' := h4
  obtain rfl : a = a' := by omega
  obtain rfl : b = b' := by omega
  subst h3 h4
  rfl
theorem tke_same (x : Tk) : tke x x = true := by unfold tke; simp
theorem eqTk (x y : Tk) (W : World) : (Op.equalIn 10000 31 (.agg #[.int .i64 x.tok, .int .i64 x.kind, .int .i64 x.n, .string (tx x.text), .int .i64 0]) (.agg #[.int .i64 y.tok, .int .i64 y.kind, .int .i64 y.n, .string (tx y.text), .int .i64 0])).run Tryd.prog W = .ok (tke x y) W := by
  unfold tke
  obtain ⟨a, b, c, d⟩ := x
  obtain ⟨a', b', c', d'⟩ := y
  simp only
  generalize tx d = D
  generalize tx d' = D'
  generalize (a : Int) = A
  generalize (a' : Int) = A'
  generalize (b : Int) = B
  generalize (b' : Int) = B'
  rw [show (10000 : Nat) = 9999 + 1 from rfl, run_equalIn_agg W 9999 31 _ _ (by kernel_rfl) (by kernel_rfl)]
  go_simp
  by_cases h1 : A = A' <;> by_cases h2 : B = B' <;> by_cases h3 : c = c' <;> by_cases h4 : D.toList = D'.toList <;> simp [h1, h2, h3, h4]
open Go.RowKit
open Adr Lx
theorem laid_at {W : World} {g : Nat} {L : List (Tk × Nat)} (h : Laid W g L) {i : Nat} {t : Tk} {a : Nat} (hi : L[i]? = some (t, a)) : W.cell? ⟨g, i * 5, none⟩ = some (.int .i64 t.tok) ∧ W.cell? ⟨g, i * 5 + 1, none⟩ = some (.int .i64 t.kind) ∧ W.cell? ⟨g, i * 5 + 2, none⟩ = some (.int .i64 t.n) ∧ W.cell? ⟨g, i * 5 + 3, none⟩ = some (.string (tx t.text)) ∧ W.cell? ⟨g, i * 5 + 4, none⟩ = some (.int .i64 a) := by
  have q : ∀ (M : List (Tk × Nat)) (i : Nat), M[i]? = some (t, a) → ∀ j, j < 5 → (tcs M)[i * 5 + j]? = [Value.int .i64 t.tok, .int .i64 t.kind, .int .i64 t.n, .string (tx t.text), .int .i64 a][j]? := by
    intro M
    induction M with
    | nil => intro i hi; simp at hi
    | cons p M ih =>
      intro i hi j hj
      have e : tcs (p :: M) = [Value.int .i64 p.1.tok, .int .i64 p.1.kind, .int .i64 p.1.n, .string (tx p.1.text), .int .i64 p.2] ++ tcs M := rfl
      rw [e]
      cases i with
      | zero =>
        have hp : p = (t, a) := by simpa using hi
        rw [List.getElem?_append_left (by show 0 * 5 + j < 5; omega), hp, Nat.zero_mul, Nat.zero_add]
      | succ i =>
        rw [List.getElem?_append_right (by show 5 ≤ (i + 1) * 5 + j; omega)]
        have := ih i (by simpa using hi) j hj
        rw [← this]
        congr 1
        show (i + 1) * 5 + j - 5 = i * 5 + j
        omega
  have q5 := q L i hi
  exact ⟨h _ _ (q5 0 (by omega)), h _ _ (q5 1 (by omega)), h _ _ (q5 2 (by omega)), h _ _ (q5 3 (by omega)), h _ _ (q5 4 (by omega))⟩
set_option maxHeartbeats 2000000 in
set_option maxRecDepth 100000 in
theorem end_c (s : ByteArray) (g i n cap a z b : Nat) (L : List (Tk × Nat)) (t t2 : Tk) (w : World) (hs : s.size ≤ 1500) (hL : Laid w g L) (hg : g < w.heap.size) (h1 : L[i]? = some (t, a)) (h2 : L[i + 1]? = some (t2, b)) (hn : i + 1 < n) (hnL : n ≤ 100000) (hT : Tok s.data.toList a t z) (hb : a + z ≤ b) : Calls Tryd.prog 10 #[.string s, .slice (some ⟨g, 0, none⟩) n cap, .int .i64 i] w fun e w' => ∃ m, 1 ≤ m ∧ m ≤ z ∧ e = .returned (.int .i64 ((a + m : Nat) : Int)) ∧ Pc ((s.data.toList.drop a).take m) t ∧ Below w.heap.size w w' := by
  have hz := hT.z
  rw [← Lib.size_eq] at hz
  have hi1 : (i : Int) < n := by omega
  have hi2 : (i : Int) + 1 < n := by omega
  have hi3 : ((i : Int) + 1).toNat = i + 1 := by omega
  obtain ⟨ta, tb, tc, td⟩ := t
  obtain ⟨c0, c1, c2, c3, c4⟩ := laid_at hL h1
  obtain ⟨_, _, _, _, e4⟩ := laid_at hL h2
  replace hL := hid_as hL
  have F := hid_as (fun F hF => hT.full F hF)
  have C := hid_as (fun m hm => Tok.clean (s := s) hT (m := m) hm)
  have P := hid_as (fun m h1 hm F hF hr => Tok.piece hT (m := m) h1 hm (F := F) hF hr)
  clear hT
  go_enter Tryd.func10, Tryd.ntmps10
  go_wp2
  go_loopw [7] (fun v wr => ∃ m : Nat, 1 ≤ m ∧ m ≤ z ∧ v = .int .i64 ((a : Int) + m) ∧ Hid (Below w.heap.size w wr)) (fun v wr => a + z + 1 - (intOf v).toNat)
  case atStart => exact ⟨1, by omega, by omega, rfl, hid_as (Below.refl _ _)⟩
  case round =>
    obtain ⟨m, hm1, hm, rfl, hB⟩ := hrel
    have hCl := hid_as (C.out m hm)
    have d0 := (hB.out.cell (p := ⟨g, i * 5, none⟩) hg).trans c0
    have d1 := (hB.out.cell (p := ⟨g, i * 5 + 1, none⟩) hg).trans c1
    have d2 := (hB.out.cell (p := ⟨g, i * 5 + 2, none⟩) hg).trans c2
    have d3 := (hB.out.cell (p := ⟨g, i * 5 + 3, none⟩) hg).trans c3
    have d4 := (hB.out.cell (p := ⟨g, i * 5 + 4, none⟩) hg).trans c4
    have f4 := (hB.out.cell (p := ⟨g, (i + 1) * 5 + 4, none⟩) hg).trans e4
    have hlb : (a : Int) + m ≤ b := by omega
    have x1 : (0 : Int) ≤ a := by omega
    have x2 : (a : Int) ≤ (a : Int) + m := by omega
    have x3 : (a : Int) + m ≤ s.size := by omega
    have x4 : ((a : Int) + m).toNat = a + m := by omega
    have hsz : Hid ((s.extract a (a + m)).size = m) := by rw [tx_extract, tx_size, List.length_take, List.length_drop, ← Lib.size_eq, show a + m - a = m by omega]; exact hid_as (by omega)
    have TK := fun V => rtokens_c (s.extract a (a + m)) V (by rw [hsz.out]; omega) hCl.out
    rw [hsz.out, ext_list] at TK
    have hpl : ((s.data.toList.drop a).take m).length = m := by rw [List.length_take, List.length_drop, ← Lib.size_eq]; omega
    cases hRR : rsc (m + 1) (m + 1) ((s.data.toList.drop a).take m) 0 [] with
    | none =>
      rw [hRR] at TK
      replace TK := hid_as TK
      have hmz : ¬ m = z := by
        rintro rfl
        have q := rsc_one (F := m + 1) (f := m) (by rw [hpl]; omega) (by rw [hpl]; exact F.out (m + 1) (by omega))
        rw [hRR] at q
        cases q
      clear hRR
      go_wp2_with (go_at_call 22; (with_reducible refine (TK.out _).mono ?_); rintro e w4 ⟨b4, a4, E4, hE4, rfl⟩; have hB4 := hid_as (hB.out.trans (b4.mono hB.out.size)); clear b4)
      go_roundw
      case rel => exact ⟨m + 1, by omega, by omega, by go_num, hB4⟩
      case measure => simp [intOf]; omega
    | some Lm =>
      rw [hRR] at TK
      by_cases h2L : Lm.length = 2
      · obtain ⟨⟨ua, ub, uc, ud⟩, hr1, rfl⟩ := rsc_two hRR h2L (by rw [hpl]; omega)
        rw [hpl] at hr1
        replace TK := hid_as TK
        have hLd : ∀ (base : Nat) (V : World) (v : Value), Tks base V v [((⟨ua, ub, uc, ud⟩ : Tk), 0), (nul, ((s.data.toList.drop a).take m).length)] → ∃ g2 cap2, v = .slice (some ⟨g2, 0, none⟩) 2 cap2 ∧ g2 < V.heap.size ∧ V.cell? ⟨g2, 0, none⟩ = some (.int .i64 (ua : Nat)) ∧ V.cell? ⟨g2, 1, none⟩ = some (.int .i64 (ub : Nat)) ∧ V.cell? ⟨g2, 2, none⟩ = some (.int .i64 uc) ∧ V.cell? ⟨g2, 3, none⟩ = some (.string (tx ud)) ∧ V.cell? ⟨g2, 4, none⟩ = some (.int .i64 0) := fun base V v o => by
          obtain ⟨g2, cap2, e, _, hl, h⟩ := o.laid (by simp)
          exact ⟨g2, cap2, e, hl, h 0 _ rfl, h 1 _ rfl, h 2 _ rfl, h 3 _ rfl, h 4 _ rfl⟩
        replace hLd := hid_as hLd
        clear hRR h2L
        have hE := fun W => eqTk ⟨ua, ub, uc, ud⟩ ⟨ta, tb, tc, td⟩ W
        cases hq : tke ⟨ua, ub, uc, ud⟩ ⟨ta, tb, tc, td⟩ with
        | true =>
          rw [hq] at hE
          have ht := tke_eq hq
          rw [ht] at hr1
          have hPc := hid_as (P.out m hm1 hm (m + 1) (by omega) hr1)
          clear hq ht hr1
          go_wp2_with (go_at_call 22; (with_reducible refine (TK.out _).mono ?_); rintro e w4 ⟨b4, v4, rfl, o4⟩; obtain ⟨g2, cap2, rfl, hl2, k0, k1, k2, k3, k4⟩ := hLd.out _ _ _ o4; have hB4 := hid_as (hB.out.trans (b4.mono hB.out.size)); have hg4 : g < w4.heap.size := Nat.lt_of_lt_of_le hg hB4.out.size; have d0 := (hB4.out.cell (p := ⟨g, i * 5, none⟩) hg).trans c0; have d1 := (hB4.out.cell (p := ⟨g, i * 5 + 1, none⟩) hg).trans c1; have d2 := (hB4.out.cell (p := ⟨g, i * 5 + 2, none⟩) hg).trans c2; have d3 := (hB4.out.cell (p := ⟨g, i * 5 + 3, none⟩) hg).trans c3; have d4 := (hB4.out.cell (p := ⟨g, i * 5 + 4, none⟩) hg).trans c4; clear b4 o4)
          go_region
          all_goals
            go_wp2
            go_ret
            refine ⟨m, hm1, hm, ret_int (by omega), hPc.out, ?_⟩
            repeat (first | (with_reducible exact hB4.out) | (with_reducible refine Below.drew ?_) | refine Below.alloc ?_ (Nat.le_of_lt_succ (Nat.lt_succ_of_le (by first | exact hB4.out.size | exact Nat.le_trans hB4.out.size (by simp)))) _)
        | false =>
          rw [hq] at hE
          have hmz : ¬ m = z := by
            rintro rfl
            have q := (F.out (m + 1) (by omega)).symm.trans hr1
            have q2 := (Prod.mk.inj (Option.some.inj q)).1
            rw [← q2, tke_same] at hq
            cases hq
          clear hq hr1
          go_wp2_with (go_at_call 22; (with_reducible refine (TK.out _).mono ?_); rintro e w4 ⟨b4, v4, rfl, o4⟩; obtain ⟨g2, cap2, rfl, hl2, k0, k1, k2, k3, k4⟩ := hLd.out _ _ _ o4; have hB4 := hid_as (hB.out.trans (b4.mono hB.out.size)); have hg4 : g < w4.heap.size := Nat.lt_of_lt_of_le hg hB4.out.size; have d0 := (hB4.out.cell (p := ⟨g, i * 5, none⟩) hg).trans c0; have d1 := (hB4.out.cell (p := ⟨g, i * 5 + 1, none⟩) hg).trans c1; have d2 := (hB4.out.cell (p := ⟨g, i * 5 + 2, none⟩) hg).trans c2; have d3 := (hB4.out.cell (p := ⟨g, i * 5 + 3, none⟩) hg).trans c3; have d4 := (hB4.out.cell (p := ⟨g, i * 5 + 4, none⟩) hg).trans c4; clear b4 o4)
          go_region
          all_goals
            go_wp2
            go_roundw
            case rel =>
              refine ⟨m + 1, by omega, by omega, by go_num, hid_as ?_⟩
              repeat (first | (with_reducible exact hB4.out) | (with_reducible refine Below.drew ?_) | refine Below.alloc ?_ (Nat.le_of_lt_succ (Nat.lt_succ_of_le (by first | exact hB4.out.size | exact Nat.le_trans hB4.out.size (by simp)))) _)
            case measure => simp [intOf]; omega
      · replace TK := hid_as TK
        have hmz : ¬ m = z := by
          rintro rfl
          have q := rsc_one (F := m + 1) (f := m) (by rw [hpl]; omega) (by rw [hpl]; exact F.out (m + 1) (by omega))
          rw [hRR] at q
          rw [Option.some.inj q] at h2L
          exact h2L rfl
        clear hRR
        have h2n : (((Lm.length : Nat) : Int) != 2) = true := by rw [bne, Bool.not_eq_true', beq_eq_false_iff_ne]; omega
        go_wp2_with (go_at_call 22; (with_reducible refine (TK.out _).mono ?_); rintro e w4 ⟨b4, v4, rfl, o4⟩; obtain ⟨ao, co, rfl⟩ := o4.shape; have hB4 := hid_as (hB.out.trans (b4.mono hB.out.size)); clear b4 o4; generalize Lm.length = nl at *)
        go_roundw
        case rel => exact ⟨m + 1, by omega, by omega, by go_num, hB4⟩
        case measure => simp [intOf]; omega
end Go.Proofs.YtnponognncdkcaaDoor
