/- The law of timers: a life begun at another time (stage 17). -/
import Derived.Test.YtbpnaenineinmaaLV2
import Derived.Test.YtbpnaenineinmaaM3
import Derived.Test.YtbpnaenineinmaaOpenF
namespace Go.Proofs.Ytbpnaenineinmaa
open Go.RowKit
open Fb
theorem el_shift {pt nw nw' k k' c : Int} (h : w32 (nw - nw') = c) (hk : w32 (k - k') = c) : el pt nw k = el pt nw' k' := by
  have e : w32 (nw - k) = w32 (nw' - k') := by unfold w32 at *; omega
  unfold el since
  rw [e]
theorem el_self {pt nw nw' : Int} : el pt nw nw = el pt nw' nw' := by
  unfold el since
  rw [Int.sub_self, Int.sub_self]
/-- When a block looks at the time of its edge. -/
def looks (k : Nat) (r : Rs) : Prop := match k with
  | 0 => tr (w32 r.k0) = true
  | 1 => w32 r.k2 ≠ 0
  | _ => w32 r.k2 = 1
/-- Two states alike but for the time of the edge, which is moved by c. -/
def Shf (k : Nat) (c : Int) (r r' : Rs) : Prop := r.o = r'.o ∧ r.k0 = r'.k0 ∧ r.k2 = r'.k2 ∧ (looks k r → w32 (r.k1 - r'.k1) = c)
theorem shf_ton {c t t' : Int} {i : List Int} {r r' : Rs} (h : Shf 0 c r r') (ht : w32 (t - t') = c) : Shf 0 c (stp 0 i r.o r.k0 r.k1 r.k2 t) (stp 0 i r'.o r'.k0 r'.k1 r'.k2 t') := by
  obtain ⟨o, k0, k1, k2⟩ := r
  obtain ⟨o', k0', k1', k2'⟩ := r'
  obtain ⟨h1, h2, h3, h4⟩ := h
  simp only at h1 h2 h3 h4
  subst h1 h2 h3
  simp only [looks] at h4
  rw [← w32_sub] at ht h4
  simp only [stp]
  generalize w32 t = nw at *
  generalize w32 t' = nw' at *
  generalize w32 k1 = j1 at *
  generalize w32 k1' = j1' at *
  generalize w32 k2 = j2 at *
  generalize max (w32 (i.getD 1 0)) 0 = pt at *
  cases ha : tr (i.getD 0 0)
  · refine ⟨rfl, rfl, rfl, fun q => ?_⟩
    exact absurd q (show ¬ (tr (w32 0) = true) by decide)
  · by_cases hk : tr (w32 k0) = true
    · have g := h4 hk
      by_cases h2 : j2 = 1
      · subst h2
        rw [pton_done hk, pton_done hk]
        exact ⟨rfl, rfl, rfl, fun _ => g⟩
      · rw [pton_wait hk h2, pton_wait hk h2, el_shift ht g]
        exact ⟨rfl, rfl, rfl, fun _ => g⟩
    · have hz : w32 k0 = 0 := by
        by_cases e : w32 k0 = 0
        · exact e
        · exact absurd (by show (w32 k0 != 0) = true; rw [bne_iff_ne]; exact e) hk
      rw [hz, pton_edge, pton_edge, el_self (nw' := nw')]
      exact ⟨rfl, rfl, rfl, fun _ => ht⟩
theorem tr_no {x : Int} (h : ¬ tr x = true) : x = 0 := by
  by_cases e : x = 0
  · exact e
  · exact absurd (by show (x != 0) = true; rw [bne_iff_ne]; exact e) h
theorem shf_tof {c t t' : Int} {i : List Int} {r r' : Rs} (h : Shf 1 c r r') (ht : w32 (t - t') = c) : Shf 1 c (stp 1 i r.o r.k0 r.k1 r.k2 t) (stp 1 i r'.o r'.k0 r'.k1 r'.k2 t') := by
  obtain ⟨o, k0, k1, k2⟩ := r
  obtain ⟨o', k0', k1', k2'⟩ := r'
  obtain ⟨h1, h2, h3, h4⟩ := h
  simp only at h1 h2 h3 h4
  subst h1 h2 h3
  simp only [looks] at h4
  rw [← w32_sub] at ht h4
  simp only [stp]
  have hw := w32_w32 k2
  generalize w32 t = nw at *
  generalize w32 t' = nw' at *
  generalize w32 k1 = j1 at *
  generalize w32 k1' = j1' at *
  generalize w32 k2 = j2 at *
  generalize max (w32 (i.getD 1 0)) 0 = pt at *
  generalize w32 (o.getD 1 0) = et at *
  cases ha : tr (i.getD 0 0)
  · by_cases hk : tr (w32 k0) = true
    · rw [ptof_fall hk, ptof_fall hk, el_self (nw' := nw')]
      exact ⟨rfl, rfl, rfl, fun _ => ht⟩
    · rw [tr_no hk]
      by_cases h2 : j2 = 0
      · subst h2
        rw [ptof_idle, ptof_idle]
        exact ⟨rfl, rfl, rfl, fun q => absurd rfl q⟩
      · have g := h4 h2
        rw [ptof_run h2, ptof_run h2, el_shift ht g]
        exact ⟨rfl, rfl, rfl, fun _ => g⟩
  · exact ⟨rfl, rfl, rfl, fun q => absurd rfl q⟩
theorem shf_tp {c t t' : Int} {i : List Int} {r r' : Rs} (h : Shf 2 c r r') (ht : w32 (t - t') = c) : Shf 2 c (stp 2 i r.o r.k0 r.k1 r.k2 t) (stp 2 i r'.o r'.k0 r'.k1 r'.k2 t') := by
  obtain ⟨o, k0, k1, k2⟩ := r
  obtain ⟨o', k0', k1', k2'⟩ := r'
  obtain ⟨h1, h2, h3, h4⟩ := h
  simp only at h1 h2 h3 h4
  subst h1 h2 h3
  simp only [looks] at h4
  rw [← w32_sub] at ht h4
  simp only [stp]
  have hw := w32_w32 k2
  generalize w32 t = nw at *
  generalize w32 t' = nw' at *
  generalize w32 k1 = j1 at *
  generalize w32 k1' = j1' at *
  generalize w32 k2 = j2 at *
  generalize max (w32 (i.getD 1 0)) 0 = pt at *
  generalize w32 (o.getD 1 0) = et at *
  cases ha : tr (i.getD 0 0)
  · by_cases h2 : j2 = 1
    · subst h2
      have g := h4 rfl
      rw [ptp_off1, ptp_off1, el_shift ht g]
      split
      · exact ⟨rfl, rfl, rfl, fun _ => g⟩
      · exact ⟨rfl, rfl, rfl, fun q => absurd q (show ¬ (w32 0 = 1) by decide)⟩
    · rw [ptp_off h2, ptp_off h2]
      exact ⟨rfl, rfl, rfl, fun q => absurd q (show ¬ (w32 0 = 1) by decide)⟩
  · by_cases h2 : j2 = 1
    · subst h2
      have g := h4 rfl
      rw [ptp_run, ptp_run, el_shift ht g]
      split
      · exact ⟨rfl, rfl, rfl, fun _ => g⟩
      · exact ⟨rfl, rfl, rfl, fun _ => g⟩
    · by_cases hk : tr (w32 k0) = true
      · rw [ptp_hold hk h2, ptp_hold hk h2]
        refine ⟨rfl, rfl, rfl, fun q => ?_⟩
        simp only [looks] at q
        rw [hw] at q
        exact absurd q h2
      · rw [tr_no hk, ptp_go h2, ptp_go h2, el_self (nw' := nw')]
        split
        · exact ⟨rfl, rfl, rfl, fun _ => ht⟩
        · exact ⟨rfl, rfl, rfl, fun _ => ht⟩
theorem shf_stp {k : Nat} (hk : k < 3) {c t t' : Int} {i : List Int} {r r' : Rs} (h : Shf k c r r') (ht : w32 (t - t') = c) : Shf k c (stp k i r.o r.k0 r.k1 r.k2 t) (stp k i r'.o r'.k0 r'.k1 r'.k2 t') := by
  match k, hk with
  | 0, _ => exact shf_ton h ht
  | 1, _ => exact shf_tof h ht
  | 2, _ => exact shf_tp h ht
/-- The clock, step by step. -/
def tcl (x0 : Int) (ss : List Nat) : Nat → Int
  | 0 => x0
  | j + 1 => w32 (tcl x0 ss j + (ss.getD j 0 : Nat))
theorem tcl_ok {x0 : Int} (h : -2147483648 ≤ x0 ∧ x0 ≤ 2147483647) (ss : List Nat) (j : Nat) : -2147483648 ≤ tcl x0 ss j ∧ tcl x0 ss j ≤ 2147483647 := by
  cases j with
  | zero => exact h
  | succ j => exact w32_ok _
theorem tcl_diff (x0 y0 : Int) (ss : List Nat) (j : Nat) : w32 (tcl x0 ss j - tcl y0 ss j) = w32 (x0 - y0) := by
  induction j with
  | zero => rfl
  | succ j ih =>
    show w32 (w32 (tcl x0 ss j + _) - w32 (tcl y0 ss j + _)) = _
    rw [w32_sub, ← ih]
    congr 1
    omega
def tcs (x0 : Int) (ss : List Nat) (j : Nat) : List Int := (List.range j).map fun i => tcl x0 ss (i + 1)
theorem tcs_len (x0 : Int) (ss : List Nat) (j : Nat) : (tcs x0 ss j).length = j := by simp [tcs]
theorem tcs_next (x0 : Int) (ss : List Nat) (j : Nat) : tcs x0 ss (j + 1) = tcs x0 ss j ++ [tcl x0 ss (j + 1)] := by simp [tcs, List.range_succ]
theorem tcs_at (x0 : Int) (ss : List Nat) (j i : Nat) (h : i < j) : (tcs x0 ss j).getD i 0 = tcl x0 ss (i + 1) := by simp [tcs, h]
theorem lif_shift {k n : Nat} (hk : k < 3) {c : Int} {L : Nat → List Int} {T T' : Nat → Int} (h : ∀ i, i < n → w32 (T i - T' i) = c) : ∀ j, j ≤ n → Shf k c (lif k L T j) (lif k L T' j) := by
  intro j
  induction j with
  | zero =>
    intro _
    refine ⟨rfl, rfl, rfl, fun q => ?_⟩
    match k, hk with
    | 0, _ => exact absurd q (show ¬ (tr (w32 0) = true) by decide)
    | 1, _ => exact absurd rfl q
    | 2, _ => exact absurd q (show ¬ (w32 0 = 1) by decide)
  | succ j ih =>
    intro hj
    exact shf_stp hk (ih (by omega)) (h j (by omega))
theorem sl_bool {w : World} {ao : Option Addr} {n c k : Nat} {l : List Bool} (h : Sl w (.slice ao n c) (bls l)) (hk : k < l.length) : ∃ b off, ao = some ⟨b, off, none⟩ ∧ w.cell? ⟨b, off + k, none⟩ = some (.bool (l.getD k false)) := by
  rcases h with ⟨h0, _⟩ | ⟨b, off, cap, e, _, hl⟩
  · have := congrArg List.length h0
    rw [bls_len] at this
    simp at this
    simp [this] at hk
  · simp only [Value.slice.injEq] at e
    exact ⟨b, off, e.1, hl k _ (bls_at l k hk)⟩
theorem sl_u16 {w : World} {ao : Option Addr} {n c k : Nat} {l : List Nat} (h : Sl w (.slice ao n c) (u16s l)) (hk : k < l.length) : ∃ b off, ao = some ⟨b, off, none⟩ ∧ w.cell? ⟨b, off + k, none⟩ = some (.int .u16 (l.getD k 0 : Nat)) := by
  rcases h with ⟨h0, _⟩ | ⟨b, off, cap, e, _, hl⟩
  · have := congrArg List.length h0
    rw [u16s_len] at this
    simp at this
    simp [this] at hk
  · simp only [Value.slice.injEq] at e
    exact ⟨b, off, e.1, hl k _ (u16s_at l k hk)⟩
set_option maxRecDepth 100000 in
set_option maxHeartbeats 4000000 in
theorem timers_w {w : World} {oa sa : Option Addr} {on sn oc sc : Nat} {ob : List Bool} {ss : List Nat} (wh pt0 from0 other : Int) (hO : Sl w (.slice oa on oc) (bls ob)) (hon : on = ob.length) (ho9 : on ≤ 9223372036854775807) (hS : Sl w (.slice sa sn sc) (u16s ss)) (hsn : sn = ss.length) (hs9 : sn ≤ 9223372036854775807) (hss : ∀ x ∈ ss, x < 65536) :
    Calls Try.prog 4 #[.int .i64 wh, .slice oa on oc, .slice sa sn sc, .int .i64 pt0, .int .i64 from0, .int .i64 other] w fun e w' => e = .returned (.bool true) ∧ Below w.heap.size w w' := by
  have O := hid_as hO
  have SS := hid_as hS
  have HON := hid_as hon
  have HSN := hid_as hsn
  have HSS := hid_as hss
  have KN := hid_as (known_c w)
  clear hO hS hon hsn hss
  by_cases g1 : on ≤ 60
  case neg =>
    have g1' : (60 : Int) < on := by omega
    go_enter Try.func4, Try.ntmps4
    go_wp2_with fail
    refine KN.out.mono ?_
    rintro e w1 ⟨rfl, b1⟩
    have B := hid_as b1
    go_wp2
    go_ret
    exact ⟨rfl, B.out⟩
  have g1' : ¬ (60 : Int) < on := by omega
  by_cases g2 : sn ≤ 60
  case neg =>
    have g2' : (60 : Int) < sn := by omega
    go_enter Try.func4, Try.ntmps4
    go_wp2_with fail
    refine KN.out.mono ?_
    rintro e w1 ⟨rfl, b1⟩
    have B := hid_as b1
    go_wp2
    go_ret
    exact ⟨rfl, B.out⟩
  have g2' : ¬ (60 : Int) < sn := by omega
  obtain ⟨kk, hkk⟩ : ∃ kk : Nat, wh % 3 = (kk : Int) := ⟨(wh % 3).toNat, by omega⟩
  have hk3 : kk < 3 := by omega
  have hk10 : kk < 10 := by omega
  have hk10' : (kk : Int) < 10 := by omega
  have PL := hid_as (fun U => place_3 wh U)
  rw [hkk] at PL
  clear hkk
  go_enter Try.func4, Try.ntmps4
  go_wp2_with fail
  refine KN.out.mono ?_
  rintro e w1 ⟨rfl, b1⟩
  have B1 := hid_as b1
  have NC := hid_as (names_c w1)
  clear KN b1
  go_wp2_with fail
  refine NC.out.mono ?_
  rintro e w2 ⟨rfl, b2, s2, c2⟩
  have B2 := hid_as (below_and B1.out b2)
  have ck := c2 kk hk10
  clear NC b2 s2 c2 B1
  go_wp2_with fail
  refine (PL.out _).mono ?_
  rintro e w' ⟨rfl, hw⟩
  subst w'
  clear PL
  obtain ⟨N, hN⟩ : ∃ N, N = nm kk := ⟨_, rfl⟩
  rw [← hN] at ck
  have HNM := hid_as hN
  clear hN
  have WP := hid_as (rwrap_11 pt0 w2)
  go_wp2_with fail
  refine WP.out.mono ?_
  rintro e w3 ⟨rfl, b3⟩
  have B3 := hid_as (below_and B2.out b3)
  clear WP b3 B2 ck
  generalize w32 pt0 = pt at *
  have WX := hid_as (rwrap_4 from0 w3)
  go_wp2_with fail
  refine WX.out.mono ?_
  rintro e w4 ⟨rfl, b4⟩
  have B4 := hid_as (below_and B3.out b4)
  clear WX b4 B3
  have WY := hid_as (rwrap_4 other w4)
  go_wp2_with fail
  refine WY.out.mono ?_
  rintro e w5 ⟨rfl, b5⟩
  have B5 := hid_as (below_and B4.out b5)
  clear WY b5 B4
  have hx0 := w32_ok from0
  have hy0 := w32_ok other
  generalize w32 from0 = x0 at *
  generalize w32 other = y0 at *
  have OO := hid_as (O.out.below B5.out)
  have SO := hid_as (SS.out.below B5.out)
  clear O SS
  obtain ⟨L, hL⟩ : ∃ L : Nat → List Int, L = fun i => [b01 (ob.getD i false), pt] := ⟨_, rfl⟩
  have HL : Hid (∀ i, L i = [b01 (ob.getD i false), pt]) := fun i => by rw [hL]
  clear hL
  obtain ⟨n, hn⟩ : ∃ n, n = min on sn := ⟨_, rfl⟩
  have G0 := hid_as (Gw.start w5 L)
  have WA := hid_as (fun x U => rwrap_4 x U)
  go_wp2
  go_loopw [14, 15, 16, 17, 18, 19] (fun l a b x y i wr => ∃ j : Nat, j ≤ n ∧ i = .int .i64 j ∧ x = .int .i64 (tcl x0 ss j) ∧ y = .int .i64 (tcl y0 ss j) ∧ Gw w5.heap.size wr l a b j L (tcs x0 ss j) (tcs y0 ss j) ∧ Below w5.heap.size w5 wr) (fun _ _ _ _ _ i _ => n - (intOf i).toNat)
  case atStart => exact ⟨0, by omega, rfl, rfl, rfl, G0.out, Below.refl _ _⟩
  case round =>
  obtain ⟨j, hj, rfl, rfl, rfl, hG, hB⟩ := hrel
  have G := hid_as hG
  have BB := hid_as hB
  obtain ⟨la, lc, rfl⟩ := hG.rows.shape
  obtain ⟨aa, ac, rfl⟩ := own_shape hG.ra
  obtain ⟨ba, bc, rfl⟩ := own_shape hG.rb
  rw [tcs_len x0, tcs_len y0] at G ⊢
  clear hG hB G0
  by_cases hjn : j < n
  · have h1 : j < on := by omega
    have h2 : j < sn := by omega
    have h1' : (j : Int) < (on : Int) := by omega
    have h2' : (j : Int) < (sn : Int) := by omega
    obtain ⟨f, hf⟩ : ∃ f, f = ob.getD j false := ⟨_, rfl⟩
    obtain ⟨s, hs⟩ : ∃ s, s = ss.getD j 0 := ⟨_, rfl⟩
    have HLj : Hid (L j = [b01 f, pt]) := by rw [hf]; exact HL.out j
    have hs5 : s < 65536 := by
      rw [hs, List.getD_eq_getElem?_getD, List.getElem?_eq_getElem (by rw [← HSN.out]; exact h2)]
      exact HSS.out _ (List.getElem_mem _)
    have HXn : Hid (tcl x0 ss (j + 1) = w32 (tcl x0 ss j + s)) := by rw [hs]; rfl
    have HYn : Hid (tcl y0 ss (j + 1) = w32 (tcl y0 ss j + s)) := by rw [hs]; rfl
    have HAn := hid_as (tcs_next x0 ss j)
    have HBn := hid_as (tcs_next y0 ss j)
    have HAl := hid_as (tcs_len x0 ss j)
    have HBl := hid_as (tcs_len y0 ss j)
    obtain ⟨og, of, rfl, co⟩ := sl_bool (OO.out.below BB.out) (k := j) (by rw [← HON.out]; exact h1)
    obtain ⟨sg, sf, rfl, cs⟩ := sl_u16 (SO.out.below BB.out) (k := j) (by rw [← HSN.out]; exact h2)
    rw [← hf] at co
    rw [← hs] at cs
    clear hf hs
    have tx := tcl_ok hx0 ss j
    have ty := tcl_ok hy0 ss j
    rw [HXn.out] at HAn
    rw [HYn.out] at HBn
    generalize tcl x0 ss j = X at *
    generalize tcl y0 ss j = Y at *
    generalize tcs x0 ss j = A at *
    generalize tcs y0 ss j = B at *
    go_upto_if 62 with fail
    go_cut [20] from 59 to 62 (fun v wx => v = .int .i64 (b01 f) ∧ wx = wr)
    case first =>
      cases f
      · go_wp2
        go_meet
        exact ⟨rfl, rfl⟩
      · go_wp2
        go_meet
        exact ⟨rfl, rfl⟩
    case rest =>
    obtain ⟨rfl, hw⟩ := hcut
    subst hw
    rename World => V
    have hw1 : IntKind.i64.wrap ((s : Nat) : Int) = (s : Int) := by rw [IntKind.wrap_i64]; omega
    have hw2 : IntKind.i64.wrap (X + (s : Int)) = X + (s : Int) := by rw [IntKind.wrap_i64]; omega
    have hw3 : IntKind.i64.wrap (Y + (s : Int)) = Y + (s : Int) := by rw [IntKind.wrap_i64]; omega
    have CA := hid_as (fun U (b : Below V.heap.size V U) => (b.cell (p := ⟨sg, sf + j, none⟩) (lt_of_cell cs)).trans cs)
    go_upto_region 16 with fail
    go_cut [17, 18] from 63 to 78 (fun x y wx => x = .int .i64 (w32 (X + (s : Int))) ∧ y = .int .i64 (w32 (Y + (s : Int))) ∧ Below V.heap.size V wx)
    case first =>
      go_region_held3 (fun U => U.cell? ⟨sg, sf + j, none⟩ = some (.int .u16 (s : Int))) (first | exact CA.out _ (Same.drew _).below | exact CA.out _ (Below.refl _ _) | exact c4z | exact c3z) (first | (go_at_call 15; (with_reducible refine (WA.out _ V.drew).mono ?_); rintro e w7 ⟨rfl, b7⟩; have b8 := (Same.drew V).below.trans (b7.mono (Nat.le_refl _)); have c3z := CA.out _ b8) | (go_at_call 15; (with_reducible refine (WA.out _ w7).mono ?_); rintro e w8 ⟨rfl, b9⟩; have bA := below_and b8 b9; have c4z := CA.out _ bA))
      all_goals
        go_wp2
        go_meet
        exact ⟨rfl, rfl, bA⟩
    case rest =>
    obtain ⟨rfl, rfl, hB⟩ := hcut
    have G2 := hid_as (G.out.below hB)
    have B2 := hid_as (below_and BB.out hB)
    clear hB G BB CA co cs hw1 hw2 hw3
    rename World => V2
    generalize w32 (X + (s : Int)) = X2 at *
    generalize w32 (Y + (s : Int)) = Y2 at *
    have R1 : Row64 (V2.alloc (.cells #[.int .i64 (b01 f), .int .i64 pt] 2)) V2.heap.size (L j) := by rw [HLj.out]; exact row_new V2 [b01 f, pt]
    have K1 := below_new (Below.refl _ V2) (.cells #[.int .i64 (b01 f), .int .i64 pt] 2)
    obtain ⟨l', V3, e1, G3, k3⟩ := (G2.out.below K1).pushL (by omega) R1 G2.out.new.1 G2.out.new.2
    obtain ⟨a', V4, e2, G4, k4⟩ := G3.pushA X2 (by rw [HAl.out]; omega)
    obtain ⟨b', V5, e3, G5, k5⟩ := G4.pushB Y2 (by rw [HBl.out]; omega)
    rw [World.size_alloc, HLj.out] at e1
    simp only [List.length_cons, List.length_nil, Nat.zero_add, Nat.reduceAdd] at e1
    have E1 := hid_as e1
    have E2 := hid_as e2
    have E3 := hid_as e3
    have NX := hid_as G5
    have BX : Hid (Below w5.heap.size w5 V5) := (B2.out.trans ((K1.mono B2.out.size).trans (k3.trans (k4.trans k5))))
    clear R1 K1 e1 e2 e3 G3 G4 G5 k3 k4 k5 G2 B2 HLj
    go_wp2_with (first | (at_builtin; refine Lib.wpList_append_run ((V2.alloc (.cells #[.int .i64 (b01 f), .int .i64 pt] 2)).alloc (.cells #[.slice (some ⟨V2.heap.size, 0, none⟩) 2 2] 22)) rfl _ _ _ _ rfl _ _ rfl rfl _ _ E1.out ?_) | (at_builtin; refine Lib.wpList_append_run (V3.alloc (.cells #[.int .i64 X2] 2)) rfl _ _ _ _ rfl _ _ rfl rfl _ _ E2.out ?_) | (at_builtin; refine Lib.wpList_append_run (V4.alloc (.cells #[.int .i64 Y2] 2)) rfl _ _ _ _ rfl _ _ rfl rfl _ _ E3.out ?_))
    go_roundw
    case rel => exact ⟨j + 1, by omega, by go_num, by rw [HXn.out], by rw [HYn.out], by rw [HAn.out, HBn.out]; exact NX.out, BX.out⟩
    case measure => simp [intOf]; omega
  · obtain rfl : n = j := by omega
    have hn60 : n ≤ 60 := by omega
    have LR := hid_as G.out.rows
    have LA := hid_as (own_sl G.out.ra)
    have LB := hid_as (own_sl G.out.rb)
    have BW := hid_as (below_and B5.out BB.out)
    have HLl : Hid (∀ i, (L i).length ≤ 100) := fun i => by rw [HL.out]; exact (show 2 ≤ 100 by decide)
    have SH : Hid (∀ i, i < n → (fun i => (lif kk L (fun j => (tcs x0 ss n).getD j 0) (i + 1)).o) i = (fun i => (lif kk L (fun j => (tcs y0 ss n).getD j 0) (i + 1)).o) i) := fun i hi =>
      (lif_shift hk3 (n := n) (c := w32 (x0 - y0)) (fun q hq => by simp only [tcs_at _ _ _ _ hq]; exact tcl_diff _ _ _ _) (i + 1) (by omega)).1
    have SL : Hid (∀ i, ((fun i => (lif kk L (fun j => (tcs x0 ss n).getD j 0) (i + 1)).o) i).length ≤ 3) := fun i => by
      show (lif kk L _ (i + 1)).o.length ≤ 3
      show (stp kk _ _ _ _ _ _).o.length ≤ 3
      rw [stp_len]; exact pO_le3 kk
    have LC1 := hid_as (lives_c kk hk10 LR.out LA.out (tcs_len x0 ss n).symm (by omega) HLl.out)
    have LC2 := hid_as (fun U (b : Below wr.heap.size wr U) => lives_c kk hk10 (LR.out.below b) (LB.out.below b) (tcs_len y0 ss n).symm (by omega) HLl.out)
    rw [← HNM.out] at LC1 LC2
    generalize (fun i => (lif kk L (fun j => (tcs x0 ss n).getD j 0) (i + 1)).o) = P at *
    generalize (fun i => (lif kk L (fun j => (tcs y0 ss n).getD j 0) (i + 1)).o) = Q at *
    clear LR LA LB G BB HLl OO SO WA B5
    by_cases hx : n < on
    · have hx1 : (n : Int) < (on : Int) := by omega
      have hx2 : ¬ (n : Int) < (sn : Int) := by omega
      clear hn
      go_wp2_with fail
      refine LC1.out.mono ?_
      rintro e w7 ⟨p, rfl, hp, b7⟩
      have C2 := hid_as (LC2.out w7 b7)
      have HP := hid_as hp
      have B7 := hid_as (below_and BW.out b7)
      obtain ⟨pa, pc, rfl⟩ := hp.shape
      clear LC1 LC2 hp b7 BW
      go_wp2_with fail
      refine C2.out.mono ?_
      rintro e w8 ⟨q, rfl, hq, b8⟩
      have HP8 := hid_as (HP.out.below b8)
      have HQ8 := hid_as hq
      have B8 := hid_as (below_and B7.out b8)
      obtain ⟨qa, qc, rfl⟩ := hq.shape
      clear C2 hq b8 HP B7
      go_wp2
      go_loopw [25] (fun i wr2 => ∃ m : Nat, m ≤ n ∧ i = .int .i64 m ∧ Same w8 wr2) (fun i _ => n - (intOf i).toNat)
      case atStart => exact ⟨0, by omega, rfl, Same.refl _⟩
      case round =>
      obtain ⟨m, hm, rfl, hS⟩ := hrel
      have SS := hid_as hS
      clear hS
      by_cases hmn : m < n
      · have hmn' : (m : Int) < (n : Int) := by omega
        obtain ⟨pg, pb, rfl, cp, rp⟩ := (HP8.out.below SS.out.below).at hmn
        obtain ⟨qg, qb, rfl, cq, rq⟩ := (HQ8.out.below SS.out.below).at hmn
        have sl := SL.out m
        rw [← SH.out m hmn] at cq rq
        generalize P m = R at *
        have CA := hid_as (fun U (b : Same wr U) => (⟨(b.below.cell (p := ⟨pg, m, none⟩) (lt_of_cell cp)).trans cp, (b.below.cell (p := ⟨qg, m, none⟩) (lt_of_cell cq)).trans cq⟩ : U.cell? ⟨pg, m, none⟩ = some (.slice (some ⟨pb, 0, none⟩) R.length R.length) ∧ U.cell? ⟨qg, m, none⟩ = some (.slice (some ⟨qb, 0, none⟩) R.length R.length)))
        have NM := hid_as (fun U (b : Same wr U) => nums_c (row_sl (row_below rp b.below) rfl) (row_sl (row_below rq b.below) rfl) (by omega))
        simp only [decide_true] at NM
        clear rp rq
        go_upto_region 26 with fail
        go_region_held3 (fun U => U.cell? ⟨pg, m, none⟩ = some (.slice (some ⟨pb, 0, none⟩) R.length R.length) ∧ U.cell? ⟨qg, m, none⟩ = some (.slice (some ⟨qb, 0, none⟩) R.length R.length)) (first | exact CA.out _ (Same.drew _) | exact ⟨cp, cq⟩ | exact c3z) ((go_at_call 12; (with_reducible refine (NM.out _ (Same.drew _)).mono ?_); rintro e w9 ⟨rfl, s9⟩; have s10 := (Same.drew wr).trans s9; have c3z := CA.out _ s10))
        go_wp2
        go_roundw
        case rel => exact ⟨m + 1, by omega, by go_num, SS.out.trans s10⟩
        case measure => simp [intOf]; omega
      · have FIN := hid_as (below_and B8.out SS.out.below)
        go_wp2
        go_ret
        exact ⟨rfl, FIN.out⟩
    · have hx1 : ¬ (n : Int) < (on : Int) := by omega
      clear hn
      go_wp2_with fail
      refine LC1.out.mono ?_
      rintro e w7 ⟨p, rfl, hp, b7⟩
      have C2 := hid_as (LC2.out w7 b7)
      have HP := hid_as hp
      have B7 := hid_as (below_and BW.out b7)
      obtain ⟨pa, pc, rfl⟩ := hp.shape
      clear LC1 LC2 hp b7 BW
      go_wp2_with fail
      refine C2.out.mono ?_
      rintro e w8 ⟨q, rfl, hq, b8⟩
      have HP8 := hid_as (HP.out.below b8)
      have HQ8 := hid_as hq
      have B8 := hid_as (below_and B7.out b8)
      obtain ⟨qa, qc, rfl⟩ := hq.shape
      clear C2 hq b8 HP B7
      go_wp2
      go_loopw [25] (fun i wr2 => ∃ m : Nat, m ≤ n ∧ i = .int .i64 m ∧ Same w8 wr2) (fun i _ => n - (intOf i).toNat)
      case atStart => exact ⟨0, by omega, rfl, Same.refl _⟩
      case round =>
      obtain ⟨m, hm, rfl, hS⟩ := hrel
      have SS := hid_as hS
      clear hS
      by_cases hmn : m < n
      · have hmn' : (m : Int) < (n : Int) := by omega
        obtain ⟨pg, pb, rfl, cp, rp⟩ := (HP8.out.below SS.out.below).at hmn
        obtain ⟨qg, qb, rfl, cq, rq⟩ := (HQ8.out.below SS.out.below).at hmn
        have sl := SL.out m
        rw [← SH.out m hmn] at cq rq
        generalize P m = R at *
        have CA := hid_as (fun U (b : Same wr U) => (⟨(b.below.cell (p := ⟨pg, m, none⟩) (lt_of_cell cp)).trans cp, (b.below.cell (p := ⟨qg, m, none⟩) (lt_of_cell cq)).trans cq⟩ : U.cell? ⟨pg, m, none⟩ = some (.slice (some ⟨pb, 0, none⟩) R.length R.length) ∧ U.cell? ⟨qg, m, none⟩ = some (.slice (some ⟨qb, 0, none⟩) R.length R.length)))
        have NM := hid_as (fun U (b : Same wr U) => nums_c (row_sl (row_below rp b.below) rfl) (row_sl (row_below rq b.below) rfl) (by omega))
        simp only [decide_true] at NM
        clear rp rq
        go_upto_region 26 with fail
        go_region_held3 (fun U => U.cell? ⟨pg, m, none⟩ = some (.slice (some ⟨pb, 0, none⟩) R.length R.length) ∧ U.cell? ⟨qg, m, none⟩ = some (.slice (some ⟨qb, 0, none⟩) R.length R.length)) (first | exact CA.out _ (Same.drew _) | exact ⟨cp, cq⟩ | exact c3z) ((go_at_call 12; (with_reducible refine (NM.out _ (Same.drew _)).mono ?_); rintro e w9 ⟨rfl, s9⟩; have s10 := (Same.drew wr).trans s9; have c3z := CA.out _ s10))
        go_wp2
        go_roundw
        case rel => exact ⟨m + 1, by omega, by go_num, SS.out.trans s10⟩
        case measure => simp [intOf]; omega
      · have FIN := hid_as (below_and B8.out SS.out.below)
        go_wp2
        go_ret
        exact ⟨rfl, FIN.out⟩
end Go.Proofs.Ytbpnaenineinmaa
