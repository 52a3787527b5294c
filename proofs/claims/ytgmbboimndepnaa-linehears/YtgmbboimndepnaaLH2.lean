/- The walk of LineHears. -/
import Derived.Test.YtgmbboimndepnaaLH1
namespace Go.Proofs.Ytgmbboimndepnaa
open Go.RowKit
open Pdu
set_option maxRecDepth 100000 in
set_option maxHeartbeats 1600000 in
theorem hears_no (x k : Value) (ao bo co : Option Addr) (n m q c d f : Nat) (w : World) (hf : 20 < n ∨ (¬ 20 < n ∧ m < 1) ∨ (¬ 20 < n ∧ ¬ m < 1 ∧ 253 < m) ∨ (¬ 20 < n ∧ ¬ m < 1 ∧ ¬ 253 < m ∧ 100 < q)) :
    Calls Try.prog 4 #[x, k, .slice ao n c, .slice bo m d, .slice co q f] w fun e w' => e = .returned (.bool true) ∧ Below w.heap.size w w' := by
  have X := hid_as (known_law w)
  have e1 : (20 < n) = ((20 : Int) < (n : Int)) := by apply propext; omega
  have e2 : (m < 1) = ((m : Int) < (1 : Int)) := by apply propext; omega
  have e3 : (253 < m) = ((253 : Int) < (m : Int)) := by apply propext; omega
  have e4 : (100 < q) = ((100 : Int) < (q : Int)) := by apply propext; omega
  rw [e1, e2, e3, e4] at hf
  clear e1 e2 e3 e4
  rcases hf with h1 | ⟨h1, h2⟩ | ⟨h1, h2, h3⟩ | ⟨h1, h2, h3, h4⟩
  all_goals
    try have d1 := decide_eq_true h1
    try have d1 := decide_eq_false h1
    try have d2 := decide_eq_true h2
    try have d2 := decide_eq_false h2
    try have d3 := decide_eq_true h3
    try have d3 := decide_eq_false h3
    try have d4 := decide_eq_true h4
    go_enter Try.func4, Try.ntmps4
    go_wp2_with fail
    refine X.out.mono ?_
    rintro e w1 ⟨rfl, k1⟩
    have K1 := hid_as k1
    clear k1
    go_wp2
    go_ret
    exact ⟨rfl, K1.out⟩
theorem sl_cell {w W : World} {co : Option Addr} {n cap i : Nat} {cs : List Nat} (h : Sl w (.slice co n cap) (u8s cs)) (k : Below w.heap.size w W) (hi : i < cs.length) : ∃ b off, co = some ⟨b, off, none⟩ ∧ W.cell? ⟨b, off + i, none⟩ = some (.int .u8 (cs.getD i 0 : Nat)) := by
  rcases h with ⟨h, _⟩ | ⟨b, off, c, hv, _, hc⟩
  · have := congrArg List.length h
    rw [u8s_len, List.length_nil] at this
    omega
  · simp only [Value.slice.injEq] at hv
    exact ⟨b, off, hv.1, (hc.below k).u8 i hi⟩
set_option maxRecDepth 100000 in
set_option maxHeartbeats 8000000 in
theorem hears_w (u : Nat) (k : Int) (ao bo co : Option Addr) (n m q c d f : Nat) (ps cs : List Nat) (w : World) (hu : u < 256) (hR : 0 < n → ∃ lb lo, ao = some ⟨lb, lo, none⟩ ∧ ∀ i, i < n → ∃ bs, RowAt w ⟨lb, lo + i, none⟩ bs)
    (hs : Sl w (.slice bo m d) (u8s ps)) (hB : Bytes ps) (hm : m = ps.length) (hC : Sl w (.slice co q f) (u8s cs)) (hCB : Bytes cs) (hq : q = cs.length) (hn : n ≤ 20) (hm1 : 1 ≤ m ∧ m ≤ 253) (hq1 : q ≤ 100) :
    Calls Try.prog 4 #[.int .u8 (u : Int), .int .i64 k, .slice ao n c, .slice bo m d, .slice co q f] w fun e w' => e = .returned (.bool true) ∧ Below w.heap.size w w' := by
  have X := hid_as (known_law w)
  have HR := hid_as hR
  have HS := hid_as hs
  have HC := hid_as hC
  have HM := hid_as hm
  have HQ := hid_as hq
  have HF : Hid (1 ≤ ps.length ∧ ps.length ≤ 253) := by rw [← hm]; exact hm1
  have d1 : decide ((20 : Int) < (n : Int)) = false := decide_eq_false (by omega)
  have d2 : decide ((m : Int) < 1) = false := decide_eq_false (by omega)
  have d3 : decide ((253 : Int) < (m : Int)) = false := decide_eq_false (by omega)
  have d4 : decide ((100 : Int) < (q : Int)) = false := decide_eq_false (by omega)
  have PL := hid_as (fun (W : World) => place_c k 6 (by decide) (by decide) W)
  clear hR hs hC hm hq
  go_enter Try.func4, Try.ntmps4
  go_wp2_with fail
  refine X.out.mono ?_
  rintro e w1 ⟨rfl, k1⟩
  have K1 := hid_as k1
  clear k1 X
  go_wp2_with fail
  refine (PL.out w1).mono ?_
  rintro e wx ⟨⟨p, hp, rfl⟩, hw⟩
  subst wx
  obtain ⟨s, hss⟩ : ∃ s : Nat, s = 1 + p := ⟨_, rfl⟩
  have e1 : (1 : Int) + (p : Int) = (s : Int) := by omega
  have hs1 : 1 ≤ s := by omega
  have hs6 : s ≤ 6 := by omega
  have N1 := hid_as (new_c u s s w1 hu (Or.inr ⟨by omega, rfl⟩))
  clear PL hss hp
  go_wp2_with fail
  refine N1.out.mono ?_
  rintro e w2 ⟨rfl, ln2, k2, sz2⟩
  have I2 : Hid (HI w w2 w1.heap.size u s) := ⟨_, _, _, _, li_start ln2 K1.out k2 sz2, fun h => absurd rfl h, Nat.zero_le _⟩
  generalize w1.heap.size = g at I2 ⊢
  clear ln2 k2 sz2 N1 K1 e1
  go_upto_block 0 with fail
  go_cut [] from 55 to 74 (fun wx => HI w wx g u s)
  case first =>
    go_wp2_with fail
    go_loopw [12] (fun i wr => ∃ I : Nat, i = .int .i64 I ∧ I ≤ n ∧ HI w wr g u s) (fun i _ => n - (intOf i).toNat)
    case atStart => exact ⟨0, rfl, Nat.zero_le _, I2.out⟩
    case round =>
      obtain ⟨I, rfl, hI, h3⟩ := hrel
      have H3 := hid_as h3
      clear h3 I2
      by_cases hIn : I < n
      case neg =>
        have hI2 : ¬ ((I : Int) < (n : Int)) := by omega
        go_wp2
        go_meet
        case rel => exact H3.out
      have hI2 : (I : Int) < (n : Int) := by omega
      obtain ⟨lb, lo, rfl, hrow⟩ := HR.out (by omega)
      obtain ⟨bs, hBs, av, rc, hcw, hsl⟩ := hrow I hIn
      obtain ⟨y, hy⟩ : ∃ y, y = bs.length := ⟨_, rfl⟩
      rw [← hy] at hcw hsl
      have SL := hid_as hsl
      have hcell := keep_cell H3.out.k hcw
      clear hcw hsl hrow HR hy
      by_cases hbig : 1000 < y
      · have hbig2 : (1000 : Int) < (y : Int) := by omega
        go_wp2
        go_ret
        exact ⟨rfl, H3.out.k⟩
      have hbig2 : ¬ ((1000 : Int) < (y : Int)) := by omega
      have FD := hid_as (H3.out.feed (by omega) (SL.out.below H3.out.k) hBs)
      go_wp2_with fail
      refine FD.out.mono ?_
      rintro e w4 ⟨rfl, h4⟩
      have TK := hid_as (h4.tick (by omega))
      clear h4 FD hcell
      go_wp2_with fail
      refine TK.out.mono ?_
      rintro e w5 ⟨rfl, h5⟩
      have H5 := hid_as h5
      clear h5 TK
      go_wp2
      go_roundw
      case rel => exact ⟨I + 1, by go_num, by omega, H5.out⟩
      case measure => simp [intOf]; omega
  case rest =>
    have I3 := hid_as hcut.hj
    clear hcut I2 HR
    go_upto_block 2 with fail
    go_cut [] from 75 to 81 (fun wx => HN w wx g u s true)
    case first =>
      go_wp2_with fail
      go_loopw [13] (fun i wr => ∃ J : Nat, i = .int .i64 J ∧ J ≤ s ∧ HJ w wr g u s J) (fun i _ => s - (intOf i).toNat)
      case atStart => exact ⟨0, rfl, Nat.zero_le _, I3.out⟩
      case round =>
        obtain ⟨J, rfl, hJ, h3⟩ := hrel
        have H3 := hid_as h3
        clear h3 I3
        by_cases hJs : J < s
        · have hJ2 : (J : Int) < (s : Int) := by omega
          have TK := hid_as (H3.out.tick (by omega))
          go_wp2_with fail
          refine TK.out.mono ?_
          rintro e w5 ⟨rfl, h5⟩
          have H5 := hid_as h5
          clear h5 TK
          go_wp2
          go_roundw
          case rel => exact ⟨J + 1, by go_num, by omega, H5.out⟩
          case measure => simp [intOf]; omega
        · obtain rfl : J = s := by omega
          have H4 := hid_as H3.out.hn
          clear H3
          go_wp2
          go_meet
          case rel => exact H4.out
    case rest =>
      have NX := hid_as hcut.nxt
      clear hcut I3
      go_wp2_with fail
      refine NX.out.mono ?_
      rintro e w6 ⟨x6, po6, m6, pc6, b6, rfl, h6, _⟩
      have H6 := hid_as h6
      clear h6 NX
      go_upto_block 4 with fail
      go_cut [] from 88 to 94 (fun wx => HN w wx g u s false)
      case first =>
        go_wp2_with fail
        go_loopw [16] (fun is wr => ∃ b : Bool, is = .bool b ∧ HN w wr g u s b) (fun is wr => waitsOf g wr + one is)
        case atStart => exact ⟨b6, rfl, H6.out⟩
        case round =>
          obtain ⟨b, rfl, h7⟩ := hrel
          have H7 := hid_as h7
          clear h7 H6
          match b, H7 with
          | false, H7 =>
            go_wp2
            go_meet
            case rel => exact H7.out
          | true, H7 =>
            have NX := hid_as H7.out.nxt
            go_wp2_with fail
            refine NX.out.mono ?_
            rintro e w8 ⟨x8, po8, m8, pc8, b8, rfl, h8, hm8⟩
            have H8 := hid_as h8
            have HM8 := hid_as hm8
            clear h8 hm8 NX
            go_wp2
            go_roundw
            case rel => exact ⟨b8, rfl, H8.out⟩
            case measure =>
              have := HM8.out
              simp only [one] at this ⊢
              omega
      case rest =>
        have H7 := hid_as hcut
        have RT := hid_as (rtu_yes u m d ps bo wc HM.out (by rw [HM.out]; exact HF.out) hu hB (HS.out.below hcut.k))
        clear hcut H6
        go_wp2_with fail
        refine RT.out.mono ?_
        rintro e w8 ⟨v8, rfl, own8, k8⟩
        obtain ⟨gb, cb, rfl, hcb⟩ := own_some own8 (fun e => by have := congrArg List.length e; rw [rt_length] at this; cases this)
        have H8 := hid_as (H7.out.hb k8 own8)
        obtain ⟨L, hL⟩ : ∃ L, L = (rt u ps).length := ⟨_, rfl⟩
        have hL6 : L ≤ 256 := by have := HF.out; rw [hL, rt_length]; omega
        have HL := hid_as hL
        rw [← hL] at hcb ⊢
        have HRB := hid_as (rt_bytes hu hB)
        clear own8 k8 RT H7 hL
        go_wp2_with fail
        go_loopw [19, 20] (fun at_ i wr => ∃ A I : Nat, at_ = .int .i64 A ∧ i = .int .i64 I ∧ A ≤ L ∧ I ≤ A ∧ HB w wr g u s gb A (rt u ps)) (fun at_ _ _ => L - (intOf at_).toNat)
        case atStart => exact ⟨0, 0, rfl, rfl, Nat.zero_le _, Nat.zero_le _, H8.out⟩
        case round =>
          obtain ⟨A, I, rfl, rfl, hA, hI, h9⟩ := hrel
          have H9 := hid_as h9
          clear h9 H8
          by_cases hAL : A < L
          case neg =>
            have hA2 : ¬ ((A : Int) < (L : Int)) := by omega
            obtain ⟨B, t, i9, ht9⟩ := H9.out.full (by have := HL.out; omega)
            have NN := hid_as i9.none
            have TT := hid_as (told_li i9 ht9 (by omega) HF.out)
            clear i9 ht9 H9
            go_wp2_with fail
            refine NN.out.mono ?_
            rintro e wx ⟨rfl, hw⟩
            subst wx
            go_wp2_with fail
            refine TT.out.mono ?_
            rintro e wa ⟨rfl, Ba, ta, ia⟩
            have NX := hid_as ia.nxt
            clear ia TT NN
            go_wp2_with fail
            refine NX.out.mono ?_
            rintro e wb ⟨po, pc, rfl, _, sb, ib⟩
            have IB := hid_as ib
            have BT := hid_as (bytes_t sb (HS.out.below ib.k) hB)
            have LF := hid_as ib.left
            clear sb ib NX
            go_wp2_with fail
            refine BT.out.mono ?_
            rintro e wx ⟨rfl, hw⟩
            subst wx
            go_wp2_with fail
            refine LF.out.mono ?_
            rintro e wx ⟨rfl, hw⟩
            subst wx
            go_wp2
            go_ret
            exact ⟨rfl, IB.out.k⟩
          have hA2 : (A : Int) < (L : Int) := by omega
          obtain ⟨R, hR⟩ : ∃ R : Nat, (L : Int) - (A : Int) = (R : Int) := ⟨L - A, by omega⟩
          obtain ⟨wo, rfl⟩ : ∃ wo : World, wo = wr := ⟨_, rfl⟩
          go_upto_if 114 with fail
          go_cut [21] from 101 to 141 (fun v wx => ∃ y : Nat, v = .int .i64 y ∧ 0 < y ∧ y ≤ R ∧ wx = wo)
          case first =>
            by_cases hi : I < q
            · obtain ⟨cb2, cf, rfl, hcell⟩ := sl_cell HC.out H9.out.k (by rw [← HQ.out]; exact hi)
              have hi2 : (I : Int) < (q : Int) := by omega
              have hc3 : cs.getD I 0 < 256 := hCB.at I
              generalize cs.getD I 0 = z at hcell hc3
              by_cases hc : 1 + z % 9 < R
              · have hc2 : (1 : Int) + (z : Int) % 9 < (R : Int) := by omega
                go_wp2
                go_meet
                case rel => exact ⟨1 + z % 9, by go_num, by omega, by omega, rfl⟩
              · have hc2 : ¬ ((1 : Int) + (z : Int) % 9 < (R : Int)) := by omega
                go_wp2
                go_meet
                case rel => exact ⟨R, rfl, by omega, by omega, rfl⟩
            · have hi2 : ¬ ((I : Int) < (q : Int)) := by omega
              go_wp2
              go_meet
              case rel => exact ⟨R, rfl, by omega, by omega, rfl⟩
          case rest =>
            obtain ⟨y, rfl, hy0, hy, rfl⟩ := hcut
            obtain ⟨Q, hQ⟩ : ∃ Q : Nat, (A : Int) + (y : Int) = (Q : Int) := ⟨A + y, by omega⟩
            have hq1 : (A : Int) ≤ (Q : Int) := by omega
            have hq2 : (Q : Int) ≤ (cb : Int) := by omega
            have hq3 : ¬ (cb = A) := by omega
            have hQy : Q - A = y := by omega
            have FD := hid_as (H9.out.feed (n := y) (c := cb - A) HRB.out hy0 (by have := HL.out; omega) (by omega) (by have := HL.out; omega))
            rw [show A + y = Q by omega] at FD
            clear H9
            go_wp2_with fail
            refine FD.out.mono ?_
            rintro e wa ⟨rfl, ha⟩
            have HA := hid_as ha
            clear ha FD
            go_wp2_with fail
            go_loopw [22] (fun kk wr => ∃ K : Nat, kk = .int .i64 K ∧ 1 ≤ K ∧ K ≤ s ∧ HT w wr g u s gb Q K (rt u ps)) (fun kk _ => s - (intOf kk).toNat)
            case atStart => exact ⟨1, rfl, Nat.le_refl _, hs1, HA.out⟩
            case round =>
              obtain ⟨K, rfl, hK1, hK2, hb⟩ := hrel
              have HBB := hid_as hb
              clear hb HA
              by_cases hKs : K < s
              · have hK3 : (K : Int) < (s : Int) := by omega
                have TK := hid_as (HBB.out.tick (by omega) hK1 hKs (by omega) (by have := HL.out; omega))
                go_wp2_with fail
                refine TK.out.mono ?_
                rintro e wd ⟨rfl, hd⟩
                have HD := hid_as hd
                clear hd TK
                go_wp2
                go_roundw
                case rel => exact ⟨K + 1, by go_num, by omega, by omega, HD.out⟩
                case measure => simp [intOf]; omega
              · have hK3 : ¬ ((K : Int) < (s : Int)) := by omega
                obtain rfl : K = s := by omega
                have HE := hid_as (HBB.out.hb (by omega))
                clear HBB
                go_wp2
                go_roundw
                case rel => exact ⟨Q, I + 1, rfl, by go_num, by omega, by omega, HE.out⟩
                case measure => simp [intOf]; omega
theorem hears_law {u : Nat} {k : Int} {ao : Option Addr} {n c : Nat} {v x : Value} {ps cs : List Nat} {w : World} (hu : u < 256) (hR : 0 < n → ∃ lb lo, ao = some ⟨lb, lo, none⟩ ∧ ∀ i, i < n → ∃ bs, RowAt w ⟨lb, lo + i, none⟩ bs) (hs : Sl w v (u8s ps)) (hB : Bytes ps) (hC : Sl w x (u8s cs)) (hCB : Bytes cs) :
    Calls Try.prog 4 #[.int .u8 (u : Int), .int .i64 k, .slice ao n c, v, x] w fun e w' => e = .returned (.bool true) ∧ Below w.heap.size w w' := by
  obtain ⟨bo, d, rfl⟩ := hs.shape
  obtain ⟨co, f, rfl⟩ := hC.shape
  rw [u8s_len] at hs hC ⊢
  rw [u8s_len]
  by_cases h : n ≤ 20 ∧ (1 ≤ ps.length ∧ ps.length ≤ 253) ∧ cs.length ≤ 100
  · exact hears_w u k ao bo co n _ _ c d f ps cs w hu hR hs hB rfl hC hCB rfl h.1 h.2.1 h.2.2
  · exact hears_no _ _ ao bo co n _ _ c d f w (by omega)
end Go.Proofs.Ytgmbboimndepnaa
