/- The law of bounds (stage 12). -/
import Derived.Test.YtnponognncdkcaaDoorX3
import Derived.Test.YtnponognncdkcaaDoorD1
import Derived.Deep.CutRange
import Derived.Deep.CutBlock
import Derived.Laws.BytesArg
import Derived.Laws.NewBlocks
namespace Go.Proofs.YtnponognncdkcaaDoor
open Go.RowKit
open Adr Lx
theorem known_bB (w : World) (hT : Tabs w) : Calls Tryd.prog 8 #[] w fun e w' => e = .returned (.bool true) ∧ Below w.heap.size w w' ∧ Tabs w' :=
  (known_c w hT).mono fun _ _ ⟨a, b⟩ => ⟨a, b, hT.below b⟩
theorem bnd_fin : ∀ q : Fin 60, (toks (59 :: 32 :: List.replicate (q + 1) 110) false).2 = if 32 < (q : Nat) + 1 then some (2, 121) else none := by decide +kernel
theorem scn_blank (il : Bool) : ∀ (m f a : Nat) (A : List (Tk × Nat)), m ≤ f → scn il f (List.replicate m 32) a A = (A, none)
  | 0, f, a, A, _ => scn_end
  | m + 1, 0, a, A, h => by omega
  | m + 1, f + 1, a, A, h => by
    rw [List.replicate_succ, scn_cons, if_pos (by cases il <;> rfl)]
    exact scn_blank il m f (a + 1) A (by omega)
theorem toks_blank {m : Nat} (il : Bool) (h : ¬ 65536 < m) : toks (List.replicate m 32) il = ([(nul, m)], none) := by
  unfold toks
  rw [List.length_replicate, if_neg h, scn_blank il m m 0 [] (Nat.le_refl _)]
  rfl
theorem toks_long {m : Nat} (il : Bool) (h : 65536 < m) : (toks (List.replicate m 32) il).2 = some (65536, 121) := by
  unfold toks
  rw [List.length_replicate, if_pos h]
theorem infoByte : (Tryd.prog.info? 5).map (fun i => (i.zero, i.size, i.bytes)) = some (some (.int .u8 0), 1, 1) := by kernel_rfl
/-- make of so many bytes. -/
theorem made (W : World) (n : Nat) (hn : n ≤ 70000) : ∃ W', (Instr.makeSlice 22 (.int .i64 (n : Int)) (.int .i64 (n : Int))).run Tryd.prog W = .ok (.slice (some ⟨W.heap.size, 0, none⟩) n n) W' ∧ Below W.heap.size W W' ∧ W'.heap.size = W.heap.size + 1 ∧ (∀ j, j < n → W'.cell? ⟨W.heap.size, j, none⟩ = some (.int .u8 0)) ∧ ∀ j, W'.frozen? ⟨W.heap.size, j, none⟩ = false := by
  obtain ⟨i0, hi0, hz0, hz1, hz2⟩ := info_parts infoByte
  have h := run_make (P := Tryd.prog) W 22 5 i0 (.int .u8 0) Tryd.underlying22 hi0 hz0 .i64 .i64 n n (by omega) (by omega) (by rw [hz2]; omega) (by omega)
  rw [hz1] at h
  simp only [Int.toNat_natCast, Nat.mul_one] at h
  refine ⟨_, h, below_new1 W _, World.size_alloc .., fun j hj => ?_, fun j => by simp⟩
  rw [World.cell?_alloc_at _ _ _ _ rfl]
  have e : (madeCells (Value.cells (.int .u8 0)) n).toList = List.replicate n (.int .u8 0) := by
    rw [show Value.cells (.int .u8 0) = #[.int .u8 0] from rfl, toList_madeCells_one]
  rw [← Array.getElem?_toList, e, List.getElem?_replicate, if_pos hj]
/-- So many blanks lie in block g, k of them written. -/
structure Bl (w W : World) (g m k : Nat) : Prop where
  done : ∀ j, j < k → W.cell? ⟨g, j, none⟩ = some (.int .u8 32)
  left : ∀ j, k ≤ j → j < m → W.cell? ⟨g, j, none⟩ = some (.int .u8 0)
  fr : ∀ j, W.frozen? ⟨g, j, none⟩ = false
  kept : Below w.heap.size w W
  hi : w.heap.size ≤ g
theorem Bl.step {w W : World} {g m k : Nat} (b : Bl w W g m k) (hk : k < m) : Bl w (W.setCell ⟨g, k, none⟩ (.int .u8 32)) g m (k + 1) := by
  refine ⟨fun j hj => ?_, fun j h1 h2 => ?_, fun j => ?_, b.kept.setCell (p := ⟨g, k, none⟩) b.hi _, b.hi⟩
  · by_cases e : j = k
    · subst e
      exact World.cell?_setCell_same _ _ _ (b.left j (Nat.le_refl _) hk)
    · rw [World.cell?_setCell_other _ _ _ _ (fun e2 => e (by injection e2 with _ e3; exact e3.symm))]
      exact b.done j (by omega)
  · rw [World.cell?_setCell_other _ _ _ _ (fun e2 => by injection e2 with _ e3; omega)]
    exact b.left j (by omega) h2
  · simp [b.fr j]
theorem blanks_str {w W : World} {g m : Nat} (b : Bl w W g m m) : (convert 22 9 (.slice (some ⟨g, 0, none⟩) m m)).run Tryd.prog W = .ok (.string (tx (List.replicate m 32))) W := by
  have h := run_convert_bytes_arg W 22 5 Tryd.underlying22 Tryd.underlying5 g 0 m m (List.replicate m (32 : Int)) (by simp) (fun i hi => by rw [Nat.zero_add, b.done i hi]; simp [List.getD, hi]) 9 Tryd.underlying9
  have e : strOfNums (List.replicate m (32 : Int)) = tx (List.replicate m 32) := by
    unfold strOfNums tx
    rw [List.map_replicate]
    rfl
  rw [h, e]
theorem rep_str (i : Nat) : tx (List.replicate i 110) ++ ⟨#[110]⟩ = tx (List.replicate (i + 1) 110) := by
  rw [show (⟨#[110]⟩ : ByteArray) = tx [110] from rfl, tx_app, List.replicate_succ']
set_option maxHeartbeats 8000000 in
set_option maxRecDepth 100000 in
theorem bounds_w (n : Int) (b0 : -9223372036854775808 ≤ n) (b1 : n ≤ 9223372036854775807) (w : World) (hT : Tabs w) : Calls Tryd.prog 7 #[.int .i64 n] w fun e w' => e = .returned (.bool true) ∧ Below w.heap.size w w' := by
  have K := hid_as (known_bB w hT)
  have PL := hid_as (fun W => hplace_c n 60 (by omega) (by omega) b0 b1 W)
  obtain ⟨q, hq⟩ : ∃ q : Nat, n % 60 = q := ⟨(n % 60).toNat, by omega⟩
  have hq60 : q < 60 := by omega
  rw [hq] at PL
  clear hq
  have hbnd := bnd_fin ⟨q, hq60⟩
  replace hbnd : (toks (59 :: 32 :: List.replicate (q + 1) 110) false).2 = if 32 < q + 1 then some (2, 121) else none := hbnd
  go_enter Tryd.func7, Tryd.ntmps7
  go_wp2_with (first
    | (go_at_call 8; refine K.out.mono ?_; rintro e w1 ⟨rfl, b1, hT1⟩; have hB1 := hid_as b1; replace hT1 := hid_as hT1; clear b1)
    | (go_at_call 13; (with_reducible refine (PL.out _).mono ?_); rintro e w' ⟨rfl, hw⟩; subst w'))
  go_loopw [3, 4] (fun s i wr => ∃ k : Nat, k ≤ q + 1 ∧ i = .int .i64 k ∧ s = .string (tx (List.replicate k 110)) ∧ wr = w1) (fun s i wr => q + 1 - (intOf i).toNat)
  case atStart => exact ⟨0, by omega, rfl, rfl, rfl⟩
  case round =>
    obtain ⟨k, hk, rfl, rfl, hw⟩ := hrel
    subst hw
    by_cases hlt : k < q + 1
    · have hlt' : (k : Int) < 1 + (q : Int) := by omega
      have hsz : (tx (List.replicate k 110)).size = k := by rw [tx_size, List.length_replicate]
      have hz : ¬ 9223372036854775807 < (tx (List.replicate k 110)).size + 1 := by omega
      clear hsz
      have e := hid_as (rep_str k)
      go_wp2
      go_roundw
      case rel => exact ⟨k + 1, by omega, by go_num, by rw [e.out], trivial⟩
      case measure => simp [intOf]; omega
    · have hlt' : ¬ (k : Int) < 1 + (q : Int) := by omega
      have hkq : k = q + 1 := by omega
      subst hkq
      have hX : Hid (((⟨#[59, 32]⟩ : ByteArray) ++ tx (List.replicate (q + 1) 110)).data.toList = 59 :: 32 :: List.replicate (q + 1) 110) := by
        rw [show (⟨#[59, 32]⟩ : ByteArray) = tx [59, 32] from rfl, tx_app, tx_list]; exact hid_as rfl
      have hXs : ((⟨#[59, 32]⟩ : ByteArray) ++ tx (List.replicate (q + 1) 110)).size ≤ 1000000 := by rw [Lib.size_eq, hX.out]; simp; omega
      have hsz : (tx (List.replicate (q + 1) 110)).size = q + 1 := by rw [tx_size, List.length_replicate]
      have hz : ¬ 9223372036854775807 < 2 + (tx (List.replicate (q + 1) 110)).size := by omega
      clear hsz
      by_cases h32 : 32 < q + 1
      · rw [if_pos h32] at hbnd
        have h32' : (32 : Int) < 1 + (q : Int) := by omega
        have TK := hid_as (fun W hW => tokens_no (s := (⟨#[59, 32]⟩ : ByteArray) ++ tx (List.replicate (q + 1) 110)) (il := false) (a := 2) (n := 121) (by rw [hX.out]; exact hbnd) hXs W hW)
        have TE : Hid (∀ W g, Tabs W → W.cell? ⟨g, 0, none⟩ = some (.int .i64 ((2 : Nat) : Int)) → W.cell? ⟨g, 1, none⟩ = some (.int .i64 ((121 : Nat) : Int)) → Calls Tryd.prog 16 #[.iface 47 (.pointer (some ⟨g, 0, none⟩))] W fun e w' => e = .returned (.tuple #[.int .i64 2, .int .i64 121]) ∧ Below W.heap.size W w') := fun W g hW h0 h1 => told_err g 2 121 W hW h0 h1
        clear hX hXs hbnd
        go_upto_region 13 with (first
          | (go_at_call 9; (with_reducible refine (TK.out _ hT1.out).mono ?_); rintro e w3 ⟨g3, rfl, z3, y3, d0, d1, b3⟩; have hT3 := hid_as (hT1.out.below b3); have hB3 := hid_as (below_and hB1.out b3); clear b3)
          | (go_at_call 16; (with_reducible refine (TE.out _ _ hT3.out d0 d1).mono ?_); rintro e WX ⟨rfl, b4⟩; have hBX := hid_as (below_and hB3.out b4); have hTX := hid_as (hT3.out.below b4); clear b4))
        clear TK TE d0 d1
        obtain ⟨W5, hmk, hb5, hz5, hc5, hf5⟩ := made WX (65507 + q) (by omega)
        rw [show ((65507 + q : Nat) : Int) = 65506 + (1 + (q : Int)) by omega] at hmk
        have BL0 : Hid (Bl w W5 WX.heap.size (65507 + q) 0) := ⟨fun j hj => by omega, fun j _ hj => hc5 j hj, hf5, hBX.out.trans (hb5.mono hBX.out.size), hBX.out.size⟩
        have hT5 := hid_as (hTX.out.below hb5)
        generalize hM : 65507 + q = M at *
        generalize WX.heap.size = gb at *
        clear hb5 hz5 hc5 hf5
        have hMi : (M : Int) = 65506 + (1 + (q : Int)) := by omega
        replace hMi := hid_as hMi
        go_wp2
        go_loopw [10] (fun i wr => ∃ k : Nat, k ≤ M ∧ i = .int .i64 k ∧ Hid (Bl w wr gb M k) ∧ Hid (Tabs wr)) (fun i wr => M - (intOf i).toNat)
        case atStart => exact ⟨0, by omega, rfl, BL0, hT5⟩
        case round =>
          obtain ⟨k, hk, rfl, hbl, hTr⟩ := hrel
          by_cases hlt : k < M
          · have hlt' : (k : Int) < M := by omega
            have hdk : decide ((M : Int) ≤ k) = false := decide_eq_false (by omega)
            have d0 := hbl.out.left k (Nat.le_refl _) hlt
            have d1 := hbl.out.fr k
            have h2 := hid_as (hbl.out.step hlt)
            have h3 := hid_as (hT.below h2.out.kept)
            go_wp2
            go_roundw
            case rel => exact ⟨k + 1, by omega, by go_num, h2, h3⟩
            case measure => simp [intOf]; omega
          · have hkM : k = M := by omega
            subst hkM
            have hcv := blanks_str hbl.out
            have hBr := hid_as hbl.out.kept
            clear hbl BL0
            generalize hX2 : tx (List.replicate k 32) = X2 at *
            have hX2l : Hid (X2.data.toList = List.replicate k 32) := by rw [← hX2, tx_list]; exact hid_as rfl
            have hX2s : X2.size ≤ 1000000 := by rw [Lib.size_eq, hX2l.out, List.length_replicate]; omega
            clear hX2
            have TK2 := hid_as (fun W hW => tokens_no (s := X2) (il := true) (a := 65536) (n := 121) (by rw [hX2l.out]; exact toks_long true (by omega)) hX2s W hW)
            have TE2 : Hid (∀ W g, Tabs W → W.cell? ⟨g, 0, none⟩ = some (.int .i64 ((65536 : Nat) : Int)) → W.cell? ⟨g, 1, none⟩ = some (.int .i64 ((121 : Nat) : Int)) → Calls Tryd.prog 16 #[.iface 47 (.pointer (some ⟨g, 0, none⟩))] W fun e w' => e = .returned (.tuple #[.int .i64 65536, .int .i64 121]) ∧ Below W.heap.size W w') := fun W g hW h0 h1 => told_err g 65536 121 W hW h0 h1
            have hbig : (65536 : Int) < k := by omega
            go_wp2_with (first
              | (go_at_call 9; (with_reducible refine (TK2.out _ hTr.out).mono ?_); rintro e w7 ⟨g7, rfl, z7, y7, d0, d1, b7⟩; have hT7 := hid_as (hTr.out.below b7); have hB7 := hid_as (below_and hBr.out b7); clear b7)
              | (go_at_call 16; (with_reducible refine (TE2.out _ _ hT7.out d0 d1).mono ?_); rintro e w8 ⟨rfl, b8⟩; have hB8 := hid_as (below_and hB7.out b8); clear b8))
            go_ret
            exact ⟨rfl, hB8.out⟩
      · rw [if_neg h32] at hbnd
        have h32' : ¬ (32 : Int) < 1 + (q : Int) := by omega
        have hL : toks (59 :: 32 :: List.replicate (q + 1) 110) false = ((toks (59 :: 32 :: List.replicate (q + 1) 110) false).1, none) := by rw [← hbnd]
        have TK := hid_as (fun W hW => tokens_yes (s := (⟨#[59, 32]⟩ : ByteArray) ++ tx (List.replicate (q + 1) 110)) (il := false) (by rw [hX.out]; exact hL) hXs W hW)
        generalize ((toks (59 :: 32 :: List.replicate (q + 1) 110) false).1).length = nl at *
        clear hX hXs hbnd hL
        go_upto_region 13 with (first
          | (go_at_call 9; (with_reducible refine (TK.out _ hT1.out).mono ?_); rintro e WX ⟨g3, p3, rfl, z3, y3, l3, b3⟩; have hTX := hid_as (hT1.out.below b3); have hBX := hid_as (below_and hB1.out b3); clear b3 l3)
          | (go_at_call 16; (with_reducible refine (told_nil _).mono ?_); rintro e w' ⟨rfl, hw⟩; subst w'))
        clear TK
        by_cases h30 : 29 < q
        · obtain ⟨W5, hmk, hb5, hz5, hc5, hf5⟩ := made WX (65507 + q) (by omega)
          rw [show ((65507 + q : Nat) : Int) = 65506 + (1 + (q : Int)) by omega] at hmk
          have BL0 : Hid (Bl w W5 WX.heap.size (65507 + q) 0) := ⟨fun j hj => by omega, fun j _ hj => hc5 j hj, hf5, hBX.out.trans (hb5.mono hBX.out.size), hBX.out.size⟩
          have hT5 := hid_as (hTX.out.below hb5)
          generalize hM : 65507 + q = M at *
          generalize WX.heap.size = gb at *
          clear hb5 hz5 hc5 hf5
          have hMi : (M : Int) = 65506 + (1 + (q : Int)) := by omega
          replace hMi := hid_as hMi
          go_wp2
          go_loopw [10] (fun i wr => ∃ k : Nat, k ≤ M ∧ i = .int .i64 k ∧ Hid (Bl w wr gb M k) ∧ Hid (Tabs wr)) (fun i wr => M - (intOf i).toNat)
          case atStart => exact ⟨0, by omega, rfl, BL0, hT5⟩
          case round =>
            obtain ⟨k, hk, rfl, hbl, hTr⟩ := hrel
            by_cases hlt : k < M
            · have hlt' : (k : Int) < M := by omega
              have hdk : decide ((M : Int) ≤ k) = false := decide_eq_false (by omega)
              have d0 := hbl.out.left k (Nat.le_refl _) hlt
              have d1 := hbl.out.fr k
              have h2 := hid_as (hbl.out.step hlt)
              have h3 := hid_as (hT.below h2.out.kept)
              go_wp2
              go_roundw
              case rel => exact ⟨k + 1, by omega, by go_num, h2, h3⟩
              case measure => simp [intOf]; omega
            · have hkM : k = M := by omega
              subst hkM
              have hcv := blanks_str hbl.out
              have hBr := hid_as hbl.out.kept
              clear hbl BL0
              generalize hX2 : tx (List.replicate k 32) = X2 at *
              have hX2l : Hid (X2.data.toList = List.replicate k 32) := by rw [← hX2, tx_list]; exact hid_as rfl
              have hX2s : X2.size ≤ 1000000 := by rw [Lib.size_eq, hX2l.out, List.length_replicate]; omega
              clear hX2
              have TK2 := hid_as (fun W hW => tokens_no (s := X2) (il := true) (a := 65536) (n := 121) (by rw [hX2l.out]; exact toks_long true (by omega)) hX2s W hW)
              have TE2 : Hid (∀ W g, Tabs W → W.cell? ⟨g, 0, none⟩ = some (.int .i64 ((65536 : Nat) : Int)) → W.cell? ⟨g, 1, none⟩ = some (.int .i64 ((121 : Nat) : Int)) → Calls Tryd.prog 16 #[.iface 47 (.pointer (some ⟨g, 0, none⟩))] W fun e w' => e = .returned (.tuple #[.int .i64 65536, .int .i64 121]) ∧ Below W.heap.size W w') := fun W g hW h0 h1 => told_err g 65536 121 W hW h0 h1
              have hbig : (65536 : Int) < k := by omega
              go_wp2_with (first
                | (go_at_call 9; (with_reducible refine (TK2.out _ hTr.out).mono ?_); rintro e w7 ⟨g7, rfl, z7, y7, d0, d1, b7⟩; have hT7 := hid_as (hTr.out.below b7); have hB7 := hid_as (below_and hBr.out b7); clear b7)
                | (go_at_call 16; (with_reducible refine (TE2.out _ _ hT7.out d0 d1).mono ?_); rintro e w8 ⟨rfl, b8⟩; have hB8 := hid_as (below_and hB7.out b8); clear b8))
              go_ret
              exact ⟨rfl, hB8.out⟩
        · obtain ⟨W5, hmk, hb5, hz5, hc5, hf5⟩ := made WX (65507 + q) (by omega)
          rw [show ((65507 + q : Nat) : Int) = 65506 + (1 + (q : Int)) by omega] at hmk
          have BL0 : Hid (Bl w W5 WX.heap.size (65507 + q) 0) := ⟨fun j hj => by omega, fun j _ hj => hc5 j hj, hf5, hBX.out.trans (hb5.mono hBX.out.size), hBX.out.size⟩
          have hT5 := hid_as (hTX.out.below hb5)
          generalize hM : 65507 + q = M at *
          generalize WX.heap.size = gb at *
          clear hb5 hz5 hc5 hf5
          have hMi : (M : Int) = 65506 + (1 + (q : Int)) := by omega
          replace hMi := hid_as hMi
          go_wp2
          go_loopw [10] (fun i wr => ∃ k : Nat, k ≤ M ∧ i = .int .i64 k ∧ Hid (Bl w wr gb M k) ∧ Hid (Tabs wr)) (fun i wr => M - (intOf i).toNat)
          case atStart => exact ⟨0, by omega, rfl, BL0, hT5⟩
          case round =>
            obtain ⟨k, hk, rfl, hbl, hTr⟩ := hrel
            by_cases hlt : k < M
            · have hlt' : (k : Int) < M := by omega
              have hdk : decide ((M : Int) ≤ k) = false := decide_eq_false (by omega)
              have d0 := hbl.out.left k (Nat.le_refl _) hlt
              have d1 := hbl.out.fr k
              have h2 := hid_as (hbl.out.step hlt)
              have h3 := hid_as (hT.below h2.out.kept)
              go_wp2
              go_roundw
              case rel => exact ⟨k + 1, by omega, by go_num, h2, h3⟩
              case measure => simp [intOf]; omega
            · have hkM : k = M := by omega
              subst hkM
              have hcv := blanks_str hbl.out
              have hBr := hid_as hbl.out.kept
              clear hbl BL0
              generalize hX2 : tx (List.replicate k 32) = X2 at *
              have hX2l : Hid (X2.data.toList = List.replicate k 32) := by rw [← hX2, tx_list]; exact hid_as rfl
              have hX2s : X2.size ≤ 1000000 := by rw [Lib.size_eq, hX2l.out, List.length_replicate]; omega
              clear hX2
              have TK2 : Hid (∀ W, Tabs W → Calls Tryd.prog 9 #[.string X2, .bool true] W fun e w' => ∃ g cap, e = .returned (.tuple #[.slice (some ⟨g, 0, none⟩) 1 cap, .nilIface]) ∧ W.heap.size ≤ g ∧ g < w'.heap.size ∧ Laid w' g [(nul, k)] ∧ Below W.heap.size W w') := fun W hW => tokens_yes (s := X2) (il := true) (L := [(nul, k)]) (by rw [hX2l.out]; exact toks_blank true (by omega)) hX2s W hW
              have hbig : ¬ (65536 : Int) < k := by omega
              go_wp2_with (first
                | (go_at_call 9; (with_reducible refine (TK2.out _ hTr.out).mono ?_); rintro e w7 ⟨g7, p7, rfl, z7, y7, l7, b7⟩; have q4 := l7 4 _ rfl; have hB7 := hid_as (below_and hBr.out b7); clear b7 l7)
                | (go_at_call 16; (with_reducible refine (told_nil _).mono ?_); rintro e w' ⟨rfl, hw⟩; subst w'))
              go_ret
              exact ⟨rfl, hB7.out⟩
end Go.Proofs.YtnponognncdkcaaDoor
