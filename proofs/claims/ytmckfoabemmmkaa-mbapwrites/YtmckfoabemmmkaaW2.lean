/- The walks: Write. -/
import Derived.Test.YtmckfoabemmmkaaW1
namespace Go.Proofs.Ytmckfoabemmmkaa
open Go.RowKit
open Pdu
set_option maxHeartbeats 1600000 in
theorem write_no (x0 x1 : Value) (ao : Option Addr) (n cap m : Nat) (w : World) (hm : 1 + (n : Int) = (m : Int)) (hb : n ≤ 1000000) (hf : ¬ (2 ≤ m ∧ m ≤ 254)) :
    Calls Try.prog 7 #[.agg #[x0, x1, .slice ao n cap]] w fun e w' => e = .returned (.tuple #[.slice none 0 0, .int .i64 41]) ∧ Below w.heap.size w w' := by
  have F := fun (W : World) => hid_as (fits_f m W hf)
  clear hf
  go_enter Try.func7, Try.ntmps7
  go_wp2_with fail
  refine (F _).out.mono ?_
  rintro e w1 ⟨rfl, hw⟩
  subst w1
  go_wp2
  go_ret2
  exact ⟨rfl, below_new (Below.refl _ w) _⟩
theorem made_own (X : World) (c base : Nat) (hb : base ≤ X.heap.size) (hc : c ≤ 1000000) : (X.alloc (.cells (madeCells #[.int .u8 0] c) 5)).ownsRow base 5 1 (.slice (some ⟨X.heap.size, 0, none⟩) 0 c) ([] : List Nat).length (u8s []) :=
  World.ownsRow_made X _ c hb (by unfold maxLen; omega) (by rw [size_madeCells, Nat.mul_one])
theorem lit_sl (w : World) (x : Nat) : Sl (w.alloc (.cells #[.int .u8 x] 5)) (.slice (some ⟨w.heap.size, 0, none⟩) 1 1) (u8s [x]) := own_sl (lit_own w x)
theorem putZero_c {base : Nat} {bv : Value} {bs : List Nat} {w : World} (hsz : bs.length ≤ 1000000) (hown : w.ownsRow base 5 1 bv bs.length (u8s bs)) (hbase : base ≤ w.heap.size) :
    Calls Try.prog 16 #[bv, .int .u16 0] w fun e w' => ∃ v', e = .returned v' ∧ w'.ownsRow base 5 1 v' (bs ++ wd 0).length (u8s (bs ++ wd 0)) ∧ Below base w w' := putWord_c (x := 0) (by decide) hsz hown hbase
set_option maxHeartbeats 1600000 in
theorem write_yes (id unit n cap m c : Nat) (pdu : List Nat) (ao : Option Addr) (w : World) (hn : n = pdu.length) (hm : 1 + (n : Int) = (m : Int)) (hc : 6 + (m : Int) = (c : Int)) (hf : 2 ≤ m ∧ m ≤ 254) (hi : id < 65536) (hs : Sl w (.slice ao n cap) (u8s pdu)) :
    Calls Try.prog 7 #[.agg #[.int .u16 id, .int .u8 unit, .slice ao n cap]] w fun e w' => ∃ v', e = .returned (.tuple #[v', .int .i64 0]) ∧ w'.ownsRow w.heap.size 5 1 v' (mb id unit pdu).length (u8s (mb id unit pdu)) ∧ Below w.heap.size w w' := by
  obtain ⟨i0, hi0, hz0, hz1, hz2⟩ := info_parts Try.infoByte
  have F := fun (W : World) => hid_as (fits_t m W hf)
  have hmk : ∀ W : World, (Instr.makeSlice 23 (.int .i64 0) (.int .i64 (c : Int))).run Try.prog W = .ok (.slice (some ⟨W.heap.size, 0, none⟩) 0 c) (W.alloc (.cells (madeCells (Value.cells (.int .u8 0)) (c * 1)) 5)) := fun W => by
    have h := run_make (P := Try.prog) W 23 5 i0 (.int .u8 0) Try.underlying23 hi0 hz0 .i64 .i64 0 c (by omega) (by omega) (by rw [hz2]; omega) (by omega)
    rw [hz1] at h
    simpa using h
  have P1 := fun (o : Obj) => hid_as (putWord_c (base := w.heap.size + 1) (bs := []) hi (by simp) (made_own (w.alloc o) c (w.heap.size + 1) (by simp) (by omega)) (by simp))
  simp only [World.size_alloc] at P1
  have HS := hid_as hs
  have HN := hid_as hn
  have HM := hid_as hf
  clear hs hn
  go_enter Try.func7, Try.ntmps7
  go_wp2_with fail
  refine (F _).out.mono ?_
  rintro e w1 ⟨rfl, hw⟩
  subst w1
  go_wp2_with fail
  refine (P1 _).out.mono ?_
  rintro e w1 ⟨v1, rfl, own1, k1⟩
  have K1 : Hid (Below (w.heap.size + 1) (w.alloc (.cells #[.int .u16 id, .int .u8 unit, .slice ao n cap] 25)) w1) := ((Below.refl _ _).alloc (by simp) _).trans k1
  have O1 := hid_as own1
  clear own1 k1 F hmk P1
  have h1 : w.heap.size + 1 ≤ w1.heap.size := by have := K1.out.size; simpa using this
  have B1 := hid_as ((Box.new w (.int .u16 id) (.int .u8 unit) (.slice ao n cap) 25).below K1.out (Nat.lt_succ_self _))
  have P2 := hid_as (putZero_c (by simp [wd]) O1.out h1)
  go_wp2_with fail
  with_reducible refine P2.out.mono ?_
  rintro e w2 ⟨v2, rfl, own2, k2⟩
  have O2 := hid_as own2
  have h2 : w.heap.size + 1 ≤ w2.heap.size := Nat.le_trans h1 k2.size
  have B2 := hid_as (B1.out.below k2 (Nat.lt_succ_self _))
  have K2 := hid_as (K1.out.trans k2)
  clear own2 k2 O1 B1 K1 P2
  have P3 := hid_as (putWord_c (x := m) (by have := HM.out; omega) (by simp [wd]) O2.out h2)
  go_wp2_with fail
  with_reducible refine P3.out.mono ?_
  rintro e w3 ⟨v3, rfl, own3, k3⟩
  have O3 := hid_as own3
  have h3 : w.heap.size + 1 ≤ w3.heap.size := Nat.le_trans h2 k3.size
  have B3 := hid_as (B2.out.below k3 (Nat.lt_succ_self _))
  have K3 := hid_as (K2.out.trans k3)
  clear own3 k3 O2 B2 K2 P3
  obtain ⟨y4, w4, hAp4, own4, g4⟩ := run_append_sl (P := Try.prog) (w := w3.alloc (.cells #[.int .u8 unit] 5)) (w.heap.size + 1) 23 23 5 i0 (.int .u8 0) 1 Try.underlying23 hi0 hz0 hz1 hz2 rfl v3 _ _ (O3.out.alloc _) (.slice (some ⟨w3.heap.size, 0, none⟩) 1 1) (u8s [unit]) (lit_sl w3 unit) (u8s_one _) (by simp [wd, u8s]; decide) (by simp [wd, u8s]) (by simp; omega)
  rw [← u8s_app] at own4
  have HA4 := hid_as hAp4
  have k4 : Below (w.heap.size + 1) w3 w4 := own_grow O3.out h3 g4
  have h4 : w.heap.size + 1 ≤ w4.heap.size := Nat.le_trans h3 k4.size
  have B4 := hid_as (B3.out.below k4 (Nat.lt_succ_self _))
  have K4 := hid_as (K3.out.trans k4)
  have s4 : Sl w4 (.slice ao n cap) (u8s pdu) := (HS.out.below (below_new (Below.refl _ w) (.cells #[.int .u16 id, .int .u8 unit, .slice ao n cap] 25))).below (by simpa using K4.out)
  obtain ⟨y5, w5, hAp5, own5, g5⟩ := run_append_sl (P := Try.prog) (w := w4) (w.heap.size + 1) 23 23 5 i0 (.int .u8 0) 1 Try.underlying23 hi0 hz0 hz1 hz2 rfl y4 _ _ own4 (.slice ao n cap) (u8s pdu) s4 (u8s_one _) (by have := HN.out; simp [wd, u8s_len]; unfold maxLen; omega) (by have := HN.out; simp [wd, u8s_len]; omega) h4
  rw [← u8s_app] at own5
  have HA5 := hid_as hAp5
  have k5 : Below (w.heap.size + 1) w4 w5 := (Below.refl _ w4).grown g5 h4 (fun g hg' => (own4.lt g hg').1)
  have K5 : Hid (Below w.heap.size w w5) := ((Below.refl _ w).alloc (Nat.le_refl _) (.cells #[.int .u16 id, .int .u8 unit, .slice ao n cap] 25)).trans ((K4.out.trans k5).mono (Nat.le_succ _))
  have O5 := hid_as (own_base own5 (Nat.le_succ w.heap.size))
  obtain ⟨c0, c1, c2⟩ := B3.out
  clear hAp4 own4 g4 k4 K4 s4 hAp5 own5 g5 k5 O3 K3 B3
  go_upto_region 9 with (at_builtin; refine Lib.wpList_append_run _ rfl _ _ _ _ rfl _ _ rfl rfl _ _ HA4.out ?_)
  clear c0 c1 c2 HA4
  obtain ⟨c0, c1, c2⟩ := B4.out
  go_wp2_with (at_builtin; refine Lib.wpList_append_run _ rfl _ _ _ _ rfl _ _ rfl rfl _ _ HA5.out ?_)
  go_ret2
  have e : [] ++ wd id ++ wd 0 ++ wd m ++ [unit] ++ pdu = mb id unit pdu := by
    have hm' : m = pdu.length + 1 := by have := HN.out; omega
    rw [hm']
    simp [mb]
  refine ⟨_, rfl, ?_, K5.out⟩
  have h := O5.out
  rw [e] at h
  have hl := h.1
  rw [Nat.mul_one, u8s_len] at hl
  rw [hl]
  exact h
end Go.Proofs.Ytmckfoabemmmkaa
