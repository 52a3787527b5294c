/- The walks: Next. -/
import Derived.Test.YtgmbboimndepnaaL2
namespace Go.Proofs.Ytgmbboimndepnaa
open Go.RowKit
open Pdu
set_option maxHeartbeats 800000 in
theorem next_none (g : Nat) (l : LS) (w : World) (s : Ln w g l) (h0 : l.n = 0) : Calls Try.prog 14 #[.pointer (some ⟨g, 0, none⟩)] w fun e w' => e = .returned (.tuple #[.int .u8 0, .slice none 0 0, .bool false]) ∧ w' = w := by
  have hc := s.cWaits
  rw [h0] at hc
  clear s h0
  go_enter Try.func14, Try.ntmps14
  go_wp2
  refine bodyPost_ret (v := .tuple #[.int .u8 0, .slice none 0 0, .bool false]) (by simp [results, Try.results14, go_sem]) rfl ⟨rfl, rfl⟩
/-- The first frame has been told. -/
def LS.pop (l : LS) : LS := { l with ws := (l.ws.set (2 * l.f) (.int .u8 0)).set (2 * l.f + 1) (.slice none 0 0), f := (l.f + 1) % 8, n := l.n - 1 }
set_option maxRecDepth 100000 in
set_option maxHeartbeats 1600000 in
theorem next_some (g U : Nat) (po : Option Addr) (m pc : Nat) (l : LS) (w : World) (s : Ln w g l) (h0 : 0 < l.n) (h1 : l.ws[2 * l.f]? = some (.int .u8 (U : Int))) (h2 : l.ws[2 * l.f + 1]? = some (.slice po m pc)) :
    Calls Try.prog 14 #[.pointer (some ⟨g, 0, none⟩)] w fun e w' => e = .returned (.tuple #[.int .u8 (U : Int), .slice po m pc, .bool true]) ∧ Turn g w w' ∧ Ln w' g l.pop := by
  have cn := s.cWaits
  have cf := s.cFirst
  have c1 := s.cWait h1
  have c2 := s.cWait h2
  have ff := s.free
  have hg := s.lt
  have hf := s.fst
  have hn := s.num
  have S := hid_as s
  obtain ⟨f, ef⟩ : ∃ f, f = l.f := ⟨_, rfl⟩
  obtain ⟨n, en⟩ : ∃ n, n = l.n := ⟨_, rfl⟩
  rw [← ef] at cf hf
  rw [← en] at cn h0 hn
  rw [show 261 + 2 * l.f = 261 + f * 2 by omega] at c1
  rw [show 261 + (2 * l.f + 1) = 261 + f * 2 + 1 by omega] at c2
  have EF := hid_as ef
  have EN := hid_as en
  clear s h1 h2 ef en
  have d0 : ((n : Int) == 0) = false := by rw [beq_eq_false_iff_ne]; omega
  have hf8 : (f : Int) < 8 := by omega
  go_enter Try.func14, Try.ntmps14
  go_upto_region 3 with fail
  go_region
  go_upto_region 4 with fail
  go_region
  go_upto_region 7 with fail
  go_region
  go_wp2
  refine bodyPost_ret (v := .tuple #[.int .u8 (U : Int), .slice po m pc, .bool true]) (by simp [results, Try.results14, go_sem]) rfl ⟨rfl, ?_⟩
  have T : Turn g w ((((w.setCell ⟨g, 261 + f * 2, none⟩ (.int .u8 0)).setCell ⟨g, 261 + f * 2 + 1, none⟩ (.slice none 0 0)).setCell ⟨g, 277, none⟩ (.int .i64 (((f : Int) + 1) % 8))).setCell ⟨g, 278, none⟩ (.int .i64 ((n : Int) - 1))) := ((((Turn.refl g w).set _ _).set _ _).set _ _).set _ _
  refine ⟨(((T.alloc _).drew).drew).drew, ?_⟩
  have L4 := (((S.out.setWait (2 * f) (.int .u8 0) (by omega)).setWait (2 * f + 1) (.slice none 0 0) (by omega)).setFirst ((f + 1) % 8) (by omega)).setWaits (n - 1) (by omega)
  rw [show 261 + 2 * f = 261 + f * 2 by omega, show 261 + (2 * f + 1) = 261 + f * 2 + 1 by omega, show (((f + 1) % 8 : Nat) : Int) = ((f : Int) + 1) % 8 by omega, show ((n - 1 : Nat) : Int) = (n : Int) - 1 by omega] at L4
  have L5 := L4.below (below_new (Below.refl _ _) (.cells #[.int .u8 (U : Int), .slice po m pc] 49)) L4.lt
  unfold LS.pop
  rw [← EF.out, ← EN.out]
  exact L5.drew.drew.drew
end Go.Proofs.Ytgmbboimndepnaa
