/- The walk: the reference reads a reply: no request; too short. -/
import Derived.Test.YtehbbkdiekgpbaaROPB
namespace Go.Proofs.Ytehbbkdiekgpbaa
open Go.RowKit
open Pdu
set_option linter.unusedSimpArgs false in
set_option linter.unusedVariables false in
set_option maxRecDepth 100000 in
set_option maxHeartbeats 1600000 in
theorem rop_unfit (fn a1 a2 a3 nb nr ac rc : Nat) (a4 : List Bool) (a5 : List Nat) (ao ro : Option Addr) (bs : List Nat) (w : World) (hq : IsRq w (.agg #[.int .u8 fn, .int .u16 a1, .int .u16 a2, .int .u16 a3, .slice ao nb ac, .slice ro nr rc]) ⟨fn, a1, a2, a3, a4, a5⟩) (lb : a4.length ≤ 2500) (lr : a5.length ≤ 200) (hf : ¬ Rq.Fits ⟨fn, a1, a2, a3, a4, a5⟩) (so : Value) :
    Calls Try.prog 22 #[.agg #[.int .u8 fn, .int .u16 a1, .int .u16 a2, .int .u16 a3, .slice ao nb ac, .slice ro nr rc], so] w fun e w' => AnsEnd ⟨fn, a1, a2, a3, a4, a5⟩ bs w e w' := by
  have HQ := hid_as hq
  have RQ := hid_as (fun (W : World) (h : Below w.heap.size w W) => ref_request (hq.below h) lb lr)
  have HF := hid_as hf
  clear hq hf
  go_enter Try.func22, Try.ntmps22
  go_wp2_with fail
  have TW := two_new w fn a1 a2 a3 (.slice ao nb ac) (.slice ro nr rc)
  generalize ((w.alloc (.cells #[.int .u8 (fn : Nat), .int .u16 a1, .int .u16 a2, .int .u16 a3, .slice ao nb ac, .slice ro nr rc] 26)).alloc (.cells #[.int .u8 0, .int .u8 0, .int .u16 0, .int .u16 0, .slice none 0 0, .slice none 0 0] 44)) = W at TW ⊢
  refine (RQ.out _ TW.bel).mono ?_
  rintro e w1 ⟨hb1, hend⟩
  have q1 := (hb1.block _ TW.siz).trans TW.res
  have B1 := TW.box.below hb1 (Nat.lt_of_succ_lt TW.siz)
  have K1 : Hid (Below w.heap.size w w1) := below_and TW.bel hb1
  have z1 : w.heap.size + 1 < w1.heap.size := Nat.lt_of_lt_of_le TW.siz hb1.size
  clear hb1 TW RQ
  rcases hend with ⟨hyes, _⟩ | ⟨_, rfl⟩
  case inl => exact absurd hyes HF.out
  obtain ⟨c0, c1, c2, c3, c4, c5⟩ := B1
  obtain ⟨⟨r0, r1, r2, r3, r4, r5⟩, hfz⟩ := block6 q1
  have g0 := hfz 0
  have g1 := hfz 1
  have g2 := hfz 2
  have g3 := hfz 3
  have g4 := hfz 4
  have g5 := hfz 5
  clear hfz
  go_wp2
  have BF := set_box (Box.mk r0 r1 r2 r3 r4 r5) (.int .u8 0) (.int .u8 0) (.int .u16 0) (.int .u16 0) (.slice none 0 0) (.slice none 0 0)
  obtain ⟨e0, e1, e2, e3, e4, e5⟩ := BF
  refine bodyPost_ret (v := .tuple #[.agg #[.int .u8 0, .int .u8 0, .int .u16 0, .int .u16 0, .slice none 0 0, .slice none 0 0], .int .i64 30]) (by simp [results, Try.results22, go_sem, e0, e1, e2, e3, e4, e5]) rfl ⟨below_six K1.out (Nat.le_succ _) _ _ _ _ _ _, Or.inr ⟨fun h => HF.out h.1, rfl⟩⟩
set_option linter.unusedSimpArgs false in
set_option linter.unusedVariables false in
set_option maxRecDepth 100000 in
set_option maxHeartbeats 1600000 in
theorem rop_short (fn m cap a1 a2 a3 nb nr ac rc : Nat) (a4 : List Bool) (a5 : List Nat) (ao ro : Option Addr) (bs : List Nat) (w : World) (hq : IsRq w (.agg #[.int .u8 fn, .int .u16 a1, .int .u16 a2, .int .u16 a3, .slice ao nb ac, .slice ro nr rc]) ⟨fn, a1, a2, a3, a4, a5⟩) (lb : a4.length ≤ 2500) (lr : a5.length ≤ 200) (hf : Rq.Fits ⟨fn, a1, a2, a3, a4, a5⟩) (so : Option Addr) (hl : m = bs.length) (hm : m < 2) :
    Calls Try.prog 22 #[.agg #[.int .u8 fn, .int .u16 a1, .int .u16 a2, .int .u16 a3, .slice ao nb ac, .slice ro nr rc], .slice so m cap] w fun e w' => AnsEnd ⟨fn, a1, a2, a3, a4, a5⟩ bs w e w' := by
  have l2 : decide ((m : Int) < 2) = true := decide_eq_true (by omega)
  have HM : Hid (bs.length < 2) := by unfold Hid; omega
  clear hl hm
  have HQ := hid_as hq
  have RQ := hid_as (fun (W : World) (h : Below w.heap.size w W) => ref_request (hq.below h) lb lr)
  have HF := hid_as hf
  clear hq hf
  go_enter Try.func22, Try.ntmps22
  go_wp2_with fail
  have TW := two_new w fn a1 a2 a3 (.slice ao nb ac) (.slice ro nr rc)
  generalize ((w.alloc (.cells #[.int .u8 (fn : Nat), .int .u16 a1, .int .u16 a2, .int .u16 a3, .slice ao nb ac, .slice ro nr rc] 26)).alloc (.cells #[.int .u8 0, .int .u8 0, .int .u16 0, .int .u16 0, .slice none 0 0, .slice none 0 0] 44)) = W at TW ⊢
  refine (RQ.out _ TW.bel).mono ?_
  rintro e w1 ⟨hb1, hend⟩
  have q1 := (hb1.block _ TW.siz).trans TW.res
  have B1 := TW.box.below hb1 (Nat.lt_of_succ_lt TW.siz)
  have K1 : Hid (Below w.heap.size w w1) := below_and TW.bel hb1
  have z1 : w.heap.size + 1 < w1.heap.size := Nat.lt_of_lt_of_le TW.siz hb1.size
  clear hb1 TW RQ
  rcases hend with ⟨_, yv, rfl, owny⟩ | ⟨hno, _⟩
  case inr => exact absurd HF.out hno
  obtain ⟨c0, c1, c2, c3, c4, c5⟩ := B1
  obtain ⟨⟨r0, r1, r2, r3, r4, r5⟩, hfz⟩ := block6 q1
  have g0 := hfz 0
  have g1 := hfz 1
  have g2 := hfz 2
  have g3 := hfz 3
  have g4 := hfz 4
  have g5 := hfz 5
  clear hfz
  go_wp2
  have BF := set_box (Box.mk r0 r1 r2 r3 r4 r5) (.int .u8 0) (.int .u8 0) (.int .u16 0) (.int .u16 0) (.slice none 0 0) (.slice none 0 0)
  obtain ⟨e0, e1, e2, e3, e4, e5⟩ := BF
  refine bodyPost_ret (v := .tuple #[.agg #[.int .u8 0, .int .u8 0, .int .u16 0, .int .u16 0, .slice none 0 0, .slice none 0 0], .int .i64 30]) (by simp [results, Try.results22, go_sem, e0, e1, e2, e3, e4, e5]) rfl ⟨below_six K1.out (Nat.le_succ _) _ _ _ _ _ _, Or.inr ⟨fun h => by have := isAns_len h; have := HM.out; omega, rfl⟩⟩
end Go.Proofs.Ytehbbkdiekgpbaa
