/- Timers, way by way (plain mathematics, stage 17). -/
import Derived.Test.YtbpnaenineinmaaM1
namespace Go.Proofs.Ytbpnaenineinmaa
open Fb
theorem ptr_of {k : Int} (h : (k != 0) = true) : tr k = true := h
theorem pton_edge {pt k1 k2 nw : Int} : ton true pt 0 k1 k2 nw = ⟨[b01 (decide (pt ≤ el pt nw nw)), el pt nw nw], 1, nw, b01 (decide (pt ≤ el pt nw nw))⟩ := by
  simp [ton, show tr 0 = false from rfl]
theorem pton_done {pt k0 k1 nw : Int} (h : (k0 != 0) = true) : ton true pt k0 k1 1 nw = ⟨[1, pt], 1, k1, 1⟩ := by
  simp [ton, ptr_of h]
theorem pton_wait {pt k0 k1 k2 nw : Int} (h : (k0 != 0) = true) (h2 : ¬ k2 = 1) : ton true pt k0 k1 k2 nw = ⟨[b01 (decide (pt ≤ el pt nw k1)), el pt nw k1], 1, k1, b01 (decide (pt ≤ el pt nw k1))⟩ := by
  simp [ton, ptr_of h, h2]
theorem ptof_fall {pt et k0 k1 k2 nw : Int} (h : (k0 != 0) = true) : tof false pt et k0 k1 k2 nw = ⟨[b01 (decide (el pt nw nw < pt)), el pt nw nw], 0, nw, if el pt nw nw < pt then 1 else 0⟩ := by
  simp [tof, ptr_of h]
theorem ptof_idle {pt et k1 nw : Int} : tof false pt et 0 k1 0 nw = ⟨[0, et], 0, k1, 0⟩ := by
  simp [tof, show tr 0 = false from rfl]
theorem ptof_run {pt et k1 k2 nw : Int} (h : ¬ k2 = 0) : tof false pt et 0 k1 k2 nw = ⟨[b01 (decide (el pt nw k1 < pt)), el pt nw k1], 0, k1, if el pt nw k1 < pt then k2 else 0⟩ := by
  simp [tof, show tr 0 = false from rfl, h]
theorem ptp_go {pt et k1 k2 nw : Int} (h : ¬ k2 = 1) : tp true pt et 0 k1 k2 nw = if el pt nw nw < pt then ⟨[1, el pt nw nw], 1, nw, 1⟩ else ⟨[0, el pt nw nw], 1, nw, 2⟩ := by
  by_cases e : el pt nw nw < pt <;> simp [tp, show tr 0 = false from rfl, h, e, b01]
theorem ptp_run {pt et k0 k1 nw : Int} : tp true pt et k0 k1 1 nw = if el pt nw k1 < pt then ⟨[1, el pt nw k1], 1, k1, 1⟩ else ⟨[0, el pt nw k1], 1, k1, 2⟩ := by
  by_cases e : el pt nw k1 < pt <;> simp [tp, e, b01]
theorem ptp_hold {pt et k0 k1 k2 nw : Int} (h : (k0 != 0) = true) (h2 : ¬ k2 = 1) : tp true pt et k0 k1 k2 nw = ⟨[0, et], 1, k1, k2⟩ := by
  simp [tp, ptr_of h, h2, b01]
theorem ptp_off1 {pt et k0 k1 nw : Int} : tp false pt et k0 k1 1 nw = if el pt nw k1 < pt then ⟨[1, el pt nw k1], 0, k1, 1⟩ else ⟨[0, 0], 0, k1, 0⟩ := by
  by_cases e : el pt nw k1 < pt <;> simp [tp, e, b01]
theorem ptp_off {pt et k0 k1 k2 nw : Int} (h2 : ¬ k2 = 1) : tp false pt et k0 k1 k2 nw = ⟨[0, 0], 0, k1, 0⟩ := by
  simp [tp, h2, b01]
theorem pctu_hold {pv cv k0 k1 k2 : Int} (h : tr k0 = true) : ctu true false pv cv k0 k1 k2 = ⟨[b01 (decide (pv ≤ cv)), cv], b01 true, k1, k2⟩ := by simp [ctu, h]
theorem pctu_up {pv cv k1 k2 : Int} (h : cv < 32767) : ctu true false pv cv 0 k1 k2 = ⟨[b01 (decide (pv ≤ cv + 1)), cv + 1], b01 true, k1, k2⟩ := by
  simp only [ctu, show tr 0 = false from rfl, Bool.false_eq_true, if_false, Bool.not_false, Bool.and_self, if_true, show min (cv + 1) 32767 = cv + 1 by omega]
theorem pctu_top {pv k1 k2 : Int} (h : pv ≤ 32767) : ctu true false pv 32767 0 k1 k2 = ⟨[b01 true, 32767], b01 true, k1, k2⟩ := by
  rw [show ctu true false pv 32767 0 k1 k2 = ⟨[b01 (decide (pv ≤ 32767)), 32767], b01 true, k1, k2⟩ from rfl, decide_eq_true h]
theorem pctd_hold {pv cv k0 k1 k2 : Int} (h : tr k0 = true) : ctd true false pv cv k0 k1 k2 = ⟨[b01 (decide (cv ≤ 0)), cv], b01 true, k1, k2⟩ := by simp [ctd, h]
theorem pctd_up {pv cv k1 k2 : Int} (h : -32768 < cv) : ctd true false pv cv 0 k1 k2 = ⟨[b01 (decide (cv - 1 ≤ 0)), cv - 1], b01 true, k1, k2⟩ := by
  simp only [ctd, show tr 0 = false from rfl, Bool.false_eq_true, if_false, Bool.not_false, Bool.and_self, if_true, show max (cv - 1) (-32768) = cv - 1 by omega]
theorem pctd_top {pv k1 k2 : Int} : ctd true false pv (-32768) 0 k1 k2 = ⟨[b01 true, -32768], b01 true, k1, k2⟩ := rfl
end Go.Proofs.Ytbpnaenineinmaa
