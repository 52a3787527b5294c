/- A line in memory: its cells; the frames that wait. -/
import Derived.Test.YtgmbboimndepnaaU1
import Derived.Test.YtgmbboimndepnaaW5
namespace Go.Proofs.Ytgmbboimndepnaa
open Go.RowKit
open Pdu
/-- What a line holds: its unit, its silence, the ticks, the room, how many bytes are held, the waiting cells, the first one's place, how many wait. -/
structure LS where
  u : Nat
  s : Nat
  t : Nat
  room : List Nat
  h : Nat
  ws : List Value
  f : Nat
  n : Nat
def LS.row (l : LS) : List Value := (.int .u8 (l.u : Int) :: .int .i64 (l.s : Int) :: .int .i64 (l.t : Int) :: u8s l.room) ++ (.int .i64 (l.h : Int) :: (l.ws ++ [.int .i64 (l.f : Int), .int .i64 (l.n : Int)]))
/-- A line, in block g. -/
structure Ln (w : World) (g : Nat) (l : LS) : Prop where
  row : w.heap[g]? = some (.cells l.row.toArray 52 (0, 0))
  len : l.room.length = 257
  byt : Bytes l.room
  held : l.h ≤ 257
  wlen : l.ws.length = 16
  fst : l.f < 8
  num : l.n ≤ 8
  unit : l.u < 256
theorem LS.front (l : LS) (hl : l.room.length = 257) : (.int .u8 (l.u : Int) :: .int .i64 (l.s : Int) :: .int .i64 (l.t : Int) :: u8s l.room : List Value).length = 260 := by simp [u8s_len, hl]
theorem LS.back (l : LS) (hl : l.room.length = 257) (k : Nat) : l.row[260 + k]? = (.int .i64 (l.h : Int) :: (l.ws ++ [.int .i64 (l.f : Int), .int .i64 (l.n : Int)]) : List Value)[k]? := by
  unfold LS.row
  rw [List.getElem?_append_right (by rw [l.front hl]; omega), l.front hl, show 260 + k - 260 = k by omega]
theorem LS.len {l : LS} (hl : l.room.length = 257) (hw : l.ws.length = 16) : l.row.length = 279 := by
  unfold LS.row
  rw [List.length_append, l.front hl]
  simp [hw]
theorem LS.wait {l : LS} (hl : l.room.length = 257) (hw : l.ws.length = 16) (k : Nat) (hk : k < 16) : l.row[261 + k]? = l.ws[k]? := by
  rw [show 261 + k = 260 + (k + 1) by omega, l.back hl, List.getElem?_cons_succ, List.getElem?_append_left (by omega)]
theorem LS.tail {l : LS} (hl : l.room.length = 257) (hw : l.ws.length = 16) (k : Nat) : l.row[277 + k]? = ([.int .i64 (l.f : Int), .int .i64 (l.n : Int)] : List Value)[k]? := by
  rw [show 277 + k = 260 + ((16 + k) + 1) by omega, l.back hl, List.getElem?_cons_succ, List.getElem?_append_right (by omega), hw, show 16 + k - 16 = k by omega]
theorem Ln.cUnit {w : World} {g : Nat} {l : LS} (s : Ln w g l) : w.cell? ⟨g, 0, none⟩ = some (.int .u8 (l.u : Int)) := cell_row s.row rfl
theorem Ln.cSil {w : World} {g : Nat} {l : LS} (s : Ln w g l) : w.cell? ⟨g, 1, none⟩ = some (.int .i64 (l.s : Int)) := cell_row s.row rfl
theorem Ln.cTicks {w : World} {g : Nat} {l : LS} (s : Ln w g l) : w.cell? ⟨g, 2, none⟩ = some (.int .i64 (l.t : Int)) := cell_row s.row rfl
theorem Ln.cHeld {w : World} {g : Nat} {l : LS} (s : Ln w g l) : w.cell? ⟨g, 260, none⟩ = some (.int .i64 (l.h : Int)) := cell_row s.row (l.back s.len 0)
theorem Ln.cFirst {w : World} {g : Nat} {l : LS} (s : Ln w g l) : w.cell? ⟨g, 277, none⟩ = some (.int .i64 (l.f : Int)) := cell_row s.row (LS.tail s.len s.wlen 0)
theorem Ln.cWaits {w : World} {g : Nat} {l : LS} (s : Ln w g l) : w.cell? ⟨g, 278, none⟩ = some (.int .i64 (l.n : Int)) := cell_row s.row (LS.tail s.len s.wlen 1)
theorem Ln.cWait {w : World} {g : Nat} {l : LS} (s : Ln w g l) {k : Nat} {v : Value} (hk : l.ws[k]? = some v) : w.cell? ⟨g, 261 + k, none⟩ = some v := by
  have hlt : k < 16 := by have := (List.getElem?_eq_some_iff.1 hk).1; rw [s.wlen] at this; exact this
  exact cell_row s.row ((LS.wait s.len s.wlen k hlt).trans hk)
theorem Ln.free {w : World} {g : Nat} {l : LS} (s : Ln w g l) (k : Nat) : w.frozen? ⟨g, k, none⟩ = false := frozen_row s.row
theorem Ln.lt {w : World} {g : Nat} {l : LS} (s : Ln w g l) : g < w.heap.size := (Array.getElem?_eq_some_iff.1 s.row).1
theorem Ln.lies {w : World} {g : Nat} {l : LS} (s : Ln w g l) : Lies w g 3 (u8s l.room) := by
  intro k u hk
  refine cell_row s.row ?_
  unfold LS.row
  have hk' : k < 257 := by have := (List.getElem?_eq_some_iff.1 hk).1; rw [u8s_len, s.len] at this; exact this
  rw [List.getElem?_append_left (by rw [l.front s.len]; omega), show 3 + k = k + 1 + 1 + 1 by omega]
  simp only [List.getElem?_cons_succ]
  exact hk
theorem Ln.sl {w : World} {g : Nat} {l : LS} (s : Ln w g l) : Sl w (.slice (some ⟨g, 3, none⟩) l.h 257) (u8s (l.room.take l.h)) := by
  have := sub_sl (W := w) s.lies 0 l.h 257 (by rw [s.len]; have := s.held; omega) s.held
  simpa using this
theorem Ln.heap {w u : World} {g : Nat} {l : LS} (s : Ln w g l) (k : u.heap[g]? = w.heap[g]?) : Ln u g l := ⟨k.trans s.row, s.len, s.byt, s.held, s.wlen, s.fst, s.num, s.unit⟩
theorem Ln.below {w u : World} {g B : Nat} {l : LS} (s : Ln w g l) (k : Below B w u) (hg : g < B) : Ln u g l := s.heap (k.block g hg)
theorem Ln.drewN {w : World} {g : Nat} {l : LS} (s : Ln w g l) (d : Nat) : Ln (w.drewN d) g l := s.heap rfl
theorem Ln.drew {w : World} {g : Nat} {l : LS} (s : Ln w g l) : Ln w.drew g l := s.heap rfl
theorem Ln.turn {g g2 : Nat} {w w' : World} {l : LS} (s : Ln w g l) (k : Turn g2 w w') (hne : g ≠ g2) : Ln w' g l := s.heap (k.block g s.lt (fun e => hne (by simpa using e)))
theorem LS.set_back (l : LS) (hl : l.room.length = 257) (k : Nat) (v : Value) : l.row.set (260 + k) v = (.int .u8 (l.u : Int) :: .int .i64 (l.s : Int) :: .int .i64 (l.t : Int) :: u8s l.room) ++ (.int .i64 (l.h : Int) :: (l.ws ++ [.int .i64 (l.f : Int), .int .i64 (l.n : Int)]) : List Value).set k v := by
  unfold LS.row
  rw [List.set_append_right _ _ (by rw [l.front hl]; omega), l.front hl, show 260 + k - 260 = k by omega]
theorem Ln.setTicks {w : World} {g : Nat} {l : LS} (s : Ln w g l) (t : Nat) : Ln (w.setCell ⟨g, 2, none⟩ (.int .i64 (t : Int))) g { l with t := t } := by
  refine ⟨?_, s.len, s.byt, s.held, s.wlen, s.fst, s.num, s.unit⟩
  rw [set_row s.row]
  rfl
theorem Ln.setHeld {w : World} {g : Nat} {l : LS} (s : Ln w g l) (h : Nat) (hh : h ≤ 257) : Ln (w.setCell ⟨g, 260, none⟩ (.int .i64 (h : Int))) g { l with h := h } := by
  refine ⟨?_, s.len, s.byt, hh, s.wlen, s.fst, s.num, s.unit⟩
  rw [set_row s.row, l.set_back s.len 0]
  rfl
theorem Ln.setWait {w : World} {g : Nat} {l : LS} (s : Ln w g l) (k : Nat) (v : Value) (hk : k < 16) : Ln (w.setCell ⟨g, 261 + k, none⟩ v) g { l with ws := l.ws.set k v } := by
  refine ⟨?_, s.len, s.byt, s.held, by simp [s.wlen], s.fst, s.num, s.unit⟩
  rw [set_row s.row, show 261 + k = 260 + (k + 1) by omega, l.set_back s.len, List.set_cons_succ, List.set_append_left _ _ (by rw [s.wlen]; exact hk)]
  rfl
theorem Ln.setFirst {w : World} {g : Nat} {l : LS} (s : Ln w g l) (f : Nat) (hf : f < 8) : Ln (w.setCell ⟨g, 277, none⟩ (.int .i64 (f : Int))) g { l with f := f } := by
  refine ⟨?_, s.len, s.byt, s.held, s.wlen, hf, s.num, s.unit⟩
  rw [set_row s.row, show 277 = 260 + (16 + 1) by omega, l.set_back s.len, List.set_cons_succ, List.set_append_right _ _ (by rw [s.wlen]; omega), s.wlen]
  rfl
theorem Ln.setWaits {w : World} {g : Nat} {l : LS} (s : Ln w g l) (n : Nat) (hn : n ≤ 8) : Ln (w.setCell ⟨g, 278, none⟩ (.int .i64 (n : Int))) g { l with n := n } := by
  refine ⟨?_, s.len, s.byt, s.held, s.wlen, s.fst, hn, s.unit⟩
  rw [set_row s.row, show 278 = 260 + (17 + 1) by omega, l.set_back s.len, List.set_cons_succ, List.set_append_right _ _ (by rw [s.wlen]; omega), s.wlen]
  rfl
/-- Bytes laid over a line's room. -/
theorem splice_line {l : LS} {off : Nat} {bs : List Nat} (hl : l.room.length = 257) (ho : off + bs.length ≤ 257) : splice l.row (3 + off) (u8s bs) = LS.row { l with room := l.room.take off ++ (bs ++ l.room.drop (off + bs.length)) } := by
  unfold splice LS.row
  rw [List.take_append_of_le_length (by rw [l.front hl]; omega), List.drop_append_of_le_length (by rw [l.front hl, u8s_len]; omega), u8s_len, show 3 + off + bs.length = (off + bs.length) + 1 + 1 + 1 by omega, show 3 + off = off + 1 + 1 + 1 by omega]
  simp [u8s]
/-- The cells of a new line. -/
def zL : Array Value := #[.int .u8 0, .int .i64 0, .int .i64 0] ++ Array.replicate 257 (.int .u8 0) ++ #[.int .i64 0, .int .u8 0, .slice none 0 0, .int .u8 0, .slice none 0 0, .int .u8 0, .slice none 0 0, .int .u8 0, .slice none 0 0, .int .u8 0, .slice none 0 0, .int .u8 0, .slice none 0 0, .int .u8 0, .slice none 0 0, .int .u8 0, .slice none 0 0, .int .i64 0, .int .i64 0]
theorem zL_info : (Try.prog.info? 52).map (fun i => i.zero) = some (some (.agg zL)) := by kernel_rfl
theorem zL_zero (w : World) : Sem.run Try.prog (zeroValue 52) w = .ok (.agg zL) w := by
  obtain ⟨i, hi, hz⟩ := Option.map_eq_some_iff.1 zL_info
  simp [zeroValue, typeInfo, hi, hz]
def ws0 : List Value := [.int .u8 0, .slice none 0 0, .int .u8 0, .slice none 0 0, .int .u8 0, .slice none 0 0, .int .u8 0, .slice none 0 0, .int .u8 0, .slice none 0 0, .int .u8 0, .slice none 0 0, .int .u8 0, .slice none 0 0, .int .u8 0, .slice none 0 0]
def new0 (u s : Nat) : LS := ⟨u, s, 0, List.replicate 257 0, 0, ws0, 0, 0⟩
end Go.Proofs.Ytgmbboimndepnaa
