/- A stream in memory; its cells; copy into them; what may have turned. -/
import Derived.Test.YtjfaocpbhhpbdaaW8
import Derived.Laws.CopyOwn
import Derived.Laws.LoneSync
namespace Go.Proofs.Ytjfaocpbhhpbdaa
open Go.RowKit
open Pdu
/-- A stream's cells: its room, how many bytes are held, whether it is broken, how many frames were told. -/
def strow (room : List Nat) (h : Nat) (b : Bool) (n : Nat) : List Value := u8s room ++ [.int .i64 (h : Int), .bool b, .int .u64 (n : Int)]
/-- A stream, in block g. -/
structure St (w : World) (g : Nat) (room : List Nat) (h : Nat) (b : Bool) (n : Nat) : Prop where
  row : w.heap[g]? = some (.cells (strow room h b n).toArray 58 (0, 0))
  len : room.length = 260
  byt : Bytes room
  held : h ≤ 260
theorem strow_len {room : List Nat} {h n : Nat} {b : Bool} (hl : room.length = 260) : (strow room h b n).length = 263 := by simp [strow, u8s_len, hl]
theorem strow_room {room : List Nat} {h n : Nat} {b : Bool} (hl : room.length = 260) (k : Nat) (hk : k < 260) : (strow room h b n)[k]? = some (.int .u8 (room.getD k 0 : Nat)) := by
  unfold strow
  rw [List.getElem?_append_left (by rw [u8s_len]; omega)]
  exact u8s_at room k (by omega)
theorem strow_tail {room : List Nat} {h n : Nat} {b : Bool} (hl : room.length = 260) (k : Nat) : (strow room h b n)[260 + k]? = ([.int .i64 (h : Int), .bool b, .int .u64 (n : Int)] : List Value)[k]? := by
  unfold strow
  rw [List.getElem?_append_right (by rw [u8s_len]; omega), u8s_len, hl, show 260 + k - 260 = k by omega]
theorem cell_row {w : World} {g k : Nat} {l : List Value} {t : TypeId} {v : Value} (h : w.heap[g]? = some (.cells l.toArray t (0, 0))) (hv : l[k]? = some v) : w.cell? ⟨g, k, none⟩ = some v := by
  simp [World.cell?, h, hv]
theorem frozen_row {w : World} {g k : Nat} {l : List Value} {t : TypeId} (h : w.heap[g]? = some (.cells l.toArray t (0, 0))) : w.frozen? ⟨g, k, none⟩ = false := by
  simp [World.frozen?, h]
theorem St.cHeld {w : World} {g h n : Nat} {room : List Nat} {b : Bool} (s : St w g room h b n) : w.cell? ⟨g, 260, none⟩ = some (.int .i64 (h : Int)) := cell_row s.row (strow_tail s.len 0)
theorem St.cBroken {w : World} {g h n : Nat} {room : List Nat} {b : Bool} (s : St w g room h b n) : w.cell? ⟨g, 261, none⟩ = some (.bool b) := cell_row s.row (strow_tail s.len 1)
theorem St.cFrames {w : World} {g h n : Nat} {room : List Nat} {b : Bool} (s : St w g room h b n) : w.cell? ⟨g, 262, none⟩ = some (.int .u64 (n : Int)) := cell_row s.row (strow_tail s.len 2)
theorem St.free {w : World} {g h n : Nat} {room : List Nat} {b : Bool} (s : St w g room h b n) (k : Nat) : w.frozen? ⟨g, k, none⟩ = false := frozen_row s.row
theorem St.lt {w : World} {g h n : Nat} {room : List Nat} {b : Bool} (s : St w g room h b n) : g < w.heap.size := (Array.getElem?_eq_some_iff.1 s.row).1
theorem St.lies {w : World} {g h n : Nat} {room : List Nat} {b : Bool} (s : St w g room h b n) : Lies w g 0 (u8s room) := by
  intro k u hk
  have hk' : k < 260 := by have := (List.getElem?_eq_some_iff.1 hk).1; rw [u8s_len, s.len] at this; exact this
  rw [Nat.zero_add]
  refine cell_row s.row ?_
  unfold strow
  rw [List.getElem?_append_left (by rw [u8s_len, s.len]; exact hk')]
  exact hk
theorem St.sl {w : World} {g h n : Nat} {room : List Nat} {b : Bool} (s : St w g room h b n) : Sl w (.slice (some ⟨g, 0, none⟩) h 260) (u8s (room.take h)) := by
  have := sub_sl (W := w) s.lies 0 h 260 (by rw [s.len]; have := s.held; omega) s.held
  simpa using this
theorem St.heap {w u : World} {g h n : Nat} {room : List Nat} {b : Bool} (s : St w g room h b n) (k : u.heap[g]? = w.heap[g]?) : St u g room h b n := ⟨k.trans s.row, s.len, s.byt, s.held⟩
theorem St.below {w u : World} {g h n B : Nat} {room : List Nat} {b : Bool} (s : St w g room h b n) (k : Below B w u) (hg : g < B) : St u g room h b n := s.heap (k.block g hg)
theorem St.drewN {w : World} {g h n : Nat} {room : List Nat} {b : Bool} (s : St w g room h b n) (d : Nat) : St (w.drewN d) g room h b n := ⟨s.row, s.len, s.byt, s.held⟩
theorem St.drew {w : World} {g h n : Nat} {room : List Nat} {b : Bool} (s : St w g room h b n) : St w.drew g room h b n := ⟨s.row, s.len, s.byt, s.held⟩
theorem set_row {w : World} {g k : Nat} {l : List Value} {t : TypeId} (h : w.heap[g]? = some (.cells l.toArray t (0, 0))) (v : Value) : (w.setCell ⟨g, k, none⟩ v).heap[g]? = some (.cells (l.set k v).toArray t (0, 0)) := by
  rw [setCell_eq_setRow w g k _ t (0, 0) v h, setRow_heap w g _ _ t _ h]
  simp
theorem strow_set {room : List Nat} {h n : Nat} {b : Bool} (hl : room.length = 260) (k : Nat) (v : Value) : (strow room h b n).set (260 + k) v = u8s room ++ ([.int .i64 (h : Int), .bool b, .int .u64 (n : Int)] : List Value).set k v := by
  unfold strow
  rw [List.set_append_right _ _ (by rw [u8s_len]; omega), u8s_len, hl, show 260 + k - 260 = k by omega]
theorem St.setHeld {w : World} {g h n : Nat} {room : List Nat} {b : Bool} (s : St w g room h b n) (h' : Nat) (hh : h' ≤ 260) : St (w.setCell ⟨g, 260, none⟩ (.int .i64 (h' : Int))) g room h' b n := by
  refine ⟨?_, s.len, s.byt, hh⟩
  rw [set_row s.row, strow_set s.len 0]
  rfl
theorem St.setBroken {w : World} {g h n : Nat} {room : List Nat} {b : Bool} (s : St w g room h b n) : St (w.setCell ⟨g, 261, none⟩ (.bool true)) g room h true n := by
  refine ⟨?_, s.len, s.byt, s.held⟩
  rw [set_row s.row, strow_set s.len 1]
  rfl
theorem St.setFrames {w : World} {g h n : Nat} {room : List Nat} {b : Bool} (s : St w g room h b n) (n' : Nat) : St (w.setCell ⟨g, 262, none⟩ (.int .u64 (n' : Int))) g room h b n' := by
  refine ⟨?_, s.len, s.byt, s.held⟩
  rw [set_row s.row, strow_set s.len 2]
  rfl
/-- All blocks that there were, but g, are as they were. -/
abbrev Turn (g : Nat) (w w' : World) : Prop := w.grownBy w' (some g)
theorem Turn.refl (g : Nat) (w : World) : Turn g w w := ⟨rfl, rfl, rfl, Nat.le_refl _, fun _ _ _ => rfl⟩
theorem Turn.trans {g : Nat} {a b c : World} (h : Turn g a b) (k : Turn g b c) : Turn g a c :=
  ⟨k.os.trans h.os, k.tape.trans h.tape, k.output.trans h.output, Nat.le_trans h.size k.size, fun j hj hne => (k.block j (Nat.lt_of_lt_of_le hj h.size) hne).trans (h.block j hj hne)⟩
theorem Turn.ofBelow {g : Nat} {w w' : World} (h : Below w.heap.size w w') : Turn g w w' := ⟨h.os, h.tape, h.output, h.size, fun j hj _ => h.block j hj⟩
theorem Turn.set {g : Nat} {w w' : World} (h : Turn g w w') (k : Nat) (v : Value) : Turn g w (w'.setCell ⟨g, k, none⟩ v) := by
  refine ⟨h.os, h.tape, h.output, by simpa using h.size, fun j hj hne => ?_⟩
  rw [Below.heap_setCell _ _ _ _ (fun e => hne (congrArg some e))]
  exact h.block j hj hne
theorem Turn.alloc {g : Nat} {w w' : World} (h : Turn g w w') (o : Obj) : Turn g w (w'.alloc o) := h.trans (Turn.ofBelow (below_new (Below.refl _ w') o))
theorem Turn.drew {g : Nat} {w w' : World} (h : Turn g w w') : Turn g w w'.drew := ⟨h.os, h.tape, h.output, h.size, h.block⟩
theorem Turn.drewN {g : Nat} {w w' : World} (h : Turn g w w') (d : Nat) : Turn g w (w'.drewN d) := ⟨h.os, h.tape, h.output, h.size, h.block⟩
theorem Turn.below {g B : Nat} {w w' : World} (h : Turn g w w') (hB : B ≤ g) (hs : B ≤ w.heap.size) : Below B w w' := ⟨h.os, h.tape, h.output, h.size, fun j hj => h.block j (by omega) (fun e => by simp at e; omega)⟩
/-- copy into a block that is known whole: nothing but that block has turned. -/
theorem run_copy_turn {P : Program} {w : World} (dT sT ty : TypeId) (elem : TypeId) (hu : P.underlying dT = some (.slice elem)) (hsz : (P.info? elem).map (·.size) = some 1)
    (dp sp : Option Addr) (dLen dCap sLen sCap : Nat)
    (g off : Nat) (cur : List Value) (t : TypeId) (hg : w.heap[g]? = some (.cells cur.toArray t (0, 0))) (cs : List Value) (hn : cs.length = Nat.min sLen dLen)
    (hpos : 0 < cs.length → dp = some ⟨g, off, none⟩ ∧ ∃ ad, sp = some ad ∧ ∀ j v, cs[j]? = some v → w.cell? (ad.add j) = some v)
    (hfit : off + cs.length ≤ cur.length) (h1 : ∀ v ∈ cs, v.oneCell' = true) :
    ∃ w', (Builtin.copy_ #[dT, sT] ty #[.slice dp dLen dCap, .slice sp sLen sCap]).run P w = .ok (goInt cs.length) w' ∧ w'.heap[g]? = some (.cells (splice cur off cs).toArray t (0, 0)) ∧ Turn g w w' := by
  by_cases h0 : cs.length = 0
  · obtain rfl : cs = [] := List.eq_nil_of_length_eq_zero h0
    exact ⟨w, run_copy_none (P := P) w dT sT ty elem dp sp dLen dCap sLen sCap hu hsz (by simpa using hn.symm), by simpa [splice] using hg, Turn.refl g w⟩
  · obtain ⟨rfl, ad, rfl, hsrc⟩ := hpos (by omega)
    exact ⟨_, run_copy_row (P := P) w dT sT ty elem g off dLen dCap ad sLen sCap cur.toArray t cs hu hsz hg hn hsrc (by simpa using hfit) h1, by simpa [splice] using setRow_heap w g _ _ t _ hg, ⟨rfl, rfl, rfl, by simp [World.setRow], fun k _ hk => setRow_other w g k _ (fun e => hk (by simp [e]))⟩⟩
/-- Bytes laid over a stream's room. -/
theorem splice_room {room bs : List Nat} {h n off : Nat} {b : Bool} (hl : room.length = 260) (ho : off + bs.length ≤ 260) : splice (strow room h b n) off (u8s bs) = strow (room.take off ++ (bs ++ room.drop (off + bs.length))) h b n := by
  unfold splice strow
  rw [List.take_append_of_le_length (by rw [u8s_len]; omega), List.drop_append_of_le_length (by rw [u8s_len, u8s_len]; omega), u8s_len]
  simp [u8s]
/-- The cells of a new stream. -/
def zS : Array Value := Array.replicate 260 (.int .u8 0) ++ #[.int .i64 0, .bool false, .int .u64 0]
theorem zS_info : (Try.prog.info? 58).map (fun i => i.zero) = some (some (.agg zS)) := by kernel_rfl
theorem zS_zero (w : World) : Sem.run Try.prog (zeroValue 58) w = .ok (.agg zS) w := by
  obtain ⟨i, hi, hz⟩ := Option.map_eq_some_iff.1 zS_info
  simp [zeroValue, typeInfo, hi, hz]
theorem zS_row : zS = (strow (List.replicate 260 0) 0 false 0).toArray := by
  apply Array.ext'
  unfold zS strow u8s
  rw [List.map_replicate, Array.toList_append, Array.toList_replicate]
  rfl
theorem zS_st (w : World) : St (w.alloc (.cells zS 58)) w.heap.size (List.replicate 260 0) 0 false 0 :=
  ⟨by rw [← zS_row]; exact heap_alloc_new w _, List.length_replicate, fun x hx => by rw [List.eq_of_mem_replicate hx]; decide, by decide⟩
end Go.Proofs.Ytjfaocpbhhpbdaa
