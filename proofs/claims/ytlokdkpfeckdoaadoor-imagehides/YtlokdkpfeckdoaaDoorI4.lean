/- The walks of Latch, Drop, the reference's Latch (stage 11). -/
import Derived.Test.YtlokdkpfeckdoaaDoorI1
namespace Go.Proofs.YtlokdkpfeckdoaaDoor
open Go.RowKit
open Adr
theorem infoBuf : (Tryd.prog.info? 48).map (·.size) = some 896 := by kernel_rfl
theorem infoBuf7 : (Tryd.prog.info? 47).map (·.size) = some 896 := by kernel_rfl
theorem infoRow : (Tryd.prog.info? 46).map (·.size) = some 128 := by kernel_rfl
theorem undBuf : Tryd.prog.underlying 48 = some (.array 7 46) := by kernel_rfl
theorem undBuf7 : Tryd.prog.underlying 47 = some (.array 7 46) := by kernel_rfl
theorem undRow : Tryd.prog.underlying 46 = some (.array 128 28) := by kernel_rfl
theorem buf_one (f : Nat → Nat) (b n : Nat) : (u16f f b n).toArray.all (·.oneCell') = true := all_oneCell_toArray (u16f_one _ _ _)
theorem buf_size (f : Nat → Nat) (b n : Nat) : (u16f f b n).toArray.size = n := by rw [List.size_toArray, u16f_len]
/-- What a step of a walk wants, to load a row and to store it. -/
theorem step_load {P : Program} {ops : Array Oper} {rest : List Oper} {op : Oper} {a : Act} {w : World} {Q : Exit → Act → World → Prop} (hgd : op.guard = none) (ty : TypeId) (x : Operand) (ho : op.op = .load ty x)
    (g o : Nat) (hx : a.eval x = .pointer (some ⟨g, o, none⟩)) (A : Array Value) (hr : (Instr.loadAt ty (.pointer (some ⟨g, o, none⟩))).run P w = .ok (.agg A) w)
    (h : wpList P ops Q rest (a.put op.dst (.agg A)) w) : wpList P ops Q (op :: rest) a w :=
  wpList_plain hgd fun K hK => by
    unfold Oper.wp execOp
    simp only [ho, hx, Sem.run_bind, Sem.run_pure, Result.andThen_ok, hr]
    exact hK _ _ h
theorem step_store {P : Program} {ops : Array Oper} {rest : List Oper} {op : Oper} {a : Act} {w w' : World} {Q : Exit → Act → World → Prop} (hgd : op.guard = none) (ty : TypeId) (x y : Operand) (ho : op.op = .store ty x y)
    (g o : Nat) (A : Array Value) (hx : a.eval x = .pointer (some ⟨g, o, none⟩)) (hy : a.eval y = .agg A) (hr : (Instr.storeAt ty (.pointer (some ⟨g, o, none⟩)) (.agg A)).run P w = .ok () w')
    (h : wpList P ops Q rest (a.put op.dst undef) w') : wpList P ops Q (op :: rest) a w :=
  wpList_plain hgd fun K hK => by
    unfold Oper.wp execOp
    simp only [ho, hx, hy, Sem.run_bind, Sem.run_pure, Result.andThen_ok, hr]
    exact hK _ _ h
theorem load_row {w : World} {g o b n : Nat} {f : Nat → Nat} (t : Buf w g o f) (ty : TypeId) (d : TypeDesc) (hu : Tryd.prog.underlying ty = some d) (hd : d.isRow = true) (hi : (Tryd.prog.info? ty).map (·.size) = some n) (h : b + n ≤ 896) :
    (Instr.loadAt ty (.pointer (some ⟨g, o + b, none⟩))).run Tryd.prog w = .ok (.agg (u16f f b n).toArray) w :=
  run_loadAt_mid w g (o + b) ty _ d (t.range b n h) hu hd (by rw [hi, u16f_len])
theorem store_row {w : World} {g o b n : Nat} {f : Nat → Nat} (t : w.there g o n) (ty : TypeId) (hi : (Tryd.prog.info? ty).map (·.size) = some n) :
    (Instr.storeAt ty (.pointer (some ⟨g, o, none⟩)) (.agg (u16f f b n).toArray)).run Tryd.prog w = .ok () (w.setCells g o (u16f f b n)) := by
  have := run_storeAt_mid (P := Tryd.prog) w g o ty (u16f f b n).toArray (by rw [buf_size]; exact t) (by rw [hi, buf_size]) (buf_one _ _ _)
  rw [List.toList_toArray] at this
  exact this
set_option maxHeartbeats 800000 in
theorem latch_c {w : World} {g : Nat} {s : IS} (t : Im w g s) : Calls Tryd.prog 12 #[.pointer (some ⟨g, 0, none⟩)] w fun e w' => e = .returned (.tuple #[]) ∧ Im w' g s.latch ∧ Turn g w w' := by
  have hl := hid_as (load_row t.out 48 _ undBuf rfl infoBuf (b := 0) (by omega))
  have hs := hid_as (store_row (f := s.o) (b := 0) (t.thereO 896 896 (by omega)) 48 infoBuf)
  have T : Hid (Im (w.setCells g 896 (u16f s.o 0 896)) g s.latch ∧ Turn g w (w.setCells g 896 (u16f s.o 0 896))) := ⟨t.latched, (Turn.refl _ _).cells _ _⟩
  generalize hW : w.setCells g 896 (u16f s.o 0 896) = W at T hs
  generalize (u16f s.o 0 896).toArray = A at hl hs
  clear hW t
  go_enter Tryd.func12, Tryd.ntmps12
  go_wp2_with (first
    | (refine step_load rfl 48 _ (by with_reducible rfl) g 0 (by simp [Act.eval]) A hl.out ?_)
    | (refine step_store rfl 48 _ _ (by with_reducible rfl) g 896 A (by simp [Act.eval]) (by simp [Act.eval]) hs.out ?_))
  refine bodyPost_end (results_none Tryd.results12 _ _ _) rfl ?_
  exact ⟨rfl, T.out⟩
set_option maxHeartbeats 800000 in
theorem drop_c {w : World} {g : Nat} {s : IS} (t : Im w g s) : Calls Tryd.prog 16 #[.pointer (some ⟨g, 0, none⟩)] w fun e w' => e = .returned (.tuple #[]) ∧ Im w' g s.latch ∧ Turn g w w' := by
  have hl := hid_as (load_row t.out 48 _ undBuf rfl infoBuf (b := 0) (by omega))
  have hs := hid_as (store_row (f := s.o) (b := 0) (t.thereO 896 896 (by omega)) 48 infoBuf)
  have T : Hid (Im (w.setCells g 896 (u16f s.o 0 896)) g s.latch ∧ Turn g w (w.setCells g 896 (u16f s.o 0 896))) := ⟨t.latched, (Turn.refl _ _).cells _ _⟩
  generalize hW : w.setCells g 896 (u16f s.o 0 896) = W at T hs
  generalize (u16f s.o 0 896).toArray = A at hl hs
  clear hW t
  go_enter Tryd.func16, Tryd.ntmps16
  go_wp2_with (first
    | (refine step_load rfl 48 _ (by with_reducible rfl) g 0 (by simp [Act.eval]) A hl.out ?_)
    | (refine step_store rfl 48 _ _ (by with_reducible rfl) g 896 A (by simp [Act.eval]) (by simp [Act.eval]) hs.out ?_))
  refine bodyPost_end (results_none Tryd.results16 _ _ _) rfl ?_
  exact ⟨rfl, T.out⟩
set_option maxHeartbeats 800000 in
theorem rlatch_c {w : World} {g : Nat} {s : IS} (t : Im w g s) : Calls Tryd.prog 13 #[.pointer (some ⟨g, 0, none⟩)] w fun e w' => e = .returned (.tuple #[]) ∧ Im w' g s.latch ∧ Turn g w w' := by
  have hl := hid_as (load_row t.out 47 _ undBuf7 rfl infoBuf7 (b := 0) (by omega))
  have hs := hid_as (store_row (f := s.o) (b := 0) (t.thereO 896 896 (by omega)) 47 infoBuf7)
  have T : Hid (Im (w.setCells g 896 (u16f s.o 0 896)) g s.latch ∧ Turn g w (w.setCells g 896 (u16f s.o 0 896))) := ⟨t.latched, (Turn.refl _ _).cells _ _⟩
  generalize hW : w.setCells g 896 (u16f s.o 0 896) = W at T hs
  generalize (u16f s.o 0 896).toArray = A at hl hs
  clear hW t
  go_enter Tryd.func13, Tryd.ntmps13
  go_wp2_with (first
    | (refine step_load rfl 47 _ (by with_reducible rfl) g 0 (by simp [Act.eval]) A hl.out ?_)
    | (refine step_store rfl 47 _ _ (by with_reducible rfl) g 896 A (by simp [Act.eval]) (by simp [Act.eval]) hs.out ?_))
  refine bodyPost_end (results_none Tryd.results13 _ _ _) rfl ?_
  exact ⟨rfl, T.out⟩
end Go.Proofs.YtlokdkpfeckdoaaDoor
