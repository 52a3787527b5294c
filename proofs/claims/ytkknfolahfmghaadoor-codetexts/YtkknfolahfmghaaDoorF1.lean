/- The blocks' pins: types' pinsOf, namesOf, Pins, Pin (stage 20; after stage 17). -/
import Derived.Test.YtkknfolahfmghaaDoorB1
namespace Go.Proofs.YtkknfolahfmghaaDoor
open Go.RowKit
namespace Fb
def tx (l : List UInt8) : ByteArray := ⟨l.toArray⟩
/-- The blocks' names. -/
def nml (k : Nat) : List UInt8 := match k with
  | 0 => [84, 79, 78] | 1 => [84, 79, 70] | 2 => [84, 80] | 3 => [67, 84, 85] | 4 => [67, 84, 68] | 5 => [67, 84, 85, 68]
  | 6 => [82, 95, 84, 82, 73, 71] | 7 => [70, 95, 84, 82, 73, 71] | 8 => [83, 82] | 9 => [82, 83] | _ => []
def nm (k : Nat) : ByteArray := tx (nml k)
/-- Their pins: names, kinds. -/
def pI (k : Nat) : List (List UInt8 × Int) := match k with
  | 0 | 1 | 2 => [([73, 78], 1), ([80, 84], 11)]
  | 3 => [([67, 85], 1), ([82], 1), ([80, 86], 3)]
  | 4 => [([67, 68], 1), ([76, 68], 1), ([80, 86], 3)]
  | 5 => [([67, 85], 1), ([67, 68], 1), ([82], 1), ([76, 68], 1), ([80, 86], 3)]
  | 6 | 7 => [([67, 76, 75], 1)]
  | 8 => [([83, 49], 1), ([82], 1)]
  | 9 => [([83], 1), ([82, 49], 1)]
  | _ => []
def pO (k : Nat) : List (List UInt8 × Int) := match k with
  | 0 | 1 | 2 => [([81], 1), ([69, 84], 11)]
  | 3 | 4 => [([81], 1), ([67, 86], 3)]
  | 5 => [([81, 85], 1), ([81, 68], 1), ([67, 86], 3)]
  | 6 | 7 => [([81], 1)]
  | 8 | 9 => [([81, 49], 1)]
  | _ => []
end Fb
open Fb
theorem ret_bool {a b : Bool} (h : a = b) : Ending.returned (.bool a) = .returned (.bool b) := by rw [h]
theorem ret_int {a b : Int} (h : a = b) : Ending.returned (.int .i64 a) = .returned (.int .i64 b) := by rw [h]
/-- No block bears this name. -/
def Nob (s : ByteArray) : Prop := ∀ k, k < 10 → (s.toList == nml k) = false
/-- A row of pins in memory. -/
def prow (l : List (List UInt8 × Int)) : List Value := l.flatMap fun p => [.string (tx p.1), .int .i64 p.2]
theorem prow_len (l : List (List UInt8 × Int)) : (prow l).length = 2 * l.length := by
  induction l with
  | nil => rfl
  | cons a l ih => simp only [prow, List.flatMap_cons, List.length_append, List.length_cons, List.length_nil] at *; omega
def pwd (w : World) (k : Nat) : World := (w.alloc (.cells (prow (pI k)).toArray 148)).alloc (.cells (prow (pO k)).toArray 148)
set_option maxHeartbeats 400000 in
theorem pinsOf_0 (w : World) : Calls Tryd.prog 84 #[.string (nm 0)] w fun e w' => e = .returned (.tuple #[.slice (some ⟨w.heap.size, 0, none⟩) (pI 0).length (pI 0).length, .slice (some ⟨w.heap.size + 1, 0, none⟩) (pO 0).length (pO 0).length]) ∧ w' = pwd w 0 := by
  unfold nm nml tx
  go_enter Tryd.func84, Tryd.ntmps84
  go_wp2
  go_ret2
  exact ⟨by simp [pI, pO], rfl⟩
set_option maxHeartbeats 400000 in
theorem pinsOf_1 (w : World) : Calls Tryd.prog 84 #[.string (nm 1)] w fun e w' => e = .returned (.tuple #[.slice (some ⟨w.heap.size, 0, none⟩) (pI 1).length (pI 1).length, .slice (some ⟨w.heap.size + 1, 0, none⟩) (pO 1).length (pO 1).length]) ∧ w' = pwd w 1 := by
  unfold nm nml tx
  go_enter Tryd.func84, Tryd.ntmps84
  go_wp2
  go_ret2
  exact ⟨by simp [pI, pO], rfl⟩
set_option maxHeartbeats 400000 in
theorem pinsOf_2 (w : World) : Calls Tryd.prog 84 #[.string (nm 2)] w fun e w' => e = .returned (.tuple #[.slice (some ⟨w.heap.size, 0, none⟩) (pI 2).length (pI 2).length, .slice (some ⟨w.heap.size + 1, 0, none⟩) (pO 2).length (pO 2).length]) ∧ w' = pwd w 2 := by
  unfold nm nml tx
  go_enter Tryd.func84, Tryd.ntmps84
  go_wp2
  go_ret2
  exact ⟨by simp [pI, pO], rfl⟩
set_option maxHeartbeats 400000 in
theorem pinsOf_3 (w : World) : Calls Tryd.prog 84 #[.string (nm 3)] w fun e w' => e = .returned (.tuple #[.slice (some ⟨w.heap.size, 0, none⟩) (pI 3).length (pI 3).length, .slice (some ⟨w.heap.size + 1, 0, none⟩) (pO 3).length (pO 3).length]) ∧ w' = pwd w 3 := by
  unfold nm nml tx
  go_enter Tryd.func84, Tryd.ntmps84
  go_wp2
  go_ret2
  exact ⟨by simp [pI, pO], rfl⟩
set_option maxHeartbeats 400000 in
theorem pinsOf_4 (w : World) : Calls Tryd.prog 84 #[.string (nm 4)] w fun e w' => e = .returned (.tuple #[.slice (some ⟨w.heap.size, 0, none⟩) (pI 4).length (pI 4).length, .slice (some ⟨w.heap.size + 1, 0, none⟩) (pO 4).length (pO 4).length]) ∧ w' = pwd w 4 := by
  unfold nm nml tx
  go_enter Tryd.func84, Tryd.ntmps84
  go_wp2
  go_ret2
  exact ⟨by simp [pI, pO], rfl⟩
set_option maxHeartbeats 400000 in
theorem pinsOf_5 (w : World) : Calls Tryd.prog 84 #[.string (nm 5)] w fun e w' => e = .returned (.tuple #[.slice (some ⟨w.heap.size, 0, none⟩) (pI 5).length (pI 5).length, .slice (some ⟨w.heap.size + 1, 0, none⟩) (pO 5).length (pO 5).length]) ∧ w' = pwd w 5 := by
  unfold nm nml tx
  go_enter Tryd.func84, Tryd.ntmps84
  go_wp2
  go_ret2
  exact ⟨by simp [pI, pO], rfl⟩
set_option maxHeartbeats 400000 in
theorem pinsOf_6 (w : World) : Calls Tryd.prog 84 #[.string (nm 6)] w fun e w' => e = .returned (.tuple #[.slice (some ⟨w.heap.size, 0, none⟩) (pI 6).length (pI 6).length, .slice (some ⟨w.heap.size + 1, 0, none⟩) (pO 6).length (pO 6).length]) ∧ w' = pwd w 6 := by
  unfold nm nml tx
  go_enter Tryd.func84, Tryd.ntmps84
  go_wp2
  go_ret2
  exact ⟨by simp [pI, pO], rfl⟩
set_option maxHeartbeats 400000 in
theorem pinsOf_7 (w : World) : Calls Tryd.prog 84 #[.string (nm 7)] w fun e w' => e = .returned (.tuple #[.slice (some ⟨w.heap.size, 0, none⟩) (pI 7).length (pI 7).length, .slice (some ⟨w.heap.size + 1, 0, none⟩) (pO 7).length (pO 7).length]) ∧ w' = pwd w 7 := by
  unfold nm nml tx
  go_enter Tryd.func84, Tryd.ntmps84
  go_wp2
  go_ret2
  exact ⟨by simp [pI, pO], rfl⟩
set_option maxHeartbeats 400000 in
theorem pinsOf_8 (w : World) : Calls Tryd.prog 84 #[.string (nm 8)] w fun e w' => e = .returned (.tuple #[.slice (some ⟨w.heap.size, 0, none⟩) (pI 8).length (pI 8).length, .slice (some ⟨w.heap.size + 1, 0, none⟩) (pO 8).length (pO 8).length]) ∧ w' = pwd w 8 := by
  unfold nm nml tx
  go_enter Tryd.func84, Tryd.ntmps84
  go_wp2
  go_ret2
  exact ⟨by simp [pI, pO], rfl⟩
set_option maxHeartbeats 400000 in
theorem pinsOf_9 (w : World) : Calls Tryd.prog 84 #[.string (nm 9)] w fun e w' => e = .returned (.tuple #[.slice (some ⟨w.heap.size, 0, none⟩) (pI 9).length (pI 9).length, .slice (some ⟨w.heap.size + 1, 0, none⟩) (pO 9).length (pO 9).length]) ∧ w' = pwd w 9 := by
  unfold nm nml tx
  go_enter Tryd.func84, Tryd.ntmps84
  go_wp2
  go_ret2
  exact ⟨by simp [pI, pO], rfl⟩
theorem pinsOf_c (k : Nat) (hk : k < 10) (w : World) : Calls Tryd.prog 84 #[.string (nm k)] w fun e w' => e = .returned (.tuple #[.slice (some ⟨w.heap.size, 0, none⟩) (pI k).length (pI k).length, .slice (some ⟨w.heap.size + 1, 0, none⟩) (pO k).length (pO k).length]) ∧ w' = pwd w k := by
  match k, hk with
  | 0, _ => exact pinsOf_0 w
  | 1, _ => exact pinsOf_1 w
  | 2, _ => exact pinsOf_2 w
  | 3, _ => exact pinsOf_3 w
  | 4, _ => exact pinsOf_4 w
  | 5, _ => exact pinsOf_5 w
  | 6, _ => exact pinsOf_6 w
  | 7, _ => exact pinsOf_7 w
  | 8, _ => exact pinsOf_8 w
  | 9, _ => exact pinsOf_9 w
theorem Tryd.infoStr : (Tryd.prog.info? 9).map (fun i => (i.zero, i.size, i.bytes)) = some (some (.string ⟨#[]⟩), 1, 16) := by kernel_rfl
theorem Tryd.infoPin : (Tryd.prog.info? 148).map (fun i => (i.zero, i.size, i.bytes)) = some (some (.agg #[.string ⟨#[]⟩, .int .i64 0]), 2, 24) := by kernel_rfl
def strs (l : List (List UInt8 × Int)) : List Value := l.map fun p => Value.string (tx p.1)
theorem strs_len (l : List (List UInt8 × Int)) : (strs l).length = l.length := by simp [strs]
theorem strs_app (a b : List (List UInt8 × Int)) : strs (a ++ b) = strs a ++ strs b := by simp [strs]
theorem prow_app (a b : List (List UInt8 × Int)) : prow (a ++ b) = prow a ++ prow b := by simp [prow]
theorem prow_at : ∀ (l : List (List UInt8 × Int)) (k : Nat) (h : k < l.length), (prow l)[k * 2]? = some (.string (tx (l[k]'h).1)) ∧ (prow l)[k * 2 + 1]? = some (.int .i64 (l[k]'h).2)
  | [], k, h => by simp at h
  | a :: l, 0, h => by simp [prow]
  | a :: l, k + 1, h => by
    have := prow_at l k (by simpa using h)
    have e : prow (a :: l) = [.string (tx a.1), .int .i64 a.2] ++ prow l := by simp [prow]
    rw [e, show (k + 1) * 2 = k * 2 + 2 by omega, show k * 2 + 2 + 1 = k * 2 + 1 + 2 by omega]
    rw [List.getElem?_append_right (by simp), List.getElem?_append_right (by simp)]
    simpa using this
theorem prow_one (l : List (List UInt8 × Int)) : ∀ u ∈ prow l, u.oneCell' = true := by
  intro u hu
  simp only [prow, List.mem_flatMap] at hu
  obtain ⟨p, _, hp⟩ := hu
  simp at hp
  rcases hp with rfl | rfl <;> rfl
set_option maxHeartbeats 800000 in
theorem namesOf_c (g n : Nat) (l : List (List UInt8 × Int)) (w : World) (hn : n = l.length) (h9 : n ≤ 1000) (hL : Lies w g 0 (prow l)) :
    Calls Tryd.prog 85 #[.slice (some ⟨g, 0, none⟩) n n] w fun e w' => ∃ v, e = .returned v ∧ w'.ownsRow w.heap.size 9 1 v n (strs l) ∧ Below w.heap.size w w' := by
  obtain ⟨i0, hi, hz0, hz1, hz2⟩ := info_parts Tryd.infoStr
  have L := hid_as hL
  have HN := hid_as hn
  clear hL hn
  go_enter Tryd.func85, Tryd.ntmps85
  go_wp2
  go_loopw [3, 8] (fun v i wr => ∃ k : Nat, k ≤ n ∧ i = .int .i64 k ∧ wr.ownsRow w.heap.size 9 1 v k (strs (l.take k)) ∧ Below w.heap.size w wr) (fun _ i _ => n - (intOf i).toNat)
  case atStart => exact ⟨0, by omega, rfl, World.ownsRow_nil .., Below.refl _ _⟩
  case round =>
    obtain ⟨k, hk, rfl, own, hB⟩ := hrel
    obtain ⟨ao, c, e⟩ := (own_sl own).shape
    rw [strs_len, List.length_take, ← HN.out, Nat.min_eq_left hk] at e
    subst e
    have OW := hid_as own
    have KB := hid_as hB
    clear own hB
    by_cases hkn : k < n
    · have hk2 : (k : Int) < (n : Int) := by omega
      have hkl : k < l.length := by rw [← HN.out]; exact hkn
      have LW := L.out.below KB.out
      have c0 := LW (k * 2) _ (prow_at l k hkl).1
      have c1 := LW (k * 2 + 1) _ (prow_at l k hkl).2
      have TS := hid_as (take_snocL l k hkl)
      simp only [Nat.zero_add] at c0 c1
      generalize l[k] = p at *
      obtain ⟨p1, p2⟩ := p
      simp only at c0 c1
      clear LW
      go_wp2_with (at_builtin; go_must (refine wpList_append_own _ rfl _ _ 73 rfl w.heap.size 9 i0 (.string ⟨#[]⟩) 1 16 Tryd.underlying73 hi hz0 hz1 hz2 rfl (by decide) _ k _ rfl ((OW.out.alloc _).alloc _) _ 1 1 [.string (tx p1)] rfl rfl (one_cell1 _ _ _ _) (one_str _) (by unfold maxLen; omega) (by omega) (by have := KB.out.size; simp; omega) ?_); intro v' w1 hown hgrow _)
      have OW2 := hid_as hown
      have KB2 : Hid (Below w.heap.size w w1) := ((KB.out.alloc KB.out.size _).alloc (by have := KB.out.size; simp; omega) _).grown hgrow (by have := KB.out.size; simp; omega) (fun g hg' => (OW.out.lt g hg').1)
      clear hown hgrow
      go_roundw
      case rel =>
        refine ⟨k + 1, by omega, by go_num, ?_, KB2.out⟩
        rw [TS.out, strs_app]
        exact OW2.out
      case measure => simp [intOf]; omega
    · obtain rfl : k = n := by omega
      have e : l.take k = l := List.take_of_length_le (by rw [← HN.out]; exact Nat.le_refl _)
      rw [e] at OW
      clear e
      go_wp2
      go_ret
      exact ⟨_, rfl, OW.out, KB.out⟩
/-- The kind of the first pin of that name. -/
def kdf (q : List UInt8) : List (List UInt8 × Int) → Int
  | [] => 0
  | p :: l => if p.1 = q then p.2 else kdf q l
theorem pwd_below (w : World) (k : Nat) : Below w.heap.size w (pwd w k) := below_new (below_new (Below.refl _ _) _) _
theorem pwd_size (w : World) (k : Nat) : (pwd w k).heap.size = w.heap.size + 2 := by simp [pwd]
theorem pwd_in (w : World) (k : Nat) : Lies (pwd w k) w.heap.size 0 (prow (pI k)) := (lies_new w _ _).below (below_new (Below.refl _ _) _)
theorem pwd_out (w : World) (k : Nat) : Lies (pwd w k) (w.heap.size + 1) 0 (prow (pO k)) := by
  have := lies_new (w.alloc (.cells (prow (pI k)).toArray 148)) (prow (pO k)) 148
  unfold pwd
  simpa using this
theorem pI_le (k : Nat) : (pI k).length ≤ 5 := by unfold pI; split <;> simp
theorem pO_le (k : Nat) : (pO k).length ≤ 3 := by unfold pO; split <;> simp
set_option maxHeartbeats 800000 in
theorem pins_c (k : Nat) (hk : k < 10) (w : World) : Calls Tryd.prog 80 #[.string (nm k)] w fun e w' => ∃ v u, e = .returned (.tuple #[v, u]) ∧ w'.ownsRow w.heap.size 9 1 v (pI k).length (strs (pI k)) ∧ w'.ownsRow w.heap.size 9 1 u (pO k).length (strs (pO k)) ∧ Below w.heap.size w w' := by
  have PO := hid_as (pinsOf_c k hk w)
  have h1 := pI_le k
  have h2 := pO_le k
  have NI := hid_as (namesOf_c w.heap.size (pI k).length (pI k) (pwd w k) rfl (by omega) (pwd_in w k))
  have NO := hid_as (fun W (h : Below (pwd w k).heap.size (pwd w k) W) => namesOf_c (w.heap.size + 1) (pO k).length (pO k) W rfl (by omega) ((pwd_out w k).below h))
  have PB := hid_as (pwd_below w k)
  have PS := hid_as (pwd_size w k)
  generalize (pI k).length = n at *
  generalize (pO k).length = m at *
  generalize pwd w k = w1 at *
  go_enter Tryd.func80, Tryd.ntmps80
  go_wp2_with fail
  refine PO.out.mono ?_
  rintro e w1' ⟨rfl, hw⟩
  subst w1'
  go_wp2_with fail
  refine NI.out.mono ?_
  rintro e w2 ⟨v, rfl, ov, b2⟩
  go_wp2_with fail
  refine (NO.out w2 b2).mono ?_
  rintro e w3 ⟨u, rfl, ou, b3⟩
  have R : Hid (w3.ownsRow w.heap.size 9 1 v n (strs (pI k)) ∧ w3.ownsRow w.heap.size 9 1 u m (strs (pO k)) ∧ Below w.heap.size w w3) := ⟨own_base (own_below ov b3 (Nat.le_refl _)) (by have := PS.out; omega), own_base ou (by have := PS.out; have := b2.size; omega), below_and PB.out (below_and b2 b3)⟩
  clear NI NO PO ov ou b2 b3
  go_wp2
  go_ret2
  exact ⟨_, _, rfl, R.out⟩
theorem tx_eq (a b : List UInt8) : ((tx a).toList == (tx b).toList) = decide (a = b) := by
  rw [ByteArray.toList_eq, ByteArray.toList_eq]
  show (a == b) = decide (a = b)
  by_cases h : a = b
  · subst h; simp
  · rw [decide_eq_false h, beq_eq_false_iff_ne]; exact h
theorem kdf_drop {l : List (List UInt8 × Int)} {q : List UInt8} {k : Nat} (h : k < l.length) : kdf q (l.drop k) = if (l[k]'h).1 = q then (l[k]'h).2 else kdf q (l.drop (k + 1)) := by
  rw [List.drop_eq_getElem_cons h]; rfl
theorem pI_pos (k : Nat) (hk : k < 10) : 0 < (pI k).length := by
  match k, hk with
  | 0, _ => exact (by decide)
  | 1, _ => exact (by decide)
  | 2, _ => exact (by decide)
  | 3, _ => exact (by decide)
  | 4, _ => exact (by decide)
  | 5, _ => exact (by decide)
  | 6, _ => exact (by decide)
  | 7, _ => exact (by decide)
  | 8, _ => exact (by decide)
  | 9, _ => exact (by decide)
theorem pwd_own (w : World) (k : Nat) : (pwd w k).ownsRow w.heap.size 148 2 (.slice (some ⟨w.heap.size, 0, none⟩) (pI k).length (pI k).length) (pI k).length (prow (pI k)) := by
  have h1 := pI_le k
  have := World.ownsRow_lit (base := w.heap.size) (size := 2) (e := 148) w (prow (pI k)).toArray (pI k).length (Nat.le_refl _) (by unfold maxLen; omega) (by simp [prow_len]; omega)
  exact this.alloc _
set_option maxHeartbeats 800000 in
theorem pin_c (k : Nat) (hk : k < 10) (q : List UInt8) (w : World) : Calls Tryd.prog 81 #[.string (nm k), .string (tx q)] w fun e w' => e = .returned (.int .i64 (kdf q (pI k ++ pO k))) ∧ Below w.heap.size w w' := by
  obtain ⟨i0, hi, hz0, hz1, hz2⟩ := info_parts Tryd.infoPin
  have PO := hid_as (pinsOf_c k hk w)
  have h1 := pI_le k
  have h2 := pO_le k
  have OI := hid_as (pwd_own w k)
  have LO := hid_as (pwd_out w k).news
  have PL := hid_as (show (prow (pO k)).length = (pO k).length * 2 by rw [prow_len]; omega)
  have PB := hid_as (pwd_below w k)
  have PS := hid_as (pwd_size w k)
  have HP := hid_as (pI_pos k hk)
  obtain ⟨l, hl⟩ : ∃ l, l = pI k ++ pO k := ⟨_, rfl⟩
  have hll : l.length = (pI k).length + (pO k).length := by rw [hl, List.length_append]
  have HL := hid_as (show prow l = prow (pI k) ++ prow (pO k) by rw [hl, prow_app])
  rw [← hl]
  clear hl
  generalize (pI k).length = n at *
  generalize (pO k).length = m at *
  generalize pwd w k = w1 at *
  obtain ⟨N, hN⟩ : ∃ N, N = n + m := ⟨_, rfl⟩
  rw [← hN] at hll
  have hN9 : N ≤ 8 := by omega
  have HN0 := hid_as (show 0 < N by have := HP.out; omega)
  have HN := hid_as hN.symm
  have HLL := hid_as hll
  clear hll hN
  go_enter Tryd.func81, Tryd.ntmps81
  go_wp2_with fail
  refine PO.out.mono ?_
  rintro e w1' ⟨rfl, hw⟩
  subst w1'
  clear PO
  go_wp2_with (at_builtin; go_must (refine wpList_append_own _ rfl _ _ 143 rfl w.heap.size 148 i0 (.agg #[.string ⟨#[]⟩, .int .i64 0]) 2 24 Tryd.underlying143 hi hz0 hz1 hz2 rfl (by decide) _ n _ rfl OI.out ⟨w.heap.size + 1, 0, none⟩ m m _ rfl PL.out LO.out (prow_one _) (by unfold maxLen; omega) (by omega) (by rw [PS.out]; omega) ?_); intro v' w2 hown hgrow _; rw [← HL.out, HN.out] at hown; obtain ⟨g, c, hv⟩ := own_at hown HN0.out; subst hv)
  have KB : Hid (Below w.heap.size w w2) := PB.out.grown hgrow (by rw [PS.out]; omega) (fun g hg' => (OI.out.lt g hg').1)
  have OW := hid_as hown
  clear hgrow OI LO PL HL PB PS hown
  go_loopw [18] (fun i wr => ∃ j : Nat, j ≤ N ∧ i = .int .i64 j ∧ kdf q l = kdf q (l.drop j) ∧ Below w2.heap.size w2 wr) (fun i _ => N - (intOf i).toNat)
  case atStart => exact ⟨0, by omega, rfl, rfl, Below.refl _ _⟩
  case round =>
    obtain ⟨j, hj, rfl, hkd, hB⟩ := hrel
    have HK := hid_as hkd
    have BB := hid_as hB
    clear hkd hB
    by_cases hjn : j < N
    · have hj2 : (j : Int) < (N : Int) := by omega
      have hjl : j < l.length := by rw [HLL.out]; exact hjn
      have c0 := (BB.out.cell (p := ⟨g, j * 2, none⟩) (OW.out.lt g rfl).2).trans ((OW.out.cellAt (j * 2) (by omega)).trans (prow_at l j hjl).1)
      have c1 := (BB.out.cell (p := ⟨g, j * 2 + 1, none⟩) (OW.out.lt g rfl).2).trans ((OW.out.cellAt (j * 2 + 1) (by omega)).trans (prow_at l j hjl).2)
      have HD := hid_as (kdf_drop (q := q) hjl)
      have TE := tx_eq (l[j]).1 q
      generalize l[j] = p at *
      obtain ⟨p1, p2⟩ := p
      simp only at c0 c1 TE
      by_cases hpq : p1 = q
      · rw [decide_eq_true hpq] at TE
        have RE : Hid (p2 = kdf q l) := hid_as (by rw [HK.out, HD.out, if_pos hpq])
        have hpq := hid_as hpq
        go_wp2
        go_ret
        exact ⟨ret_int RE.out, KB.out.trans ((below_new BB.out _).mono KB.out.size)⟩
      · rw [decide_eq_false hpq] at TE
        have RE : Hid (kdf q l = kdf q (l.drop (j + 1))) := hid_as (by rw [HK.out, HD.out, if_neg hpq])
        have hpq := hid_as hpq
        go_wp2
        go_roundw
        case rel => exact ⟨j + 1, by omega, by go_num, RE.out, below_new BB.out _⟩
        case measure => simp [intOf]; omega
    · have RE : Hid (0 = kdf q l) := hid_as (by rw [HK.out, List.drop_eq_nil_of_le (by rw [HLL.out]; omega)]; rfl)
      obtain rfl : j = N := by omega
      go_wp2
      go_ret
      exact ⟨ret_int RE.out, KB.out.trans (BB.out.mono KB.out.size)⟩
end Go.Proofs.YtkknfolahfmghaaDoor
