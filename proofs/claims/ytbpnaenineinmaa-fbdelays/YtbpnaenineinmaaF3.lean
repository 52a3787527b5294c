/- The walks of namesOf, Pins, Pin (stage 17). -/
import Derived.Test.YtbpnaenineinmaaF2
namespace Go.Proofs.Ytbpnaenineinmaa
open Go.RowKit
open Fb
theorem Try.infoStr : (Try.prog.info? 9).map (fun i => (i.zero, i.size, i.bytes)) = some (some (.string ⟨#[]⟩), 1, 16) := by kernel_rfl
theorem Try.infoPin : (Try.prog.info? 86).map (fun i => (i.zero, i.size, i.bytes)) = some (some (.agg #[.string ⟨#[]⟩, .int .i64 0]), 2, 24) := by kernel_rfl
theorem info_parts {P : Program} {t : TypeId} {z : Value} {n b : Nat} (h : (P.info? t).map (fun i => (i.zero, i.size, i.bytes)) = some (some z, n, b)) : ∃ i, P.info? t = some i ∧ i.zero = some z ∧ i.size = n ∧ i.bytes = b := by
  cases hq : P.info? t with
  | none => rw [hq] at h; cases h
  | some i => rw [hq] at h; simp at h; exact ⟨i, rfl, h.1, h.2.1, h.2.2⟩
def strs (l : List (List UInt8 × Int)) : List Value := l.map fun p => Value.string (tx p.1)
theorem strs_len (l : List (List UInt8 × Int)) : (strs l).length = l.length := by simp [strs]
theorem strs_app (a b : List (List UInt8 × Int)) : strs (a ++ b) = strs a ++ strs b := by simp [strs]
theorem prow_app (a b : List (List UInt8 × Int)) : prow (a ++ b) = prow a ++ prow b := by simp [prow]
theorem prow_at : ∀ (l : List (List UInt8 × Int)) (k : Nat) (h : k < l.length), (prow l)[k * 2]? = some (.string (tx (l[k]'h).1)) ∧ (prow l)[k * 2 + 1]? = some (.int .i64 (l[k]'h).2)
  | [], k, h => by simp at h
  | a :: l, 0, h => by simp [prow]
  | a :: l, k + 1, h => by
    have := prow_at l k (by simpa using h)
    have e : prow (a :: l) = [.string (tx a.1), .int .i64 a.2] ++ prow l := by simp [prow]
    rw [e, show (k + 1) * 2 = k * 2 + 2 by omega, show k * 2 + 2 + 1 = k * 2 + 1 + 2 by omega]
    rw [List.getElem?_append_right (by simp), List.getElem?_append_right (by simp)]
    simpa using this
theorem one_str (x : ByteArray) : ∀ u ∈ [Value.string x], u.oneCell' = true := by
  intro u hu
  simp at hu
  subst hu
  rfl
theorem prow_one (l : List (List UInt8 × Int)) : ∀ u ∈ prow l, u.oneCell' = true := by
  intro u hu
  simp only [prow, List.mem_flatMap] at hu
  obtain ⟨p, _, hp⟩ := hu
  simp at hp
  rcases hp with rfl | rfl <;> rfl
theorem take_snocL {α : Type} (l : List α) (k : Nat) (h : k < l.length) : l.take (k + 1) = l.take k ++ [l[k]'h] := by
  rw [List.take_add_one, List.getElem?_eq_getElem h]; rfl
theorem one_cell1 (w : World) (o : Obj) (e : TypeId) (x : Value) : ∀ j u, [x][j]? = some u → ((w.alloc o).alloc (.cells #[x] e)).cell? ((⟨w.heap.size + 1, 0, none⟩ : Addr).add j) = some u := by
  have := one_cell (w.alloc o) e x
  simpa using this
set_option maxHeartbeats 800000 in
theorem namesOf_c (g n : Nat) (l : List (List UInt8 × Int)) (w : World) (hn : n = l.length) (h9 : n ≤ 1000) (hL : Lies w g 0 (prow l)) :
    Calls Try.prog 28 #[.slice (some ⟨g, 0, none⟩) n n] w fun e w' => ∃ v, e = .returned v ∧ w'.ownsRow w.heap.size 9 1 v n (strs l) ∧ Below w.heap.size w w' := by
  obtain ⟨i0, hi, hz0, hz1, hz2⟩ := info_parts Try.infoStr
  have L := hid_as hL
  have HN := hid_as hn
  clear hL hn
  go_enter Try.func28, Try.ntmps28
  go_wp2
  go_loopw [3, 8] (fun v i wr => ∃ k : Nat, k ≤ n ∧ i = .int .i64 k ∧ wr.ownsRow w.heap.size 9 1 v k (strs (l.take k)) ∧ Below w.heap.size w wr) (fun _ i _ => n - (intOf i).toNat)
  case atStart => exact ⟨0, by omega, rfl, World.ownsRow_nil .., Below.refl _ _⟩
  case round =>
    obtain ⟨k, hk, rfl, own, hB⟩ := hrel
    obtain ⟨ao, c, e⟩ := (own_sl own).shape
    rw [strs_len, List.length_take, ← HN.out, Nat.min_eq_left hk] at e
    subst e
    have OW := hid_as own
    have KB := hid_as hB
    clear own hB
    by_cases hkn : k < n
    · have hk2 : (k : Int) < (n : Int) := by omega
      have hkl : k < l.length := by rw [← HN.out]; exact hkn
      have LW := L.out.below KB.out
      have c0 := LW (k * 2) _ (prow_at l k hkl).1
      have c1 := LW (k * 2 + 1) _ (prow_at l k hkl).2
      have TS := hid_as (take_snocL l k hkl)
      simp only [Nat.zero_add] at c0 c1
      generalize l[k] = p at *
      obtain ⟨p1, p2⟩ := p
      simp only at c0 c1
      clear LW
      go_wp2_with (at_builtin; go_must (refine wpList_append_own _ rfl _ _ 28 rfl w.heap.size 9 i0 (.string ⟨#[]⟩) 1 16 Try.underlying28 hi hz0 hz1 hz2 rfl (by decide) _ k _ rfl ((OW.out.alloc _).alloc _) _ 1 1 [.string (tx p1)] rfl rfl (one_cell1 _ _ _ _) (one_str _) (by unfold maxLen; omega) (by omega) (by have := KB.out.size; simp; omega) ?_); intro v' w1 hown hgrow _)
      have OW2 := hid_as hown
      have KB2 : Hid (Below w.heap.size w w1) := ((KB.out.alloc KB.out.size _).alloc (by have := KB.out.size; simp; omega) _).grown hgrow (by have := KB.out.size; simp; omega) (fun g hg' => (OW.out.lt g hg').1)
      clear hown hgrow
      go_roundw
      case rel =>
        refine ⟨k + 1, by omega, by go_num, ?_, KB2.out⟩
        rw [TS.out, strs_app]
        exact OW2.out
      case measure => simp [intOf]; omega
    · obtain rfl : k = n := by omega
      have e : l.take k = l := List.take_of_length_le (by rw [← HN.out]; exact Nat.le_refl _)
      rw [e] at OW
      clear e
      go_wp2
      go_ret
      exact ⟨_, rfl, OW.out, KB.out⟩
/-- The kind of the first pin of that name. -/
def kdf (q : List UInt8) : List (List UInt8 × Int) → Int
  | [] => 0
  | p :: l => if p.1 = q then p.2 else kdf q l
theorem lies_new (w : World) (vs : List Value) (e : TypeId) : Lies (w.alloc (.cells vs.toArray e)) w.heap.size 0 vs := by
  intro k u hk
  rw [Nat.zero_add]
  exact cell_row (l := vs) (t := e) (heap_alloc_new w _) hk
theorem pwd_below (w : World) (k : Nat) : Below w.heap.size w (pwd w k) := below_new (below_new (Below.refl _ _) _) _
theorem pwd_size (w : World) (k : Nat) : (pwd w k).heap.size = w.heap.size + 2 := by simp [pwd]
theorem pwd_in (w : World) (k : Nat) : Lies (pwd w k) w.heap.size 0 (prow (pI k)) := (lies_new w _ _).below (below_new (Below.refl _ _) _)
theorem pwd_out (w : World) (k : Nat) : Lies (pwd w k) (w.heap.size + 1) 0 (prow (pO k)) := by
  have := lies_new (w.alloc (.cells (prow (pI k)).toArray 86)) (prow (pO k)) 86
  unfold pwd
  simpa using this
theorem pI_le (k : Nat) : (pI k).length ≤ 5 := by unfold pI; split <;> simp
theorem pO_le (k : Nat) : (pO k).length ≤ 3 := by unfold pO; split <;> simp
set_option maxHeartbeats 800000 in
theorem pins_c (k : Nat) (hk : k < 10) (w : World) : Calls Try.prog 18 #[.string (nm k)] w fun e w' => ∃ v u, e = .returned (.tuple #[v, u]) ∧ w'.ownsRow w.heap.size 9 1 v (pI k).length (strs (pI k)) ∧ w'.ownsRow w.heap.size 9 1 u (pO k).length (strs (pO k)) ∧ Below w.heap.size w w' := by
  have PO := hid_as (pinsOf_c k hk w)
  have h1 := pI_le k
  have h2 := pO_le k
  have NI := hid_as (namesOf_c w.heap.size (pI k).length (pI k) (pwd w k) rfl (by omega) (pwd_in w k))
  have NO := hid_as (fun W (h : Below (pwd w k).heap.size (pwd w k) W) => namesOf_c (w.heap.size + 1) (pO k).length (pO k) W rfl (by omega) ((pwd_out w k).below h))
  have PB := hid_as (pwd_below w k)
  have PS := hid_as (pwd_size w k)
  generalize (pI k).length = n at *
  generalize (pO k).length = m at *
  generalize pwd w k = w1 at *
  go_enter Try.func18, Try.ntmps18
  go_wp2_with fail
  refine PO.out.mono ?_
  rintro e w1' ⟨rfl, hw⟩
  subst w1'
  go_wp2_with fail
  refine NI.out.mono ?_
  rintro e w2 ⟨v, rfl, ov, b2⟩
  go_wp2_with fail
  refine (NO.out w2 b2).mono ?_
  rintro e w3 ⟨u, rfl, ou, b3⟩
  have R : Hid (w3.ownsRow w.heap.size 9 1 v n (strs (pI k)) ∧ w3.ownsRow w.heap.size 9 1 u m (strs (pO k)) ∧ Below w.heap.size w w3) := ⟨own_base (own_below ov b3 (Nat.le_refl _)) (by have := PS.out; omega), own_base ou (by have := PS.out; have := b2.size; omega), below_and PB.out (below_and b2 b3)⟩
  clear NI NO PO ov ou b2 b3
  go_wp2
  go_ret2
  exact ⟨_, _, rfl, R.out⟩
end Go.Proofs.Ytbpnaenineinmaa
