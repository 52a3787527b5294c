/- What the laws take: light (stage 20). -/
import Derived.Test.YtkknfolahfmghaaDoorOpenC
namespace Go.Proofs.YtkknfolahfmghaaDoor
open Go.RowKit
open Fb Cod
namespace Cod
/-- Instructions and the letters of their names. -/
def cnt : List Ins → Nat
  | [] => 0
  | x :: L => 1 + x.name.size + cnt L
theorem cnt_app : ∀ a b : List Ins, cnt (a ++ b) = cnt a + cnt b
  | [], b => by simp [cnt]
  | x :: a, b => by
    simp only [List.cons_append, cnt, cnt_app a b]
    omega
theorem cnt_next {L : List Ins} {k : Nat} {x : Ins} (hx : L[k]? = some x) : cnt (L.take (k + 1)) = cnt (L.take k) + 1 + x.name.size := by
  rw [List.take_add_one, hx, cnt_app]
  simp [cnt]
  omega
end Cod
/-- What light tells. -/
def LightEnd (w : World) (n kn : Nat) (L : List Ins) (e : Ending) (w' : World) : Prop := ∃ b : Bool, e = .returned (.bool b) ∧ (b = true → n ≤ 200 ∧ kn ≤ 400 ∧ cnt L ≤ 4000) ∧ Below w.heap.size w w'
set_option maxHeartbeats 1600000 in
set_option maxRecDepth 100000 in
theorem light_c {w : World} {va : Option Addr} {kn kc : Nat} {la : Option Addr} {n lc : Nat} {L : List Ins} (hi : Il w la L) (hn : n = L.length) (n9 : n ≤ 140737488355328) (k9 : kn ≤ 140737488355328) (hF : ∀ x ∈ L, Fit x) :
    Calls Tryd.prog 10 #[.agg #[.slice va kn kc, .slice la n lc]] w (LightEnd w n kn L) := by
  have k1 := below_new1 w (.cells #[.slice va kn kc, .slice la n lc] 25)
  have c0 : (w.alloc (.cells #[.slice va kn kc, .slice la n lc] 25)).cell? ⟨w.heap.size, 0, none⟩ = some (.slice va kn kc) := cell_row (k := 0) (l := [.slice va kn kc, .slice la n lc]) (heap_alloc_new w _) rfl
  have c1 : (w.alloc (.cells #[.slice va kn kc, .slice la n lc] 25)).cell? ⟨w.heap.size, 1, none⟩ = some (.slice la n lc) := cell_row (k := 1) (l := [.slice va kn kc, .slice la n lc]) (heap_alloc_new w _) rfl
  obtain ⟨bx, hbx⟩ : ∃ bx, bx = w.heap.size := ⟨_, rfl⟩
  rw [← hbx] at c0 c1
  have HI := hid_as (hi.below k1)
  have HN := hid_as hn
  have HF := hid_as hF
  have KB := hid_as k1
  have m9 : (n : Int) ≤ 140737488355328 := by omega
  have m8 : (kn : Int) ≤ 140737488355328 := by omega
  clear hi hn hF k1 n9 k9
  go_enter Tryd.func10, Tryd.ntmps10
  go_upto_region 3 with fail
  rw [← hbx]
  have BX := hid_as hbx
  clear hbx
  generalize w.alloc (.cells #[.slice va kn kc, .slice la n lc] 25) = w1 at *
  go_loopw [3, 4] (fun m i wr => ∃ j q : Nat, j ≤ n ∧ i = .int .i64 j ∧ m = .int .i64 q ∧ q = cnt (L.take j) ∧ wr = w1) (fun _ i _ => n - (intOf i).toNat)
  case atStart => exact ⟨0, 0, by omega, rfl, rfl, rfl, rfl⟩
  case round =>
    obtain ⟨j, q, hj, rfl, rfl, hq, hw⟩ := hrel
    subst hw
    have HQ := hid_as hq
    clear hq
    by_cases hjn : j < n
    · have hj2 : (j : Int) < (n : Int) := by omega
      by_cases hq4 : q ≤ 4000
      · have hq5 : (q : Int) ≤ 4000 := by omega
        obtain ⟨x, hx⟩ : ∃ x, L[j]? = some x := ⟨_, List.getElem?_eq_getElem (by rw [← HN.out]; exact hjn)⟩
        obtain ⟨b, o, rfl, _, _, _, _, c5⟩ := HI.out.at_ hx
        have NX := hid_as (cnt_next hx)
        have hs := (HF.out x (List.mem_of_getElem? hx)).nm
        obtain ⟨s, hs2⟩ : ∃ s, s = x.name.size := ⟨_, rfl⟩
        have hs3 : (x.name.size : Int) = (s : Int) := by omega
        have hs9 : (s : Int) ≤ 140737488355328 := by omega
        rw [← hs2] at NX
        clear hs hx hs2
        go_wp2
        go_roundw
        case rel => exact ⟨j + 1, q + 1 + s, by omega, by go_num, by go_num, by rw [NX.out, HQ.out], trivial⟩
        case measure => simp [intOf]; omega
      · have hq5 : ¬ (q : Int) ≤ 4000 := by omega
        by_cases h2 : n ≤ 200
        · have h3 : (n : Int) ≤ 200 := by omega
          by_cases h4 : kn ≤ 400
          · have h5 : (kn : Int) ≤ 400 := by omega
            go_wp2
            go_ret
            exact ⟨false, rfl, (fun e => by cases e), KB.out⟩
          · have h5 : ¬ (kn : Int) ≤ 400 := by omega
            go_wp2
            go_ret
            exact ⟨false, rfl, (fun e => by cases e), KB.out⟩
        · have h3 : ¬ (n : Int) ≤ 200 := by omega
          go_wp2
          go_ret
          exact ⟨false, rfl, (fun e => by cases e), KB.out⟩
    · obtain rfl : j = n := by omega
      have hjj : ¬ (j : Int) < (j : Int) := by omega
      have CN : Hid (q = cnt L) := by rw [HQ.out, List.take_of_length_le (by rw [← HN.out]; exact Nat.le_refl _)]; exact rfl
      by_cases h2 : j ≤ 200
      · have h3 : (j : Int) ≤ 200 := by omega
        by_cases h4 : kn ≤ 400
        · have h5 : (kn : Int) ≤ 400 := by omega
          by_cases hq4 : q ≤ 4000
          · have hq5 : (q : Int) ≤ 4000 := by omega
            go_wp2
            go_ret
            exact ⟨true, rfl, fun _ => ⟨h2, h4, by rw [← CN.out]; exact hq4⟩, KB.out⟩
          · have hq5 : ¬ (q : Int) ≤ 4000 := by omega
            go_wp2
            go_ret
            exact ⟨false, rfl, (fun e => by cases e), KB.out⟩
        · have h5 : ¬ (kn : Int) ≤ 400 := by omega
          go_wp2
          go_ret
          exact ⟨false, rfl, (fun e => by cases e), KB.out⟩
      · have h3 : ¬ (j : Int) ≤ 200 := by omega
        go_wp2
        go_ret
        exact ⟨false, rfl, (fun e => by cases e), KB.out⟩
end Go.Proofs.YtkknfolahfmghaaDoor
