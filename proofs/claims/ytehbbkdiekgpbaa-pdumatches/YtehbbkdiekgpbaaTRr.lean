/- The walk: a request is taken apart. -/
import Derived.Test.YtehbbkdiekgpbaaJ2
import Derived.Deep.Cut
namespace Go.Proofs.Ytehbbkdiekgpbaa
open Go.RowKit
open Pdu
theorem block6 {w : World} {g : Nat} {x0 x1 x2 x3 x4 x5 : Value} {e : TypeId} (h : w.heap[g]? = some (.cells #[x0, x1, x2, x3, x4, x5] e (0, 0))) : Box w g x0 x1 x2 x3 x4 x5 ∧ ∀ j, w.frozen? ⟨g, j, none⟩ = false := by
  refine ⟨⟨?_, ?_, ?_, ?_, ?_, ?_⟩, fun j => ?_⟩
  all_goals simp [World.cell?, World.frozen?, h]
set_option linter.unusedSimpArgs false in
set_option maxRecDepth 100000 in
set_option maxHeartbeats 1200000 in
theorem take_r (b off n cap fn A V x1 x2 x3 x4 : Nat) (w : World) (hfn : fn = 1 ∨ fn = 2 ∨ fn = 3 ∨ fn = 4) (hn : 5 ≤ n) (hn2 : n ≤ 253) (hcap : n ≤ cap) (hx1 : x1 < 256) (hx2 : x2 < 256) (hx3 : x3 < 256) (hx4 : x4 < 256)
    (k0 : w.cell? ⟨b, off, none⟩ = some (.int .u8 fn)) (k1 : w.cell? ⟨b, off + 1, none⟩ = some (.int .u8 x1)) (k2 : w.cell? ⟨b, off + 2, none⟩ = some (.int .u8 x2)) (k3 : w.cell? ⟨b, off + 3, none⟩ = some (.int .u8 x3)) (k4 : w.cell? ⟨b, off + 4, none⟩ = some (.int .u8 x4)) (hA : 256 * x1 + x2 = A) (hVe : 256 * x3 + x4 = V) :
    Calls Try.prog 39 #[.slice (some ⟨b, off, none⟩) n cap] w fun e w' => e = .returned (.tuple #[rqV fn A V 0 (.slice none 0 0) (.slice none 0 0), .bool (decide (n = 5))]) ∧ Below w.heap.size w w' := by
  unfold rqV
  have hb : b < w.heap.size := lt_of_cell k0
  have hb1 : b < w.heap.size + 1 := by omega
  have hb2 : b < w.heap.size + 1 + 1 := by omega
  have hb3 : b < w.heap.size + 1 + 1 + 1 := by omega
  have hin : inside n 5 253 = true := by rw [inside_iff]; omega
  have hwi := withini_c n 5 253 (by decide) (by decide)
  have hwW := fun (W : World) (h1 : W.cell? ⟨b, off + 1, none⟩ = some (.int .u8 x1)) (h2 : W.cell? ⟨b, off + 1 + 1, none⟩ = some (.int .u8 x2)) => word_c b (off + 1) (n - 1) (cap - 1) x1 x2 W (by omega) hx1 hx2 h1 h2
  rw [hA] at hwW
  have hw3 := fun (W : World) (h : Below w.heap.size w W) => word_c b (off + 3) (n - 3) (cap - 3) x3 x4 W (by omega) hx3 hx4 ((h.cell (p := ⟨b, off + 3, none⟩) hb).trans k3) ((h.cell (p := ⟨b, off + 4, none⟩) hb).trans k4)
  rw [hVe] at hw3
  have h5e : (((n - 3 : Nat) : Int) == 2) = decide (n = 5) := by rw [Bool.eq_iff_iff]; simp; omega
  clear hA hVe k3 k4
  go_enter Try.func39, Try.ntmps39
  go_upto_region 3 with (go_at_call 50; refine (hwi _).mono ?_; rintro e w' ⟨rfl, hw⟩; subst w'; rw [hin])
  clear hwi hin
  go_cut [4] from 7 (fun s4 wx => s4 = .pointer (some ⟨w.heap.size + 1 + 1, 0, none⟩) ∧ ∃ d, wx = (((w.alloc (.cells #[.int .u8 0, .int .u16 0, .int .u16 0, .int .u16 0, .slice none 0 0, .slice none 0 0] 26)).alloc (.cells #[.int .u16 5, .int .u16 253] 74)).alloc (.cells #[.int .u8 fn, .int .u16 A, .int .u16 0, .int .u16 0, .slice none 0 0, .slice none 0 0] 26)).drewN d)
  case first =>
    have hsz : Hid (w.heap.size + 1 + 1 = ((w.alloc (.cells #[.int .u8 0, .int .u16 0, .int .u16 0, .int .u16 0, .slice none 0 0, .slice none 0 0] 26)).alloc (.cells #[.int .u16 5, .int .u16 253] 74)).heap.size) := show _ = _ by simp
    have hbn : ¬ (w.heap.size + 1 + 1 = b) := by omega
    have i0 : (0 : Int) < (n : Int) := by omega
    have i1 : (1 : Int) ≤ (n : Int) := by omega
    have j1 : 1 ≤ n := by omega
    have j2 : 1 < cap := by omega
    have j3 : ¬ cap = 1 := by omega
    have j4 : 1 ≤ cap := by omega
    have j5 : 0 < n := by omega
    go_region_held3 (fun w' => w'.cell? ⟨b, off, none⟩ = some (.int .u8 fn)) (simp [World.cell?_alloc_past, World.cell?_setCell_far, hb, hb1, hb2, k0, hbn]) (first | (go_at_call 51; refine (hwW _ ?_ ?_).mono ?_; (simp [World.cell?_alloc_past, hb, hb1, hb2, k1]); (simp [World.cell?_alloc_past, hb, hb1, hb2, k2]); rintro e w' ⟨rfl, d, hw⟩; subst w'))
    all_goals (go_wp2_with fail; go_meet; refine And.intro rfl ?_; apply Exists.intro; first | rw [alloc_drewN] | rw [six_set _ _ _ hsz.out] | exact Eq.refl _)
  case rest =>
    obtain ⟨rfl, d, rfl⟩ := hcut
    clear hwW
    have K3 : Below w.heap.size w ((((w.alloc (.cells #[.int .u8 0, .int .u16 0, .int .u16 0, .int .u16 0, .slice none 0 0, .slice none 0 0] 26)).alloc (.cells #[.int .u16 5, .int .u16 253] 74)).alloc (.cells #[.int .u8 fn, .int .u16 A, .int .u16 0, .int .u16 0, .slice none 0 0, .slice none 0 0] 26)).drewN d) := below_drewN (below_new (below_new (below_new (Below.refl _ w) _) _) _) d
    rcases hfn with rfl | rfl | rfl | rfl
    · go_wp2_with (go_at_call 51; refine (hw3 _ K3).mono ?_; rintro e w' ⟨rfl, d2, hw⟩; subst w')
      have BF := set_box (((((Box.new w (.int .u8 0) (.int .u16 0) (.int .u16 0) (.int .u16 0) (.slice none 0 0) (.slice none 0 0) 26).grow (.cells #[.int .u16 5, .int .u16 253] 74)).grow (.cells #[.int .u8 1, .int .u16 A, .int .u16 0, .int .u16 0, .slice none 0 0, .slice none 0 0] 26)).drewN (d + d2)).far (p := ⟨w.heap.size + 1 + 1, 2, none⟩) (by simp; omega) (.int .u16 V)) (.int .u8 1) (.int .u16 A) (.int .u16 V) (.int .u16 0) (.slice none 0 0) (.slice none 0 0)
      obtain ⟨c0, c1, c2, c3, c4, c5⟩ := BF
      refine bodyPost_ret (v := .tuple #[.agg #[.int .u8 1, .int .u16 A, .int .u16 V, .int .u16 0, .slice none 0 0, .slice none 0 0], .bool (decide (n = 5))]) (by simp [results, Try.results39, go_sem, c0, c1, c2, c3, c4, c5]) rfl ⟨rfl, ?_⟩
      exact (Below.setCell (Below.setCell (Below.setCell (Below.setCell (Below.setCell (Below.setCell (Below.setCell (below_drewN (below_new (below_new (below_new (Below.refl _ w) _) _) _) _) (by simp; omega) _) (Nat.le_refl _) _) (Nat.le_refl _) _) (Nat.le_refl _) _) (Nat.le_refl _) _) (Nat.le_refl _) _) (Nat.le_refl _) _)
    · go_wp2_with (go_at_call 51; refine (hw3 _ K3).mono ?_; rintro e w' ⟨rfl, d2, hw⟩; subst w')
      have BF := set_box (((((Box.new w (.int .u8 0) (.int .u16 0) (.int .u16 0) (.int .u16 0) (.slice none 0 0) (.slice none 0 0) 26).grow (.cells #[.int .u16 5, .int .u16 253] 74)).grow (.cells #[.int .u8 2, .int .u16 A, .int .u16 0, .int .u16 0, .slice none 0 0, .slice none 0 0] 26)).drewN (d + d2)).far (p := ⟨w.heap.size + 1 + 1, 2, none⟩) (by simp; omega) (.int .u16 V)) (.int .u8 2) (.int .u16 A) (.int .u16 V) (.int .u16 0) (.slice none 0 0) (.slice none 0 0)
      obtain ⟨c0, c1, c2, c3, c4, c5⟩ := BF
      refine bodyPost_ret (v := .tuple #[.agg #[.int .u8 2, .int .u16 A, .int .u16 V, .int .u16 0, .slice none 0 0, .slice none 0 0], .bool (decide (n = 5))]) (by simp [results, Try.results39, go_sem, c0, c1, c2, c3, c4, c5]) rfl ⟨rfl, ?_⟩
      exact (Below.setCell (Below.setCell (Below.setCell (Below.setCell (Below.setCell (Below.setCell (Below.setCell (below_drewN (below_new (below_new (below_new (Below.refl _ w) _) _) _) _) (by simp; omega) _) (Nat.le_refl _) _) (Nat.le_refl _) _) (Nat.le_refl _) _) (Nat.le_refl _) _) (Nat.le_refl _) _) (Nat.le_refl _) _)
    · go_wp2_with (go_at_call 51; refine (hw3 _ K3).mono ?_; rintro e w' ⟨rfl, d2, hw⟩; subst w')
      have BF := set_box (((((Box.new w (.int .u8 0) (.int .u16 0) (.int .u16 0) (.int .u16 0) (.slice none 0 0) (.slice none 0 0) 26).grow (.cells #[.int .u16 5, .int .u16 253] 74)).grow (.cells #[.int .u8 3, .int .u16 A, .int .u16 0, .int .u16 0, .slice none 0 0, .slice none 0 0] 26)).drewN (d + d2)).far (p := ⟨w.heap.size + 1 + 1, 2, none⟩) (by simp; omega) (.int .u16 V)) (.int .u8 3) (.int .u16 A) (.int .u16 V) (.int .u16 0) (.slice none 0 0) (.slice none 0 0)
      obtain ⟨c0, c1, c2, c3, c4, c5⟩ := BF
      refine bodyPost_ret (v := .tuple #[.agg #[.int .u8 3, .int .u16 A, .int .u16 V, .int .u16 0, .slice none 0 0, .slice none 0 0], .bool (decide (n = 5))]) (by simp [results, Try.results39, go_sem, c0, c1, c2, c3, c4, c5]) rfl ⟨rfl, ?_⟩
      exact (Below.setCell (Below.setCell (Below.setCell (Below.setCell (Below.setCell (Below.setCell (Below.setCell (below_drewN (below_new (below_new (below_new (Below.refl _ w) _) _) _) _) (by simp; omega) _) (Nat.le_refl _) _) (Nat.le_refl _) _) (Nat.le_refl _) _) (Nat.le_refl _) _) (Nat.le_refl _) _) (Nat.le_refl _) _)
    · go_wp2_with (go_at_call 51; refine (hw3 _ K3).mono ?_; rintro e w' ⟨rfl, d2, hw⟩; subst w')
      have BF := set_box (((((Box.new w (.int .u8 0) (.int .u16 0) (.int .u16 0) (.int .u16 0) (.slice none 0 0) (.slice none 0 0) 26).grow (.cells #[.int .u16 5, .int .u16 253] 74)).grow (.cells #[.int .u8 4, .int .u16 A, .int .u16 0, .int .u16 0, .slice none 0 0, .slice none 0 0] 26)).drewN (d + d2)).far (p := ⟨w.heap.size + 1 + 1, 2, none⟩) (by simp; omega) (.int .u16 V)) (.int .u8 4) (.int .u16 A) (.int .u16 V) (.int .u16 0) (.slice none 0 0) (.slice none 0 0)
      obtain ⟨c0, c1, c2, c3, c4, c5⟩ := BF
      refine bodyPost_ret (v := .tuple #[.agg #[.int .u8 4, .int .u16 A, .int .u16 V, .int .u16 0, .slice none 0 0, .slice none 0 0], .bool (decide (n = 5))]) (by simp [results, Try.results39, go_sem, c0, c1, c2, c3, c4, c5]) rfl ⟨rfl, ?_⟩
      exact (Below.setCell (Below.setCell (Below.setCell (Below.setCell (Below.setCell (Below.setCell (Below.setCell (below_drewN (below_new (below_new (below_new (Below.refl _ w) _) _) _) _) (by simp; omega) _) (Nat.le_refl _) _) (Nat.le_refl _) _) (Nat.le_refl _) _) (Nat.le_refl _) _) (Nat.le_refl _) _) (Nat.le_refl _) _)

end Go.Proofs.Ytehbbkdiekgpbaa
