/- The walk: a request is read: functions that read. -/
import Derived.Test.YtehbbkdiekgpbaaTRr
namespace Go.Proofs.Ytehbbkdiekgpbaa
open Go.RowKit
open Pdu
set_option maxRecDepth 100000 in
set_option maxHeartbeats 1600000 in
theorem open_r (b off n cap fn A V x1 x2 x3 x4 : Nat) (w : World) (hfn : fn = 1 ∨ fn = 2 ∨ fn = 3 ∨ fn = 4) (hn : n = 5) (hcap : n ≤ cap) (hx1 : x1 < 256) (hx2 : x2 < 256) (hx3 : x3 < 256) (hx4 : x4 < 256)
    (k0 : w.cell? ⟨b, off, none⟩ = some (.int .u8 fn)) (k1 : w.cell? ⟨b, off + 1, none⟩ = some (.int .u8 x1)) (k2 : w.cell? ⟨b, off + 2, none⟩ = some (.int .u8 x2)) (k3 : w.cell? ⟨b, off + 3, none⟩ = some (.int .u8 x3)) (k4 : w.cell? ⟨b, off + 4, none⟩ = some (.int .u8 x4)) (hA : 256 * x1 + x2 = A) (hVe : 256 * x3 + x4 = V) (hf : (Rq.mk fn A V 0 [] []).Fits) :
    Calls Try.prog 14 #[.slice (some ⟨b, off, none⟩) n cap] w fun e w' => e = .returned (.tuple #[rqV fn A V 0 (.slice none 0 0) (.slice none 0 0), .int .i64 0]) ∧ Below w.heap.size w w' := by
  have hb : b < w.heap.size := lt_of_cell k0
  subst hn
  have ht := fun (W : World) (h : Below w.heap.size w W) => take_r b off 5 cap fn A V x1 x2 x3 x4 W hfn (by omega) (by omega) hcap hx1 hx2 hx3 hx4 ((h.cell (p := ⟨b, off, none⟩) hb).trans k0) ((h.cell (p := ⟨b, off + 1, none⟩) hb).trans k1) ((h.cell (p := ⟨b, off + 2, none⟩) hb).trans k2) ((h.cell (p := ⟨b, off + 3, none⟩) hb).trans k3) ((h.cell (p := ⟨b, off + 4, none⟩) hb).trans k4) hA hVe
  rw [show decide ((5 : Nat) = 5) = true from rfl] at ht
  have hd := decide_eq_true hf
  have hfit := fun (W : World) => fits_c (w := W) (v := rqV fn A V 0 (.slice none 0 0) (.slice none 0 0)) (q := ⟨fn, A, V, 0, [], []⟩) ⟨⟨show fn < 256 by omega, show A < 65536 by omega, show V < 65536 by omega, show 0 < 65536 by decide, fun _ h => by simp at h⟩, _, _, rfl, Sl.nil _, Sl.nil _⟩
  rw [hd] at hfit
  clear hd hf hfn hA hVe k0 k1 k2 k3 k4
  unfold rqV at ht hfit ⊢
  go_enter Try.func14, Try.ntmps14
  go_wp2_with fail
  refine (ht _ (below_new (Below.refl _ w) _)).mono ?_
  rintro e w1 ⟨rfl, hb1⟩
  have q1 : w1.heap[w.heap.size]? = some (.cells #[.int .u8 0, .int .u16 0, .int .u16 0, .int .u16 0, .slice none 0 0, .slice none 0 0] 26 (0, 0)) := (hb1.block w.heap.size (by simp)).trans (heap_alloc_new w _)
  have hs1 : w.heap.size < w1.heap.size := box_lt hb1
  have K1 : Hid (Below w.heap.size w w1) := (below_new (Below.refl _ w) _).trans (hb1.mono (by simp))
  clear hb1
  go_wp2_with fail
  refine (hfit _).mono ?_
  rintro e w2 ⟨rfl, hb2⟩
  have c := block6 q1
  have K2 : Hid (Below w.heap.size w w2) := K1.out.trans (((Below.refl _ w1).alloc (Nat.le_refl _) _).trans (hb2.mono (by simp)) |>.mono (Nat.le_of_lt hs1))
  have q2 : w2.heap[w.heap.size]? = some (.cells #[.int .u8 0, .int .u16 0, .int .u16 0, .int .u16 0, .slice none 0 0, .slice none 0 0] 26 (0, 0)) := (hb2.block w.heap.size (by simp; omega)).trans ((Below.heap_alloc w1 _ _ hs1).trans q1)
  have BX := (Box.new w1 (.int .u8 fn) (.int .u16 A) (.int .u16 V) (.int .u16 (0 : Nat)) (.slice none 0 0) (.slice none 0 0) 26).below hb2 (by simp)
  obtain ⟨d0, d1, d2, d3, d4, d5⟩ := BX
  obtain ⟨⟨c0, c1, c2, c3, c4, c5⟩, hfz⟩ := block6 q2
  have f0 := hfz 0
  have f1 := hfz 1
  have f2 := hfz 2
  have f3 := hfz 3
  have f4 := hfz 4
  have f5 := hfz 5
  clear q1 q2 c hb2 hfz
  go_wp2
  have BF := set_box (Box.mk c0 c1 c2 c3 c4 c5) (.int .u8 fn) (.int .u16 A) (.int .u16 V) (.int .u16 0) (.slice none 0 0) (.slice none 0 0)
  obtain ⟨e0, e1, e2, e3, e4, e5⟩ := BF
  refine bodyPost_ret (v := .tuple #[.agg #[.int .u8 fn, .int .u16 A, .int .u16 V, .int .u16 0, .slice none 0 0, .slice none 0 0], .int .i64 0]) (by simp [results, Try.results14, go_sem, e0, e1, e2, e3, e4, e5]) rfl ⟨rfl, ?_⟩
  exact Below.setCell (Below.setCell (Below.setCell (Below.setCell (Below.setCell (Below.setCell K2.out (Nat.le_refl _) _) (Nat.le_refl _) _) (Nat.le_refl _) _) (Nat.le_refl _) _) (Nat.le_refl _) _) (Nat.le_refl _) _
end Go.Proofs.Ytehbbkdiekgpbaa
