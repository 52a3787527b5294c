/- The walk of the reference's Publish (stage 11). -/
import Derived.Test.YtlokdkpfeckdoaaDoorI5
namespace Go.Proofs.YtlokdkpfeckdoaaDoor
open Go.RowKit
open Adr
theorem cell_far_cells {w : World} {g o h k : Nat} {vs : List Value} (hne : h ≠ g) : (w.setCells g o vs).cell? ⟨h, k, none⟩ = w.cell? ⟨h, k, none⟩ := World.cell?_setCells_out g vs o w ⟨h, k, none⟩ (fun e _ => absurd e hne)
/-- The four areas in memory. -/
def Fr (w : World) (h : Nat) : Prop := ∀ k, k < 4 → w.cell? ⟨h, k, none⟩ = some (.int .i64 (av k : Int))
theorem Fr.heap {w u : World} {h : Nat} (f : Fr w h) (e : u.heap[h]? = w.heap[h]?) : Fr u h := fun k hk => (World.cell?_of_block (w := w) (a := ⟨h, k, none⟩) e).trans (f k hk)
theorem fr_new (w : World) (t : TypeId) : Fr (w.alloc (.cells #[.int .i64 2, .int .i64 3, .int .i64 5, .int .i64 6] t)) w.heap.size := fun k hk => by
  have hc : k = 0 ∨ k = 1 ∨ k = 2 ∨ k = 3 := by omega
  rcases hc with rfl | rfl | rfl | rfl <;> simp <;> rfl
theorem Fr.far {w : World} {g o h : Nat} {vs : List Value} (f : Fr w h) (hne : h ≠ g) : Fr (w.setCells g o vs) h := fun k hk => by rw [cell_far_cells hne]; exact f k hk
set_option maxHeartbeats 1600000 in
theorem rpub_c {w : World} {g : Nat} {s : IS} (t : Im w g s) (hn : s.n < 1000000) : Calls Tryd.prog 15 #[.pointer (some ⟨g, 0, none⟩)] w fun e w' => e = .returned (.tuple #[]) ∧ Im w' g s.pub ∧ Turn g w w' := by
  have HN := hid_as hn
  have hlt := t.lt
  have T := hid_as t
  clear t hn
  go_enter Tryd.func15, Tryd.ntmps15
  go_wp2
  have F0 := hid_as (fr_new w 3)
  have T0 : Hid (Im (w.alloc (.cells #[.int .i64 2, .int .i64 3, .int .i64 5, .int .i64 6] 3)) g (pubN s 0) ∧ Turn g w (w.alloc (.cells #[.int .i64 2, .int .i64 3, .int .i64 5, .int .i64 6] 3))) := ⟨T.out.below (below_new (Below.refl _ w) _), (Turn.refl _ _).alloc _⟩
  have hne : w.heap.size ≠ g := by omega
  generalize w.heap.size = h at *
  generalize w.alloc (.cells #[.int .i64 2, .int .i64 3, .int .i64 5, .int .i64 6] 3) = w1 at *
  clear T hlt
  go_loopw [3] (fun i wr => ∃ k : Nat, k ≤ 4 ∧ i = .int .i64 k ∧ Hid (Fr wr h) ∧ Hid (Im wr g (pubN s k) ∧ Turn g w wr)) (fun i _ => 4 - (intOf i).toNat)
  case atStart => exact ⟨0, by omega, rfl, F0, T0⟩
  case round =>
    obtain ⟨k, hk, rfl, F, T⟩ := hrel
    by_cases hk4 : k < 4
    · have hx := F.out k hk4
      have FF := hid_as (fun (W : World) (hs : Same wr W) => Fr.far (g := g) (o := av k * 128) (vs := u16f (pubN s k).k (av k * 128) 128) (Fr.heap F.out (u := W) (by rw [hs.heap])) hne)
      have P := hid_as (fun (W : World) (h : Same wr W) => (⟨(T.out.1.same h).published (av k) (av_lt k), (T.out.2.trans (Turn.ofBelow h.below)).cells (u16f (pubN s k).k (av k * 128) 128) (av k * 128)⟩ : Im (W.setCells g (av k * 128) (u16f (pubN s k).k (av k * 128) 128)) g ((pubN s k).area (av k)) ∧ Turn g w (W.setCells g (av k * 128) (u16f (pubN s k).k (av k * 128) 128))))
      have ha := av_lt k
      have hr := T.out.1.wrk.range (av k * 128) 128 (by omega)
      have ht := T.out.1.thereO (av k * 128) 128 (by omega)
      have hl := u16f_len (pubN s k).k (av k * 128) 128
      have ho := u16f_one (pubN s k).k (av k * 128) 128
      have hu := undRow
      generalize u16f (pubN s k).k (av k * 128) 128 = cs at P hr hl ho FF
      have hi : (Tryd.prog.info? 46).map (·.size) = some cs.length := by rw [hl]; exact infoRow
      have E : Hid ((pubN s k).area (av k) = pubN s (k + 1)) := (rfl : (pubN s k).area (av k) = pubN s (k + 1))
      generalize av k = a at *
      have ha0 : (0 : Int) ≤ (a : Int) := by omega
      have ha7 : (a : Int) < 7 := by omega
      have hk0 : (0 : Int) ≤ (k : Int) := by omega
      have hkk : (k : Int) < 4 := by omega
      go_wp2
      go_region_held3 (fun w' => w'.cell? ⟨h, k, none⟩ = some (.int .i64 (a : Int)) ∧ w'.rangeAt g (896 + a * 128) cs ∧ w'.there g (a * 128) 128)
        ((go_split_ands; (try simp only [World.rangeAt_drew, World.there_drew, World.cell?_drew] at *); refine ⟨?_, ?_, ?_⟩ <;> first | assumption | (apply World.there_setCells; assumption) | (refine World.rangeAt_setCells_apart (by assumption) _ _ _ (by omega)) | (rw [cell_far_cells hne]; assumption))) (fail)
      go_wp2
      go_roundw
      case rel => exact ⟨k + 1, by omega, by go_num, FF.out _ (Same.drew _), E.out ▸ P.out _ (Same.drew _)⟩
      case measure => simp [intOf]; omega
    · obtain rfl : k = 4 := by omega
      have hc := T.out.1.num
      have hz := T.out.1.free 1792
      have EN : Hid ((pubN s 4).n = s.n) := pubN_n s 4
      have hb : ((pubN s 4).n : Int) < 1000000 := by have := HN.out; rw [EN.out]; omega
      have hb0 : (0 : Int) ≤ ((pubN s 4).n : Int) := by omega
      go_wp2
      refine bodyPost_end (results_none Tryd.results15 _ _ _) rfl ?_
      exact ⟨rfl, T.out.1.setN _, T.out.2.set _ _⟩
end Go.Proofs.YtlokdkpfeckdoaaDoor
