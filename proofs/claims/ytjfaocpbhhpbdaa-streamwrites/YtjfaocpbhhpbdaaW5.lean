/- The walks: Open of a whole frame. -/
import Derived.Test.YtjfaocpbhhpbdaaW4
namespace Go.Proofs.Ytjfaocpbhhpbdaa
open Go.RowKit
open Pdu
theorem sub_sl {W : World} {b off : Nat} {bs : List Nat} (h : Lies W b off (u8s bs)) (i m c : Nat) (hi : i + m ≤ bs.length) (hc : m ≤ c) : Sl W (.slice (some ⟨b, off + i, none⟩) m c) (u8s ((bs.drop i).take m)) := by
  have hl : (u8s ((bs.drop i).take m)).length = m := by rw [u8s_len, List.length_take, List.length_drop]; omega
  refine Or.inr ⟨b, off + i, c, by rw [hl], by rw [hl]; exact hc, ?_⟩
  intro j u hj
  refine h.drop i j u ?_
  have hj' : j < m := by
    have := (List.getElem?_eq_some_iff.1 hj).1
    omega
  unfold u8s at hj ⊢
  rw [List.map_take, List.getElem?_take, if_pos hj', List.map_drop] at hj
  exact hj
theorem sub_sl7 {W : World} {b off : Nat} {bs : List Nat} (h : Lies W b off (u8s bs)) (m c : Nat) (hi : 7 + m ≤ bs.length) (hc : m ≤ c) : Sl W (.slice (some ⟨b, off + 6 + 1, none⟩) m c) (u8s ((bs.drop 7).take m)) := sub_sl h 7 m c hi hc
theorem kept_block {Y w2 : World} {d g : Nat} {o : Obj} (k : Below (Y.drewN d).heap.size (Y.drewN d) w2) (h : g < Y.heap.size) (hY : Y.heap[g]? = some o) : w2.heap[g]? = some o := (k.block g h).trans hY
theorem kept_cell {Y w2 : World} {d b i : Nat} {v : Value} (k : Below (Y.drewN d).heap.size (Y.drewN d) w2) (h : b < Y.heap.size) (hY : Y.cell? ⟨b, i, none⟩ = some v) : w2.cell? ⟨b, i, none⟩ = some v := (k.cell (p := ⟨b, i, none⟩) h).trans hY
theorem kept_below {w Y w2 : World} {d : Nat} (h : Below w.heap.size w Y) (k : Below (Y.drewN d).heap.size (Y.drewN d) w2) : Below w.heap.size w w2 := below_and (below_drewN h d) k
theorem block3 {w : World} {g : Nat} {x0 x1 x2 : Value} {e : TypeId} (h : w.heap[g]? = some (.cells #[x0, x1, x2] e (0, 0))) : Box w g x0 x1 x2 ∧ ∀ j, w.frozen? ⟨g, j, none⟩ = false := by
  refine ⟨⟨?_, ?_, ?_⟩, fun j => ?_⟩
  all_goals simp [World.cell?, World.frozen?, h]
theorem own_three {Y : World} {base n g : Nat} {e : TypeId} {v : Value} {vs : List Value} (h : Y.ownsRow base e 1 v n vs) (hp : g < base) (y0 y1 y2 : Value) :
    (((Y.setCell ⟨g, 0, none⟩ y0).setCell ⟨g, 1, none⟩ y1).setCell ⟨g, 2, none⟩ y2).ownsRow base e 1 v n vs :=
  ownsRow_setCell_below (ownsRow_setCell_below (ownsRow_setCell_below h hp _) hp _) hp _
theorem word_at0 {W : World} {b off : Nat} {bs : List Nat} (h : Lies W b off (u8s bs)) (hB : Bytes bs) (hi : 1 < bs.length) (n cap : Nat) (hn : 2 ≤ n) :
    Calls Try.prog 24 #[.slice (some ⟨b, off, none⟩) n cap] W fun e w' => e = .returned (.int .u16 (wordAt bs 0 : Nat)) ∧ ∃ m, w' = W.drewN m := word_at (i := 0) h hB hi n cap hn
set_option maxHeartbeats 1600000 in
theorem open_yes (b off n cap en : Nat) (bs : List Nat) (w : World) (h6 : 6 ≤ n) (hcap : n ≤ cap) (hm : n ≤ 1000000) (hn : n = bs.length) (hB : Bytes bs) (hc : Lies w b off (u8s bs)) (hp : wordAt bs 2 = 0) (hk : 2 ≤ wordAt bs 4 ∧ wordAt bs 4 ≤ 254) (hen : 6 + ((wordAt bs 4 : Nat) : Int) = (en : Int)) (hl : en ≤ n) :
    Calls Try.prog 20 #[.slice (some ⟨b, off, none⟩) n cap] w fun e w' => (∃ pv, e = .returned (.tuple #[.agg #[.int .u16 (wordAt bs 0 : Nat), .int .u8 (bs.getD 6 0 : Nat), pv], .int .i64 en, .int .i64 0]) ∧ w'.ownsRow w.heap.size 5 1 pv ((bs.drop 7).take (wordAt bs 4 - 1)).length (u8s ((bs.drop 7).take (wordAt bs 4 - 1)))) ∧ Below w.heap.size w w' := by
  have d1 : decide ((n : Int) < 6) = false := decide_eq_false (by omega)
  have d2 : (((wordAt bs 2 : Nat) : Int) == 0) = true := by rw [beq_iff_eq]; omega
  have d3 : decide ((n : Int) < (en : Int)) = false := decide_eq_false (by omega)
  have hk16 : wordAt bs 4 < 65536 := wordAt_lt hB 4
  have F := hid_as (fun (W : World) => fits_t (wordAt bs 4) W hk)
  have CC := hid_as hc
  have HB := hid_as hB
  have HN := hid_as hn
  have k6 : w.cell? ⟨b, off + 6, none⟩ = some (.int .u8 (bs.getD 6 0 : Nat)) := hc.u8 6 (by omega)
  have hbw : b < w.heap.size := lt_of_cell k6
  clear hc hB hn hp
  have BX : Hid (Box (w.alloc (.cells #[.int .u16 0, .int .u8 0, .slice none 0 0] 29)) w.heap.size (.int .u16 0) (.int .u8 0) (.slice none 0 0)) := Box.new w _ _ _ _
  have KX : Hid (Below w.heap.size w (w.alloc (.cells #[.int .u16 0, .int .u8 0, .slice none 0 0] 29))) := below_new (Below.refl _ w) _
  have CX : Hid (Lies (w.alloc (.cells #[.int .u16 0, .int .u8 0, .slice none 0 0] 29)) b off (u8s bs)) := CC.out.below KX.out
  have W2 := hid_as (fun (d : Nat) => word_at (i := 2) (CX.out.drewN d) HB.out (by have := HN.out; omega) (n - 2) (cap - 2) (by omega))
  have W4 := hid_as (fun (d : Nat) => word_at (i := 4) (CX.out.drewN d) HB.out (by have := HN.out; omega) (n - 4) (cap - 4) (by omega))
  have W0 := hid_as (fun (W : World) (h : Below w.heap.size w W) => word_at0 (CC.out.below h) HB.out (by have := HN.out; omega) n cap (by omega))
  have hk7 : wordAt bs 4 - 1 = en - 6 - 1 := by omega
  have CL := hid_as (fun (W : World) (h : Below w.heap.size w W) => clone_c (sub_sl7 (CC.out.below h) (en - 6 - 1) (en - 6 - 1) (by have := HN.out; omega) (Nat.le_refl _)) (by rw [List.length_take]; omega))
  rw [hk7]
  clear hk7
  generalize (bs.drop 7).take (en - 6 - 1) = pdu at CL ⊢
  generalize wordAt bs 2 = p at d2 W2
  generalize wordAt bs 4 = k at hk16 W4 F hen hk
  generalize wordAt bs 0 = id at W0 ⊢
  generalize bs.getD 6 0 = u at k6 ⊢
  clear CX
  go_enter Try.func20, Try.ntmps20
  go_wp2_with fail
  refine (W2.out 0).mono ?_
  rintro e w1 ⟨rfl, m1, hw⟩
  subst w1
  go_wp2_with fail
  refine (W4.out _).mono ?_
  rintro e w1 ⟨rfl, m2, hw⟩
  subst w1
  go_wp2_with fail
  refine (F.out _).mono ?_
  rintro e w1 ⟨rfl, hw⟩
  subst w1
  go_upto_region 12 with fail
  have KY : Hid (Below w.heap.size w ((w.alloc (.cells #[.int .u16 0, .int .u8 0, .slice none 0 0] 29)).drewN (m1 + m2))) := below_drewN KX.out _
  have hY : ((w.alloc (.cells #[.int .u16 0, .int .u8 0, .slice none 0 0] 29)).drewN (m1 + m2)).heap[w.heap.size]? = some (.cells #[.int .u16 0, .int .u8 0, .slice none 0 0] 29) := heap_alloc_new w _
  have hYs : w.heap.size < ((w.alloc (.cells #[.int .u16 0, .int .u8 0, .slice none 0 0] 29)).drewN (m1 + m2)).heap.size := by show _ < (w.alloc (.cells #[.int .u16 0, .int .u8 0, .slice none 0 0] 29)).heap.size; rw [World.size_alloc]; omega
  have cY : ((w.alloc (.cells #[.int .u16 0, .int .u8 0, .slice none 0 0] 29)).drewN (m1 + m2)).cell? ⟨b, off + 6, none⟩ = some (.int .u8 u) := (KY.out.cell (p := ⟨b, off + 6, none⟩) hbw).trans k6
  have hne : ¬ (w.heap.size = b) := by omega
  generalize (w.alloc (.cells #[.int .u16 0, .int .u8 0, .slice none 0 0] 29)).drewN (m1 + m2) = Y at KY hY hYs cY ⊢
  clear BX KX k6
  have q0 : (0 : Int) < ((en - 6 : Nat) : Int) := by omega
  have q1 : (1 : Int) ≤ ((en - 6 : Nat) : Int) := by omega
  have q3 : 0 < en - 6 := by omega
  have q2 : ¬ (en - 6 = 1) := by omega
  generalize en - 6 = q at CL q0 q1 q2 q3 ⊢
  go_region_held3 (fun w' => w'.cell? ⟨b, off + 6, none⟩ = some (.int .u8 u)) (first | exact cY | exact cZ | (simp [World.cell?_setCell_far, hne, cZ]; done)) (first
    | (go_at_call 24; (with_reducible refine (W0.out _ ?_).mono ?_); (first | exact KY.out | exact KY.out.drew); rintro e w1 ⟨rfl, m3, hw⟩; subst w1)
    | (go_at_call 26; (with_reducible refine (CL.out _ ?_).mono ?_); (first | exact below_drewN KY.out _ | exact (below_drewN KY.out _).drew | exact below_drewN KY.out.drew _ | exact (below_drewN KY.out.drew _).drew); rintro e w2 ⟨pv, rfl, own2, k2⟩; have hZ : w2.heap[w.heap.size]? = some (.cells #[.int .u16 0, .int .u8 0, .slice none 0 0] 29) := kept_block k2 hYs hY; have cZ : w2.cell? ⟨b, off + 6, none⟩ = some (.int .u8 u) := kept_cell k2 (Nat.lt_trans hbw hYs) cY; obtain ⟨⟨z0, z1, z2⟩, zf⟩ := block3 hZ; have KZ : Hid (Below w.heap.size w w2) := kept_below KY.out k2; obtain ⟨po, pc, rfl⟩ := (own_sl own2).shape; have OZ := hid_as own2; clear own2 k2))
  all_goals
    go_wp2
    obtain ⟨e0, e1, e2⟩ := set_box (Box.mk z0 z1 z2) (.int .u16 id) (.int .u8 u) (.slice po (u8s pdu).length pc)
    refine bodyPost_ret (v := .tuple #[.agg #[.int .u16 id, .int .u8 u, .slice po (u8s pdu).length pc], .int .i64 en, .int .i64 0]) (by simp [results, Try.results20, go_sem, e0, e1, e2]) rfl ⟨⟨_, rfl, own_base (own_three OZ.out hYs _ _ _) (Nat.le_of_lt hYs)⟩, below_three KZ.out (Nat.le_refl _) _ _ _⟩
end Go.Proofs.Ytjfaocpbhhpbdaa
