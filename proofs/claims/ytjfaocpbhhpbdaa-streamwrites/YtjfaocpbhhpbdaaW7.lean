/- The walks: the reference's OpenMbap of a whole frame. -/
import Derived.Test.YtjfaocpbhhpbdaaW6
namespace Go.Proofs.Ytjfaocpbhhpbdaa
open Go.RowKit
open Pdu
set_option maxHeartbeats 1600000 in
theorem ropen_yes (b off n cap en : Nat) (bs : List Nat) (w : World) (h6 : 6 ≤ n) (hcap : n ≤ cap) (hm : n ≤ 10000) (hn : n = bs.length) (hB : Bytes bs) (hc : Lies w b off (u8s bs)) (hp : wordAt bs 2 = 0) (hk : 2 ≤ wordAt bs 4 ∧ wordAt bs 4 ≤ 254) (hen : 6 + ((wordAt bs 4 : Nat) : Int) = (en : Int)) (hl : en ≤ n) :
    Calls Try.prog 8 #[.slice (some ⟨b, off, none⟩) n cap] w fun e w' => (∃ pv, e = .returned (.tuple #[.agg #[.int .u16 (wordAt bs 0 : Nat), .int .u8 (bs.getD 6 0 : Nat), pv], .int .i64 en, .int .i64 0]) ∧ w'.ownsRow w.heap.size 5 1 pv ((bs.drop 7).take (wordAt bs 4 - 1)).length (u8s ((bs.drop 7).take (wordAt bs 4 - 1)))) ∧ Below w.heap.size w w' := by
  have d1 : decide ((n : Int) < 6) = false := decide_eq_false (by omega)
  have d2 : (((wordAt bs 2 : Nat) : Int) == 0) = true := by rw [beq_iff_eq]; omega
  have d3 : decide (((wordAt bs 4 : Nat) : Int) < 2) = false := decide_eq_false (by omega)
  have d4 : decide ((254 : Int) < ((wordAt bs 4 : Nat) : Int)) = false := decide_eq_false (by omega)
  have d5 : decide ((n : Int) < (en : Int)) = false := decide_eq_false (by omega)
  have hk16 : wordAt bs 4 < 65536 := wordAt_lt hB 4
  have CC := hid_as hc
  have HB := hid_as hB
  have HN := hid_as hn
  have k6 : w.cell? ⟨b, off + 6, none⟩ = some (.int .u8 (bs.getD 6 0 : Nat)) := hc.u8 6 (by omega)
  have hbw : b < w.heap.size := lt_of_cell k6
  clear hc hB hn hp
  have KX : Hid (Below w.heap.size w (w.alloc (.cells #[.int .u16 0, .int .u8 0, .slice none 0 0] 29))) := below_new (Below.refl _ w) _
  have CX : Hid (Lies (w.alloc (.cells #[.int .u16 0, .int .u8 0, .slice none 0 0] 29)) b off (u8s bs)) := CC.out.below KX.out
  have W4 := hid_as (fun (d : Nat) => at_w (CX.out.drewN d) HB.out 4 n cap 4 rfl (by have := HN.out; omega) HN.out (by omega))
  have W2 := hid_as (fun (d : Nat) => at_w (CX.out.drewN d) HB.out 2 n cap 2 rfl (by have := HN.out; omega) HN.out (by omega))
  have W0 := hid_as (fun (W : World) (h : Below w.heap.size w W) => at_w (CC.out.below h) HB.out 0 n cap 0 rfl (by have := HN.out; omega) HN.out (by omega))
  have hk7 : wordAt bs 4 - 1 = en - 7 := by omega
  have SL := hid_as (fun (W : World) (h : Below w.heap.size w W) => sub_sl (CC.out.below h) 7 (en - 7) (cap - 7) (by have := HN.out; omega) (by omega))
  have hz : ([] : List Nat).length + ((bs.drop 7).take (en - 7)).length ≤ 60000 := by rw [List.length_take]; simp; omega
  rw [hk7]
  clear hk7
  generalize (bs.drop 7).take (en - 7) = pdu at SL hz ⊢
  generalize wordAt bs 2 = p at d2 W2
  generalize wordAt bs 4 = k at hk16 W4 hen hk d3 d4
  generalize wordAt bs 0 = id at W0 ⊢
  generalize bs.getD 6 0 = u at k6 ⊢
  clear CX
  go_enter Try.func8, Try.ntmps8
  go_wp2_with fail
  refine (W4.out 0).mono ?_
  rintro e w1 ⟨rfl, m1, hw⟩
  subst w1
  go_wp2_with fail
  refine (W2.out _).mono ?_
  rintro e w1 ⟨rfl, m2, hw⟩
  subst w1
  go_upto_region 10 with fail
  have KY : Hid (Below w.heap.size w ((w.alloc (.cells #[.int .u16 0, .int .u8 0, .slice none 0 0] 29)).drewN (m1 + m2))) := below_drewN KX.out _
  have hY : ((w.alloc (.cells #[.int .u16 0, .int .u8 0, .slice none 0 0] 29)).drewN (m1 + m2)).heap[w.heap.size]? = some (.cells #[.int .u16 0, .int .u8 0, .slice none 0 0] 29) := heap_alloc_new w _
  have hYs : w.heap.size < ((w.alloc (.cells #[.int .u16 0, .int .u8 0, .slice none 0 0] 29)).drewN (m1 + m2)).heap.size := by show _ < (w.alloc (.cells #[.int .u16 0, .int .u8 0, .slice none 0 0] 29)).heap.size; rw [World.size_alloc]; omega
  have cY : ((w.alloc (.cells #[.int .u16 0, .int .u8 0, .slice none 0 0] 29)).drewN (m1 + m2)).cell? ⟨b, off + 6, none⟩ = some (.int .u8 u) := (KY.out.cell (p := ⟨b, off + 6, none⟩) hbw).trans k6
  have hne : ¬ (w.heap.size = b) := by omega
  generalize (w.alloc (.cells #[.int .u16 0, .int .u8 0, .slice none 0 0] 29)).drewN (m1 + m2) = Y at KY hY hYs cY ⊢
  clear KX k6
  have s1 : IntKind.i64.wrap (en : Int) = (en : Int) := by rw [IntKind.wrap_i64]; omega
  have s2 : (7 : Int) ≤ (en : Int) := by omega
  have s3 : (en : Int) ≤ (cap : Int) := by omega
  have s4 : ¬ (cap = 7) := by omega
  have s5 : (6 : Int) < (n : Int) := by omega
  have s6 : 6 < n := by omega
  go_region_held3 (fun w' => w'.cell? ⟨b, off + 6, none⟩ = some (.int .u8 u)) (first | exact cY | exact cZ | (simp [World.cell?_setCell_far, hne, cZ]; done)) (first
    | (go_at_call 18; (with_reducible refine (W0.out _ ?_).mono ?_); (first | exact KY.out | exact KY.out.drew); rintro e w1 ⟨rfl, m3, hw⟩; subst w1)
    | (refine step_append_own2 rfl (.const (.slice none 0 0)) (.tmp 38) rfl Y.heap.size _ _ [] pdu rfl rfl (World.ownsRow_nil ..) (SL.out _ (below_drewN KY.out _)) hz (Nat.le_refl _) ?_; intro pv w2 own2 k2; have hZ : w2.heap[w.heap.size]? = some (.cells #[.int .u16 0, .int .u8 0, .slice none 0 0] 29) := kept_block k2 hYs hY; have cZ : w2.cell? ⟨b, off + 6, none⟩ = some (.int .u8 u) := kept_cell k2 (Nat.lt_trans hbw hYs) cY; obtain ⟨⟨z0, z1, z2⟩, zf⟩ := block3 hZ; have KZ : Hid (Below w.heap.size w w2) := kept_below KY.out k2; obtain ⟨po, pc, rfl⟩ := (own_sl own2).shape; have OZ := hid_as own2; clear own2 k2))
  all_goals
    go_wp2
    obtain ⟨e0, e1, e2⟩ := set_box (Box.mk z0 z1 z2) (.int .u16 id) (.int .u8 u) (.slice po (u8s pdu).length pc)
    refine bodyPost_ret (v := .tuple #[.agg #[.int .u16 id, .int .u8 u, .slice po (u8s pdu).length pc], .int .i64 en, .int .i64 0]) (by simp [results, Try.results8, go_sem, e0, e1, e2]) rfl ⟨⟨_, rfl, own_base (own_three OZ.out hYs _ _ _) (Nat.le_of_lt hYs)⟩, below_three KZ.out (Nat.le_refl _) _ _ _⟩
end Go.Proofs.Ytjfaocpbhhpbdaa
