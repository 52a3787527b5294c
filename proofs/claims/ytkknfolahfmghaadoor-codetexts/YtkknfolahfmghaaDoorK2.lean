/- The walk of known (stage 20). -/
import Derived.Test.YtkknfolahfmghaaDoorK1
namespace Go.Proofs.YtkknfolahfmghaaDoor
open Go.RowKit
open Fb Cod
theorem row_sl {w : World} {g n : Nat} {ds : List Int} (h : RowI w g ds) (hn : n = ds.length) : Sl w (.slice (some ⟨g, 0, none⟩) n n) (i64s ds) := by
  refine Or.inr ⟨g, 0, n, ?_, ?_, fun k u hk => ?_⟩
  · rw [i64s_len, hn]
  · rw [i64s_len]; omega
  · rw [Nat.zero_add]; exact cell_row h hk
set_option maxHeartbeats 3200000 in
set_option maxRecDepth 100000 in
theorem known_c (w : World) (hT : Tabs w) : Calls Tryd.prog 9 #[] w fun e w' => e = .returned (.bool true) ∧ Below w.heap.size w w' := by
  have C0 := kw_c0 w
  have C1 := kw_c1 w
  have C2 := kw_c2 w
  have p0 := kw_20 w
  have p1 := kw_21 w
  have q0 := kw_40 w
  have q1 := kw_41 w
  have r0 := kw_60 w
  have r1 := kw_61 w
  have KB := hid_as (kw_below w)
  have TW := hid_as (hT.below (kw_below w))
  obtain ⟨W, hW⟩ : ∃ W, ((((((w.alloc (.cells #[.int .i64 4] 3)).alloc (.cells #[.int .i64 1, .int .i64 4, .int .i64 0, .int .i64 5, .string ⟨#[]⟩, .int .i64 3, .int .i64 0, .int .i64 0, .int .i64 0, .string ⟨#[]⟩, .int .i64 23, .int .i64 0, .int .i64 0, .int .i64 0, .string ⟨#[]⟩] 41)).alloc (.cells #[.slice (some ⟨w.heap.size, 0, none⟩) 1 1, .slice (some ⟨w.heap.size + 1, 0, none⟩) 3 3] 25)).alloc (.cells #[.int .i64 1, .int .i64 4, .int .i64 0, .int .i64 0, .string ⟨#[]⟩, .int .i64 23, .int .i64 0, .int .i64 0, .int .i64 0, .string ⟨#[]⟩, .int .i64 3, .int .i64 1, .int .i64 0, .int .i64 0, .string ⟨#[]⟩] 41)).alloc (.cells #[.slice (some ⟨w.heap.size, 0, none⟩) 1 1, .slice (some ⟨w.heap.size + 3, 0, none⟩) 3 3] 25)).alloc (.cells #[.int .i64 3, .int .i64 0, .int .i64 0, .int .i64 0, .string ⟨#[]⟩, .int .i64 23, .int .i64 0, .int .i64 0, .int .i64 0, .string ⟨#[]⟩] 41)).alloc (.cells #[.slice (some ⟨w.heap.size, 0, none⟩) 1 1, .slice (some ⟨w.heap.size + 5, 0, none⟩) 2 2] 25) = W := ⟨_, rfl⟩
  have hW2 : kw w = W := hW
  rw [hW2] at C0 C1 C2 p0 p1 q0 q1 r0 r1 KB TW
  clear hW2 hT
  have DC : Hid (Calls Tryd.prog 14 #[.agg #[.slice (some ⟨w.heap.size, 0, none⟩) 1 1, .slice (some ⟨w.heap.size + 1, 0, none⟩) 3 3]] W fun e w' => ∃ g, e = .returned (.tuple #[.slice (some ⟨g, 0, none⟩) 3 3, .nilIface]) ∧ RowI w' g [0, 1, 0] ∧ Below W.heap.size W w') := by
    refine (Depths_c C0 TW.out).mono ?_
    rintro e w' ⟨⟨k, v, hv, _⟩ | ⟨_, g, ds, rfl, hr, _, hd⟩, hb⟩
    · have := hv.unique k0_ver
      cases this
    · rw [k0_dps hd] at hr
      exact ⟨g, rfl, hr, hb⟩
  have VA : Hid (∀ u, Below W.heap.size W u → Calls Tryd.prog 13 #[.agg #[.slice (some ⟨w.heap.size, 0, none⟩) 1 1, .slice (some ⟨w.heap.size + 1, 0, none⟩) 3 3]] u fun e w' => e = .returned .nilIface ∧ Below u.heap.size u w') := fun u k => by
    refine (verify_c (C0.below k) (TW.out.below k)).mono ?_
    rintro e w' ⟨⟨r, v, hv, rfl, he⟩, hb⟩
    obtain rfl := hv.unique k0_ver
    have : v = .nilIface := he
    subst this
    exact ⟨rfl, hb⟩
  have VB : Hid (∀ u, Below W.heap.size W u → Calls Tryd.prog 13 #[.agg #[.slice (some ⟨w.heap.size, 0, none⟩) 1 1, .slice (some ⟨w.heap.size + 3, 0, none⟩) 3 3]] u fun e w' => ∃ v, e = .returned v ∧ Err u (some 2) v w' ∧ Below u.heap.size u w') := fun u k => by
    refine (verify_c (C1.below k) (TW.out.below k)).mono ?_
    rintro e w' ⟨⟨r, v, hv, rfl, he⟩, hb⟩
    obtain rfl := hv.unique k1_ver
    exact ⟨v, rfl, he, hb⟩
  have VC : Hid (∀ u, Below W.heap.size W u → Calls Tryd.prog 13 #[.agg #[.slice (some ⟨w.heap.size, 0, none⟩) 1 1, .slice (some ⟨w.heap.size + 5, 0, none⟩) 2 2]] u fun e w' => ∃ v, e = .returned v ∧ Err u (some 0) v w' ∧ Below u.heap.size u w') := fun u k => by
    refine (verify_c (C2.below k) (TW.out.below k)).mono ?_
    rintro e w' ⟨⟨r, v, hv, rfl, he⟩, hb⟩
    obtain rfl := hv.unique k2_ver
    exact ⟨v, rfl, he, hb⟩
  have TO2 : Hid (∀ (u0 u : World) (v : Value), Err u0 (some 2) v u → Below W.heap.size W u → Calls Tryd.prog 12 #[v] u fun e w' => e = .returned (.tuple #[.int .i64 2, .int .i64 200]) ∧ Below u.heap.size u w') := fun u0 u v he k => told_c he (TW.out.below k)
  have TO0 : Hid (∀ (u0 u : World) (v : Value), Err u0 (some 0) v u → Below W.heap.size W u → Calls Tryd.prog 12 #[v] u fun e w' => e = .returned (.tuple #[.int .i64 0, .int .i64 200]) ∧ Below u.heap.size u w') := fun u0 u v he k => told_c he (TW.out.below k)
  have TX : Hid (∀ u, Below W.heap.size W u → Calls Tryd.prog 16 #[.agg #[.slice (some ⟨w.heap.size, 0, none⟩) 1 1, .slice (some ⟨w.heap.size + 1, 0, none⟩) 3 3]] u fun e w' => e = .returned (.string (tx (txt 0 kL0))) ∧ Below u.heap.size u w') := fun u k => text_c (C0.below k) (TW.out.below k) kw_wf (by rw [k0_txt]; decide)
  have NI : Hid (∀ (u v : World) (g : Nat), RowI u g [0, 1, 0] → Below u.heap.size u v → Calls Tryd.prog 15 #[.slice (some ⟨g, 0, none⟩) 3 3, .slice (some ⟨v.heap.size, 0, none⟩) 3 3] (v.alloc (.cells #[.int .i64 0, .int .i64 1, .int .i64 0] 3)) fun e w' => e = .returned (.bool true) ∧ Same (v.alloc (.cells #[.int .i64 0, .int .i64 1, .int .i64 0] 3)) w') := fun u v g hr k => by
    have k2 := below_and k (below_new1 v (.cells #[.int .i64 0, .int .i64 1, .int .i64 0] 3))
    have h1 : RowI (v.alloc (.cells #[.int .i64 0, .int .i64 1, .int .i64 0] 3)) g [0, 1, 0] := (k2.block g (row_lt hr)).trans hr
    have h2 : RowI (v.alloc (.cells #[.int .i64 0, .int .i64 1, .int .i64 0] 3)) v.heap.size [0, 1, 0] := heap_alloc_new v _
    refine (nums_c (row_sl h1 rfl) (row_sl h2 rfl) (by decide)).mono ?_
    rintro e w' ⟨rfl, hs⟩
    exact ⟨rfl, hs⟩
  have CM : ((tx (txt 0 kL0)).toList == [48, 32, 112, 117, 115, 104, 32, 52, 32, 48, 32, 53, 10, 49, 32, 115, 116, 111, 114, 101, 32, 48, 32, 48, 32, 48, 10, 50, 32, 101, 110, 100, 32, 48, 32, 48, 32, 48, 10]) = true := by rw [tx_list, k0_txt]; rfl
  generalize tx (txt 0 kL0) = T0 at *
  clear C0 C1 C2 TW
  go_enter Tryd.func9, Tryd.ntmps9
  go_upto_region 5 with (go_at_call 14; refine DC.out.mono ?_; rintro e w5 ⟨g, rfl, hr, b5⟩; have p0 := keep_cell b5 p0; have p1 := keep_cell b5 p1; have q0 := keep_cell b5 q0; have q1 := keep_cell b5 q1; have r0 := keep_cell b5 r0; have r1 := keep_cell b5 r1; have R5 := hid_as hr; have B5 := hid_as b5; clear hr b5)
  clear hW
  go_upto_region 6 with (first | (go_at_call 13; refine (VB.out _ B5.out).mono ?_; rintro e w6 ⟨v, rfl, he, b6⟩; have p0 := keep_cell b6 p0; have p1 := keep_cell b6 p1; have q0 := keep_cell b6 q0; have q1 := keep_cell b6 q1; have r0 := keep_cell b6 r0; have r1 := keep_cell b6 r1; have E6 := hid_as he; have B6 := hid_as (below_and B5.out b6); have D6 := hid_as b6; clear he b6) | (go_at_call 12; refine (TO2.out _ _ _ E6.out B6.out).mono ?_; rintro e w7 ⟨rfl, b7⟩; have p0 := keep_cell b7 p0; have p1 := keep_cell b7 p1; have q0 := keep_cell b7 q0; have q1 := keep_cell b7 q1; have r0 := keep_cell b7 r0; have r1 := keep_cell b7 r1; have B7 := hid_as (below_and B6.out b7); have D7 := hid_as (below_and D6.out b7); clear b7))
  go_upto_region 7 with (first | (go_at_call 13; refine (VC.out _ B7.out).mono ?_; rintro e w8 ⟨v8, rfl, he, b8⟩; have p0 := keep_cell b8 p0; have p1 := keep_cell b8 p1; have q0 := keep_cell b8 q0; have q1 := keep_cell b8 q1; have r0 := keep_cell b8 r0; have r1 := keep_cell b8 r1; have E8 := hid_as he; have B8 := hid_as (below_and B7.out b8); have D8 := hid_as (below_and D7.out b8); clear he b8) | (go_at_call 12; refine (TO0.out _ _ _ E8.out B8.out).mono ?_; rintro e w9 ⟨rfl, b9⟩; have p0 := keep_cell b9 p0; have p1 := keep_cell b9 p1; have q0 := keep_cell b9 q0; have q1 := keep_cell b9 q1; have r0 := keep_cell b9 r0; have r1 := keep_cell b9 r1; have B9 := hid_as (below_and B8.out b9); have D9 := hid_as (below_and D8.out b9); clear b9))
  go_wp2_with (first | (go_at_call 13; refine (VA.out _ B9.out).mono ?_; rintro e wA ⟨rfl, bA⟩; have p0 := keep_cell bA p0; have p1 := keep_cell bA p1; have q0 := keep_cell bA q0; have q1 := keep_cell bA q1; have r0 := keep_cell bA r0; have r1 := keep_cell bA r1; have BA := hid_as (below_and B9.out bA); have DA := hid_as (below_and D9.out bA); clear bA) | (go_at_call 15; refine (NI.out _ _ _ R5.out DA.out).mono ?_; rintro e wB ⟨rfl, hs⟩; have bB := below_and (below_new1 _ _) hs.below; have p0 := keep_cell bB p0; have p1 := keep_cell bB p1; have q0 := keep_cell bB q0; have q1 := keep_cell bB q1; have r0 := keep_cell bB r0; have r1 := keep_cell bB r1; have BB := hid_as (below_and BA.out bB); clear bB hs) | (go_at_call 16; refine (TX.out _ BB.out).mono ?_; rintro e wC ⟨rfl, bC⟩; have BC := hid_as (below_and BB.out bC); clear bC))
  go_ret
  exact ⟨ret_bool rfl, below_and KB.out BC.out⟩
end Go.Proofs.YtkknfolahfmghaaDoor
