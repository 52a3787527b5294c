/- The chapter's example, run (stage 13). -/
import Derived.Test.YtgdoanhemgklpaaGreatDoorVS
namespace Go.Proofs.YtgdoanhemgklpaaGreatDoor
open Go.RowKit
open Adr Lx Sx
theorem kn_one (W : World) (hW : Tabs W) : Calls Tryz.prog 7 #[.string ⟨#[97, 32, 43, 32, 50, 32, 42, 32, 98]⟩] W fun e w' => ∃ g lc kd n nm fl, e = .returned (.tuple #[.agg #[.int .i64 8, .int .i64 kd, .int .i64 n, .string nm, .string fl, .slice (some ⟨g, 0, none⟩) 2 lc, .int .i64 2], .nilIface]) ∧ 2 ≤ lc ∧ g < w'.heap.size ∧ w'.cell? ⟨g, 7, none⟩ = some (.int .i64 5) ∧ Below W.heap.size W w' := by
  obtain ⟨t, k, h1, h2, h3⟩ := kn1_ok
  refine (expr_yes ⟨#[97, 32, 43, 32, 50, 32, 42, 32, 98]⟩ W hW (by decide) kn1_is h1).mono ?_
  rintro e w' ⟨o, kd, n, nm, fl, lp, ln, lc, p, rfl, et, b⟩
  obtain ⟨⟨rfl, rfl, rfl, rfl, rfl, rfl, rfl⟩, ⟨h0, _⟩ | ⟨g, rfl, _, hc, _, hg, hr⟩⟩ := et.root h2
  · cases h0
  · obtain ⟨o, k, n, nm, fl, M, p, ⟨r0, _⟩, e2⟩ := hr 1 (by decide)
    have q := e2.op (d := ⟨5, 0, 0, [], [], 6, 2⟩) h3
    subst q
    exact ⟨g, lc, _, _, _, _, rfl, hc, hg, r0, b⟩
theorem kn_two (W : World) (hW : Tabs W) : Calls Tryz.prog 13 #[.string ⟨#[80, 82, 79, 71, 82, 65, 77, 32, 112, 32, 86, 65, 82, 32, 120, 32, 58, 32, 73, 78, 84, 32, 58, 61, 32, 53, 59, 32, 69, 78, 68, 95, 86, 65, 82, 32, 120, 32, 58, 61, 32, 120, 32, 43, 32, 49, 59, 32, 73, 70, 32, 120, 32, 62, 32, 51, 32, 84, 72, 69, 78, 32, 120, 32, 58, 61, 32, 48, 59, 32, 69, 78, 68, 95, 73, 70, 59, 32, 69, 78, 68, 95, 80, 82, 79, 71, 82, 65, 77]⟩] W fun e w' => ∃ sa sb sc va vc g bc, e = .returned (.tuple #[.agg #[.string ⟨#[112]⟩, .slice sa sb sc, .slice va 1 vc, .bool false, .slice (some ⟨g, 0, none⟩) 2 bc, .slice none 0 0], .nilIface]) ∧ 2 ≤ bc ∧ g < w'.heap.size ∧ w'.cell? ⟨g, 13, none⟩ = some (.int .i64 2) ∧ Below W.heap.size W w' := by
  refine (parse_yes ⟨#[80, 82, 79, 71, 82, 65, 77, 32, 112, 32, 86, 65, 82, 32, 120, 32, 58, 32, 73, 78, 84, 32, 58, 61, 32, 53, 59, 32, 69, 78, 68, 95, 86, 65, 82, 32, 120, 32, 58, 61, 32, 120, 32, 43, 32, 49, 59, 32, 73, 70, 32, 120, 32, 62, 32, 51, 32, 84, 72, 69, 78, 32, 120, 32, 58, 61, 32, 48, 59, 32, 69, 78, 68, 95, 73, 70, 59, 32, 69, 78, 68, 95, 80, 82, 79, 71, 82, 65, 77]⟩ W hW (by decide) kn2_is (ok_of kn2_p kn2_e)).mono ?_
  rintro e w' ⟨sa, sb, sc, va, vc, ba, bc, xs, rfl, own, ops, b⟩
  have own0 := own
  obtain ⟨hxl, ⟨h0, _⟩ | ⟨g, cp, cur, hv, hgb, hgh, hgc, _, _, htake⟩⟩ := own0
  · simp at h0
  · simp only [Value.slice.injEq] at hv
    obtain ⟨rfl, _, rfl⟩ := hv
    have hl := World.ownsRow.lt own g rfl
    refine ⟨sa, sb, sc, va, vc, g, bc, rfl, hgc, hl.2, ?_, b⟩
    have q := World.ownsRow.cells own (g := g) rfl 13 _ (ops 1 2 rfl)
    rw [show (⟨g, 0, none⟩ : Addr).add 13 = ⟨g, 13, none⟩ by (simp [Addr.add])] at q
    exact q
theorem kn_three (W : World) (hW : Tabs W) : Calls Tryz.prog 13 #[.string ⟨#[80, 82, 79, 71, 82, 65, 77, 32, 112, 32, 120, 32, 61, 32, 49, 59, 32, 69, 78, 68, 95, 80, 82, 79, 71, 82, 65, 77]⟩] W fun e w' => ∃ g, e = .returned (.tuple #[.agg #[.string ⟨#[]⟩, .slice none 0 0, .slice none 0 0, .bool false, .slice none 0 0, .slice none 0 0], .iface 60 (.pointer (some ⟨g, 0, none⟩))]) ∧ g < w'.heap.size ∧ w'.cell? ⟨g, 0, none⟩ = some (.int .i64 ((12 : Nat) : Int)) ∧ w'.cell? ⟨g, 1, none⟩ = some (.int .i64 ((130 : Nat) : Int)) ∧ Below W.heap.size W w' := by
  have h := no_of kn3_v
  rw [kn3_e] at h
  refine (parse_no ⟨#[80, 82, 79, 71, 82, 65, 77, 32, 112, 32, 120, 32, 61, 32, 49, 59, 32, 69, 78, 68, 95, 80, 82, 79, 71, 82, 65, 77]⟩ W hW (by decide) kn3_is h).mono ?_
  rintro e w' ⟨g, rfl, _, hg, c0, c1, b⟩
  rw [kn3_k] at c0
  exact ⟨g, rfl, hg, c0, c1, b⟩
set_option maxHeartbeats 4000000 in
set_option maxRecDepth 100000 in
theorem known_c (w : World) (hT : Tabs w) : Calls Tryz.prog 6 #[] w fun e w' => e = .returned (.bool true) ∧ Below w.heap.size w w' := by
  have A1 := hid_as kn_one
  have A2 := hid_as kn_two
  have A3 := hid_as kn_three
  have TE : Hid (∀ W g, Tabs W → W.cell? ⟨g, 0, none⟩ = some (.int .i64 ((12 : Nat) : Int)) → W.cell? ⟨g, 1, none⟩ = some (.int .i64 ((130 : Nat) : Int)) → Calls Tryz.prog 8 #[.iface 60 (.pointer (some ⟨g, 0, none⟩))] W fun e w' => e = .returned (.tuple #[.int .i64 12, .int .i64 130]) ∧ Below W.heap.size W w') := fun W g hW h0 h1 => told_err g 12 130 W hW h0 h1
  have hT0 := hid_as hT
  clear hT
  go_enter Tryz.func6, Tryz.ntmps6
  go_wp2_with (first
    | (go_at_call 7; (with_reducible refine (A1.out _ hT0.out).mono ?_); rintro e w1 ⟨g1, lc1, kd1, n1, nm1, fl1, rfl, hc1, hg1, c1, b1⟩; have hT1 := hid_as ((hT0.out.below b1).below (below_new1 w1 (.cells #[.int .i64 8, .int .i64 kd1, .int .i64 n1, .string nm1, .string fl1, .slice (some ⟨g1, 0, none⟩) 2 lc1, .int .i64 2] 25))); have K1 := hid_as (below_and b1 (below_new1 w1 (.cells #[.int .i64 8, .int .i64 kd1, .int .i64 n1, .string nm1, .string fl1, .slice (some ⟨g1, 0, none⟩) 2 lc1, .int .i64 2] 25))); have c1a : ∀ o, (w1.alloc o).cell? ⟨g1, 7, none⟩ = some (.int .i64 5) := (fun o => by rw [World.cell?_alloc_lt _ _ ⟨g1, 7, none⟩ hg1]; exact c1); have hc1' : (1 : Int) < 2 := (by decide); clear b1 c1)
    | (go_at_call 13; (with_reducible refine (A2.out _ hT1.out).mono ?_); rintro e w2 ⟨sa2, sb2, sc2, va2, vc2, g2, bc2, rfl, hc2, hg2, c2, b2⟩; have K2 := hid_as (below_and (below_and K1.out b2) (below_new1 w2 (.cells #[.string ⟨#[112]⟩, .slice sa2 sb2 sc2, .slice va2 1 vc2, .bool false, .slice (some ⟨g2, 0, none⟩) 2 bc2, .slice none 0 0] 42))); have hT2 := hid_as ((hT1.out.below b2).below (below_new1 w2 (.cells #[.string ⟨#[112]⟩, .slice sa2 sb2 sc2, .slice va2 1 vc2, .bool false, .slice (some ⟨g2, 0, none⟩) 2 bc2, .slice none 0 0] 42))); have P2 := hid_as (Bk.fresh w2 #[.string ⟨#[112]⟩, .slice sa2 sb2 sc2, .slice va2 1 vc2, .bool false, .slice (some ⟨g2, 0, none⟩) 2 bc2, .slice none 0 0] 42); have c2a := (World.cell?_alloc_lt w2 (.cells #[.string ⟨#[112]⟩, .slice sa2 sb2 sc2, .slice va2 1 vc2, .bool false, .slice (some ⟨g2, 0, none⟩) 2 bc2, .slice none 0 0] 42) ⟨g2, 13, none⟩ hg2).trans c2; clear b2 c2)
    | (go_at_call 13; (with_reducible refine (A3.out _ hT2.out).mono ?_); rintro e w3 ⟨g3, rfl, hg3, d0, d1, b3⟩; have K3 := hid_as (below_and (below_and K2.out b3) (below_new1 w3 (.cells #[.string ⟨#[]⟩, .slice none 0 0, .slice none 0 0, .bool false, .slice none 0 0, .slice none 0 0] 42))); have hT3 := hid_as ((hT2.out.below b3).below (below_new1 w3 (.cells #[.string ⟨#[]⟩, .slice none 0 0, .slice none 0 0, .bool false, .slice none 0 0, .slice none 0 0] 42))); have P3 := hid_as ((P2.out.below b3).alloc (.cells #[.string ⟨#[]⟩, .slice none 0 0, .slice none 0 0, .bool false, .slice none 0 0, .slice none 0 0] 42)); have e0 := (World.cell?_alloc_lt w3 (.cells #[.string ⟨#[]⟩, .slice none 0 0, .slice none 0 0, .bool false, .slice none 0 0, .slice none 0 0] 42) ⟨g3, 0, none⟩ hg3).trans d0; have e1 := (World.cell?_alloc_lt w3 (.cells #[.string ⟨#[]⟩, .slice none 0 0, .slice none 0 0, .bool false, .slice none 0 0, .slice none 0 0] 42) ⟨g3, 1, none⟩ hg3).trans d1; have c3 := ((below_and b3 (below_new1 w3 (.cells #[.string ⟨#[]⟩, .slice none 0 0, .slice none 0 0, .bool false, .slice none 0 0, .slice none 0 0] 42))).cell (p := ⟨g2, 13, none⟩) (by rw [World.size_alloc]; exact Nat.lt_succ_of_lt hg2)).trans c2a; have z3 := b3.size; rw [World.size_alloc] at z3; clear b3 d0 d1 c2a)
    | (go_at_call 8; (with_reducible refine (TE.out _ _ hT3.out e0 e1).mono ?_); rintro e w4 ⟨rfl, b4⟩; have K4 := hid_as (below_and K3.out b4); have P4 := hid_as (P3.out.below b4); have c4 := (b4.cell (p := ⟨g2, 13, none⟩) (by rw [World.size_alloc]; show g2 < _; omega)).trans c3; obtain ⟨p0, p1, p2, p3, p4, p5⟩ := bk6 P4.out; have pf := P4.out.fr; clear b4 c3 e0 e1))
  go_ret
  exact ⟨rfl, K4.out⟩
end Go.Proofs.YtgdoanhemgklpaaGreatDoor
