/- A call's operands (stage 13). -/
import Derived.Test.YtgdoanhemgklpaaGreatDoorV7
import Derived.WalkMore
import Derived.Deep.CutRange
import Derived.Deep.CutBlock
namespace Go.Proofs.YtgdoanhemgklpaaGreatDoor
open Go.RowKit
open Adr Lx Sx
/-- Where the reader is, in memory. -/
def rdn (rb : Nat) (w : World) : Nat := (((w.cell? ⟨rb, 1, none⟩).map intOf).getD 0).toNat
theorem Rd.rdn {w : World} {rb tb cap : Nat} {T : TL} {i : Nat} (h : Rd w rb tb cap T i) : rdn rb w = i := by
  have q := h.own.cell 1
  unfold Go.Proofs.YtgdoanhemgklpaaGreatDoor.rdn
  rw [q]
  rfl
theorem own_kp {base e n : Nat} {rb : Nat} {W w : World} {v : Value} {m : Nat} {xs : List Value} (o : W.ownsRow base e n v m xs) (k : Kp rb W w) (hb : rb < base) : w.ownsRow base e n v m xs := by
  refine ⟨o.1, ?_⟩
  rcases o.2 with h' | ⟨g, cap, cur, rfl, hb', hg, r⟩
  · exact Or.inl h'
  · exact Or.inr ⟨g, cap, cur, rfl, hb', (k.block g (World.ownsRow.lt o g rfl).2 (by omega)).trans hg, r⟩
theorem own_one {base e n : Nat} {W : World} {cs : Array Value} (hb : base ≤ W.heap.size) (hc : cs.size = n) : (W.alloc (.cells cs e)).ownsRow base e n (.slice (some ⟨W.heap.size, 0, none⟩) 1 1) 1 cs.toList :=
  ⟨by rw [Array.length_toList, hc, Nat.one_mul], Or.inr ⟨W.heap.size, 1, cs, rfl, hb, (MapKept.heap_alloc W (.cells cs e)).1, Nat.le_refl _, by decide, by rw [hc, Nat.one_mul], by rw [Nat.one_mul, ← hc, ← Array.length_toList, List.take_length]⟩⟩
set_option maxHeartbeats 4000000 in
set_option maxRecDepth 100000 in
theorem p_call {w : World} {rb tb cap : Nat} {T : TL} {i : Nat} (h : Rd w rb tb cap T i) (ta tk : Nat) (tn : Int) (tt : List UInt8) (pl : Nat) (dp : Nat) (hd : dp ≤ 40) (x : Nat → Re Tr)(X : Hid (∀ W i, Rd W rb tb cap T i → Calls Tryz.prog 28 #[.pointer (some ⟨rb, 0, none⟩), .int .i64 ((dp : Int) + 1)] W fun e w' => Outc rb tb cap T i W (x i) (qE W) e w')) : Calls Tryz.prog 127 #[.pointer (some ⟨rb, 0, none⟩), .agg #[.int .i64 ta, .int .i64 tk, .int .i64 tn, .string (tx tt), .int .i64 pl], .int .i64 dp] w fun e w' => Outc rb tb cap T i w (cal T x (⟨ta, tk, tn, tt⟩, pl) i) (qE w) e w' := by
  have hrl := h.rlt
  have htl := h.lt
  have hwf := h.wf.1
  have B0 : Hid (Bk ((w.alloc (.cells #[.int .i64 ta, .int .i64 tk, .int .i64 tn, .string (tx tt), .int .i64 pl] 50)).alloc (.cells #[.int .i64 0, .int .i64 0, .int .i64 0, .string ⟨#[]⟩, .string ⟨#[]⟩, .slice none 0 0, .int .i64 0] 25)) (w.heap.size + 1) #[.int .i64 0, .int .i64 0, .int .i64 0, .string ⟨#[]⟩, .string ⟨#[]⟩, .slice none 0 0, .int .i64 0]) := by
    have q := Bk.fresh (w.alloc (.cells #[.int .i64 ta, .int .i64 tk, .int .i64 tn, .string (tx tt), .int .i64 pl] 50)) #[.int .i64 0, .int .i64 0, .int .i64 0, .string ⟨#[]⟩, .string ⟨#[]⟩, .slice none 0 0, .int .i64 0] 25
    rw [World.size_alloc] at q
    exact hid_as q
  have A0 : Hid (Bk ((w.alloc (.cells #[.int .i64 ta, .int .i64 tk, .int .i64 tn, .string (tx tt), .int .i64 pl] 50)).alloc (.cells #[.int .i64 0, .int .i64 0, .int .i64 0, .string ⟨#[]⟩, .string ⟨#[]⟩, .slice none 0 0, .int .i64 0] 25)) w.heap.size #[.int .i64 ta, .int .i64 tk, .int .i64 tn, .string (tx tt), .int .i64 pl]) := hid_as ((Bk.fresh w #[.int .i64 ta, .int .i64 tk, .int .i64 tn, .string (tx tt), .int .i64 pl] 50).alloc _)
  have K0 := hid_as (((Kp.refl rb w).alloc (.cells #[.int .i64 ta, .int .i64 tk, .int .i64 tn, .string (tx tt), .int .i64 pl] 50)).alloc (.cells #[.int .i64 0, .int .i64 0, .int .i64 0, .string ⟨#[]⟩, .string ⟨#[]⟩, .slice none 0 0, .int .i64 0] 25))
  have H := hid_as ((h.alloc (.cells #[.int .i64 ta, .int .i64 tk, .int .i64 tn, .string (tx tt), .int .i64 pl] 50)).alloc (.cells #[.int .i64 0, .int .i64 0, .int .i64 0, .string ⟨#[]⟩, .string ⟨#[]⟩, .slice none 0 0, .int .i64 0] 25))
  have em : cal T x (⟨ta, tk, tn, tt⟩, pl) i = th (x i) fun a k => th (rp (isT T [44]) (fun l m => th (x (m + 1)) fun a z => ok (l ++ [a]) z) (T.length + 1) [a] k) (fun l m => th (xp T [41] m) fun _ z => ok (mkT ⟨19, 0, 0, tt, [], pl, l.length⟩ l) z) := rfl
  generalize cal T x (⟨ta, tk, tn, tt⟩, pl) i = M at *
  have M0 := hid_as em
  have C : Hid (∀ W i, Rd W rb tb cap T i → Calls Tryz.prog 36 #[.pointer (some ⟨rb, 0, none⟩), .string ⟨#[41]⟩] W fun e w' => Outc rb tb cap T i W (xp T [41] i) (qU W) e w') := expect_c ⟨#[41]⟩ (by decide)
  clear h em
  go_enter Tryz.func127, Tryz.ntmps127
  go_wp2_with (first
    | (go_at_call 28; (with_reducible refine (X.out _ i H.out).mono ?_); rintro e w1 ⟨k1, ⟨t1, i1, _, m1, rfl, ⟨o1, kd1, v1, nm1, fl1, lp1, ln1, lc1, p1, rfl, E1'⟩, r1, l1⟩ | ⟨n1, i1, m1, rfl⟩⟩; rotate_left; exact And.intro rfl (Outc.stop M0.out m1 ((K0.out).trans k1)); have R1 := hid_as r1; have K1 := hid_as ((K0.out).trans k1); have M1 := hid_as (th_go M0.out m1); have B1 := hid_as (B0.out.kp k1 (by omega)); have A1 := hid_as (A0.out.kp k1 (by omega)); have z1 := K1.out.size; have q1 := k1.size; (try rw [World.size_alloc] at q1); have J1 := hid_as k1; clear k1 r1 m1; have E1 := hid_as E1'; clear E1'; have y1 := B1.out.lt))
  go_loopw [7] (fun v wr => ∃ (k f : Nat) (ts : List Tr) (xs : List Value) (g : Nat), T.length < k + f ∧ i ≤ k ∧ ts.length ≤ k + 1 ∧ 0 < ts.length ∧ v.ownBlock = some g ∧ Hid (Rd wr rb tb cap T k) ∧ Hid (Kp rb w wr) ∧ Hid (Bk wr (w.heap.size + 1) #[.int .i64 0, .int .i64 0, .int .i64 0, .string ⟨#[]⟩, .string ⟨#[]⟩, .slice none 0 0, .int .i64 0]) ∧ Hid (Bk wr w.heap.size #[.int .i64 ta, .int .i64 tk, .int .i64 tn, .string (tx tt), .int .i64 pl]) ∧ Hid (wr.ownsRow (w.heap.size + 2) 25 7 v ts.length xs) ∧ Hid (Us (fun x => w.heap.size + 2 ≤ x ∧ x ≠ g) wr xs ts) ∧ Hid (M = th (rp (isT T [44]) (fun l m => th (x (m + 1)) fun a z => ok (l ++ [a]) z) f ts k) (fun l m => th (xp T [41] m) fun _ z => ok (mkT ⟨19, 0, 0, tt, [], pl, l.length⟩ l) z))) (fun _ wr => T.length - rdn rb wr)
  case atStart =>
    refine ⟨i1, T.length + 1, [t1], _, w1.heap.size, by omega, l1, by simp, by simp, rfl, hid_as (R1.out.alloc _), hid_as (K1.out.alloc _), hid_as (B1.out.alloc _), hid_as (A1.out.alloc _), hid_as (own_one (by omega) rfl), hid_as ((Us.one E1.out).all (fun v t e => (e.into (S' := fun x => w.heap.size + 2 ≤ x ∧ x ≠ w1.heap.size) (fun x hx hl => ⟨?_, by omega⟩)).alloc _)), M1⟩
    have hx' : ((w.alloc (.cells #[.int .i64 ta, .int .i64 tk, .int .i64 tn, .string (tx tt), .int .i64 pl] 50)).alloc (.cells #[.int .i64 0, .int .i64 0, .int .i64 0, .string ⟨#[]⟩, .string ⟨#[]⟩, .slice none 0 0, .int .i64 0] 25)).heap.size ≤ x := hx
    rw [World.size_alloc, World.size_alloc] at hx'
    omega
  case round =>
    obtain ⟨k, f, ts, xs, g, hf, hik, htk, ht0, hg, hR, hK, hB, hA, hO, hU, hM⟩ := hrel
    have hat := hid_as hR.out.rdn
    have hkl := hR.out.ir
    have hgl := World.ownsRow.lt hO.out g hg
    have z0 := hK.out.size
    obtain ⟨f, rfl⟩ : ∃ f', f = f' + 1 := ⟨f - 1, by omega⟩
    cases hc : isT T [44] k with
    | true =>
      have A2 : Hid (∀ W, Rd W rb tb cap T (k) → Calls Tryz.prog 34 #[.pointer (some ⟨rb, 0, none⟩), .string ⟨#[44]⟩] W fun e w' => e = .returned (.bool true) ∧ Kp rb W w' ∧ Rd w' rb tb cap T (k + 1)) := fun W H => accept_y H ⟨#[44]⟩ hc (by decide)
      have Mr : Hid (M = th (x (k + 1)) fun a z => th (rp (isT T [44]) (fun l m => th (x (m + 1)) fun a z => ok (l ++ [a]) z) f (ts ++ [a]) z) (fun l m => th (xp T [41] m) fun _ z => ok (mkT ⟨19, 0, 0, tt, [], pl, l.length⟩ l) z)) := by
        rw [rp_yes hM.out hc, th_th]
        exact hid_as rfl
      clear hM hc
      go_wp2_with (first
        | (go_at_call 34; (with_reducible refine (A2.out _ hR.out).mono ?_); rintro e w2 ⟨rfl, k2, r2⟩; have R2 := hid_as r2; have K2 := hid_as ((hK.out).trans k2); have B2 := hid_as (hB.out.kp k2 (by omega)); have A3 := hid_as (hA.out.kp k2 (by omega)); have z2 := K2.out.size; have q2 := k2.size; (try rw [World.size_alloc] at q2); have J2 := hid_as k2; clear k2 r2)
        | (go_at_call 28; (with_reducible refine (X.out _ (k + 1) R2.out).mono ?_); rintro e w3 ⟨k3, ⟨t3, i3, _, m3, rfl, ⟨o3, kd3, v3, nm3, fl3, lp3, ln3, lc3, p3, rfl, E3'⟩, r3, l3⟩ | ⟨n3, i3, m3, rfl⟩⟩; rotate_left; exact And.intro rfl (Outc.stop Mr.out m3 ((K2.out).trans k3)); have R3 := hid_as r3; have K3 := hid_as ((K2.out).trans k3); have M3 := hid_as (th_go Mr.out m3); have B3 := hid_as (B2.out.kp k3 (by omega)); have A4 := hid_as (A3.out.kp k3 (by omega)); have z3 := K3.out.size; have q3 := k3.size; (try rw [World.size_alloc] at q3); have J3 := hid_as k3; clear k3 r3 m3; have E3 := hid_as E3'; clear E3'; have y3 := B3.out.lt; have O3 := hid_as (own_kp hO.out (J2.out.trans J3.out) (by omega)); obtain ⟨v5, w5, hr5, ho5, hg5, hw5⟩ := push_at (cs := #[.int .i64 o3, .int .i64 kd3, .int .i64 v3, .string nm3, .string fl3, .slice lp3 ln3 lc3, .int .i64 p3]) Tryz.underlying23 info7 rfl (by decide) (by decide) O3.out (by omega) (by omega) rfl (by intro u hu; simp at hu; rcases hu with rfl | rfl | rfl | rfl | rfl | rfl | rfl <;> rfl); rw [hg] at hg5 hw5; have S5 := hid_as (us_step hU.out (J2.out.trans J3.out) (by omega) (by omega) (by omega) E3.out hg5 hw5); have K5 := hid_as ((K3.out.alloc _).grown hg5 (fun k hk => by obtain rfl := Option.some.inj hk; omega)); have R5 := hid_as ((R3.out.alloc _).grown hg5 (fun e => by have := Option.some.inj e; omega) (fun e => by have := Option.some.inj e; omega)); have B5 := hid_as ((B3.out.alloc _).grown hg5 (fun e => by have := Option.some.inj e; omega)); have A5 := hid_as ((A4.out.alloc _).grown hg5 (fun e => by have := Option.some.inj e; omega)); replace hr5 := hid_as hr5; replace ho5 := hid_as ho5; clear hg5 hw5 O3)
        | (at_builtin; refine Lib.wpList_append_run _ rfl _ _ _ _ rfl _ _ rfl rfl _ _ hr5.out ?_))
      go_roundw
      case rel =>
        obtain ⟨g', hg', U5⟩ := S5.out
        exact ⟨i3, f, ts ++ [t3], _, g', by omega, by omega, by simp; omega, by simp, hg', R5, K5, B5, A5, hid_as (by rw [List.length_append]; exact ho5.out), hid_as U5, M3⟩
      case measure => rw [R5.out.rdn, hat.out]; omega
    | false =>
      have A2 : Hid (∀ W, Rd W rb tb cap T (k) → Calls Tryz.prog 34 #[.pointer (some ⟨rb, 0, none⟩), .string ⟨#[44]⟩] W fun e w' => e = .returned (.bool false) ∧ Below W.heap.size W w') := fun W H => accept_n H ⟨#[44]⟩ hc
      have Mr := hid_as (rp_not hM.out hc)
      clear hM hc
      obtain ⟨hxl, ⟨_, h0⟩ | ⟨g', cp, cur, rfl, hgb, hgh, hgc, _, _, htake⟩⟩ := hO.out
      · omega
      obtain rfl : g' = g := Option.some.inj hg
      have hcl := hid_as (World.ownsRow.cells hO.out (g := g') rfl)
      go_wp2_with (first
        | (go_at_call 34; (with_reducible refine (A2.out _ hR.out).mono ?_); rintro e w2 ⟨rfl, b2⟩; have R2 := hid_as ((hR.out).below b2); have K2 := hid_as ((hK.out).below b2); have B2 := hid_as (hB.out.below b2); have A3 := hid_as (hA.out.below b2); have z2 := K2.out.size; have q2 := b2.size; (try rw [World.size_alloc] at q2); have J2 := hid_as (kp_of_below (rb := rb) b2); clear b2)
        | (go_at_call 36; (with_reducible refine (C.out _ k R2.out).mono ?_); rintro e w3 ⟨k3, ⟨_, i3, _, m3, rfl, rfl, r3, l3⟩ | ⟨n3, i3, m3, rfl⟩⟩; rotate_left; exact And.intro rfl (Outc.stop Mr.out m3 ((K2.out).trans k3)); have R3 := hid_as r3; have K3 := hid_as ((K2.out).trans k3); have M3 := hid_as (th_go Mr.out m3); have B3 := hid_as (B2.out.kp k3 (by omega)); have A4 := hid_as (A3.out.kp k3 (by omega)); have z3 := K3.out.size; have q3 := k3.size; (try rw [World.size_alloc] at q3); have J3 := hid_as k3; clear k3 r3 m3; obtain ⟨s0, s1, s2, s3, s4, s5, s6⟩ := bk7 B3.out; have sf := B3.out.fr; obtain ⟨u0, u1, u2, u3, u4⟩ := bk5 A4.out; have uf := A4.out.fr))
      have U3 := hU.out.all (S' := fun x => w.heap.size + 2 ≤ x) (w' := w3) fun v t e => ((e.kp (J2.out.trans J3.out) (fun h => by have : w.heap.size + 2 ≤ rb := h.1; omega))).into (fun x hx _ => hx.1)
      have hcl3 : ∀ j u, xs[j]? = some u → w3.cell? ⟨g', j, none⟩ = some u := fun j u hj => by
        have q := hcl.out j u hj
        rw [show (⟨g', 0, none⟩ : Addr).add j = ⟨g', j, none⟩ by (simp [Addr.add]; omega)] at q
        exact (World.cell?_of_block (w := wr) (a := ⟨g', j, none⟩) ((J2.out.trans J3.out).block g' hgl.2 (by omega))).trans q
      exact bodyPost_ret (v := .agg #[.int .i64 19, .int .i64 0, .int .i64 0, .string (tx tt), .string ⟨#[]⟩, .slice (some ⟨g', 0, none⟩) ts.length cp, .int .i64 pl]) (by simp [results, Tryz.results127, go_sem, s0, s1, s2, s3, s4, s5, s6]) rfl ⟨K3.out.put7 (by omega) _ _ _ _ _ _ _, Or.inl ⟨_, _, _, M3.out, rfl, ⟨_, _, _, _, _, _, _, _, _, rfl, (((Et.nodeN (d := ⟨19, 0, 0, tt, [], pl, ts.length⟩) rfl ht0 hgc (show w.heap.size + 2 ≤ _ from hgb) (Nat.lt_of_lt_of_le hgl.2 (J2.out.trans J3.out).size) hcl3 U3)).set7 (by show ¬ (_ ≤ _); omega) _ _ _ _ _ _ _).into (fun x (hx : w.heap.size + 2 ≤ x) _ => (by show w.heap.size ≤ x; omega))⟩, R3.out.put7 (by omega) (by omega) _ _ _ _ _ _ _, (by omega)⟩⟩
end Go.Proofs.YtgdoanhemgklpaaGreatDoor
