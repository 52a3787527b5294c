/- bare: a tree without its places (stage 13). -/
import Derived.Test.YtgdoanhemgklpaaGreatDoorZA
import Derived.Test.YtgdoanhemgklpaaGreatDoorZ1
namespace Go.Proofs.YtgdoanhemgklpaaGreatDoor
open Go.RowKit
open Adr Lx Sx
theorem us_step2 {base s : Nat} {wr w3 w5 : World} {ob : Obj} {xs : List Value} {ts : List Tr} {o k n : Int} {nm fl : ByteArray} {L : Value} {p : Int} {t : Tr} {v v5 : Value} (hU : Us (fun x => base ≤ x ∧ v.ownBlock ≠ some x) wr xs ts) (hk : Below wr.heap.size wr w3) (hb : base ≤ s) (hv : ∀ g, v.ownBlock = some g → g < s)
    (E3 : Et (fun x => s ≤ x) w3 (.agg #[.int .i64 o, .int .i64 k, .int .i64 n, .string nm, .string fl, L, .int .i64 p]) t) (hg5 : (w3.alloc ob).grownBy w5 v.ownBlock) (hw5 : v5.ownBlock = v.ownBlock ∨ v5.ownBlock = some (w3.heap.size + 1)) :
    Us (fun x => base ≤ x ∧ v5.ownBlock ≠ some x) w5 (xs ++ [.int .i64 o, .int .i64 k, .int .i64 n, .string nm, .string fl, L, .int .i64 p]) (ts ++ [t]) := by
  have hs := hk.size
  have U3 : Us (fun x => base ≤ x ∧ v.ownBlock ≠ some x ∧ x ≠ w3.heap.size + 1) w3 xs ts := hU.all fun u t e => (e.into (S' := fun x => base ≤ x ∧ v.ownBlock ≠ some x ∧ x ≠ w3.heap.size + 1) (fun x hx hl => ⟨hx.1, hx.2, by omega⟩)).below hk
  have T3 : Et (fun x => base ≤ x ∧ v.ownBlock ≠ some x ∧ x ≠ w3.heap.size + 1) w3 (.agg #[.int .i64 o, .int .i64 k, .int .i64 n, .string nm, .string fl, L, .int .i64 p]) t := E3.into (fun x (hx : s ≤ x) hl => ⟨by omega, fun e => by have := hv x e; omega, by omega⟩)
  have U5 := (U3.push T3).all (S' := fun x => base ≤ x ∧ v.ownBlock ≠ some x ∧ x ≠ w3.heap.size + 1) (w' := w5) fun v t e => (e.alloc ob).grown hg5 (fun k hk h => h.2.1 hk)
  rcases hw5 with h | h
  · rw [h]
    exact U5.all fun v t e => e.into (fun x hx _ => ⟨hx.1, hx.2.1⟩)
  · rw [h]
    exact U5.all fun v t e => e.into (fun x hx _ => ⟨hx.1, fun e => hx.2.2 (Option.some.inj e).symm⟩)
theorem Bk.set6 {w : World} {g : Nat} {a b c d e f x : Value} (h : Bk w g #[a, b, c, d, e, f, x]) (y : Value) : Bk (w.setCell ⟨g, 6, none⟩ y) g #[a, b, c, d, e, f, y] := h.set 6 y
theorem Bk.set5 {w : World} {g : Nat} {a b c d e f x : Value} (h : Bk w g #[a, b, c, d, e, f, x]) (y : Value) : Bk (w.setCell ⟨g, 5, none⟩ y) g #[a, b, c, d, e, y, x] := h.set 5 y
set_option maxHeartbeats 4000000 in
set_option maxRecDepth 100000 in
theorem bare_leaf (o k n : Int) (nm fl : ByteArray) (p : Int) (w : World) : Calls Tryz.prog 11 #[.agg #[.int .i64 o, .int .i64 k, .int .i64 n, .string nm, .string fl, .slice none 0 0, .int .i64 p]] w fun e w' => e = .returned (.agg #[.int .i64 o, .int .i64 k, .int .i64 n, .string nm, .string fl, .slice none 0 0, .int .i64 0]) ∧ Below w.heap.size w w' := by
  have B0 := hid_as ((Bk.fresh w #[.int .i64 o, .int .i64 k, .int .i64 n, .string nm, .string fl, .slice none 0 0, .int .i64 0] 25).alloc (.cells #[.int .i64 0, .int .i64 0, .int .i64 0, .string ⟨#[]⟩, .string ⟨#[]⟩, .slice none 0 0, .int .i64 0] 25))
  have Z0 : Hid (Bk ((w.alloc (.cells #[.int .i64 o, .int .i64 k, .int .i64 n, .string nm, .string fl, .slice none 0 0, .int .i64 0] 25)).alloc (.cells #[.int .i64 0, .int .i64 0, .int .i64 0, .string ⟨#[]⟩, .string ⟨#[]⟩, .slice none 0 0, .int .i64 0] 25)) (w.heap.size + 1) #[.int .i64 0, .int .i64 0, .int .i64 0, .string ⟨#[]⟩, .string ⟨#[]⟩, .slice none 0 0, .int .i64 0]) := by
    have q := Bk.fresh (w.alloc (.cells #[.int .i64 o, .int .i64 k, .int .i64 n, .string nm, .string fl, .slice none 0 0, .int .i64 0] 25)) #[.int .i64 0, .int .i64 0, .int .i64 0, .string ⟨#[]⟩, .string ⟨#[]⟩, .slice none 0 0, .int .i64 0] 25
    rw [World.size_alloc] at q
    exact hid_as q
  have K0 := hid_as (below_and (below_new1 w (.cells #[.int .i64 o, .int .i64 k, .int .i64 n, .string nm, .string fl, .slice none 0 0, .int .i64 0] 25)) (below_new1 (w.alloc (.cells #[.int .i64 o, .int .i64 k, .int .i64 n, .string nm, .string fl, .slice none 0 0, .int .i64 0] 25)) (.cells #[.int .i64 0, .int .i64 0, .int .i64 0, .string ⟨#[]⟩, .string ⟨#[]⟩, .slice none 0 0, .int .i64 0] 25)))
  go_enter Tryz.func11, Tryz.ntmps11
  go_wp2
  obtain ⟨W, hW⟩ : ∃ W, W = ((w.alloc (.cells #[.int .i64 o, .int .i64 k, .int .i64 n, .string nm, .string fl, .slice none 0 0, .int .i64 0] 25)).alloc (.cells #[.int .i64 0, .int .i64 0, .int .i64 0, .string ⟨#[]⟩, .string ⟨#[]⟩, .slice none 0 0, .int .i64 0] 25)) := ⟨_, rfl⟩
  rw [← hW] at B0 Z0 K0
  go_loopw [3, 4] (fun v i wr => v = .slice none 0 0 ∧ i = .int .i64 0 ∧ wr = W) (fun _ _ _ => 0)
  case atStart => exact ⟨rfl, rfl, hW.symm⟩
  case round =>
    obtain ⟨rfl, rfl, rfl⟩ := hrel
    clear hW
    obtain ⟨c0, c1, c2, c3, c4, c5, c6⟩ := bk7 B0.out
    have cf := B0.out.fr
    have B1 := hid_as (B0.out.set5 (.slice none 0 0))
    have Z1 := hid_as (Z0.out.other 5 (.slice none 0 0) (show w.heap.size + 1 ≠ w.heap.size by omega))
    obtain ⟨d0, d1, d2, d3, d4, d5, d6⟩ := bk7 B1.out
    have df := B1.out.fr
    obtain ⟨s0, s1, s2, s3, s4, s5, s6⟩ := bk7 Z1.out
    have sf := Z1.out.fr
    have K1 := hid_as (K0.out.setCell (p := ⟨w.heap.size, 5, none⟩) (Nat.le_refl _) (.slice none 0 0))
    go_wp2
    exact bodyPost_ret (v := .agg #[.int .i64 o, .int .i64 k, .int .i64 n, .string nm, .string fl, .slice none 0 0, .int .i64 0]) (by simp [results, Tryz.results11, go_sem, s0, s1, s2, s3, s4, s5, s6]) rfl ⟨rfl, below_seven K1.out (by omega) _ _ _ _ _ _ _⟩
/-- What bare hands back of a node with operands. -/
def Brq (w : World) (cn : Nat) (ts : Nat → Tr) (o k n : Int) (nm fl : ByteArray) (e : Ending) (w' : World) : Prop := ∃ (g' cp : Nat) (xs : List Value), e = .returned (.agg #[.int .i64 o, .int .i64 k, .int .i64 n, .string nm, .string fl, .slice (some ⟨g', 0, none⟩) cn cp, .int .i64 0]) ∧ cn ≤ cp ∧ w.heap.size ≤ g' ∧ g' < w'.heap.size ∧ (∀ (j : Nat) (u : Value), xs[j]? = some u → w'.cell? ⟨g', j, none⟩ = some u) ∧ Us (fun x => w.heap.size ≤ x) w' xs ((List.range cn).map ts) ∧ Below w.heap.size w w'
set_option maxHeartbeats 4000000 in
set_option maxRecDepth 100000 in
theorem bare_rows (o k n : Int) (nm fl : ByteArray) (p : Int) (w : World) (g cn cap : Nat) (ts : Nat → Tr) (h0 : 0 < cn) (hn : cn ≤ 100000) (hg : g < w.heap.size) (R : Hid (∀ j, j < cn → ∃ (o1 k1 n1 : Int) (nm1 fl1 : ByteArray) (lp1 : Option Addr) (ln1 lc1 : Nat) (p1 : Int), RowE w g j o1 k1 n1 nm1 fl1 (.slice lp1 ln1 lc1) p1 ∧ ∀ W, Below w.heap.size w W → Calls Tryz.prog 11 #[.agg #[.int .i64 o1, .int .i64 k1, .int .i64 n1, .string nm1, .string fl1, .slice lp1 ln1 lc1, .int .i64 p1]] W fun e w' => ∃ (o3 k3 n3 : Int) (nm3 fl3 : ByteArray) (lp3 : Option Addr) (ln3 lc3 : Nat) (p3 : Int), e = .returned (.agg #[.int .i64 o3, .int .i64 k3, .int .i64 n3, .string nm3, .string fl3, .slice lp3 ln3 lc3, .int .i64 p3]) ∧ Et (fun x => W.heap.size ≤ x) w' (.agg #[.int .i64 o3, .int .i64 k3, .int .i64 n3, .string nm3, .string fl3, .slice lp3 ln3 lc3, .int .i64 p3]) (ts j) ∧ Below W.heap.size W w')) : Calls Tryz.prog 11 #[.agg #[.int .i64 o, .int .i64 k, .int .i64 n, .string nm, .string fl, .slice (some ⟨g, 0, none⟩) cn cap, .int .i64 p]] w fun e w' => Brq w cn ts o k n nm fl e w' := by
  have B0 := hid_as ((Bk.fresh w #[.int .i64 o, .int .i64 k, .int .i64 n, .string nm, .string fl, .slice (some ⟨g, 0, none⟩) cn cap, .int .i64 0] 25).alloc (.cells #[.int .i64 0, .int .i64 0, .int .i64 0, .string ⟨#[]⟩, .string ⟨#[]⟩, .slice none 0 0, .int .i64 0] 25))
  have Z0 : Hid (Bk ((w.alloc (.cells #[.int .i64 o, .int .i64 k, .int .i64 n, .string nm, .string fl, .slice (some ⟨g, 0, none⟩) cn cap, .int .i64 0] 25)).alloc (.cells #[.int .i64 0, .int .i64 0, .int .i64 0, .string ⟨#[]⟩, .string ⟨#[]⟩, .slice none 0 0, .int .i64 0] 25)) (w.heap.size + 1) #[.int .i64 0, .int .i64 0, .int .i64 0, .string ⟨#[]⟩, .string ⟨#[]⟩, .slice none 0 0, .int .i64 0]) := by
    have q := Bk.fresh (w.alloc (.cells #[.int .i64 o, .int .i64 k, .int .i64 n, .string nm, .string fl, .slice (some ⟨g, 0, none⟩) cn cap, .int .i64 0] 25)) #[.int .i64 0, .int .i64 0, .int .i64 0, .string ⟨#[]⟩, .string ⟨#[]⟩, .slice none 0 0, .int .i64 0] 25
    rw [World.size_alloc] at q
    exact hid_as q
  have K0 := hid_as (below_and (below_new1 w (.cells #[.int .i64 o, .int .i64 k, .int .i64 n, .string nm, .string fl, .slice (some ⟨g, 0, none⟩) cn cap, .int .i64 0] 25)) (below_new1 (w.alloc (.cells #[.int .i64 o, .int .i64 k, .int .i64 n, .string nm, .string fl, .slice (some ⟨g, 0, none⟩) cn cap, .int .i64 0] 25)) (.cells #[.int .i64 0, .int .i64 0, .int .i64 0, .string ⟨#[]⟩, .string ⟨#[]⟩, .slice none 0 0, .int .i64 0] 25)))
  go_enter Tryz.func11, Tryz.ntmps11
  go_wp2
  go_loopw [3, 4] (fun v i wr => ∃ (m : Nat) (xs : List Value), m ≤ cn ∧ i = .int .i64 m ∧ Hid (Below w.heap.size w wr) ∧ Hid (Bk wr w.heap.size #[.int .i64 o, .int .i64 k, .int .i64 n, .string nm, .string fl, .slice (some ⟨g, 0, none⟩) cn cap, .int .i64 0]) ∧ Hid (Bk wr (w.heap.size + 1) #[.int .i64 0, .int .i64 0, .int .i64 0, .string ⟨#[]⟩, .string ⟨#[]⟩, .slice none 0 0, .int .i64 0]) ∧ Hid (wr.ownsRow (w.heap.size + 2) 25 7 v m xs) ∧ Hid (Us (fun x => w.heap.size + 2 ≤ x ∧ v.ownBlock ≠ some x) wr xs ((List.range m).map ts))) (fun _ i _ => cn - (intOf i).toNat)
  case atStart => exact ⟨0, [], by omega, rfl, K0, B0, Z0, hid_as ⟨rfl, Or.inl ⟨rfl, rfl⟩⟩, hid_as ⟨rfl, fun j t ht => by simp at ht⟩⟩
  case round =>
    obtain ⟨m, xs, hm, rfl, hK, hB, hZ, hO, hU⟩ := hrel
    have z := hK.out.size
    have yz := hZ.out.lt
    have hv := hid_as (World.ownsRow.lt hO.out)
    obtain ⟨c0, c1, c2, c3, c4, c5, c6⟩ := bk7 hB.out
    have cf := hB.out.fr
    by_cases hlt : m < cn
    · have hlt' : (m : Int) < cn := by omega
      obtain ⟨o1, k1, n1, nm1, fl1, lp1, ln1, lc1, p1, r, C'⟩ := R.out m hlt
      have C := hid_as C'
      clear C'
      obtain ⟨a0, a1, a2, a3, a4, a5, a6⟩ := r.below hg hK.out
      clear r
      go_wp2_with (first
        | (go_at_call 11; (with_reducible refine (C.out _ hK.out).mono ?_); rintro e w3 ⟨o3, k3, n3, nm3, fl3, lp3, ln3, lc3, p3, rfl, E3', k3⟩; have E3 := hid_as E3'; clear E3'; have J3 := hid_as k3; have K3 := hid_as (below_and hK.out k3); have B3 := hid_as (hB.out.below k3); have Z3 := hid_as (hZ.out.below k3); have z3 := K3.out.size; have q3 := k3.size; clear k3; have O3 := hid_as (own_kp (rb := 0) hO.out (kp_of_below J3.out) (by omega)); obtain ⟨v5, w5, hr5, ho5, hg5, hw5⟩ := push_at (cs := #[.int .i64 o3, .int .i64 k3, .int .i64 n3, .string nm3, .string fl3, .slice lp3 ln3 lc3, .int .i64 p3]) Tryz.underlying23 info7 rfl (by decide) (by decide) O3.out (by omega) (by omega) rfl (by intro u hu; simp at hu; rcases hu with rfl | rfl | rfl | rfl | rfl | rfl | rfl <;> rfl); have S5 := hid_as (us_step2 hU.out J3.out (by omega) (fun g hg => (hv.out g hg).2) E3.out hg5 hw5); have K5 := hid_as ((K3.out.alloc (by omega) _).grown hg5 (by rw [World.size_alloc]; omega) (fun k hk => by have := (hv.out k hk).1; omega)); have B5 := hid_as ((B3.out.alloc _).grown hg5 (fun e => by have := (hv.out _ e).1; omega)); have Z5 := hid_as ((Z3.out.alloc _).grown hg5 (fun e => by have := (hv.out _ e).1; omega)); replace hr5 := hid_as hr5; replace ho5 := hid_as ho5; clear hg5 hw5 O3)
        | (at_builtin; refine Lib.wpList_append_run _ rfl _ _ _ _ rfl _ _ rfl rfl _ _ hr5.out ?_))
      go_roundw
      case rel => exact ⟨m + 1, _, by omega, rfl, K5, B5, Z5, ho5, hid_as (by rw [List.range_succ, List.map_append]; exact S5.out)⟩
      case measure => show cn - ((m : Int) + 1).toNat < cn - (m : Int).toNat; omega
    · have hlt' : ¬ (m : Int) < cn := by omega
      obtain rfl : cn = m := by omega
      obtain ⟨hxl, ⟨_, h0'⟩ | ⟨g', cp, cur, rfl, hgb, hgh, hgc, _, _, htake⟩⟩ := hO.out
      · omega
      have hcl := hid_as (World.ownsRow.cells hO.out (g := g') rfl)
      have hgl := hv.out g' rfl
      have B1 := hid_as (hB.out.set5 (.slice (some ⟨g', 0, none⟩) cn cp))
      have Z1 := hid_as (hZ.out.other 5 (.slice (some ⟨g', 0, none⟩) cn cp) (show w.heap.size + 1 ≠ w.heap.size by omega))
      obtain ⟨d0, d1, d2, d3, d4, d5, d6⟩ := bk7 B1.out
      have df := B1.out.fr
      obtain ⟨s0, s1, s2, s3, s4, s5, s6⟩ := bk7 Z1.out
      have sf := Z1.out.fr
      have K1 := hid_as (hK.out.setCell (p := ⟨w.heap.size, 5, none⟩) (Nat.le_refl _) (.slice (some ⟨g', 0, none⟩) cn cp))
      clear hgh htake hgb
      go_wp2
      refine bodyPost_ret (v := .agg #[.int .i64 o, .int .i64 k, .int .i64 n, .string nm, .string fl, .slice (some ⟨g', 0, none⟩) cn cp, .int .i64 0]) (by simp [results, Tryz.results11, go_sem, s0, s1, s2, s3, s4, s5, s6]) rfl ?_
      refine ⟨g', cp, xs, rfl, hgc, by omega, ?_, ?_, ?_, below_seven K1.out (by omega) _ _ _ _ _ _ _⟩
      · simp [World.setCell]; exact hgl.2
      · intro j u hj
        have q := hcl.out j u hj
        rw [show (⟨g', 0, none⟩ : Addr).add j = ⟨g', j, none⟩ by (simp [Addr.add]; omega)] at q
        rw [K7 _ (w.heap.size + 1) g' j _ _ _ _ _ _ _ (by omega)]
        exact (World.cell?_of_block (w := wr) (a := ⟨g', j, none⟩) (Below.heap_setCell wr ⟨w.heap.size, 5, none⟩ _ g' (show g' ≠ w.heap.size by omega))).trans q
      · exact hU.out.all fun v t e => (((e.set (fun h => by have : w.heap.size + 2 ≤ w.heap.size := h.1; omega) 5 _).set7 (fun h => by have : w.heap.size + 2 ≤ w.heap.size + 1 := h.1; omega) _ _ _ _ _ _ _)).into (fun x hx _ => by show w.heap.size ≤ x; have := hx.1; omega)
theorem EA.turn {S : Nat → Prop} {D : Nat} {w : World} {v : Value} {nd : Nd} {ts : List Tr} {u : Tr} (h : EA S D w v (mkT nd ts)) (hu : u [] = some nd) (ha : nd.ar = ts.length) (hs : ∀ j, j < ts.length → ts[j]? = some (fun q => u (j :: q))) : EA S D w v u := by
  cases D with
  | zero => exact h.elim
  | succ D =>
    obtain ⟨nd', L, h1, h2, h3⟩ := h
    obtain rfl : nd = nd' := Option.some.inj h1
    refine ⟨nd, L, hu, h2, ?_⟩
    rcases h3 with h3 | ⟨g, cap, a, b, b2, c, e, f⟩
    · exact Or.inl h3
    · refine Or.inr ⟨g, cap, a, b, b2, c, e, fun j hj => ?_⟩
      obtain ⟨o, k, n, nm, fl, M, p, x, y⟩ := f j hj
      rw [mkT_at (hs j (by omega))] at y
      exact ⟨o, k, n, nm, fl, M, p, x, y⟩
theorem bare_c : ∀ (d : Nat) (S : Nat → Prop) (w : World) (o1 k1 n1 : Int) (nm1 fl1 : ByteArray) (lp1 : Option Addr) (ln1 lc1 : Nat) (p1 : Int) (t : Tr), Sz t → EA S d w (.agg #[.int .i64 o1, .int .i64 k1, .int .i64 n1, .string nm1, .string fl1, .slice lp1 ln1 lc1, .int .i64 p1]) t → Calls Tryz.prog 11 #[.agg #[.int .i64 o1, .int .i64 k1, .int .i64 n1, .string nm1, .string fl1, .slice lp1 ln1 lc1, .int .i64 p1]] w fun e w' => ∃ (o3 k3 n3 : Int) (nm3 fl3 : ByteArray) (lp3 : Option Addr) (ln3 lc3 : Nat) (p3 : Int), e = .returned (.agg #[.int .i64 o3, .int .i64 k3, .int .i64 n3, .string nm3, .string fl3, .slice lp3 ln3 lc3, .int .i64 p3]) ∧ Et (fun x => w.heap.size ≤ x) w' (.agg #[.int .i64 o3, .int .i64 k3, .int .i64 n3, .string nm3, .string fl3, .slice lp3 ln3 lc3, .int .i64 p3]) (br t) ∧ Below w.heap.size w w'
  | 0, _, _, _, _, _, _, _, _, _, _, _, _, _, h => h.elim
  | d + 1, S, w, o1, k1, n1, nm1, fl1, lp1, ln1, lc1, p1, t, hsz, ea => by
    obtain ⟨nd, e0, rfl, rfl, rfl, rfl, rfl, rfl, hs⟩ := ea.kids
    have eb : br t [] = some (sp nd) := by show (t []).map sp = _; rw [e0]; rfl
    rcases hs with ⟨q0, rfl, rfl, rfl⟩ | ⟨g, rfl, rfl, q1, q2, q3, q4, q5⟩
    · refine (bare_leaf nd.op nd.kind nd.n (tx nd.name) (tx nd.field) nd.pl w).mono ?_
      rintro e w' ⟨rfl, k⟩
      exact ⟨_, _, _, _, _, _, _, _, _, rfl, ⟨1, sp nd, _, eb, rfl, Or.inl ⟨q0, rfl⟩⟩, k⟩
    · refine (bare_rows nd.op nd.kind nd.n (tx nd.name) (tx nd.field) nd.pl w g nd.ar lc1 (fun j q => br t (j :: q)) q1 (hsz [] nd e0) q4 (hid_as fun j hj => ?_)).mono ?_
      · obtain ⟨o1, k1, n1, nm1, fl1, lp1, ln1, lc1, p1, r, ek⟩ := q5 j hj
        refine ⟨o1, k1, n1, nm1, fl1, lp1, ln1, lc1, p1, r, fun W hW => ?_⟩
        exact bare_c d S W _ _ _ _ _ _ _ _ _ (fun q => t (j :: q)) (fun q x hx => hsz (j :: q) x hx) (ek.below hW)
      · rintro e w' ⟨g', cp, xs, rfl, b1, b2, b3, b4, b5, k⟩
        refine ⟨_, _, _, _, _, _, _, _, _, rfl, ?_, k⟩
        have hl : ((List.range nd.ar).map fun j q => br t (j :: q)).length = nd.ar := by rw [List.length_map, List.length_range]
        obtain ⟨D, hD⟩ := Et.nodeN (d := sp nd) (show nd.ar = _ from hl.symm) (by rw [hl]; exact q1) (by rw [hl]; exact b1) (show w.heap.size ≤ g' from b2) b3 b4 b5
        refine ⟨D, EA.turn (nd := sp nd) ?_ eb (show nd.ar = _ from hl.symm) (fun j hj => ?_)⟩
        · rw [hl] at hD
          exact hD
        · rw [hl] at hj
          rw [List.getElem?_map, List.getElem?_range hj]
          rfl
end Go.Proofs.YtgdoanhemgklpaaGreatDoor
