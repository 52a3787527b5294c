/- Expr (stage 13). -/
import Derived.Test.YtgdoanhemgklpaaGreatDoorVC
namespace Go.Proofs.YtgdoanhemgklpaaGreatDoor
open Go.RowKit
open Adr Lx Sx
theorem K2.new {a b B : Nat} {W w' : World} (h : K2 a b W w') (h1 : B ≤ a) (h2 : B ≤ b) (h3 : B ≤ W.heap.size) : Below B W w' := ⟨h.os, h.tape, h.output, h.size, fun j hj => h.block j (by omega) (by omega) (by omega)⟩
theorem K2.bk {a b g : Nat} {W w' : World} {cs : Array Value} (h : K2 a b W w') (k : Bk W g cs) (h1 : g ≠ a) (h2 : g ≠ b) : Bk w' g cs := by
  have hl := k.lt
  obtain ⟨t, k⟩ := k
  exact ⟨t, (h.block g hl h1 h2).trans k⟩
theorem below_seven {B g : Nat} {w W : World} (h : Below B w W) (hg : B ≤ g) (x0 x1 x2 x3 x4 x5 x6 : Value) : Below B w (((((((W.setCell ⟨g, 0, none⟩ x0).setCell ⟨g, 1, none⟩ x1).setCell ⟨g, 2, none⟩ x2).setCell ⟨g, 3, none⟩ x3).setCell ⟨g, 4, none⟩ x4).setCell ⟨g, 5, none⟩ x5).setCell ⟨g, 6, none⟩ x6) :=
  ((((((h.setCell (p := ⟨g, 0, none⟩) hg _).setCell (p := ⟨g, 1, none⟩) hg _).setCell (p := ⟨g, 2, none⟩) hg _).setCell (p := ⟨g, 3, none⟩) hg _).setCell (p := ⟨g, 4, none⟩) hg _).setCell (p := ⟨g, 5, none⟩) hg _).setCell (p := ⟨g, 6, none⟩) hg _
theorem scn_len (il : Bool) : ∀ (f : Nat) (l : List UInt8) (a : Nat) (A : List (Tk × Nat)), (scn il f l a A).1.length ≤ A.length + l.length
  | 0, l, a, A => Nat.le_add_right _ _
  | f + 1, [], a, A => Nat.le_add_right _ _
  | f + 1, c :: l, a, A => by
    rw [scn_cons]
    split
    · have := scn_len il f l (a + 1) A
      simp only [List.length_cons]
      omega
    · split
      · split
        · exact Nat.zero_le _
        · have := scn_len il f ((c :: l).drop (csz (c :: l))) (a + csz (c :: l)) A
          rw [List.length_drop] at this
          omega
      · split
        · rename_i h0
          have h1 := (nx_ok (l := c :: l) (by simp) h0).1
          have := scn_len il f ((c :: l).drop (nx (c :: l)).z) (a + (nx (c :: l)).z) (A ++ [((nx (c :: l)).t, a)])
          rw [List.length_drop, List.length_append] at this
          simp only [List.length_cons, List.length_nil] at this ⊢
          omega
        · exact Nat.zero_le _
theorem K7 (w : World) (b g j : Nat) (x0 x1 x2 x3 x4 x5 x6 : Value) (h : g ≠ b) : (((((((w.setCell ⟨b, 0, none⟩ x0).setCell ⟨b, 1, none⟩ x1).setCell ⟨b, 2, none⟩ x2).setCell ⟨b, 3, none⟩ x3).setCell ⟨b, 4, none⟩ x4).setCell ⟨b, 5, none⟩ x5).setCell ⟨b, 6, none⟩ x6).cell? ⟨g, j, none⟩ = w.cell? ⟨g, j, none⟩ := by
  have q : ∀ (w : World) (i : Nat) (x : Value), (w.setCell ⟨b, i, none⟩ x).cell? ⟨g, j, none⟩ = w.cell? ⟨g, j, none⟩ := fun w i x => World.cell?_of_block (w := w) (a := ⟨g, j, none⟩) (Below.heap_setCell w ⟨b, i, none⟩ x g h)
  rw [q, q, q, q, q, q, q]
theorem toks_wf {l : List UInt8} {T : TL} (h : toks l false = (T, none)) (hl : l.length ≤ 900000) : Wf T := by
  unfold toks at h
  split at h
  · cases h
  · have e := congrArg Prod.fst h
    have e2 := congrArg Prod.snd h
    simp only at e e2
    have hlen := scn_len false l.length l 0 []
    rw [← e]
    refine ⟨by rw [List.length_append]; simp at hlen ⊢; omega, fun i hi => ?_⟩
    by_cases hj : i < (scn false l.length l 0 []).1.length
    · exact Or.inl (by rw [List.length_append]; show i + 1 < _ + 1; omega)
    · refine Or.inr ?_
      rw [List.length_append] at hi
      have hi2 : i < (scn false l.length l 0 []).1.length + 1 := hi
      obtain rfl : i = (scn false l.length l 0 []).1.length := by omega
      unfold cu
      rw [List.getD_eq_getElem?_getD, List.getElem?_append_right (Nat.le_refl _), Nat.sub_self]
      rfl
set_option maxHeartbeats 4000000 in
set_option maxRecDepth 100000 in
theorem expr_lex (s : ByteArray) (w : World) (hT : Tabs w) (hs : s.size ≤ 900000) {a n : Nat} (h : (toks s.data.toList false).2 = some (a, n)) : Calls Tryz.prog 7 #[.string s] w fun e w' => ∃ g, e = .returned (.tuple #[.agg #[.int .i64 0, .int .i64 0, .int .i64 0, .string ⟨#[]⟩, .string ⟨#[]⟩, .slice none 0 0, .int .i64 0], .iface 60 (.pointer (some ⟨g, 0, none⟩))]) ∧ w.heap.size ≤ g ∧ g < w'.heap.size ∧ w'.cell? ⟨g, 0, none⟩ = some (.int .i64 a) ∧ w'.cell? ⟨g, 1, none⟩ = some (.int .i64 n) ∧ Below w.heap.size w w' := by
  have hmf : ∀ (fn : Fn) (first cap : Array Value) (w : World), (Instr.makeFunc fn first cap).run Tryz.prog w = .ok (.func fn first cap) w := fun _ _ _ _ => rfl
  have T0 := hid_as ((hT.below (below_new1 w (.cells #[.int .i64 0, .int .i64 0, .int .i64 0, .string ⟨#[]⟩, .string ⟨#[]⟩, .slice none 0 0, .int .i64 0] 25))).below (below_new1 (w.alloc (.cells #[.int .i64 0, .int .i64 0, .int .i64 0, .string ⟨#[]⟩, .string ⟨#[]⟩, .slice none 0 0, .int .i64 0] 25)) (.cells #[.int .i64 0, .int .i64 0, .int .i64 0, .string ⟨#[]⟩, .string ⟨#[]⟩, .slice none 0 0, .int .i64 0] 25)))
  have K0 : Hid (Below w.heap.size w ((w.alloc (.cells #[.int .i64 0, .int .i64 0, .int .i64 0, .string ⟨#[]⟩, .string ⟨#[]⟩, .slice none 0 0, .int .i64 0] 25)).alloc (.cells #[.int .i64 0, .int .i64 0, .int .i64 0, .string ⟨#[]⟩, .string ⟨#[]⟩, .slice none 0 0, .int .i64 0] 25))) := hid_as ((below_new1 w (.cells #[.int .i64 0, .int .i64 0, .int .i64 0, .string ⟨#[]⟩, .string ⟨#[]⟩, .slice none 0 0, .int .i64 0] 25)).alloc (by simp) _)
  have B0 : Hid (Bk ((w.alloc (.cells #[.int .i64 0, .int .i64 0, .int .i64 0, .string ⟨#[]⟩, .string ⟨#[]⟩, .slice none 0 0, .int .i64 0] 25)).alloc (.cells #[.int .i64 0, .int .i64 0, .int .i64 0, .string ⟨#[]⟩, .string ⟨#[]⟩, .slice none 0 0, .int .i64 0] 25)) w.heap.size #[.int .i64 0, .int .i64 0, .int .i64 0, .string ⟨#[]⟩, .string ⟨#[]⟩, .slice none 0 0, .int .i64 0]) := hid_as ((Bk.fresh w #[.int .i64 0, .int .i64 0, .int .i64 0, .string ⟨#[]⟩, .string ⟨#[]⟩, .slice none 0 0, .int .i64 0] 25).alloc _)
  have E0 : Hid (Bk ((w.alloc (.cells #[.int .i64 0, .int .i64 0, .int .i64 0, .string ⟨#[]⟩, .string ⟨#[]⟩, .slice none 0 0, .int .i64 0] 25)).alloc (.cells #[.int .i64 0, .int .i64 0, .int .i64 0, .string ⟨#[]⟩, .string ⟨#[]⟩, .slice none 0 0, .int .i64 0] 25)) (w.heap.size + 1) #[.int .i64 0, .int .i64 0, .int .i64 0, .string ⟨#[]⟩, .string ⟨#[]⟩, .slice none 0 0, .int .i64 0]) := by
    have q := Bk.fresh (w.alloc (.cells #[.int .i64 0, .int .i64 0, .int .i64 0, .string ⟨#[]⟩, .string ⟨#[]⟩, .slice none 0 0, .int .i64 0] 25)) #[.int .i64 0, .int .i64 0, .int .i64 0, .string ⟨#[]⟩, .string ⟨#[]⟩, .slice none 0 0, .int .i64 0] 25
    rw [World.size_alloc] at q
    exact hid_as q
  have C := hid_as (fun W (hW : Tabs W) f => read_no s f W hW (by omega) h)
  clear hT h
  go_enter Tryz.func7, Tryz.ntmps7
  go_wp2_with (go_at_call 15; (with_reducible refine (C.out _ T0.out _).mono ?_); rintro e w1 ⟨⟨g, rfl, hg1, hg2, c0, c1⟩, b1⟩; have B1 := hid_as (B0.out.below b1); have E1 := hid_as (E0.out.below b1); have K1 := hid_as (K0.out.trans (b1.mono (by rw [World.size_alloc, World.size_alloc]; omega))); rw [World.size_alloc, World.size_alloc] at hg1; obtain ⟨s0, s1, s2, s3, s4, s5, s6⟩ := bk7 B1.out; have sf := B1.out.fr; obtain ⟨u0, u1, u2, u3, u4, u5, u6⟩ := bk7 E1.out; have uf := E1.out.fr; clear b1)
  refine bodyPost_ret (v := .tuple #[.agg #[.int .i64 0, .int .i64 0, .int .i64 0, .string ⟨#[]⟩, .string ⟨#[]⟩, .slice none 0 0, .int .i64 0], .iface 60 (.pointer (some ⟨g, 0, none⟩))]) (by simp [results, Tryz.results7, go_sem, s0, s1, s2, s3, s4, s5, s6]) rfl ⟨g, rfl, by omega, by simp [World.setCell]; exact hg2, ?_, ?_, below_seven K1.out (Nat.le_refl _) _ _ _ _ _ _ _⟩
  · exact (K7 w1 w.heap.size g 0 _ _ _ _ _ _ _ (by omega)).trans c0
  · exact (K7 w1 w.heap.size g 1 _ _ _ _ _ _ _ (by omega)).trans c1
set_option maxHeartbeats 4000000 in
set_option maxRecDepth 100000 in
theorem expr_no (s : ByteArray) (w : World) (hT : Tabs w) (hs : s.size ≤ 900000) {T : TL} (ht : toks s.data.toList false = (T, none)) {n k : Nat} (hM : onl T = no n k) : Calls Tryz.prog 7 #[.string s] w fun e w' => ∃ g, e = .returned (.tuple #[.agg #[.int .i64 0, .int .i64 0, .int .i64 0, .string ⟨#[]⟩, .string ⟨#[]⟩, .slice none 0 0, .int .i64 0], .iface 60 (.pointer (some ⟨g, 0, none⟩))]) ∧ w.heap.size ≤ g ∧ g < w'.heap.size ∧ w'.cell? ⟨g, 0, none⟩ = some (.int .i64 (ca T k)) ∧ w'.cell? ⟨g, 1, none⟩ = some (.int .i64 n) ∧ Below w.heap.size w w' := by
  have hmf : ∀ (fn : Fn) (first cap : Array Value) (w : World), (Instr.makeFunc fn first cap).run Tryz.prog w = .ok (.func fn first cap) w := fun _ _ _ _ => rfl
  have T0 := hid_as ((hT.below (below_new1 w (.cells #[.int .i64 0, .int .i64 0, .int .i64 0, .string ⟨#[]⟩, .string ⟨#[]⟩, .slice none 0 0, .int .i64 0] 25))).below (below_new1 (w.alloc (.cells #[.int .i64 0, .int .i64 0, .int .i64 0, .string ⟨#[]⟩, .string ⟨#[]⟩, .slice none 0 0, .int .i64 0] 25)) (.cells #[.int .i64 0, .int .i64 0, .int .i64 0, .string ⟨#[]⟩, .string ⟨#[]⟩, .slice none 0 0, .int .i64 0] 25)))
  have K0 : Hid (Below w.heap.size w ((w.alloc (.cells #[.int .i64 0, .int .i64 0, .int .i64 0, .string ⟨#[]⟩, .string ⟨#[]⟩, .slice none 0 0, .int .i64 0] 25)).alloc (.cells #[.int .i64 0, .int .i64 0, .int .i64 0, .string ⟨#[]⟩, .string ⟨#[]⟩, .slice none 0 0, .int .i64 0] 25))) := hid_as ((below_new1 w (.cells #[.int .i64 0, .int .i64 0, .int .i64 0, .string ⟨#[]⟩, .string ⟨#[]⟩, .slice none 0 0, .int .i64 0] 25)).alloc (by simp) _)
  have B0 : Hid (Bk ((w.alloc (.cells #[.int .i64 0, .int .i64 0, .int .i64 0, .string ⟨#[]⟩, .string ⟨#[]⟩, .slice none 0 0, .int .i64 0] 25)).alloc (.cells #[.int .i64 0, .int .i64 0, .int .i64 0, .string ⟨#[]⟩, .string ⟨#[]⟩, .slice none 0 0, .int .i64 0] 25)) w.heap.size #[.int .i64 0, .int .i64 0, .int .i64 0, .string ⟨#[]⟩, .string ⟨#[]⟩, .slice none 0 0, .int .i64 0]) := hid_as ((Bk.fresh w #[.int .i64 0, .int .i64 0, .int .i64 0, .string ⟨#[]⟩, .string ⟨#[]⟩, .slice none 0 0, .int .i64 0] 25).alloc _)
  have E0 : Hid (Bk ((w.alloc (.cells #[.int .i64 0, .int .i64 0, .int .i64 0, .string ⟨#[]⟩, .string ⟨#[]⟩, .slice none 0 0, .int .i64 0] 25)).alloc (.cells #[.int .i64 0, .int .i64 0, .int .i64 0, .string ⟨#[]⟩, .string ⟨#[]⟩, .slice none 0 0, .int .i64 0] 25)) (w.heap.size + 1) #[.int .i64 0, .int .i64 0, .int .i64 0, .string ⟨#[]⟩, .string ⟨#[]⟩, .slice none 0 0, .int .i64 0]) := by
    have q := Bk.fresh (w.alloc (.cells #[.int .i64 0, .int .i64 0, .int .i64 0, .string ⟨#[]⟩, .string ⟨#[]⟩, .slice none 0 0, .int .i64 0] 25)) #[.int .i64 0, .int .i64 0, .int .i64 0, .string ⟨#[]⟩, .string ⟨#[]⟩, .slice none 0 0, .int .i64 0] 25
    rw [World.size_alloc] at q
    exact hid_as q
  have C := hid_as (fun W (hW : Tabs W) (hE : Bk W (w.heap.size + 1) #[.int .i64 0, .int .i64 0, .int .i64 0, .string ⟨#[]⟩, .string ⟨#[]⟩, .slice none 0 0, .int .i64 0]) => read_expr_no s W hW (by omega) ht (toks_wf ht (by rw [← Lib.size_eq]; omega)) hE hM)
  clear hT ht hM
  go_enter Tryz.func7, Tryz.ntmps7
  go_wp2_with (go_at_call 15; (with_reducible refine (C.out _ T0.out E0.out).mono ?_); rintro e w1 ⟨⟨g, rfl, hg1, hg2, c0, c1⟩, b1⟩; have B1 := hid_as (B0.out.below b1); have E1 := hid_as (E0.out.below b1); have K1 := hid_as (K0.out.trans (b1.mono (by rw [World.size_alloc, World.size_alloc]; omega))); rw [World.size_alloc, World.size_alloc] at hg1; obtain ⟨s0, s1, s2, s3, s4, s5, s6⟩ := bk7 B1.out; have sf := B1.out.fr; obtain ⟨u0, u1, u2, u3, u4, u5, u6⟩ := bk7 E1.out; have uf := E1.out.fr; clear b1)
  refine bodyPost_ret (v := .tuple #[.agg #[.int .i64 0, .int .i64 0, .int .i64 0, .string ⟨#[]⟩, .string ⟨#[]⟩, .slice none 0 0, .int .i64 0], .iface 60 (.pointer (some ⟨g, 0, none⟩))]) (by simp [results, Tryz.results7, go_sem, s0, s1, s2, s3, s4, s5, s6]) rfl ⟨g, rfl, by omega, by simp [World.setCell]; exact hg2, ?_, ?_, below_seven K1.out (Nat.le_refl _) _ _ _ _ _ _ _⟩
  · exact (K7 w1 w.heap.size g 0 _ _ _ _ _ _ _ (by omega)).trans c0
  · exact (K7 w1 w.heap.size g 1 _ _ _ _ _ _ _ (by omega)).trans c1
set_option maxHeartbeats 4000000 in
set_option maxRecDepth 100000 in
theorem expr_yes (s : ByteArray) (w : World) (hT : Tabs w) (hs : s.size ≤ 900000) {T : TL} (ht : toks s.data.toList false = (T, none)) {t : Tr} {k : Nat} (hM : onl T = ok t k) : Calls Tryz.prog 7 #[.string s] w fun e w' => ∃ o kd n nm fl lp ln lc p, e = .returned (.tuple #[.agg #[.int .i64 o, .int .i64 kd, .int .i64 n, .string nm, .string fl, .slice lp ln lc, .int .i64 p], .nilIface]) ∧ Et (fun x => w.heap.size ≤ x) w' (.agg #[.int .i64 o, .int .i64 kd, .int .i64 n, .string nm, .string fl, .slice lp ln lc, .int .i64 p]) t ∧ Below w.heap.size w w' := by
  have hmf : ∀ (fn : Fn) (first cap : Array Value) (w : World), (Instr.makeFunc fn first cap).run Tryz.prog w = .ok (.func fn first cap) w := fun _ _ _ _ => rfl
  have T0 := hid_as ((hT.below (below_new1 w (.cells #[.int .i64 0, .int .i64 0, .int .i64 0, .string ⟨#[]⟩, .string ⟨#[]⟩, .slice none 0 0, .int .i64 0] 25))).below (below_new1 (w.alloc (.cells #[.int .i64 0, .int .i64 0, .int .i64 0, .string ⟨#[]⟩, .string ⟨#[]⟩, .slice none 0 0, .int .i64 0] 25)) (.cells #[.int .i64 0, .int .i64 0, .int .i64 0, .string ⟨#[]⟩, .string ⟨#[]⟩, .slice none 0 0, .int .i64 0] 25)))
  have K0 : Hid (Below w.heap.size w ((w.alloc (.cells #[.int .i64 0, .int .i64 0, .int .i64 0, .string ⟨#[]⟩, .string ⟨#[]⟩, .slice none 0 0, .int .i64 0] 25)).alloc (.cells #[.int .i64 0, .int .i64 0, .int .i64 0, .string ⟨#[]⟩, .string ⟨#[]⟩, .slice none 0 0, .int .i64 0] 25))) := hid_as ((below_new1 w (.cells #[.int .i64 0, .int .i64 0, .int .i64 0, .string ⟨#[]⟩, .string ⟨#[]⟩, .slice none 0 0, .int .i64 0] 25)).alloc (by simp) _)
  have B0 : Hid (Bk ((w.alloc (.cells #[.int .i64 0, .int .i64 0, .int .i64 0, .string ⟨#[]⟩, .string ⟨#[]⟩, .slice none 0 0, .int .i64 0] 25)).alloc (.cells #[.int .i64 0, .int .i64 0, .int .i64 0, .string ⟨#[]⟩, .string ⟨#[]⟩, .slice none 0 0, .int .i64 0] 25)) w.heap.size #[.int .i64 0, .int .i64 0, .int .i64 0, .string ⟨#[]⟩, .string ⟨#[]⟩, .slice none 0 0, .int .i64 0]) := hid_as ((Bk.fresh w #[.int .i64 0, .int .i64 0, .int .i64 0, .string ⟨#[]⟩, .string ⟨#[]⟩, .slice none 0 0, .int .i64 0] 25).alloc _)
  have E0 : Hid (Bk ((w.alloc (.cells #[.int .i64 0, .int .i64 0, .int .i64 0, .string ⟨#[]⟩, .string ⟨#[]⟩, .slice none 0 0, .int .i64 0] 25)).alloc (.cells #[.int .i64 0, .int .i64 0, .int .i64 0, .string ⟨#[]⟩, .string ⟨#[]⟩, .slice none 0 0, .int .i64 0] 25)) (w.heap.size + 1) #[.int .i64 0, .int .i64 0, .int .i64 0, .string ⟨#[]⟩, .string ⟨#[]⟩, .slice none 0 0, .int .i64 0]) := by
    have q := Bk.fresh (w.alloc (.cells #[.int .i64 0, .int .i64 0, .int .i64 0, .string ⟨#[]⟩, .string ⟨#[]⟩, .slice none 0 0, .int .i64 0] 25)) #[.int .i64 0, .int .i64 0, .int .i64 0, .string ⟨#[]⟩, .string ⟨#[]⟩, .slice none 0 0, .int .i64 0] 25
    rw [World.size_alloc] at q
    exact hid_as q
  have C := hid_as (fun W (hW : Tabs W) (hE : Bk W (w.heap.size + 1) #[.int .i64 0, .int .i64 0, .int .i64 0, .string ⟨#[]⟩, .string ⟨#[]⟩, .slice none 0 0, .int .i64 0]) => read_expr s W hW (by omega) ht (toks_wf ht (by rw [← Lib.size_eq]; omega)) hE hM)
  clear hT ht hM
  go_enter Tryz.func7, Tryz.ntmps7
  go_wp2_with (go_at_call 15; (with_reducible refine (C.out _ T0.out E0.out).mono ?_); rintro e w1 ⟨rfl, ⟨V, hV, ⟨o, kd, n, nm, fl, lp, ln, lc, p, e1, t1⟩⟩, k1⟩; have B1 := hid_as (k1.bk B0.out (by omega) (by omega)); have K1 := hid_as (K0.out.trans (k1.new (B := w.heap.size) (by omega) (by omega) (by rw [World.size_alloc, World.size_alloc]; omega))); rw [World.size_alloc, World.size_alloc] at hV; have E1 := hid_as e1; have TT := hid_as t1; obtain ⟨s0, s1, s2, s3, s4, s5, s6⟩ := bk7 B1.out; have sf := B1.out.fr; obtain ⟨u0, u1, u2, u3, u4, u5, u6⟩ := bk7 E1.out; have uf := E1.out.fr; clear k1 e1 t1)
  exact bodyPost_ret (v := .tuple #[.agg #[.int .i64 o, .int .i64 kd, .int .i64 n, .string nm, .string fl, .slice lp ln lc, .int .i64 p], .nilIface]) (by simp [results, Tryz.results7, go_sem, s0, s1, s2, s3, s4, s5, s6]) rfl ⟨_, _, _, _, _, _, _, _, _, rfl, (TT.out.set7 (by show ¬ (_ ≤ _); omega) _ _ _ _ _ _ _).into (fun x (hx : V.heap.size ≤ x) _ => by show w.heap.size ≤ x; omega), below_seven K1.out (Nat.le_refl _) _ _ _ _ _ _ _⟩
end Go.Proofs.YtgdoanhemgklpaaGreatDoor
