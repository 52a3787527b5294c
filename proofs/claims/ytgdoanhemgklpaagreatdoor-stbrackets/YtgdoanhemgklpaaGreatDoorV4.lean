/- Trees in memory (stage 13). -/
import Derived.Test.YtgdoanhemgklpaaGreatDoorV3
namespace Go.Proofs.YtgdoanhemgklpaaGreatDoor
open Go.RowKit
open Adr Lx Sx
/-- An expression's seven parts. -/
def ev (o k n : Int) (nm fl : ByteArray) (L : Value) (p : Int) : Value := .agg #[.int .i64 o, .int .i64 k, .int .i64 n, .string nm, .string fl, L, .int .i64 p]
/-- Row j of a block of expressions is this. -/
def RowE (w : World) (g j : Nat) (o k n : Int) (nm fl : ByteArray) (L : Value) (p : Int) : Prop :=
  w.cell? ⟨g, j * 7, none⟩ = some (.int .i64 o) ∧ w.cell? ⟨g, j * 7 + 1, none⟩ = some (.int .i64 k) ∧ w.cell? ⟨g, j * 7 + 2, none⟩ = some (.int .i64 n) ∧ w.cell? ⟨g, j * 7 + 3, none⟩ = some (.string nm) ∧
  w.cell? ⟨g, j * 7 + 4, none⟩ = some (.string fl) ∧ w.cell? ⟨g, j * 7 + 5, none⟩ = some L ∧ w.cell? ⟨g, j * 7 + 6, none⟩ = some (.int .i64 p)
/-- This value is this tree, its operands lying in blocks of S; d: more than its depth. -/
def EA (S : Nat → Prop) : Nat → World → Value → Tr → Prop
  | 0, _, _, _ => False
  | d + 1, w, v, t => ∃ nd L, t [] = some nd ∧ v = ev nd.op nd.kind nd.n (tx nd.name) (tx nd.field) L nd.pl ∧
    ((nd.ar = 0 ∧ L = .slice none 0 0) ∨ ∃ g cap, L = .slice (some ⟨g, 0, none⟩) nd.ar cap ∧ 0 < nd.ar ∧ nd.ar ≤ cap ∧ S g ∧ g < w.heap.size ∧
      ∀ j, j < nd.ar → ∃ o k n nm fl M p, RowE w g j o k n nm fl M p ∧ EA S d w (ev o k n nm fl M p) (fun q => t (j :: q)))
def Et (S : Nat → Prop) (w : World) (v : Value) (t : Tr) : Prop := ∃ d, EA S d w v t
theorem EA.deeper {S : Nat → Prop} {w : World} : ∀ {d d' : Nat} {v : Value} {t : Tr}, EA S d w v t → d ≤ d' → EA S d' w v t
  | 0, _, _, _, h, _ => h.elim
  | d + 1, 0, _, _, _, hd => by omega
  | d + 1, d' + 1, v, t, ⟨nd, L, h1, h2, h3⟩, hd => by
    refine ⟨nd, L, h1, h2, ?_⟩
    rcases h3 with h3 | ⟨g, cap, a, b, b2, c, e, f⟩
    · exact Or.inl h3
    · refine Or.inr ⟨g, cap, a, b, b2, c, e, fun j hj => ?_⟩
      obtain ⟨o, k, n, nm, fl, M, p, x, y⟩ := f j hj
      exact ⟨o, k, n, nm, fl, M, p, x, EA.deeper y (by omega)⟩
theorem RowE.keep {w w' : World} {g j : Nat} {o k n : Int} {nm fl : ByteArray} {L : Value} {p : Int} (h : RowE w g j o k n nm fl L p) (hb : w'.heap[g]? = w.heap[g]?) : RowE w' g j o k n nm fl L p := by
  have q : ∀ m, w'.cell? ⟨g, m, none⟩ = w.cell? ⟨g, m, none⟩ := fun m => World.cell?_of_block (w := w) hb
  obtain ⟨h0, h1, h2, h3, h4, h5, h6⟩ := h
  exact ⟨(q _).trans h0, (q _).trans h1, (q _).trans h2, (q _).trans h3, (q _).trans h4, (q _).trans h5, (q _).trans h6⟩
theorem EA.keep {S : Nat → Prop} {w w' : World} (hs : w.heap.size ≤ w'.heap.size) (hb : ∀ x, S x → x < w.heap.size → w'.heap[x]? = w.heap[x]?) : ∀ {d : Nat} {v : Value} {t : Tr}, EA S d w v t → EA S d w' v t
  | 0, _, _, h => h.elim
  | d + 1, v, t, ⟨nd, L, h1, h2, h3⟩ => by
    refine ⟨nd, L, h1, h2, ?_⟩
    rcases h3 with h3 | ⟨g, cap, a, b, b2, c, e, f⟩
    · exact Or.inl h3
    · refine Or.inr ⟨g, cap, a, b, b2, c, by omega, fun j hj => ?_⟩
      obtain ⟨o, k, n, nm, fl, M, p, x, y⟩ := f j hj
      exact ⟨o, k, n, nm, fl, M, p, x.keep (hb g c e), EA.keep hs hb y⟩
theorem EA.into {S S' : Nat → Prop} {w : World} (hb : ∀ x, S x → x < w.heap.size → S' x) : ∀ {d : Nat} {v : Value} {t : Tr}, EA S d w v t → EA S' d w v t
  | 0, _, _, h => h.elim
  | d + 1, v, t, ⟨nd, L, h1, h2, h3⟩ => by
    refine ⟨nd, L, h1, h2, ?_⟩
    rcases h3 with h3 | ⟨g, cap, a, b, b2, c, e, f⟩
    · exact Or.inl h3
    · refine Or.inr ⟨g, cap, a, b, b2, hb g c e, e, fun j hj => ?_⟩
      obtain ⟨o, k, n, nm, fl, M, p, x, y⟩ := f j hj
      exact ⟨o, k, n, nm, fl, M, p, x, EA.into hb y⟩
theorem Et.into {S S' : Nat → Prop} {w : World} {v : Value} {t : Tr} (h : Et S w v t) (hb : ∀ x, S x → x < w.heap.size → S' x) : Et S' w v t := by
  obtain ⟨d, h⟩ := h
  exact ⟨d, h.into hb⟩
theorem Et.kp {S : Nat → Prop} {rb : Nat} {w w' : World} {v : Value} {t : Tr} (h : Et S w v t) (k : Kp rb w w') (hr : ¬ S rb) : Et S w' v t := by
  obtain ⟨d, h⟩ := h
  exact ⟨d, h.keep k.size (fun x hx hl => k.block x hl (fun e => hr (e ▸ hx)))⟩
theorem Et.below {S : Nat → Prop} {w w' : World} {v : Value} {t : Tr} (h : Et S w v t) (k : Below w.heap.size w w') : Et S w' v t := by
  obtain ⟨d, h⟩ := h
  exact ⟨d, h.keep k.size (fun x _ hl => k.block x hl)⟩
theorem Et.alloc {S : Nat → Prop} {w : World} {v : Value} {t : Tr} (h : Et S w v t) (o : Obj) : Et S (w.alloc o) v t := h.below (below_new1 w o)
theorem Et.drew {S : Nat → Prop} {w : World} {v : Value} {t : Tr} (h : Et S w v t) : Et S w.drew v t := by
  obtain ⟨d, h⟩ := h
  exact ⟨d, EA.keep (w := w) (w' := w.drew) (Nat.le_refl _) (fun _ _ _ => rfl) h⟩
theorem Et.set {S : Nat → Prop} {w : World} {v : Value} {t : Tr} {g : Nat} (h : Et S w v t) (hg : ¬ S g) (j : Nat) (x : Value) : Et S (w.setCell ⟨g, j, none⟩ x) v t := by
  obtain ⟨d, h⟩ := h
  exact ⟨d, h.keep (by simp [World.setCell]) (fun y hy _ => Below.heap_setCell w ⟨g, j, none⟩ x y (fun (e : y = g) => hg (e ▸ hy)))⟩
theorem Et.set7 {S : Nat → Prop} {w : World} {v : Value} {t : Tr} {g : Nat} (h : Et S w v t) (hg : ¬ S g) (a b c d e f x : Value) : Et S (((((((w.setCell ⟨g, 0, none⟩ a).setCell ⟨g, 1, none⟩ b).setCell ⟨g, 2, none⟩ c).setCell ⟨g, 3, none⟩ d).setCell ⟨g, 4, none⟩ e).setCell ⟨g, 5, none⟩ f).setCell ⟨g, 6, none⟩ x) v t :=
  ((((((h.set hg 0 a).set hg 1 b).set hg 2 c).set hg 3 d).set hg 4 e).set hg 5 f).set hg 6 x
theorem mkT_at {d : Nd} {ts : List Tr} {j : Nat} {t : Tr} (h : ts[j]? = some t) : (fun q => mkT d ts (j :: q)) = t := by
  funext q
  simp only [mkT, h]
theorem Et.leaf (S : Nat → Prop) (w : World) (d : Nd) (ha : d.ar = 0) : Et S w (ev d.op d.kind d.n (tx d.name) (tx d.field) (.slice none 0 0) d.pl) (mkT d []) := ⟨1, d, _, rfl, rfl, Or.inl ⟨ha, rfl⟩⟩
/-- A node of one operand, which lies in block g. -/
theorem Et.node1 {S : Nat → Prop} {w : World} {d : Nd} {g cap : Nat} {o k n : Int} {nm fl : ByteArray} {M : Value} {p : Int} {t : Tr} (ha : d.ar = 1) (hc : 1 ≤ cap) (hS : S g) (hg : g < w.heap.size) (hr : RowE w g 0 o k n nm fl M p) (ht : Et S w (ev o k n nm fl M p) t) :
    Et S w (ev d.op d.kind d.n (tx d.name) (tx d.field) (.slice (some ⟨g, 0, none⟩) 1 cap) d.pl) (mkT d [t]) := by
  obtain ⟨m, ht⟩ := ht
  refine ⟨m + 1, d, _, rfl, rfl, Or.inr ⟨g, cap, by rw [ha], by omega, by omega, hS, hg, fun j hj => ?_⟩⟩
  obtain rfl : j = 0 := by omega
  exact ⟨o, k, n, nm, fl, M, p, hr, by rw [mkT_at (t := t) rfl]; exact ht⟩
theorem Et.node2 {S : Nat → Prop} {w : World} {d : Nd} {g cap : Nat} {o k n : Int} {nm fl : ByteArray} {M : Value} {p : Int} {t : Tr} {o' k' n' : Int} {nm' fl' : ByteArray} {M' : Value} {p' : Int} {t' : Tr} (ha : d.ar = 2) (hc : 2 ≤ cap) (hS : S g) (hg : g < w.heap.size)
    (hr : RowE w g 0 o k n nm fl M p) (ht : Et S w (ev o k n nm fl M p) t) (hr' : RowE w g 1 o' k' n' nm' fl' M' p') (ht' : Et S w (ev o' k' n' nm' fl' M' p') t') :
    Et S w (ev d.op d.kind d.n (tx d.name) (tx d.field) (.slice (some ⟨g, 0, none⟩) 2 cap) d.pl) (mkT d [t, t']) := by
  obtain ⟨m, ht⟩ := ht
  obtain ⟨m', ht'⟩ := ht'
  refine ⟨max m m' + 1, d, _, rfl, rfl, Or.inr ⟨g, cap, by rw [ha], by omega, by omega, hS, hg, fun j hj => ?_⟩⟩
  rcases (by omega : j = 0 ∨ j = 1) with rfl | rfl
  · exact ⟨o, k, n, nm, fl, M, p, hr, by rw [mkT_at (t := t) rfl]; exact ht.deeper (Nat.le_max_left _ _)⟩
  · exact ⟨o', k', n', nm', fl', M', p', hr', by rw [mkT_at (t := t') rfl]; exact ht'.deeper (Nat.le_max_right _ _)⟩
theorem RowE.fresh1 (w : World) (o k n : Int) (nm fl : ByteArray) (L : Value) (p : Int) (e : TypeId) : RowE (w.alloc (.cells #[.int .i64 o, .int .i64 k, .int .i64 n, .string nm, .string fl, L, .int .i64 p] e)) w.heap.size 0 o k n nm fl L p :=
  ⟨by simp, by simp, by simp, by simp, by simp, by simp, by simp⟩
/-- What a function hands back that reads an expression. -/
def qE : World → Tr → Value → World → Prop := fun W t v w' => ∃ o k n nm fl lp ln lc p, v = .agg #[.int .i64 o, .int .i64 k, .int .i64 n, .string nm, .string fl, .slice lp ln lc, .int .i64 p] ∧ Et (fun x => W.heap.size ≤ x) w' (.agg #[.int .i64 o, .int .i64 k, .int .i64 n, .string nm, .string fl, .slice lp ln lc, .int .i64 p]) t
theorem bk7 {w : World} {g : Nat} {a b c d e f x : Value} (h : Bk w g #[a, b, c, d, e, f, x]) : w.cell? ⟨g, 0, none⟩ = some a ∧ w.cell? ⟨g, 1, none⟩ = some b ∧ w.cell? ⟨g, 2, none⟩ = some c ∧ w.cell? ⟨g, 3, none⟩ = some d ∧ w.cell? ⟨g, 4, none⟩ = some e ∧ w.cell? ⟨g, 5, none⟩ = some f ∧ w.cell? ⟨g, 6, none⟩ = some x :=
  ⟨h.cell 0, h.cell 1, h.cell 2, h.cell 3, h.cell 4, h.cell 5, h.cell 6⟩
theorem RowE.of_bk {w : World} {g : Nat} {o k n : Int} {nm fl : ByteArray} {L : Value} {p : Int} (h : Bk w g #[.int .i64 o, .int .i64 k, .int .i64 n, .string nm, .string fl, L, .int .i64 p]) : RowE w g 0 o k n nm fl L p := bk7 h
theorem Bk.freshS (w : World) (a : Addr) (x : Value) (cs : Array Value) (t : TypeId) : Bk ((w.setCell a x).alloc (.cells cs t)) w.heap.size cs := by
  have q := Bk.fresh (w.setCell a x) cs t
  rw [show (w.setCell a x).heap.size = w.heap.size by simp [World.setCell]] at q
  exact q
theorem bk5 {w : World} {g : Nat} {a b c d e : Value} (h : Bk w g #[a, b, c, d, e]) : w.cell? ⟨g, 0, none⟩ = some a ∧ w.cell? ⟨g, 1, none⟩ = some b ∧ w.cell? ⟨g, 2, none⟩ = some c ∧ w.cell? ⟨g, 3, none⟩ = some d ∧ w.cell? ⟨g, 4, none⟩ = some e :=
  ⟨h.cell 0, h.cell 1, h.cell 2, h.cell 3, h.cell 4⟩
end Go.Proofs.YtgdoanhemgklpaaGreatDoor
