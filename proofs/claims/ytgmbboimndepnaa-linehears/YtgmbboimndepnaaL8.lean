/- A line that a law holds: what each call does to it and to all else. -/
import Derived.Test.YtgmbboimndepnaaK1
namespace Go.Proofs.Ytgmbboimndepnaa
open Go.RowKit
open Pdu
/-- The line in block g, made behind the world w. -/
structure LI (w W : World) (g u s B t : Nat) (H : List Nat) (fs : List Fr) : Prop where
  k : Below w.heap.size w W
  la : ∃ l, LA B W g u s t H fs l
  gw : w.heap.size ≤ g
  BW : B ≤ W.heap.size
theorem LI.lt {w W : World} {g u s B t : Nat} {H : List Nat} {fs : List Fr} (I : LI w W g u s B t H fs) : g < W.heap.size := by
  obtain ⟨l, a⟩ := I.la
  exact a.ln.lt
theorem LI.turn {w W W' : World} {g u s B B' t t' : Nat} {H H' : List Nat} {fs fs' : List Fr} (I : LI w W g u s B t H fs) (k : Turn g W W') (a : ∃ l, LA B' W' g u s t' H' fs' l) (hb : B' ≤ W'.heap.size) : LI w W' g u s B' t' H' fs' :=
  ⟨I.k.trans (k.below I.gw I.k.size), a, I.gw, hb⟩
theorem LI.below {w W W' : World} {g u s B t : Nat} {H : List Nat} {fs : List Fr} (I : LI w W g u s B t H fs) (k : Below W.heap.size W W') : LI w W' g u s B t H fs := by
  obtain ⟨l, a⟩ := I.la
  exact ⟨below_and I.k k, ⟨l, a.below (k.mono I.BW)⟩, I.gw, Nat.le_trans I.BW k.size⟩
theorem LI.new {w W : World} {g u s B t : Nat} {H : List Nat} {fs : List Fr} (I : LI w W g u s B t H fs) (o : Obj) : LI w (W.alloc o) g u s B t H fs := I.below (below_new (Below.refl _ W) o)
theorem LI.len {w W : World} {g u s B t : Nat} {H : List Nat} {fs : List Fr} (I : LI w W g u s B t H fs) : H.length ≤ 257 ∧ fs.length ≤ 8 := by
  obtain ⟨l, a⟩ := I.la
  exact ⟨a.le, a.few⟩
theorem li_start {w0 w w1 : World} {u s : Nat} (ln : Ln w1 w.heap.size (new0 u s)) (k0 : Below w0.heap.size w0 w) (k1 : Below w.heap.size w w1) (sz : w1.heap.size = w.heap.size + 1) : LI w0 w1 w.heap.size u s (w.heap.size + 1) 0 [] [] :=
  ⟨below_and k0 k1, ⟨_, la_new w u s w1 ln⟩, k0.size, by omega⟩
theorem LI.feed {w W : World} {g u s B t : Nat} {H : List Nat} {fs : List Fr} (I : LI w W g u s B t H fs) {v : Value} {bs : List Nat} (hs : Sl W v (u8s bs)) (hB : Bytes bs) (h0 : 0 < bs.length) :
    Calls Try.prog 10 #[.pointer (some ⟨g, 0, none⟩), v] W fun e w' => e = .returned (.tuple #[]) ∧ Turn g W w' ∧ LI w w' g u s B 0 ((H ++ bs).take 257) fs := by
  obtain ⟨l, a⟩ := I.la
  refine (feed_la a hs hB h0).mono ?_
  rintro e w' ⟨rfl, k, a'⟩
  exact ⟨rfl, k, I.turn k a' (Nat.le_trans I.BW k.size)⟩
/-- Any bytes, none too. -/
theorem LI.feed_any {w W : World} {g u s B t : Nat} {H : List Nat} {fs : List Fr} (I : LI w W g u s B t H fs) {v : Value} {bs : List Nat} (hs : Sl W v (u8s bs)) (hB : Bytes bs) :
    Calls Try.prog 10 #[.pointer (some ⟨g, 0, none⟩), v] W fun e w' => e = .returned (.tuple #[]) ∧ Turn g W w' ∧ LI w w' g u s B (if bs = [] then t else 0) ((H ++ bs).take 257) fs := by
  by_cases h : bs = []
  · subst h
    obtain ⟨ao, c, rfl⟩ := hs.shape
    refine (feed_nil g ao c W).mono ?_
    rintro e w' ⟨rfl, rfl⟩
    rw [if_pos rfl, List.append_nil, List.take_of_length_le I.len.1]
    exact ⟨rfl, Turn.refl g _, I⟩
  · rw [if_neg h]
    exact I.feed hs hB (List.length_pos_iff.2 h)
/-- What a tick makes of the ticks, the held bytes, the frames. -/
def tkT (t : Nat) (H : List Nat) : Nat := if H = [] then t else t + 1
def tkH (s t : Nat) (H : List Nat) : List Nat := if t + 1 < s then H else []
def tkF (u s t : Nat) (H : List Nat) (fs : List Fr) : List Fr := if H = [] then fs else if t + 1 < s then fs else tickW u fs H
theorem LI.tick {w W : World} {g u s B t : Nat} {H : List Nat} {fs : List Fr} (I : LI w W g u s B t H fs) (hs : s ≤ 9223372036854775807) (ht : t < 9223372036854775807) :
    Calls Try.prog 12 #[.pointer (some ⟨g, 0, none⟩)] W fun e w' => e = .returned (.tuple #[]) ∧ Turn g W w' ∧ ∃ B', LI w w' g u s B' (tkT t H) (tkH s t H) (tkF u s t H fs) ∧ (H ≠ [] → ¬ (t + 1 < s) → B' = w'.heap.size) ∧ (H = [] ∨ t + 1 < s → B' = B) := by
  obtain ⟨l, a⟩ := I.la
  unfold tkT tkH tkF
  by_cases h : H = []
  · subst h
    refine (tick_la_idle a).mono ?_
    rintro e w' ⟨rfl, rfl⟩
    refine ⟨rfl, Turn.refl g _, B, ?_, fun h => absurd rfl h, fun _ => rfl⟩
    simp only [if_pos, ite_self]
    exact I
  · have h0 : 0 < H.length := List.length_pos_iff.2 h
    by_cases h1 : t + 1 < s
    · refine (tick_la_wait a h0 h1 hs).mono ?_
      rintro e w' ⟨rfl, k, a'⟩
      rw [if_neg h, if_pos h1, if_neg h, if_pos h1]
      exact ⟨rfl, k, B, I.turn k a' (Nat.le_trans I.BW k.size), fun _ h => absurd h1 h, fun _ => rfl⟩
    · refine (tick_la_end a I.BW h0 h1 (by omega)).mono ?_
      rintro e w' ⟨rfl, k, a'⟩
      rw [if_neg h, if_neg h1, if_neg h, if_neg h1]
      exact ⟨rfl, k, _, I.turn k a' (Nat.le_refl _), fun _ _ => rfl, fun q => q.elim (fun q => absurd q h) (fun q => absurd q h1)⟩
theorem LI.left {w W : World} {g u s B t : Nat} {H : List Nat} {fs : List Fr} (I : LI w W g u s B t H fs) : Calls Try.prog 16 #[.pointer (some ⟨g, 0, none⟩)] W fun e w' => e = .returned (.int .i64 (H.length : Int)) ∧ w' = W := by
  obtain ⟨l, a⟩ := I.la
  exact left_la a
theorem LI.waits {w W : World} {g u s B t : Nat} {H : List Nat} {fs : List Fr} (I : LI w W g u s B t H fs) : Calls Try.prog 17 #[.pointer (some ⟨g, 0, none⟩)] W fun e w' => e = .returned (.int .i64 (fs.length : Int)) ∧ w' = W := by
  obtain ⟨l, a⟩ := I.la
  exact waits_la a
theorem LI.nxt {w W : World} {g u s B t : Nat} {H : List Nat} {fr : Fr} {fs : List Fr} (I : LI w W g u s B t H (fr :: fs)) :
    Calls Try.prog 14 #[.pointer (some ⟨g, 0, none⟩)] W fun e w' => ∃ po pc, e = .returned (.tuple #[.int .u8 (fr.unit : Int), .slice po fr.pdu.length pc, .bool true]) ∧ Turn g W w' ∧ Sl w' (.slice po fr.pdu.length pc) (u8s fr.pdu) ∧ LI w w' g u s B t H fs := by
  obtain ⟨l, a⟩ := I.la
  refine (next_la a).mono ?_
  rintro e w' ⟨po, pc, rfl, k, p, a'⟩
  exact ⟨po, pc, rfl, k, p.sl, I.turn k a' (Nat.le_trans I.BW k.size)⟩
theorem LI.none {w W : World} {g u s B t : Nat} {H : List Nat} (I : LI w W g u s B t H []) :
    Calls Try.prog 14 #[.pointer (some ⟨g, 0, none⟩)] W fun e w' => e = .returned (.tuple #[.int .u8 0, .slice none 0 0, .bool false]) ∧ w' = W := by
  obtain ⟨l, a⟩ := I.la
  exact next_la_none a
theorem tickW_long {u : Nat} {fs : List Fr} {H : List Nat} (h : 256 < H.length) : tickW u fs H = fs := by
  have e : rd H = ⟨0, [], 51⟩ := by unfold rd; rw [if_pos (by omega)]
  unfold tickW
  rw [e, if_neg (fun h => by cases h.1)]
theorem tickW_rt {u : Nat} {ps : List Nat} (hp : 1 ≤ ps.length ∧ ps.length ≤ 253) : tickW u [] (rt u ps) = [⟨u, ps⟩] := by
  unfold tickW
  rw [rd_rt u ps hp, if_pos ⟨rfl, Or.inl rfl, by decide⟩]
  rfl
end Go.Proofs.Ytgmbboimndepnaa
