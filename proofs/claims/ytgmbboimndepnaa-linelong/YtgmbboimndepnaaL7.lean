/- A line as lists: the bytes that are held, the frames that wait; what each call does to them. -/
import Derived.Test.YtgmbboimndepnaaL3
import Derived.Test.YtgmbboimndepnaaL5
import Derived.Test.YtgmbboimndepnaaL6
namespace Go.Proofs.Ytgmbboimndepnaa
open Go.RowKit
open Pdu
/-- A frame: its unit and its PDU. -/
structure Fr where
  unit : Nat
  pdu : List Nat
/-- A PDU, in a block of bytes of its own below B. -/
def Pd (B : Nat) (W : World) (v : Value) (p : List Nat) : Prop := W.ownsRow 0 5 1 v p.length (u8s p) ∧ ∀ k, v.ownBlock = some k → k < B
theorem Pd.sl {B : Nat} {W : World} {v : Value} {p : List Nat} (h : Pd B W v p) : Sl W v (u8s p) := own_sl h.1
theorem Pd.mono {B B' : Nat} {W : World} {v : Value} {p : List Nat} (h : Pd B W v p) (hb : B ≤ B') : Pd B' W v p := ⟨h.1, fun k hk => Nat.lt_of_lt_of_le (h.2 k hk) hb⟩
theorem Pd.below {B : Nat} {W W' : World} {v : Value} {p : List Nat} (h : Pd B W v p) (k : Below B W W') : Pd B W' v p := by
  refine ⟨⟨h.1.1, ?_⟩, h.2⟩
  rcases h.1.2 with h' | ⟨g, cap, cur, rfl, hb, hg, r⟩
  · exact Or.inl h'
  · exact Or.inr ⟨g, cap, cur, rfl, hb, (k.block g (h.2 g rfl)).trans hg, r⟩
theorem Pd.grown {B : Nat} {W W' : World} {v : Value} {p : List Nat} {row : Option Nat} (h : Pd B W v p) (k : W.grownBy W' row) (hr : ∀ g cs fl, row = some g → W.heap[g]? ≠ some (.cells cs 5 fl)) : Pd B W' v p := ⟨own_grown h.1 k hr, h.2⟩
theorem Ln.not_bytes {W : World} {g : Nat} {l : LS} (s : Ln W g l) : ∀ j cs fl, some g = some j → W.heap[j]? ≠ some (.cells cs 5 fl) := by
  intro j cs fl e hj
  simp only [Option.some.injEq] at e
  subst e
  rw [s.row] at hj
  simp at hj
theorem Pd.turn {B g : Nat} {W W' : World} {v : Value} {p : List Nat} {l : LS} (h : Pd B W v p) (s : Ln W g l) (k : Turn g W W') : Pd B W' v p := h.grown k s.not_bytes
theorem pd_own {b : Nat} {W : World} {v : Value} {p : List Nat} (h : W.ownsRow b 5 1 v p.length (u8s p)) : Pd W.heap.size W v p := ⟨own_base h (Nat.zero_le _), fun k hk => (h.lt k hk).2⟩
/-- The frames that wait, in the array ws, from f on, round. -/
def Wq (B : Nat) (W : World) (ws : List Value) (f : Nat) (fs : List Fr) : Prop :=
  ∀ j fr, fs[j]? = some fr → ∃ po pc, ws[2 * ((f + j) % 8)]? = some (.int .u8 (fr.unit : Int)) ∧ ws[2 * ((f + j) % 8) + 1]? = some (.slice po fr.pdu.length pc) ∧ Pd B W (.slice po fr.pdu.length pc) fr.pdu
theorem Wq.carried {B B' : Nat} {W W' : World} {ws : List Value} {f : Nat} {fs : List Fr} (h : Wq B W ws f fs) (k : ∀ v p, Pd B W v p → Pd B' W' v p) : Wq B' W' ws f fs := fun j fr hj => by
  obtain ⟨po, pc, h1, h2, h3⟩ := h j fr hj
  exact ⟨po, pc, h1, h2, k _ _ h3⟩
/-- A line in block g: its unit, its silence, the ticks, the bytes that are held, the frames that wait; their PDUs lie below B. -/
structure LA (B : Nat) (W : World) (g u s t : Nat) (H : List Nat) (fs : List Fr) (l : LS) : Prop where
  ln : Ln W g l
  eu : l.u = u
  es : l.s = s
  et : l.t = t
  held : l.room.take l.h = H
  num : l.n = fs.length
  wait : Wq B W l.ws l.f fs
  lt : g < B
theorem LA.len {B g u s t : Nat} {W : World} {H : List Nat} {fs : List Fr} {l : LS} (a : LA B W g u s t H fs l) : l.h = H.length := by
  rw [← a.held, List.length_take, a.ln.len]
  exact (Nat.min_eq_left a.ln.held).symm
theorem LA.byt {B g u s t : Nat} {W : World} {H : List Nat} {fs : List Fr} {l : LS} (a : LA B W g u s t H fs l) : Bytes H := by rw [← a.held]; exact a.ln.byt.take _
theorem LA.le {B g u s t : Nat} {W : World} {H : List Nat} {fs : List Fr} {l : LS} (a : LA B W g u s t H fs l) : H.length ≤ 257 := by rw [← a.len]; exact a.ln.held
theorem LA.few {B g u s t : Nat} {W : World} {H : List Nat} {fs : List Fr} {l : LS} (a : LA B W g u s t H fs l) : fs.length ≤ 8 := by rw [← a.num]; exact a.ln.num
theorem LA.below {B g u s t : Nat} {W W' : World} {H : List Nat} {fs : List Fr} {l : LS} (a : LA B W g u s t H fs l) (k : Below B W W') : LA B W' g u s t H fs l :=
  ⟨a.ln.below k a.lt, a.eu, a.es, a.et, a.held, a.num, a.wait.carried fun _ _ h => h.below k, a.lt⟩
theorem LA.mono {B B' g u s t : Nat} {W : World} {H : List Nat} {fs : List Fr} {l : LS} (a : LA B W g u s t H fs l) (h : B ≤ B') : LA B' W g u s t H fs l :=
  ⟨a.ln, a.eu, a.es, a.et, a.held, a.num, a.wait.carried fun _ _ k => k.mono h, Nat.lt_of_lt_of_le a.lt h⟩
/-- What the silence's last tick makes of the frames that wait. -/
def tickW (u : Nat) (fs : List Fr) (H : List Nat) : List Fr := if (rd H).e = 0 ∧ ((rd H).unit = u ∨ (rd H).unit = 0) ∧ fs.length < 8 then fs ++ [⟨(rd H).unit, (rd H).pdu⟩] else fs
theorem la_new (W : World) (u s : Nat) (w' : World) (k : Ln w' W.heap.size (new0 u s)) : LA (W.heap.size + 1) w' W.heap.size u s 0 [] [] (new0 u s) :=
  ⟨k, rfl, rfl, rfl, rfl, rfl, fun j fr hj => by simp at hj, Nat.lt_succ_self _⟩
theorem feed_la {B g u s t : Nat} {W : World} {H bs : List Nat} {fs : List Fr} {l : LS} {v : Value} (a : LA B W g u s t H fs l) (hs : Sl W v (u8s bs)) (hB : Bytes bs) (h0 : 0 < bs.length) :
    Calls Try.prog 10 #[.pointer (some ⟨g, 0, none⟩), v] W fun e w' => e = .returned (.tuple #[]) ∧ Turn g W w' ∧ ∃ l', LA B w' g u s 0 ((H ++ bs).take 257) fs l' := by
  refine (feed_c a.ln hs hB h0).mono ?_
  rintro e w' ⟨rfl, ht, room', h1, h2⟩
  refine ⟨rfl, ht, _, h1, a.eu, a.es, rfl, ?_, a.num, a.wait.carried fun _ _ h => h.turn a.ln ht, a.lt⟩
  show room'.take (l.h + Nat.min bs.length (257 - l.h)) = _
  have hl := a.le
  rw [h2, a.held, a.len, List.take_append, List.take_of_length_le hl]
  congr 1
  rcases Nat.le_total bs.length (257 - H.length) with q | q
  · rw [show Nat.min bs.length (257 - H.length) = bs.length from Nat.min_eq_left q, List.take_length, List.take_of_length_le q]
  · rw [show Nat.min bs.length (257 - H.length) = 257 - H.length from Nat.min_eq_right q]
theorem tick_la_idle {B g u s t : Nat} {W : World} {fs : List Fr} {l : LS} (a : LA B W g u s t [] fs l) :
    Calls Try.prog 12 #[.pointer (some ⟨g, 0, none⟩)] W fun e w' => e = .returned (.tuple #[]) ∧ w' = W := tick_idle g l W a.ln a.len
theorem tick_la_wait {B g u s t : Nat} {W : World} {H : List Nat} {fs : List Fr} {l : LS} (a : LA B W g u s t H fs l) (h0 : 0 < H.length) (ht : t + 1 < s) (hs : s ≤ 9223372036854775807) :
    Calls Try.prog 12 #[.pointer (some ⟨g, 0, none⟩)] W fun e w' => e = .returned (.tuple #[]) ∧ Turn g W w' ∧ ∃ l', LA B w' g u s (t + 1) H fs l' := by
  refine (tick_wait g l W a.ln (by rw [a.len]; exact h0) (by rw [a.et, a.es]; exact ht) (by rw [a.es]; exact hs)).mono ?_
  rintro e w' ⟨rfl, k, h⟩
  exact ⟨rfl, k, _, h, a.eu, a.es, by rw [a.et], a.held, a.num, a.wait.carried fun _ _ h => h.turn a.ln k, a.lt⟩
theorem set_far {ws : List Value} {i j : Nat} {x y : Value} (h : i ≠ j) : ((ws.set (2 * i) x).set (2 * i + 1) y)[2 * j]? = ws[2 * j]? ∧ ((ws.set (2 * i) x).set (2 * i + 1) y)[2 * j + 1]? = ws[2 * j + 1]? := by
  constructor <;> rw [List.getElem?_set_ne (by omega), List.getElem?_set_ne (by omega)]
theorem set_at {ws : List Value} {i : Nat} {x y : Value} (h : i < 8) (hl : ws.length = 16) : ((ws.set (2 * i) x).set (2 * i + 1) y)[2 * i]? = some x ∧ ((ws.set (2 * i) x).set (2 * i + 1) y)[2 * i + 1]? = some y := by
  constructor
  · rw [List.getElem?_set_ne (by omega), List.getElem?_set_self (by omega)]
  · rw [List.getElem?_set_self (by rw [List.length_set]; omega)]
theorem wq_push {B : Nat} {W : World} {ws : List Value} {f : Nat} {fs : List Fr} {fr : Fr} {po : Option Addr} {pc : Nat} (h : Wq B W ws f fs) (hl : ws.length = 16) (hn : fs.length < 8) (hp : Pd B W (.slice po fr.pdu.length pc) fr.pdu) :
    Wq B W ((ws.set (2 * ((f + fs.length) % 8)) (.int .u8 (fr.unit : Int))).set (2 * ((f + fs.length) % 8) + 1) (.slice po fr.pdu.length pc)) f (fs ++ [fr]) := by
  intro j x hj
  by_cases hlt : j < fs.length
  · rw [List.getElem?_append_left hlt] at hj
    obtain ⟨po', pc', h1, h2, h3⟩ := h j x hj
    have hne : (f + fs.length) % 8 ≠ (f + j) % 8 := by omega
    exact ⟨po', pc', by rw [(set_far hne).1]; exact h1, by rw [(set_far hne).2]; exact h2, h3⟩
  · have hj2 : j = fs.length := by
      have := (List.getElem?_eq_some_iff.1 hj).1
      simp at this
      omega
    subst hj2
    simp at hj
    subst hj
    have q := set_at (ws := ws) (i := (f + fs.length) % 8) (x := .int .u8 (fr.unit : Int)) (y := .slice po fr.pdu.length pc) (by omega) hl
    exact ⟨po, pc, q.1, q.2, hp⟩
theorem wq_pop {B : Nat} {W : World} {ws : List Value} {f : Nat} {fs : List Fr} {fr : Fr} {x y : Value} (h : Wq B W ws f (fr :: fs)) (_hf : f < 8) (_hn : fs.length < 8) : Wq B W ((ws.set (2 * f) x).set (2 * f + 1) y) ((f + 1) % 8) fs := by
  intro j z hj
  have hlt := (List.getElem?_eq_some_iff.1 hj).1
  obtain ⟨po, pc, h1, h2, h3⟩ := h (j + 1) z (by simpa using hj)
  have e : ((f + 1) % 8 + j) % 8 = (f + (j + 1)) % 8 := by omega
  have hne : f ≠ (f + (j + 1)) % 8 := by omega
  rw [e]
  exact ⟨po, pc, by rw [(set_far hne).1]; exact h1, by rw [(set_far hne).2]; exact h2, h3⟩
theorem tick_la_end {B g u s t : Nat} {W : World} {H : List Nat} {fs : List Fr} {l : LS} (a : LA B W g u s t H fs l) (hBW : B ≤ W.heap.size) (h0 : 0 < H.length) (ht : ¬ (t + 1 < s)) (hs : t + 1 ≤ 9223372036854775807) :
    Calls Try.prog 12 #[.pointer (some ⟨g, 0, none⟩)] W fun e w' => e = .returned (.tuple #[]) ∧ Turn g W w' ∧ ∃ l', LA w'.heap.size w' g u s (t + 1) [] (tickW u fs H) l' := by
  refine (tick_end g l W a.ln (by rw [a.len]; exact h0) (by rw [a.et, a.es]; exact ht) (by rw [a.et]; exact hs)).mono ?_
  rintro e w' ⟨rfl, k, h⟩
  refine ⟨rfl, k, ?_⟩
  have hw : Wq w'.heap.size w' l.ws l.f fs := a.wait.carried fun _ _ h => (h.turn a.ln k).mono (Nat.le_trans hBW k.size)
  have hg : g < w'.heap.size := Nat.lt_of_lt_of_le a.lt (Nat.le_trans hBW k.size)
  rw [a.held] at h
  unfold Good at h
  rw [a.eu, a.num] at h
  unfold tickW
  rcases h with ⟨h1, h2⟩ | ⟨h1, po, pc, h2, h3⟩
  · rw [if_neg h1]
    exact ⟨_, h2, rfl, a.es, by show l.t + 1 = t + 1; rw [a.et], rfl, rfl, hw, hg⟩
  · rw [if_pos h1]
    exact ⟨_, h2, rfl, a.es, by show l.t + 1 = t + 1; rw [a.et], rfl, by show fs.length + 1 = _; rw [List.length_append]; rfl, wq_push hw a.ln.wlen h1.2.2 (pd_own h3), hg⟩
theorem next_la_none {B g u s t : Nat} {W : World} {H : List Nat} {l : LS} (a : LA B W g u s t H [] l) :
    Calls Try.prog 14 #[.pointer (some ⟨g, 0, none⟩)] W fun e w' => e = .returned (.tuple #[.int .u8 0, .slice none 0 0, .bool false]) ∧ w' = W := next_none g l W a.ln a.num
theorem next_la {B g u s t : Nat} {W : World} {H : List Nat} {fr : Fr} {fs : List Fr} {l : LS} (a : LA B W g u s t H (fr :: fs) l) :
    Calls Try.prog 14 #[.pointer (some ⟨g, 0, none⟩)] W fun e w' => ∃ po pc, e = .returned (.tuple #[.int .u8 (fr.unit : Int), .slice po fr.pdu.length pc, .bool true]) ∧ Turn g W w' ∧ Pd B w' (.slice po fr.pdu.length pc) fr.pdu ∧ ∃ l', LA B w' g u s t H fs l' := by
  obtain ⟨po, pc, h1, h2, h3⟩ := a.wait 0 fr rfl
  have hf := a.ln.fst
  have hn := a.few
  rw [show (l.f + 0) % 8 = l.f by omega] at h1 h2
  refine (next_some g fr.unit po fr.pdu.length pc l W a.ln (by rw [a.num]; simp) h1 h2).mono ?_
  rintro e w' ⟨rfl, k, h⟩
  refine ⟨po, pc, rfl, k, h3.turn a.ln k, _, h, a.eu, a.es, a.et, a.held, by show l.n - 1 = _; rw [a.num]; simp, ?_, a.lt⟩
  exact (wq_pop a.wait hf (by simp at hn; omega)).carried fun _ _ h => h.turn a.ln k
theorem left_la {B g u s t : Nat} {W : World} {H : List Nat} {fs : List Fr} {l : LS} (a : LA B W g u s t H fs l) : Calls Try.prog 16 #[.pointer (some ⟨g, 0, none⟩)] W fun e w' => e = .returned (.int .i64 (H.length : Int)) ∧ w' = W := by
  rw [← a.len]
  exact left_c a.ln
theorem waits_la {B g u s t : Nat} {W : World} {H : List Nat} {fs : List Fr} {l : LS} (a : LA B W g u s t H fs l) : Calls Try.prog 17 #[.pointer (some ⟨g, 0, none⟩)] W fun e w' => e = .returned (.int .i64 (fs.length : Int)) ∧ w' = W := by
  rw [← a.num]
  exact waits_c a.ln
end Go.Proofs.Ytgmbboimndepnaa
