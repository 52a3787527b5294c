/- What LineHears keeps, loop by loop. -/
import Derived.Test.YtgmbboimndepnaaL8
namespace Go.Proofs.Ytgmbboimndepnaa
open Go.RowKit
open Pdu
/-- Noise: whatever is held, fewer ticks than the silence have been. -/
def HI (w W : World) (g u s : Nat) : Prop := ∃ B t H fs, LI w W g u s B t H fs ∧ (H ≠ [] → t < s) ∧ t ≤ s
/-- J ticks of silence behind the noise. -/
def HJ (w W : World) (g u s J : Nat) : Prop := ∃ B t H fs, LI w W g u s B t H fs ∧ (H = [] ∨ (J ≤ t ∧ t < s)) ∧ t ≤ s
/-- Nothing is held; frames may wait; b: none does, if it is false. -/
def HN (w W : World) (g u s : Nat) (b : Bool) : Prop := ∃ B t fs, LI w W g u s B t [] fs ∧ t ≤ s ∧ (b = false → fs = [])
/-- The first A bytes of the frame are held, and all of the silence but a tick has been. -/
def HB (w W : World) (g u s gb A : Nat) (bs : List Nat) : Prop := (∃ B t, LI w W g u s B t (bs.take A) [] ∧ t ≤ s ∧ (0 < A → t + 1 = s)) ∧ Lies W gb 0 (u8s bs) ∧ g ≠ gb
/-- The first A bytes are held, K - 1 ticks behind them. -/
def HT (w W : World) (g u s gb A K : Nat) (bs : List Nat) : Prop := (∃ B, LI w W g u s B (K - 1) (bs.take A) []) ∧ Lies W gb 0 (u8s bs) ∧ g ≠ gb
theorem HI.k {w W : World} {g u s : Nat} (h : HI w W g u s) : Below w.heap.size w W := by obtain ⟨_, _, _, _, I, _⟩ := h; exact I.k
theorem HI.feed {w W : World} {g u s : Nat} {v : Value} {bs : List Nat} (h : HI w W g u s) (h0 : 0 < s) (hs : Sl W v (u8s bs)) (hB : Bytes bs) : Calls Try.prog 10 #[.pointer (some ⟨g, 0, none⟩), v] W fun e w' => e = .returned (.tuple #[]) ∧ HI w w' g u s := by
  obtain ⟨B, t, H, fs, I, h1, h2⟩ := h
  refine (I.feed_any hs hB).mono ?_
  rintro e w' ⟨rfl, k, I'⟩
  refine ⟨rfl, _, _, _, _, I', ?_, ?_⟩
  · intro hne
    by_cases hb : bs = []
    · subst hb
      rw [if_pos rfl]
      refine h1 ?_
      rintro rfl
      simp at hne
    · rw [if_neg hb]
      exact h0
  · split <;> omega
theorem HI.tick {w W : World} {g u s : Nat} (h : HI w W g u s) (hs : s ≤ 1000) : Calls Try.prog 12 #[.pointer (some ⟨g, 0, none⟩)] W fun e w' => e = .returned (.tuple #[]) ∧ HI w w' g u s := by
  obtain ⟨B, t, H, fs, I, h1, h2⟩ := h
  refine (I.tick (by omega) (by omega)).mono ?_
  rintro e w' ⟨rfl, k, B', I', _⟩
  refine ⟨rfl, _, _, _, _, I', ?_, ?_⟩
  · unfold tkT tkH
    intro hne
    split at hne
    · rename_i hlt
      split
      · omega
      · exact hlt
    · exact absurd rfl hne
  · unfold tkT
    split
    · exact h2
    · have := h1 (by assumption)
      omega
theorem HI.hj {w W : World} {g u s : Nat} (h : HI w W g u s) : HJ w W g u s 0 := by
  obtain ⟨B, t, H, fs, I, h1, h2⟩ := h
  refine ⟨B, t, H, fs, I, ?_, h2⟩
  by_cases hH : H = []
  · exact Or.inl hH
  · exact Or.inr ⟨Nat.zero_le _, h1 hH⟩
theorem HJ.tick {w W : World} {g u s J : Nat} (h : HJ w W g u s J) (hs : s ≤ 1000) : Calls Try.prog 12 #[.pointer (some ⟨g, 0, none⟩)] W fun e w' => e = .returned (.tuple #[]) ∧ HJ w w' g u s (J + 1) := by
  obtain ⟨B, t, H, fs, I, h1, h2⟩ := h
  refine (I.tick (by omega) (by omega)).mono ?_
  rintro e w' ⟨rfl, k, B', I', _⟩
  refine ⟨rfl, _, _, _, _, I', ?_, ?_⟩
  · unfold tkT tkH
    rcases h1 with rfl | ⟨h1, h3⟩
    · left
      split <;> rfl
    · by_cases hlt : t + 1 < s
      · rw [if_pos hlt]
        by_cases hH : H = []
        · exact Or.inl hH
        · rw [if_neg hH]
          exact Or.inr ⟨by omega, hlt⟩
      · rw [if_neg hlt]
        exact Or.inl rfl
  · unfold tkT
    rcases h1 with rfl | ⟨h1, h3⟩
    · rw [if_pos rfl]
      exact h2
    · split <;> omega
theorem HJ.hn {w W : World} {g u s : Nat} (h : HJ w W g u s s) : HN w W g u s true := by
  obtain ⟨B, t, H, fs, I, h1, h2⟩ := h
  rcases h1 with rfl | h1
  · exact ⟨B, t, fs, I, h2, fun h => by cases h⟩
  · omega
def waitsOf (g : Nat) (w : World) : Nat := (((w.cell? ⟨g, 278, none⟩).map intOf).getD 0).toNat
theorem LI.waitsOf {w W : World} {g u s B t : Nat} {H : List Nat} {fs : List Fr} (I : LI w W g u s B t H fs) : waitsOf g W = fs.length := by
  obtain ⟨l, a⟩ := I.la
  unfold Go.Proofs.Ytgmbboimndepnaa.waitsOf
  rw [a.ln.cWaits, ← a.num]
  simp [intOf]
def one (v : Value) : Nat := match v with | .bool true => 1 | _ => 0
theorem HN.nxt {w W : World} {g u s : Nat} {b : Bool} (h : HN w W g u s b) : Calls Try.prog 14 #[.pointer (some ⟨g, 0, none⟩)] W fun e w' => ∃ x po m pc b', e = .returned (.tuple #[.int .u8 x, .slice po m pc, .bool b']) ∧ HN w w' g u s b' ∧ waitsOf g w' + one (.bool b') = waitsOf g W := by
  obtain ⟨B, t, fs, I, h1, h2⟩ := h
  match fs, I, h2 with
  | [], I, _ =>
    refine I.none.mono ?_
    rintro e w' ⟨rfl, rfl⟩
    exact ⟨0, none, 0, 0, false, rfl, ⟨B, t, [], I, h1, fun _ => rfl⟩, rfl⟩
  | fr :: fs, I, _ =>
    refine I.nxt.mono ?_
    rintro e w' ⟨po, pc, rfl, k, _, I'⟩
    refine ⟨_, po, _, pc, true, rfl, ⟨B, t, fs, I', h1, fun h => by cases h⟩, ?_⟩
    rw [I'.waitsOf, I.waitsOf]
    rfl
theorem HN.below {w W W' : World} {g u s : Nat} {b : Bool} (h : HN w W g u s b) (k : Below W.heap.size W W') : HN w W' g u s b := by
  obtain ⟨B, t, fs, I, h1, h2⟩ := h
  exact ⟨B, t, fs, I.below k, h1, h2⟩
theorem HN.k {w W : World} {g u s : Nat} {b : Bool} (h : HN w W g u s b) : Below w.heap.size w W := by obtain ⟨_, _, _, I, _⟩ := h; exact I.k
theorem HN.lt {w W : World} {g u s : Nat} {b : Bool} (h : HN w W g u s b) : g < W.heap.size := by obtain ⟨_, _, _, I, _⟩ := h; exact I.lt
theorem own_lies {w : World} {gb c n base : Nat} {bs : List Nat} (own : w.ownsRow base 5 1 (.slice (some ⟨gb, 0, none⟩) n c) n (u8s bs)) : Lies w gb 0 (u8s bs) := by
  intro k u hk
  have := own.cells (g := gb) rfl k u hk
  rw [Nat.zero_add]
  rwa [show (⟨gb, 0, none⟩ : Addr).add k = ⟨gb, k, none⟩ by unfold Addr.add; split <;> simp_all] at this
theorem HN.hb {w W W' : World} {g u s gb c : Nat} {bs : List Nat} (h : HN w W g u s false) (k : Below W.heap.size W W') (own : W'.ownsRow W.heap.size 5 1 (.slice (some ⟨gb, 0, none⟩) bs.length c) bs.length (u8s bs)) : HB w W' g u s gb 0 bs := by
  have hl := h.lt
  obtain ⟨B, t, fs, I, h1, h2⟩ := h
  obtain rfl := h2 rfl
  refine ⟨⟨B, t, I.below k, h1, fun h => by omega⟩, own_lies own, ?_⟩
  have := (own.lt gb rfl).1
  omega
theorem HB.k {w W : World} {g u s gb A : Nat} {bs : List Nat} (h : HB w W g u s gb A bs) : Below w.heap.size w W := by obtain ⟨⟨_, _, I, _⟩, _⟩ := h; exact I.k
theorem lies_turn {W W' : World} {g gb off : Nat} {vs : List Value} (h : Lies W gb off vs) (k : Turn g W W') (hne : g ≠ gb) (h0 : 0 < vs.length) : Lies W' gb off vs :=
  h.kept (k.block gb (lt_of_cell (h 0 _ (List.getElem?_eq_getElem h0))) (fun e => hne (by simp at e; exact e.symm)))
theorem HB.feed {w W : World} {g u s gb A n c : Nat} {bs : List Nat} (h : HB w W g u s gb A bs) (hB : Bytes bs) (h0 : 0 < n) (hn : A + n ≤ bs.length) (hc : n ≤ c) (hl : bs.length ≤ 257) : Calls Try.prog 10 #[.pointer (some ⟨g, 0, none⟩), .slice (some ⟨gb, A, none⟩) n c] W fun e w' => e = .returned (.tuple #[]) ∧ HT w w' g u s gb (A + n) 1 bs := by
  obtain ⟨⟨B, t, I, h1, h2⟩, h3, h4⟩ := h
  have hs := sub_sl h3 A n c hn hc
  rw [Nat.zero_add] at hs
  have hlen : ((bs.drop A).take n).length = n := by rw [List.length_take, List.length_drop]; omega
  refine (I.feed hs ((hB.drop _).take _) (by omega)).mono ?_
  rintro e w' ⟨rfl, k, I'⟩
  refine ⟨rfl, ⟨B, ?_⟩, lies_turn h3 k h4 (by rw [u8s_len]; omega), h4⟩
  rw [← List.take_add, List.take_of_length_le (by rw [List.length_take]; omega)] at I'
  exact I'
theorem HT.tick {w W : World} {g u s gb A K : Nat} {bs : List Nat} (h : HT w W g u s gb A K bs) (hs : s ≤ 1000) (hK : 1 ≤ K) (hKs : K < s) (hA : 0 < A) (hb : 0 < bs.length) : Calls Try.prog 12 #[.pointer (some ⟨g, 0, none⟩)] W fun e w' => e = .returned (.tuple #[]) ∧ HT w w' g u s gb A (K + 1) bs := by
  obtain ⟨⟨B, I⟩, h3, h4⟩ := h
  have hne : bs.take A ≠ [] := fun e => by have := congrArg List.length e; rw [List.length_take, List.length_nil] at this; omega
  refine (I.tick (by omega) (by omega)).mono ?_
  rintro e w' ⟨rfl, k, B', I', _⟩
  unfold tkT tkH tkF at I'
  rw [if_neg hne, if_pos (by omega), if_neg hne, if_pos (by omega), show K - 1 + 1 = K + 1 - 1 by omega] at I'
  exact ⟨rfl, ⟨B', I'⟩, lies_turn h3 k h4 (by rw [u8s_len]; omega), h4⟩
theorem HT.k {w W : World} {g u s gb A K : Nat} {bs : List Nat} (h : HT w W g u s gb A K bs) : Below w.heap.size w W := by obtain ⟨⟨_, I⟩, _⟩ := h; exact I.k
theorem HT.hb {w W : World} {g u s gb A : Nat} {bs : List Nat} (h : HT w W g u s gb A s bs) (hs : 0 < s) : HB w W g u s gb A bs := by
  obtain ⟨⟨B, I⟩, h3, h4⟩ := h
  exact ⟨⟨B, _, I, by omega, fun _ => by omega⟩, h3, h4⟩
/-- The frame whole, all of the silence but a tick. -/
theorem HB.full {w W : World} {g u s gb A : Nat} {ps : List Nat} (h : HB w W g u s gb A (rt u ps)) (hA : A = (rt u ps).length) : ∃ B t, LI w W g u s B t (rt u ps) [] ∧ t + 1 = s := by
  obtain ⟨⟨B, t, I, _, h2⟩, _⟩ := h
  rw [hA, List.take_length] at I
  exact ⟨B, t, I, h2 (by rw [hA, rt_length]; omega)⟩
theorem told_li {w W : World} {g u s B t : Nat} {ps : List Nat} (I : LI w W g u s B t (rt u ps) []) (ht : t + 1 = s) (hs : s ≤ 1000) (hp : 1 ≤ ps.length ∧ ps.length ≤ 253) : Calls Try.prog 12 #[.pointer (some ⟨g, 0, none⟩)] W fun e w' => e = .returned (.tuple #[]) ∧ ∃ B' t', LI w w' g u s B' t' [] [⟨u, ps⟩] := by
  have hne : rt u ps ≠ [] := fun e => by have := congrArg List.length e; rw [rt_length] at this; cases this
  refine (I.tick (by omega) (by omega)).mono ?_
  rintro e w' ⟨rfl, k, B', I', _⟩
  unfold tkT tkH tkF at I'
  rw [if_neg hne, if_neg (by omega), if_neg hne, if_neg (by omega), tickW_rt hp] at I'
  exact ⟨rfl, B', _, I'⟩
end Go.Proofs.Ytgmbboimndepnaa
