/- goOn whole: what was come to grows, nothing is forgotten (stage 20). -/
import Derived.Test.YtkknfolahfmghaaDoorW4
namespace Go.Proofs.YtkknfolahfmghaaDoor
open Go.RowKit
open Fb Cod
/-- What coming to a place keeps. -/
structure Kpt (L : List Ins) (q : Nat × Nat) (S T : List (Nat × Nat)) (X : Nat × Nat → Prop) (wr : Nat) (S' T' : List (Nat × Nat)) (wr' : Nat) : Prop where
  inv : Inv L S' T' X wr'
  mem : q ∈ S'
  sub : ∀ r, r ∈ S → r ∈ S'
  wr : wr' ≤ wr
  mu : mu L S' T' ≤ mu L S T
theorem Came.kpt {L : List Ins} {q : Nat × Nat} {S T S' T' : List (Nat × Nat)} {X : Nat × Nat → Prop} {wr wr' : Nat} (h : Came q S T wr S' T' wr') (k : Inv L S T X wr) (hr : Cod.Reach L q) (h1 : q.1 < L.length) (h2 : q.2 ≤ 256) : Kpt L q S T X wr S' T' wr' := by
  have low : wr' ≤ wr := by
    rcases h.wr with e | ⟨e, _⟩
    · omega
    · rw [e]; exact Nat.min_le_left ..
  have turn : ∀ {S' T'}, Inv L S' T' X wr → Inv L S' T' X wr' := fun k' => by
    rcases h.wr with e | ⟨e, d, hd, hne⟩
    · rw [e]; exact k'
    · rw [e]
      exact k'.fail q.1 ⟨q.2, hr, Or.inr ⟨d, k.reach _ hd, hne⟩⟩
  by_cases hq : q ∈ S
  · obtain ⟨rfl, rfl⟩ := h.old hq
    exact ⟨turn k, hq, fun r hr => hr, low, Nat.le_refl _⟩
  · obtain ⟨rfl, rfl⟩ := h.new hq
    have k' := k.add hr h1 h2 hq
    refine ⟨turn k', List.mem_append.2 (Or.inr (by simp)), fun r hr => List.mem_append.2 (Or.inl hr), low, ?_⟩
    have := k'.size
    unfold mu
    rw [List.length_append, List.length_append] at *
    simp only [List.length_cons, List.length_nil] at *
    omega
/-- What going on from a place does. -/
def Gone (B : Nat) (w : World) (g m : Nat) (la : Option Addr) (n lc : Nat) (L : List Ins) (S T : List (Nat × Nat)) (e : Ending) (w' : World) : Prop :=
  e = .returned (.tuple #[]) ∧ ∃ wv' S' T' wr', Gw B w' g m la n lc wv' L S' T' wr' ∧ Inv L S' T' nox wr' ∧ mu L S' T' ≤ mu L S T ∧ Below B w w'
theorem goOn_c {B : Nat} {w : World} {g m : Nat} {la : Option Addr} {n lc : Nat} {wv : Value} {L : List Ins} {S T : List (Nat × Nat)} {wr : Nat} {i d : Nat} {x : Ins} (G : Gw B w g m la n lc wv L S T wr) (hn : n = L.length) (hn9 : n ≤ 1000000) (hx : L[i]? = some x) (ok : OkI n x) (inv : Inv L S T (· = (i, d)) wr) (hm : (i, d) ∈ S) (hT : T.length ≤ 900000000) :
    Calls Tryd.prog 45 #[.pointer (some ⟨g, 0, none⟩), .agg #[.int .i64 (i : Int), .int .i64 (d : Int)]] w (Gone B w g m la n lc L S T) := by
  have hr := inv.reach _ hm
  have hrg := inv.rng _ hm
  simp only at hrg
  have hd := hrg.2
  have only : ∀ y, L[i]? = some y → y = x := fun y hy => by rw [hx] at hy; exact (Option.some.inj hy).symm
  by_cases hb : d < x.t
  · refine (go_bad1 G hn hn9 hx ok hd hT hb).mono ?_
    rintro e w' ⟨rfl, h1, h2⟩
    have hf : fault L (i, d) := ⟨x, hx, Or.inl (Or.inl hb)⟩
    refine ⟨rfl, wv, S, T, _, h1, (inv.fail i ⟨d, hr, Or.inl hf⟩).done (fun r hg => ?_) (fun _ => Nat.min_le_right ..), Nat.le_refl _, h2⟩
    obtain ⟨y, hy, hnb, _⟩ := hg
    rw [only y hy] at hnb
    exact absurd (Or.inl hb) hnb
  by_cases hb2 : 256 < x.dl d
  · refine (go_bad2 G hn hn9 hx ok hd hT hb hb2).mono ?_
    rintro e w' ⟨rfl, h1, h2⟩
    have hf : fault L (i, d) := ⟨x, hx, Or.inl (Or.inr hb2)⟩
    refine ⟨rfl, wv, S, T, _, h1, (inv.fail i ⟨d, hr, Or.inl hf⟩).done (fun r hg => ?_) (fun _ => Nat.min_le_right ..), Nat.le_refl _, h2⟩
    obtain ⟨y, hy, hnb, _⟩ := hg
    rw [only y hy] at hnb
    exact absurd (Or.inr hb2) hnb
  have nb : ¬ x.bad d := fun h => h.elim hb hb2
  have hi := hrg.1
  by_cases o23 : x.op = 23
  · refine (go_end G hn hn9 hx ok hd hT hb hb2 o23).mono ?_
    rintro e w' ⟨rfl, h1, h2⟩
    refine ⟨rfl, wv, S, T, _, h1, inv.done (fun r hg => ?_) (fun hf => ?_), Nat.le_refl _, h2⟩
    · obtain ⟨y, hy, _, _, ⟨hj, _⟩ | ⟨hj, _⟩⟩ := hg
      · rw [only y hy] at hj
        rcases hj with hj | hj | hj <;> omega
      · rw [only y hy] at hj
        exact absurd o23 hj.1
    · obtain ⟨y, hy, hb' | ⟨hj, _⟩⟩ := hf
      · rw [only y hy] at hb'
        exact absurd hb' nb
      · rw [only y hy] at hj
        exact absurd o23 hj.1
  have goesJ : x.jmp → ∀ an : Nat, x.a = (an : Int) → goes L (i, d) (an, x.dl d) := fun hj an ha => ⟨x, hx, nb, rfl, Or.inl ⟨hj, by rw [ha]; rfl⟩⟩
  have goesF : x.falls → i + 1 < L.length → goes L (i, d) (i + 1, x.dl d) := fun hj hl => ⟨x, hx, nb, rfl, Or.inr ⟨hj, rfl, hl⟩⟩
  have jn : x.jmp → ∃ an : Nat, x.a = (an : Int) ∧ an < n := fun hj => by
    have := ok.jmp hj
    exact ⟨x.a.toNat, by omega, by omega⟩
  by_cases o18 : x.op = 18
  · obtain ⟨an, ha, hal⟩ := jn (Or.inl o18)
    refine (go_jump G hn hn9 hx ok hd hT hb hb2 o18 an ha (Nat.le_of_lt hal)).mono ?_
    rintro e w' ⟨rfl, wv', S', T', wr', h1, h2, h3⟩
    have K := h2.kpt inv (hr.step (goesJ (Or.inl o18) an ha)) (by simp only; omega) (by simp only; omega)
    refine ⟨rfl, wv', S', T', wr', h1, K.inv.done (fun r hg => ?_) (fun hf => ?_), K.mu, h3⟩
    · obtain ⟨y, hy, _, hr2, ⟨_, hr1⟩ | ⟨hj, _⟩⟩ := hg
      · rw [only y hy, ha] at hr1
        rw [only y hy] at hr2
        have : r = (an, x.dl d) := Prod.ext hr1 hr2
        rw [this]
        exact K.mem
      · rw [only y hy] at hj
        exact absurd o18 hj.2
    · obtain ⟨y, hy, hb' | ⟨hj, _⟩⟩ := hf
      · rw [only y hy] at hb'
        exact absurd hb' nb
      · rw [only y hy] at hj
        exact absurd o18 hj.2
  have fl : x.falls := ⟨o23, o18⟩
  by_cases oz : x.op = 19 ∨ x.op = 20
  · have hj : x.jmp := Or.inr oz
    obtain ⟨an, ha, hal⟩ := jn hj
    by_cases hl : i + 1 = n
    · have post : ∀ e w', (e = Ending.returned (.tuple #[]) ∧ ∃ wv' S' T' wr', Gw B w' g m la n lc wv' L S' T' (min wr' i) ∧ Came (an, x.dl d) S T wr S' T' wr' ∧ Below B w w') → Gone B w g m la n lc L S T e w' := by
        rintro e w' ⟨rfl, wv', S', T', wr', h1, h2, h3⟩
        have K := h2.kpt inv (hr.step (goesJ hj an ha)) (by simp only; omega) (by simp only; omega)
        have hf : fault L (i, d) := ⟨x, hx, Or.inr ⟨fl, by simp only; omega⟩⟩
        refine ⟨rfl, wv', S', T', _, h1, (K.inv.fail i ⟨d, hr, Or.inl hf⟩).done (fun r hg => ?_) (fun _ => Nat.min_le_right ..), K.mu, h3⟩
        obtain ⟨y, hy, _, hr2, ⟨_, hr1⟩ | ⟨_, _, hlt⟩⟩ := hg
        · rw [only y hy, ha] at hr1
          rw [only y hy] at hr2
          have : r = (an, x.dl d) := Prod.ext hr1 hr2
          rw [this]
          exact K.mem
        · simp only at hlt
          omega
      rcases oz with o | o
      · exact (go_zero19a G hn hn9 hx ok hd hT hb hb2 o an ha (Nat.le_of_lt hal) hl).mono post
      · exact (go_zero20a G hn hn9 hx ok hd hT hb hb2 o an ha (Nat.le_of_lt hal) hl).mono post
    · have hl2 : i + 1 < n := by omega
      have post : ∀ e w', (e = Ending.returned (.tuple #[]) ∧ ∃ wv' S1 T1 wr1 S' T' wr', Gw B w' g m la n lc wv' L S' T' wr' ∧ Came (an, x.dl d) S T wr S1 T1 wr1 ∧ Came (i + 1, x.dl d) S1 T1 wr1 S' T' wr' ∧ Below B w w') → Gone B w g m la n lc L S T e w' := by
        rintro e w' ⟨rfl, wv', S1, T1, wr1, S', T', wr', h1, h2, h2', h3⟩
        have K := h2.kpt inv (hr.step (goesJ hj an ha)) (by simp only; omega) (by simp only; omega)
        have K2 := h2'.kpt K.inv (hr.step (goesF fl (by omega))) (by simp only; omega) (by simp only; omega)
        refine ⟨rfl, wv', S', T', _, h1, K2.inv.done (fun r hg => ?_) (fun hf => ?_), Nat.le_trans K2.mu K.mu, h3⟩
        · obtain ⟨y, hy, _, hr2, ⟨_, hr1⟩ | ⟨_, hr1, _⟩⟩ := hg
          · rw [only y hy, ha] at hr1
            rw [only y hy] at hr2
            have : r = (an, x.dl d) := Prod.ext hr1 hr2
            rw [this]
            exact K2.sub _ K.mem
          · rw [only y hy] at hr2
            have : r = (i + 1, x.dl d) := Prod.ext hr1 hr2
            rw [this]
            exact K2.mem
        · obtain ⟨y, hy, hb' | ⟨_, he⟩⟩ := hf
          · rw [only y hy] at hb'
            exact absurd hb' nb
          · simp only at he
            omega
      rcases oz with o | o
      · exact (go_zero19b G hn hn9 hx ok hd hT hb hb2 o an ha (Nat.le_of_lt hal) hl2).mono post
      · exact (go_zero20b G hn hn9 hx ok hd hT hb hb2 o an ha (Nat.le_of_lt hal) hl2).mono post
  have o4 : x.op ≠ 23 ∧ x.op ≠ 18 ∧ x.op ≠ 19 ∧ x.op ≠ 20 := ⟨o23, o18, fun e => oz (Or.inl e), fun e => oz (Or.inr e)⟩
  have nj : ¬ x.jmp := fun h => by
    rcases h with h | h | h
    · exact o4.2.1 h
    · exact o4.2.2.1 h
    · exact o4.2.2.2 h
  by_cases hl : i + 1 = n
  · refine (go_fall1 G hn hn9 hx ok hd hT hb hb2 o4 hl).mono ?_
    rintro e w' ⟨rfl, h1, h2⟩
    have hf : fault L (i, d) := ⟨x, hx, Or.inr ⟨fl, by simp only; omega⟩⟩
    refine ⟨rfl, wv, S, T, _, h1, (inv.fail i ⟨d, hr, Or.inl hf⟩).done (fun r hg => ?_) (fun _ => Nat.min_le_right ..), Nat.le_refl _, h2⟩
    obtain ⟨y, hy, _, _, ⟨hj, _⟩ | ⟨_, _, hlt⟩⟩ := hg
    · rw [only y hy] at hj
      exact absurd hj nj
    · simp only at hlt
      omega
  · refine (go_fall2 G hn hn9 hx ok hd hT hb hb2 o4 (by omega)).mono ?_
    rintro e w' ⟨rfl, wv', S', T', wr', h1, h2, h3⟩
    have K := h2.kpt inv (hr.step (goesF fl (by omega))) (by simp only; omega) (by simp only; omega)
    refine ⟨rfl, wv', S', T', wr', h1, K.inv.done (fun r hg => ?_) (fun hf => ?_), K.mu, h3⟩
    · obtain ⟨y, hy, _, hr2, ⟨hj, _⟩ | ⟨_, hr1, _⟩⟩ := hg
      · rw [only y hy] at hj
        exact absurd hj nj
      · rw [only y hy] at hr2
        have : r = (i + 1, x.dl d) := Prod.ext hr1 hr2
        rw [this]
        exact K.mem
    · obtain ⟨y, hy, hb' | ⟨_, he⟩⟩ := hf
      · rw [only y hy] at hb'
        exact absurd hb' nb
      · simp only at he
        omega
end Go.Proofs.YtkknfolahfmghaaDoor
