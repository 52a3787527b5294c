/- A store and a journal that a law holds (stage 9). -/
import Derived.Test.YtoiadofoclgnoaaN1
namespace Go.Proofs.Ytoiadofoclgnoaa
open Go.RowKit
open Pdu
/-- What may be said of a store's slots. -/
structure Sg (s : SS) (n T : Nat) (o : Last) : Prop where
  fit : s.fit = true
  ivr : Ivr s n T o
  ok : ∀ x, o = some x → x.1 < 18446744073709551616 ∧ Ints x.2
  room : 36 + 8 * n ≤ s.sz
  n9 : n ≤ 1000
  sn : s.n ≤ 3 * T
structure Hk (w W : World) (g h : Nat) (s : SS) (n T : Nat) (o : Last) : Prop where
  st : St W g h s
  k : Below w.heap.size w W
  g0 : w.heap.size ≤ g
  h0 : w.heap.size ≤ h
  sg : Sg s n T o
structure Hj (w W : World) (gj g h : Nat) (J : JS) (s : SS) (n T : Nat) (o : Last) : Prop where
  jr : Jr W gj g h J s
  k : Below w.heap.size w W
  j0 : w.heap.size ≤ gj
  g0 : w.heap.size ≤ g
  h0 : w.heap.size ≤ h
  sg : Sg s n T o
  dead : s.dead = false
  jn : J.n = n
  set : J.set = true → Sd s n T J.slot J.turn o
  ld : J.laid ≤ T
theorem Hj.hk {w W : World} {gj g h : Nat} {J : JS} {s : SS} {n T : Nat} {o : Last} (H : Hj w W gj g h J s n T o) : Hk w W g h s n T o := ⟨H.jr.st, H.k, H.g0, H.h0, H.sg⟩
theorem Hk.below {w W W' : World} {g h : Nat} {s : SS} {n T : Nat} {o : Last} (H : Hk w W g h s n T o) (b : Below W.heap.size W W') : Hk w W' g h s n T o := ⟨H.st.below b, below_and H.k b, H.g0, H.h0, H.sg⟩
theorem Hj.below {w W W' : World} {gj g h : Nat} {J : JS} {s : SS} {n T : Nat} {o : Last} (H : Hj w W gj g h J s n T o) (b : Below W.heap.size W W') : Hj w W' gj g h J s n T o := ⟨H.jr.below b, below_and H.k b, H.j0, H.g0, H.h0, H.sg, H.dead, H.jn, H.set, H.ld⟩
theorem Hj.lts {w W : World} {gj g h : Nat} {J : JS} {s : SS} {n T : Nat} {o : Last} (H : Hj w W gj g h J s n T o) : gj < W.heap.size ∧ g < W.heap.size ∧ h < W.heap.size := H.jr.lts
theorem room_is {s : SS} (h : s.fit = true) {n : Nat} : n ≤ s.room ↔ 36 + 8 * n ≤ s.sz := by
  unfold SS.room
  rw [if_pos h]
  have := fit_is h
  omega
/-- A new store. -/
theorem sg_new {nb z n : Nat} (h4 : 4 ≤ nb) (h64 : 64 ≤ z) (hn : 36 + 8 * n ≤ z) (hz : z ≤ 4096) : Sg (SS.new nb z) n 0 none := by
  have hrow : ∀ j : Nat, j < 4 → (SS.new nb z).row j = List.replicate z 0 := by
    intro j hj
    unfold SS.row SS.new
    simp only [Int.toNat_natCast]
    rw [List.getD_eq_getElem?_getD, List.getElem?_replicate, if_pos (by omega)]
    rfl
  have hz0 : ∀ i : Nat, (List.replicate z 0).getD i 0 = 0 := by
    intro i
    rw [List.getD_eq_getElem?_getD, List.getElem?_replicate]
    split <;> rfl
  refine ⟨?_, ⟨fun i hi => ?_, ?_⟩, fun x hx => (by simp at hx), hn, by omega, by show 0 ≤ _; omega⟩
  · unfold SS.fit
    rw [decide_eq_true_eq]
    exact ⟨by simpa [SS.new] using h4, h64⟩
  · unfold Rs
    rw [hrow i hi, unp_no]
    · rfl
    · intro q
      exact q.1.1 (hz0 0)
  · have hb : bgn (List.replicate z 0) = false := by
      unfold bgn e0 e1 e2 e3
      rw [hz0, hz0, hz0, hz0]
      rfl
    unfold Bg
    have h1 := hrow 1 (by decide)
    have h2 := hrow 2 (by decide)
    have h3 := hrow 3 (by decide)
    show (bgn ((SS.new nb z).row ((1 : Nat) : Int)) || bgn ((SS.new nb z).row ((2 : Nat) : Int)) || bgn ((SS.new nb z).row ((3 : Nat) : Int))) = false
    rw [h1, h2, h3, hb]
    rfl
theorem Rs_to {s s' : SS} (h : s'.rows = s.rows) : Rs s' = Rs s := by
  funext i
  unfold Rs SS.row
  rw [h]
theorem Bg_to {s s' : SS} (h : s'.rows = s.rows) : Bg s' = Bg s := by
  unfold Bg SS.row
  rw [h]
theorem InvS.onto {s s' : SS} {n T : Nat} {r : Rc} (h : s'.rows = s.rows) (q : InvS s n r T) : InvS s' n r T := by
  have e := Rs_to h
  exact ⟨q.t0, q.tT, q.len, by rw [e]; exact q.is, by rw [e]; exact q.top, by rw [e]; exact q.uniq, by rw [e]; exact q.lens⟩
theorem InvN.onto {s s' : SS} (h : s'.rows = s.rows) (q : InvN s) : InvN s' := by
  have e := Rs_to h
  exact ⟨by rw [e]; exact q.1, by rw [Bg_to h]; exact q.2⟩
theorem Ivr.onto {s s' : SS} {n T : Nat} {o : Last} (h : s'.rows = s.rows) (q : Ivr s n T o) : Ivr s' n T o := by
  cases o with
  | none => exact InvN.onto h q
  | some x => obtain ⟨t, q⟩ := q; exact ⟨t, q.onto h⟩
theorem Sd.onto {s s' : SS} {n T slot turn : Nat} {o : Last} (h : s'.rows = s.rows) (q : Sd s n T slot turn o) : Sd s' n T slot turn o := by
  cases o with
  | none => exact ⟨InvN.onto h q.1, q.2⟩
  | some x => exact ⟨q.1.onto h, q.2.1, by rw [Rs_to h]; exact q.2.2.1, by rw [Rs_to h]; exact q.2.2.2⟩
theorem Sg.cut {s : SS} {n T : Nat} {o : Last} (H : Sg s n T o) (a b : Int) : Sg (s.cut a b) n T o := ⟨H.fit, Ivr.onto (s := s) rfl H.ivr, H.ok, H.room, H.n9, H.sn⟩
theorem Sg.pwr {s : SS} {n T : Nat} {o : Last} (H : Sg s n T o) : Sg s.pwr n T o := ⟨H.fit, Ivr.onto (s := s) rfl H.ivr, H.ok, H.room, H.n9, H.sn⟩
/-- Open. -/
structure Opn (w W W' : World) (gj g h : Nat) (J : JS) (s : SS) (n T : Nat) (o : Last) (v : Value) (f : Int) : Prop where
  hj : Hj w W' gj g h J s n T o
  b : Below W.heap.size W W'
  told : Told9 o W' W.heap.size v f
  laid : J.laid = 0
  j1 : W.heap.size ≤ gj
theorem Hk.opn {w W : World} {g h : Nat} {s : SS} {n T : Nat} {o : Last} {ni : Int} (H : Hk w W g h s n T o) (hd : s.dead = false) (hni : ni = (n : Int)) : Calls Try.prog 13 #[.pointer (some ⟨g, 0, none⟩), .int .i64 ni] W fun e W' => ∃ (gj : Nat) (J : JS) (v : Value) (f : Int), e = .returned (.tuple #[.pointer (some ⟨gj, 0, none⟩), v, .int .i64 f, .int .i64 0]) ∧ Opn w W W' gj g h J s n T o v f := by
  subst hni
  refine (open_c H.st hd H.sg.fit ((room_is H.sg.fit).2 H.sg.room)).mono ?_
  rintro e W' ⟨gj, J, v, f, rfl, op⟩
  exact ⟨gj, J, v, f, rfl, ⟨op.jr, below_and H.k op.k, Nat.le_trans H.k.size op.gj0, H.g0, H.h0, H.sg, hd, op.jn, fun q => absurd (op.set.symm.trans q) (by decide), by rw [op.laid]; omega⟩, op.k, H.sg.ivr.told op.fnd, op.laid, op.gj0⟩
/-- Lay, cut or not. -/
structure LyW (w W W' : World) (gj g h : Nat) (J J' : JS) (s s' : SS) (n T : Nat) (sc : Nat) (l : List Int) (en : Nat) : Prop where
  he : en = 0
  hj : Hj w W' gj g h J' s' n (T + 1) (some (sc, l))
  hl : J'.laid = J.laid + 1
  hf : s.lft < 0 → s'.lft < 0
  hz : s'.sz = s.sz
  hs : J'.set = true
  b : Only [gj, g, h] W W'
  kp : Kp s s'
structure LyT (w W W' : World) (gj g h : Nat) (s s' : SS) (n T : Nat) (o o' : Last) (sc : Nat) (l : List Int) (en : Nat) : Prop where
  he : en = 82
  hk : Hk w W' g h s' n (T + 1) o'
  ho : o' = o ∨ o' = some (sc, l)
  hf : ¬ s.lft < 0
  hz : s'.sz = s.sz
  b : Only [gj, g, h] W W'
def Lyd (w W W' : World) (gj g h : Nat) (J : JS) (s : SS) (n T : Nat) (o : Last) (sc : Nat) (l : List Int) (en : Nat) : Prop := (∃ (J' : JS) (s' : SS), LyW w W W' gj g h J J' s s' n T sc l en) ∨ (∃ (s' : SS) (o' : Last), LyT w W W' gj g h s s' n T o o' sc l en)
theorem mem3 {gj g h B : Nat} (h1 : B ≤ gj) (h2 : B ≤ g) (h3 : B ≤ h) : ∀ j ∈ [gj, g, h], B ≤ j := by
  intro j hj
  simp only [List.mem_cons, List.not_mem_nil, or_false] at hj
  rcases hj with rfl | rfl | rfl <;> assumption
theorem Hj.lay_ne {w W : World} {gj g h sc : Nat} {J : JS} {s : SS} {n T : Nat} {o : Last} {v : Value} {l : List Int} {B : Nat} {sci : Int} (H : Hj w W gj g h J s n T o) (hsci : sci = (sc : Int)) (own : W.ownsRow B 2 1 v n (i64s l)) (hne : ∀ b, v.ownBlock = some b → b ∉ [gj, g, h]) (hlen : l.length = n) (hI : Ints l) (hsc : sc < 18446744073709551616) (hT : T ≤ 1000) :
    Calls Try.prog 15 #[.pointer (some ⟨gj, 0, none⟩), .int .u64 sci, v] W fun e W' => ∃ en : Nat, e = .returned (.int .i64 (en : Int)) ∧ Lyd w W W' gj g h J s n T o sc l en := by
  subst hsci
  have hsl := own_sl own
  obtain ⟨ao, c, rfl⟩ := hsl.shape
  rw [i64s_len, hlen] at hsl own ⊢
  have hsn := H.sg.sn
  have hld := H.ld
  refine (lay_c H.jr H.dead H.jn H.sg.n9 (by omega) (by omega) H.sg.room H.sg.ivr H.set H.sg.ok hsl rfl hlen ?_ hI hsc (by omega)).mono ?_
  · intro _ a ha
    exact hne a.block (by rw [ha]; rfl)
  · rintro e W' ⟨s', J', en, rfl, lo⟩
    have hb : Below w.heap.size w W' := H.k.trans (lo.only.below (mem3 H.j0 H.g0 H.h0) H.k.size)
    have hok : ∀ x : Nat × List Int, (some (sc, l) : Last) = some x → x.1 < 18446744073709551616 ∧ Ints x.2 := by
      intro x hx
      simp only [Option.some.injEq] at hx
      subst hx
      exact ⟨hsc, hI⟩
    have hsn' := lo.sn
    refine ⟨en, rfl, ?_⟩
    rcases lo.how with ⟨he, hd, hl, hset, hsd, hf⟩ | ⟨he, hd, hf, hinv⟩
    · exact Or.inl ⟨J', s', he, ⟨lo.jr, hb, H.j0, H.g0, H.h0, ⟨lo.jr.fit, hsd.ivr, hok, by rw [lo.sz]; exact H.sg.room, H.sg.n9, by omega⟩, hd, by rw [lo.jn]; exact H.jn, fun _ => hsd, by omega⟩, hl, hf, lo.sz, hset, lo.only, lo.kp he⟩
    · rcases hinv with hinv | hinv
      · exact Or.inr ⟨s', o, he, ⟨lo.jr.st, hb, H.g0, H.h0, ⟨lo.jr.fit, hinv, H.sg.ok, by rw [lo.sz]; exact H.sg.room, H.sg.n9, by omega⟩⟩, Or.inl rfl, hf, lo.sz, lo.only⟩
      · exact Or.inr ⟨s', _, he, ⟨lo.jr.st, hb, H.g0, H.h0, ⟨lo.jr.fit, hinv, hok, by rw [lo.sz]; exact H.sg.room, H.sg.n9, by omega⟩⟩, Or.inr rfl, hf, lo.sz, lo.only⟩
theorem not3 {W : World} {B n gj g h : Nat} {v : Value} {vs : List Value} (own : W.ownsRow B 2 1 v n vs) (hg : gj < B) (hg2 : g < B) (hh : h < B) : ∀ b, v.ownBlock = some b → b ∉ [gj, g, h] := by
  intro b hb hm
  have := (own.lt b hb).1
  simp only [List.mem_cons, List.not_mem_nil, or_false] at hm
  omega
theorem Hj.lay {w W : World} {gj g h sc : Nat} {J : JS} {s : SS} {n T : Nat} {o : Last} {v : Value} {l : List Int} {B : Nat} {sci : Int} (H : Hj w W gj g h J s n T o) (hsci : sci = (sc : Int)) (own : W.ownsRow B 2 1 v n (i64s l)) (hg : gj < B) (hg2 : g < B) (hh : h < B) (hlen : l.length = n) (hI : Ints l) (hsc : sc < 18446744073709551616) (hT : T ≤ 1000) :
    Calls Try.prog 15 #[.pointer (some ⟨gj, 0, none⟩), .int .u64 sci, v] W fun e W' => ∃ en : Nat, e = .returned (.int .i64 (en : Int)) ∧ Lyd w W W' gj g h J s n T o sc l en := H.lay_ne hsci own (not3 own hg hg2 hh) hlen hI hsc hT
/-- Lay where nothing is cut. -/
structure Ly0 (w W W' : World) (gj g h : Nat) (J J' : JS) (s s' : SS) (n T : Nat) (sc : Nat) (l : List Int) : Prop where
  hj : Hj w W' gj g h J' s' n (T + 1) (some (sc, l))
  laid : J'.laid = J.laid + 1
  lft : s'.lft < 0
  sz : s'.sz = s.sz
  set : J'.set = true
  b : Only [gj, g, h] W W'
  kp : Kp s s'
theorem Hj.lay0 {w W : World} {gj g h sc : Nat} {J : JS} {s : SS} {n T : Nat} {o : Last} {v : Value} {l : List Int} {B : Nat} {sci : Int} (H : Hj w W gj g h J s n T o) (hf : s.lft < 0) (hsci : sci = (sc : Int)) (own : W.ownsRow B 2 1 v n (i64s l)) (hg : gj < B) (hg2 : g < B) (hh : h < B) (hlen : l.length = n) (hI : Ints l) (hsc : sc < 18446744073709551616) (hT : T ≤ 1000) :
    Calls Try.prog 15 #[.pointer (some ⟨gj, 0, none⟩), .int .u64 sci, v] W fun e W' => e = .returned (.int .i64 0) ∧ ∃ (J' : JS) (s' : SS), Ly0 w W W' gj g h J J' s s' n T sc l := by
  refine (H.lay hsci own hg hg2 hh hlen hI hsc hT).mono ?_
  rintro e W' ⟨en, rfl, hl⟩
  rcases hl with ⟨J', s', he, hj, hl, hf', hz, hs, b, kp⟩ | ⟨s', o', he, hk, ho, hf', hz, b⟩
  · subst he
    exact ⟨rfl, J', s', hj, hl, hf' hf, hz, hs, b, kp⟩
  · exact absurd hf hf'
/-- Scan. -/
theorem Hj.scn {w W : World} {gj g h : Nat} {J : JS} {s : SS} {n T : Nat} {x : Nat × List Int} (H : Hj w W gj g h J s n T (some x)) : Calls Try.prog 16 #[.pointer (some ⟨gj, 0, none⟩)] W fun e W' => e = .returned (.int .u64 (x.1 : Int)) ∧ Hj w W' gj g h { J with scan := x.1 } s n T (some x) ∧ Only [gj] W W' := by
  refine (scan_c H.jr H.dead).mono ?_
  rintro e W' ⟨sc, rfl, hsc, q, b⟩
  obtain ⟨t, hi⟩ := H.sg.ivr
  have e1 : sc = x.1 := hi.sc hsc
  subst e1
  refine ⟨rfl, ⟨q, H.k.trans (b.below (by intro j hj; simp only [List.mem_cons, List.not_mem_nil, or_false] at hj; rw [hj]; exact H.j0) H.k.size), H.j0, H.g0, H.h0, H.sg, H.dead, H.jn, H.set, H.ld⟩, b⟩
theorem Hj.lad {w W : World} {gj g h : Nat} {J : JS} {s : SS} {n T : Nat} {o : Last} (H : Hj w W gj g h J s n T o) : Calls Try.prog 17 #[.pointer (some ⟨gj, 0, none⟩)] W fun e W' => e = .returned (.int .u64 (J.laid : Int)) ∧ W' = W := laid_c H.jr.jn
theorem Hk.cut {w W : World} {g h : Nat} {s : SS} {n T : Nat} {o : Last} (H : Hk w W g h s n T o) (a p : Int) (ha : a ≤ 9223372036854775807) : Calls Try.prog 18 #[.pointer (some ⟨g, 0, none⟩), .int .i64 a, .int .i64 p] W fun e W' => e = .returned (.tuple #[]) ∧ Hk w W' g h (s.cut a p) n T o ∧ Turn g W W' := by
  refine (cutb_c H.st a p ha).mono ?_
  rintro e W' ⟨rfl, t, k⟩
  exact ⟨rfl, ⟨t, H.k.trans (k.below H.g0 H.k.size), H.g0, H.h0, H.sg.cut a p⟩, k⟩
theorem Hj.cut {w W : World} {gj g h : Nat} {J : JS} {s : SS} {n T : Nat} {o : Last} (H : Hj w W gj g h J s n T o) (a p : Int) (ha : a ≤ 9223372036854775807) : Calls Try.prog 18 #[.pointer (some ⟨g, 0, none⟩), .int .i64 a, .int .i64 p] W fun e W' => e = .returned (.tuple #[]) ∧ Hj w W' gj g h J (s.cut a p) n T o ∧ Turn g W W' := by
  refine (cutb_c H.jr.st a p ha).mono ?_
  rintro e W' ⟨rfl, t, k⟩
  have hne : gj ≠ g := H.jr.n1
  exact ⟨rfl, ⟨⟨t, ⟨(k.block _ H.jr.jn.lt (fun e => hne (by simpa using e))).trans H.jr.jn.box⟩, H.jr.n1, H.jr.n2, H.jr.fit⟩, H.k.trans (k.below H.g0 H.k.size), H.j0, H.g0, H.h0, H.sg.cut a p, H.dead, H.jn, fun q => Sd.onto (s := s) rfl (H.set q), H.ld⟩, k⟩
theorem Hk.pwr2 {w W : World} {g h : Nat} {s : SS} {n T : Nat} {o : Last} (H : Hk w W g h s n T o) : Calls Try.prog 19 #[.pointer (some ⟨g, 0, none⟩)] W fun e W' => e = .returned (.tuple #[]) ∧ Hk w W' g h s.pwr n T o ∧ Turn g W W' := by
  refine (powb_c H.st).mono ?_
  rintro e W' ⟨rfl, t, k⟩
  exact ⟨rfl, ⟨t, H.k.trans (k.below H.g0 H.k.size), H.g0, H.h0, H.sg.pwr⟩, k⟩
/-- The numbers while a law holds what it holds. -/
theorem num_i (seed : Int) (n : Nat) {ni : Int} (hni : ni = (n : Int)) (w : World) (hn : n ≤ 100000) : Calls Try.prog 14 #[.int .i64 seed, .int .i64 ni] w fun e w' => ∃ v, e = .returned v ∧ w'.ownsRow w.heap.size 2 1 v n (i64s (nbs seed n)) ∧ Below w.heap.size w w' := by
  subst hni
  exact numbers_c seed n w hn
end Go.Proofs.Ytoiadofoclgnoaa
