/- The walks of a view's scan, laid; of a journal's write (stage 9). -/
import Derived.Test.YtoiadofoclgnoaaJ2
namespace Go.Proofs.Ytoiadofoclgnoaa
open Go.RowKit
open Pdu
/-- The newest record's scan. -/
def ScOf (R : Nat → Rc) (sc : Nat) : Prop := (sc = 0 ∧ ∀ i, i < 4 → (R i).t = 0) ∨ ∃ j, j < 4 ∧ sc = (R j).s ∧ (R j).t ≠ 0 ∧ ∀ i, i < 4 → (R i).t ≤ (R j).t
theorem nw_any {R : Nat → Rc} {a : Int} (h : NwK R (-1) 4 a) : (a = -1 ∧ ∀ i, i < 4 → (R i).t = 0) ∨ ∃ j : Nat, j < 4 ∧ a = j ∧ (R j).t ≠ 0 ∧ ∀ i, i < 4 → (R i).t ≤ (R j).t := by
  rcases h with ⟨rfl, h⟩ | ⟨j, hj, rfl, ho, h⟩
  · refine Or.inl ⟨rfl, fun i hi => ?_⟩
    by_cases q : (R i).t = 0
    · exact q
    · exact absurd ⟨q, Or.inl rfl⟩ (h i hi)
  · refine Or.inr ⟨j, hj, rfl, ho.1, fun i hi => ?_⟩
    by_cases q : (R i).t = 0
    · omega
    · exact h i hi ⟨q, Or.inl rfl⟩
set_option maxHeartbeats 400000 in
theorem scanv_c {w : World} {gv base : Nat} {R : Nat → Rc} {V : Nat → Value} {bg : Bool} (h : Vw w gv base R V bg) :
    Calls Try.prog 43 #[.pointer (some ⟨gv, 0, none⟩)] w fun e w' => (∃ sc : Nat, e = .returned (.int .u64 (sc : Int)) ∧ ScOf R sc) ∧ Below w.heap.size w w' := by
  have NW := hid_as (newest_c h (-1) (by omega) (by omega))
  have H := hid_as h
  clear h
  go_enter Try.func43, Try.ntmps43
  go_wp2_with fail
  refine NW.out.mono ?_
  rintro e w1 ⟨⟨a, rfl, hn⟩, k1⟩
  have K1 := hid_as k1
  have H1 := hid_as (H.out.below k1)
  clear k1 NW
  rcases nw_any hn with ⟨rfl, h0⟩ | ⟨j, hj, rfl, ht, hmax⟩
  · have S := hid_as (show ScOf R 0 from Or.inl ⟨rfl, h0⟩)
    clear hn h0
    go_wp2
    go_ret
    exact ⟨⟨0, rfl, S.out⟩, K1.out⟩
  · have S := hid_as (show ScOf R (R j).s from Or.inr ⟨j, hj, rfl, ht, hmax⟩)
    have hc := (H1.out.cells hj).2.1
    have hj2 : (j : Int) < 4 := by omega
    clear hn ht hmax
    go_wp2
    go_ret
    exact ⟨⟨_, rfl, S.out⟩, K1.out⟩
set_option maxHeartbeats 400000 in
theorem laidv_c {w : World} {gv base : Nat} {R : Nat → Rc} {V : Nat → Value} {bg : Bool} (h : Vw w gv base R V bg) :
    Calls Try.prog 31 #[.pointer (some ⟨gv, 0, none⟩)] w fun e w' => (∃ b : Bool, e = .returned (.bool b) ∧ (b = true ↔ bg = true ∨ ∃ i, i < 4 ∧ (R i).t ≠ 0)) ∧ Below w.heap.size w w' := by
  have NW := hid_as (newest_c h (-1) (by omega) (by omega))
  have hc : w.cell? ⟨gv, 12, none⟩ = some (.bool bg) := cell_row h.box rfl
  clear h
  cases bg with
  | true =>
    go_enter Try.func31, Try.ntmps31
    go_wp2
    go_ret
    exact ⟨⟨true, rfl, by simp⟩, Below.refl _ _⟩
  | false =>
    go_enter Try.func31, Try.ntmps31
    go_wp2_with fail
    refine NW.out.mono ?_
    rintro e w1 ⟨⟨a, rfl, hn⟩, k1⟩
    have K1 := hid_as k1
    clear k1 NW
    rcases nw_any hn with ⟨rfl, h0⟩ | ⟨j, hj, rfl, ht, hmax⟩
    · have S := hid_as h0
      clear hn h0
      go_wp2
      go_ret
      exact ⟨⟨false, rfl, by simpa using S.out⟩, K1.out⟩
    · have S := hid_as ht
      have hj2 := hid_as hj
      clear hn ht hmax hj
      go_wp2
      go_ret
      exact ⟨⟨true, rfl, by simpa using ⟨j, hj2.out, S.out⟩⟩, K1.out⟩
theorem Jn.c0 {w : World} {gj g : Nat} {J : JS} (h : Jn w gj g J) : w.cell? ⟨gj, 0, none⟩ = some (.pointer (some ⟨g, 0, none⟩)) := cell_row h.box rfl
theorem Jn.c1 {w : World} {gj g : Nat} {J : JS} (h : Jn w gj g J) : w.cell? ⟨gj, 1, none⟩ = some (.int .i64 (J.n : Int)) := cell_row h.box rfl
theorem Jn.c2 {w : World} {gj g : Nat} {J : JS} (h : Jn w gj g J) : w.cell? ⟨gj, 2, none⟩ = some (.bool J.set) := cell_row h.box rfl
theorem Jn.c3 {w : World} {gj g : Nat} {J : JS} (h : Jn w gj g J) : w.cell? ⟨gj, 3, none⟩ = some (.int .i64 (J.slot : Int)) := cell_row h.box rfl
theorem Jn.c4 {w : World} {gj g : Nat} {J : JS} (h : Jn w gj g J) : w.cell? ⟨gj, 4, none⟩ = some (.int .u64 (J.turn : Int)) := cell_row h.box rfl
theorem Jn.c5 {w : World} {gj g : Nat} {J : JS} (h : Jn w gj g J) : w.cell? ⟨gj, 5, none⟩ = some (.int .u64 (J.scan : Int)) := cell_row h.box rfl
theorem Jn.c6 {w : World} {gj g : Nat} {J : JS} (h : Jn w gj g J) : w.cell? ⟨gj, 6, none⟩ = some (.int .u64 (J.laid : Int)) := cell_row h.box rfl
theorem Jn.free {w : World} {gj g : Nat} {J : JS} (h : Jn w gj g J) (j : Nat) : w.frozen? ⟨gj, j, none⟩ = false := frozen_row h.box
theorem Jn.lt {w : World} {gj g : Nat} {J : JS} (h : Jn w gj g J) : gj < w.heap.size := (Array.getElem?_eq_some_iff.1 h.box).1
theorem Jn.below {w u : World} {gj g : Nat} {J : JS} (h : Jn w gj g J) (k : Below w.heap.size w u) : Jn u gj g J := ⟨(k.block _ h.lt).trans h.box⟩
theorem Jn.only {w u : World} {gj g : Nat} {J : JS} {S : List Nat} (h : Jn w gj g J) (k : Only S w u) (hg : gj ∉ S) : Jn u gj g J := ⟨(k.block _ h.lt hg).trans h.box⟩
theorem Jn.setScan {w : World} {gj g : Nat} {J : JS} (h : Jn w gj g J) (x : Nat) : Jn (w.setCell ⟨gj, 5, none⟩ (.int .u64 (x : Int))) gj g { J with scan := x } := ⟨by rw [set_row h.box]; rfl⟩
theorem Jn.setSet {w : World} {gj g : Nat} {J : JS} (h : Jn w gj g J) (x : Bool) : Jn (w.setCell ⟨gj, 2, none⟩ (.bool x)) gj g { J with set := x } := ⟨by rw [set_row h.box]; rfl⟩
theorem Jn.setSlot {w : World} {gj g : Nat} {J : JS} (h : Jn w gj g J) (x : Nat) : Jn (w.setCell ⟨gj, 3, none⟩ (.int .i64 (x : Int))) gj g { J with slot := x } := ⟨by rw [set_row h.box]; rfl⟩
theorem Jn.setTurn {w : World} {gj g : Nat} {J : JS} (h : Jn w gj g J) (x : Nat) : Jn (w.setCell ⟨gj, 4, none⟩ (.int .u64 (x : Int))) gj g { J with turn := x } := ⟨by rw [set_row h.box]; rfl⟩
theorem Jn.setLaid {w : World} {gj g : Nat} {J : JS} (h : Jn w gj g J) (x : Nat) : Jn (w.setCell ⟨gj, 6, none⟩ (.int .u64 (x : Int))) gj g { J with laid := x } := ⟨by rw [set_row h.box]; rfl⟩
/-- A journal of a store, in memory. -/
structure Jr (w : World) (gj g h : Nat) (J : JS) (s : SS) : Prop where
  st : St w g h s
  jn : Jn w gj g J
  n1 : gj ≠ g
  n2 : gj ≠ h
  fit : s.fit = true
theorem fit_is {s : SS} (h : s.fit = true) : 4 ≤ s.rows.length ∧ 64 ≤ s.sz := by
  unfold SS.fit at h
  rwa [decide_eq_true_eq] at h
theorem Jr.below {w u : World} {gj g h : Nat} {J : JS} {s : SS} (q : Jr w gj g h J s) (k : Below w.heap.size w u) : Jr u gj g h J s := ⟨q.st.below k, q.jn.below k, q.n1, q.n2, q.fit⟩
/-- A write of a block with a stamp: what it leaves. -/
def Wrt (s : SS) (i : Nat) (p : List Nat) (s' : SS) (e : Nat) (q : List Nat) : Prop := ∃ k, 1 ≤ k ∧ k ≤ 3 ∧ k ≠ e2 (s.row i) ∧ k ≠ e3 (s.row i) ∧ q = stm p k ∧ s' = s.wr i (stm p k) ∧ e = s.errW i s.sz
theorem stm_bytes {p : List Nat} (h : Bytes p) {k : Nat} (hk : k < 256) : Bytes (stm p k) := bytes_set (bytes_set (bytes_set (bytes_set h _ hk) _ hk) _ hk) _ hk
theorem fit_wr {s : SS} (i : Int) (b : List Nat) (h : s.fit = true) : (s.wr i b).fit = true := by
  have h1 := fit_is h
  unfold SS.fit
  rw [decide_eq_true_eq]
  unfold SS.wr
  split
  · exact h1
  · split
    · simpa [SS.torn] using h1
    · simpa [SS.dn] using h1
set_option maxHeartbeats 800000 in
theorem writej_c {w : World} {gj g h i gb : Nat} {J : JS} {s : SS} {p : List Nat} (q : Jr w gj g h J s) (hd : s.dead = false) (hi : i < 4) (hn9 : s.n ≤ 900000) (hp : Row w gb p) (hpl : p.length = s.sz) (hB : Bytes p) (h1 : gb ≠ gj) (h2 : gb ≠ g) (h3 : gb ≠ h) :
    Calls Try.prog 34 #[.pointer (some ⟨gj, 0, none⟩), .int .i64 (i : Int), .slice (some ⟨gb, 0, none⟩) s.sz s.sz] w fun e w' => ∃ (s' : SS) (en : Nat) (p' : List Nat), e = .returned (.int .i64 (en : Int)) ∧ Wrt s i p s' en p' ∧ Jr w' gj g h J s' ∧ Row w' gb p' ∧ Only [g, h, gb] w w' := by
  have hf := fit_is q.fit
  have hz := q.st.ok.hi
  have hi2 : i < s.rows.length := by omega
  have he : s.err (i : Int) = 0 := by unfold SS.err; rw [hd, if_neg (by decide), if_neg (by omega)]
  have c0 := q.jn.c0
  have RD := hid_as (read_yes q.st he hi2)
  have Q := hid_as q
  have HP := hid_as hp
  have HE := hid_as he
  clear q hp he
  go_enter Try.func34, Try.ntmps34
  go_wp2_with fail
  refine RD.out.mono ?_
  rintro e w1 ⟨v, rfl, o1, k1⟩
  have K1 := hid_as k1
  have hrl := (Q.out.st.ok.row hi2).1
  have OLD : ∃ g2 c2, v = .slice (some ⟨g2, 0, none⟩) s.sz c2 ∧ Lies w1 g2 0 (u8s (s.row i)) := by
    rcases own_sl o1 with ⟨h0, _⟩ | ⟨b, off, cap, e, _, hl⟩
    · have := congrArg List.length h0
      rw [u8s_len, hrl] at this
      simp at this
      omega
    · rcases o1.2 with ⟨e2, h0⟩ | ⟨g2, cap2, cur, e2, _⟩
      · omega
      · rw [e2] at e
        simp only [Value.slice.injEq, Option.some.injEq, Addr.mk.injEq] at e
        obtain ⟨⟨rfl, rfl, _⟩, _, rfl⟩ := e
        exact ⟨_, _, e2, hl⟩
  obtain ⟨g2, c2, rfl, hold⟩ := OLD
  have R1 : Hid (Row w1 gb p) := (k1.block _ HP.out.lt).trans HP.out
  have ST := hid_as (stamp_c (c := s.sz) (c2 := c2) R1.out hpl.symm (by omega) (by omega) hold hrl.symm (by omega) (by omega))
  have Q1 := hid_as (Q.out.below k1)
  clear k1 RD o1 c0 HP
  go_wp2_with fail
  refine ST.out.mono ?_
  rintro e w2 ⟨rfl, ⟨k, hk1, hk3, hk2, hk4, r2⟩, t2⟩
  have T2 := hid_as t2
  have R2 := hid_as r2
  have hst : (stm p k).length = s.sz := by rw [stm_len]; exact hpl
  have hstB := stm_bytes hB (k := k) (by omega)
  have Q2 : Hid (Jr w2 gj g h J s) := ⟨Q1.out.st.heap (t2.block _ Q1.out.st.lt (fun e => h2 (by simpa using e.symm))) (t2.block _ Q1.out.st.lth (fun e => h3 (by simpa using e.symm))), ⟨(t2.block _ Q1.out.jn.lt (fun e => h1 (by simpa using e.symm))).trans Q1.out.jn.box⟩, Q1.out.n1, Q1.out.n2, Q1.out.fit⟩
  have SLL : Hid (Sl w2 (.slice (some ⟨gb, 0, none⟩) s.sz s.sz) (u8s (stm p k))) := Or.inr ⟨gb, 0, s.sz, by rw [u8s_len, hst], by rw [u8s_len, hst]; exact Nat.le_refl _, r2.lies⟩
  have WB := hid_as (writeb_c Q2.out.st i SLL.out hst.symm hstB (by intro _ a ha hm; simp only [Option.some.injEq] at ha; subst ha; simp only [List.mem_cons, List.not_mem_nil, or_false] at hm; rcases hm with hm | hm; exact h2 hm; exact h3 hm) (by omega))
  have WT : Hid (Wrt s i p (s.wr i (stm p k)) (s.errW i s.sz) (stm p k)) := ⟨k, hk1, hk3, hk2, hk4, rfl, rfl, rfl⟩
  have c0 := Q2.out.jn.c0
  rw [hst] at WB
  clear t2 r2 ST Q1 R1 hold
  go_wp2_with fail
  refine WB.out.mono ?_
  rintro e w3 ⟨rfl, s3, o3⟩
  have FIN : Hid (Jr w3 gj g h J (s.wr i (stm p k)) ∧ Row w3 gb (stm p k) ∧ Only [g, h, gb] w w3) := by
    refine ⟨⟨s3, Q2.out.jn.only o3 ?_, Q2.out.n1, Q2.out.n2, fit_wr _ _ Q2.out.fit⟩, ?_, ?_⟩
    · intro hm
      simp only [List.mem_cons, List.not_mem_nil, or_false] at hm
      rcases hm with hm | hm
      · exact Q2.out.n1 hm
      · exact Q2.out.n2 hm
    · refine (o3.block gb R2.out.lt ?_).trans R2.out
      intro hm
      simp only [List.mem_cons, List.not_mem_nil, or_false] at hm
      rcases hm with hm | hm
      · exact h2 hm
      · exact h3 hm
    · exact ((Only.ofBelow K1.out).trans (Only.ofTurn T2.out (by simp))).trans (o3.mono (by intro j hj; simp only [List.mem_cons, List.not_mem_nil, or_false] at hj ⊢; rcases hj with h | h; exact Or.inl h; exact Or.inr (Or.inl h)))
  clear s3 o3 WB SLL Q2 c0
  go_wp2
  go_ret
  exact ⟨_, _, _, rfl, WT.out, FIN.out⟩
end Go.Proofs.Ytoiadofoclgnoaa
