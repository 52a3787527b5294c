/- The walks: take. -/
import Derived.Test.YtgmbboimndepnaaL2
namespace Go.Proofs.Ytgmbboimndepnaa
open Go.RowKit
open Pdu
/-- The bytes are a frame for this line, and there is a place for it. -/
def Good (l : LS) (bs : List Nat) : Prop := (rd bs).e = 0 ∧ ((rd bs).unit = l.u ∨ (rd bs).unit = 0) ∧ l.n < 8
set_option maxHeartbeats 1600000 in
theorem take_no (g : Nat) (v : Value) (l : LS) (unit E : Nat) (pdu bs : List Nat) (w : World) (s : Ln w g l) (hs : Sl w v (u8s bs)) (hB : Bytes bs) (hr : rd bs = ⟨unit, pdu, E⟩) (hng : E ≠ 0 ∨ (E = 0 ∧ unit ≠ l.u ∧ unit ≠ 0) ∨ (E = 0 ∧ unit = l.u ∧ l.n = 8) ∨ (E = 0 ∧ unit ≠ l.u ∧ unit = 0 ∧ l.n = 8)) :
    Calls Try.prog 20 #[.pointer (some ⟨g, 0, none⟩), v] w fun e w' => e = .returned (.tuple #[]) ∧ Below w.heap.size w w' := by
  have O := hid_as (open_c hs hB)
  have hcu := hid_as (fun (W : World) (k : Below w.heap.size w W) => (s.below k s.lt).cUnit)
  have hcn := hid_as (fun (W : World) (k : Below w.heap.size w W) => (s.below k s.lt).cWaits)
  have HR := hid_as hr
  generalize l.u = u at hcu hng
  generalize l.n = n at hcn hng
  clear s hs hB hr
  go_enter Try.func20, Try.ntmps20
  go_wp2_with fail
  refine O.out.mono ?_
  rintro e w1 hend
  obtain ⟨k1, po, pc, rfl, own1⟩ := hend.is HR.out
  have c0 := hcu.out w1 k1
  have c1 := hcn.out w1 k1
  have K1 := hid_as k1
  clear hend k1 own1 O
  rcases hng with h | ⟨rfl, h1, h2⟩ | ⟨rfl, rfl, rfl⟩ | ⟨rfl, h1, rfl, rfl⟩
  · have d1 : ((E : Int) != 0) = true := by rw [bne_iff_ne]; omega
    go_wp2
    refine bodyPost_ret (results_none Try.results20 _ _ _) rfl ?_
    exact ⟨rfl, K1.out⟩
  · have d1 : ((unit : Int) != (u : Int)) = true := by rw [bne_iff_ne]; omega
    have d2 : ((unit : Int) != 0) = true := by rw [bne_iff_ne]; omega
    go_wp2
    refine bodyPost_ret (results_none Try.results20 _ _ _) rfl ?_
    exact ⟨rfl, K1.out⟩
  · go_wp2
    refine bodyPost_ret (results_none Try.results20 _ _ _) rfl ?_
    exact ⟨rfl, K1.out⟩
  · have d1 : ((0 : Int) != (u : Int)) = true := by rw [bne_iff_ne]; omega
    go_wp2
    refine bodyPost_ret (results_none Try.results20 _ _ _) rfl ?_
    exact ⟨rfl, K1.out⟩
/-- A frame's two cells, written in the waiting array at i. -/
def LS.push (l : LS) (i : Nat) (unit : Nat) (pv : Value) : LS := { l with ws := (l.ws.set (2 * i) (.int .u8 (unit : Int))).set (2 * i + 1) pv, n := l.n + 1 }
set_option maxRecDepth 100000 in
set_option maxHeartbeats 1600000 in
theorem take_yes (g i : Nat) (v : Value) (l : LS) (unit : Nat) (pdu bs : List Nat) (w : World) (s : Ln w g l) (hs : Sl w v (u8s bs)) (hB : Bytes bs) (hr : rd bs = ⟨unit, pdu, 0⟩) (hu : unit = l.u ∨ (unit ≠ l.u ∧ unit = 0)) (hn : l.n < 8) (hi : i = (l.f + l.n) % 8) :
    Calls Try.prog 20 #[.pointer (some ⟨g, 0, none⟩), v] w fun e w' => e = .returned (.tuple #[]) ∧ Turn g w w' ∧ ∃ po pc, Ln w' g (l.push i unit (.slice po pdu.length pc)) ∧ w'.ownsRow w.heap.size 5 1 (.slice po pdu.length pc) pdu.length (u8s pdu) := by
  have O := hid_as (open_c hs hB)
  have S := hid_as (fun (W : World) (k : Below w.heap.size w W) => s.below k s.lt)
  have hf := s.fst
  have hg := s.lt
  have HR := hid_as hr
  clear s hs hB hr
  go_enter Try.func20, Try.ntmps20
  go_wp2_with fail
  refine O.out.mono ?_
  rintro e w1 hend
  obtain ⟨k1, po, pc, rfl, own1⟩ := hend.is HR.out
  have S1 := hid_as (S.out w1 k1)
  have c0 := S1.out.cUnit
  have c1 := S1.out.cWaits
  have c2 := S1.out.cFirst
  have hi8 : i < 8 := by omega
  have hw0 : (2 * i) < l.ws.length := by rw [S1.out.wlen]; omega
  have hw1 : (2 * i + 1) < l.ws.length := by rw [S1.out.wlen]; omega
  have c3 := S1.out.cWait (List.getElem?_eq_getElem hw0)
  have c4 := S1.out.cWait (List.getElem?_eq_getElem hw1)
  have ff := S1.out.free
  have K1 := hid_as k1
  have O1 := hid_as own1
  obtain ⟨n, en⟩ : ∃ n, n = l.n := ⟨_, rfl⟩
  obtain ⟨f, ef⟩ : ∃ f, f = l.f := ⟨_, rfl⟩
  obtain ⟨u, eu⟩ : ∃ u, u = l.u := ⟨_, rfl⟩
  rw [← en] at c1 hn hi
  rw [← ef] at c2 hf hi
  rw [← eu] at c0 hu
  have EN := hid_as en
  have EF := hid_as ef
  have EU := hid_as eu
  clear hend k1 own1 O S en ef eu
  have x0 : 261 + 2 * i = 261 + (f + n) % 8 * 2 := by omega
  have x1 : 261 + (2 * i + 1) = 261 + (f + n) % 8 * 2 + 1 := by omega
  rw [x0] at c3
  rw [x1] at c4
  generalize l.ws[2 * i] = y0 at c3
  generalize l.ws[2 * i + 1] = y1 at c4
  have d4 : ((n : Int) == 8) = false := by rw [beq_eq_false_iff_ne]; omega
  have n9 : n + 1 ≤ 8 := by omega
  have X0 := hid_as x0
  have X1 := hid_as x1
  have END : Hid (∀ (U : Nat), Turn g w (((w1.drew.setCell ⟨g, 261 + (f + n) % 8 * 2, none⟩ (.int .u8 (U : Int))).setCell ⟨g, 261 + (f + n) % 8 * 2 + 1, none⟩ (.slice po pdu.length pc)).setCell ⟨g, 278, none⟩ (.int .i64 ((n + 1 : Nat) : Int))) ∧ Ln (((w1.drew.setCell ⟨g, 261 + (f + n) % 8 * 2, none⟩ (.int .u8 (U : Int))).setCell ⟨g, 261 + (f + n) % 8 * 2 + 1, none⟩ (.slice po pdu.length pc)).setCell ⟨g, 278, none⟩ (.int .i64 ((n + 1 : Nat) : Int))) g (l.push i U (.slice po pdu.length pc)) ∧ (((w1.drew.setCell ⟨g, 261 + (f + n) % 8 * 2, none⟩ (.int .u8 (U : Int))).setCell ⟨g, 261 + (f + n) % 8 * 2 + 1, none⟩ (.slice po pdu.length pc)).setCell ⟨g, 278, none⟩ (.int .i64 ((n + 1 : Nat) : Int))).ownsRow w.heap.size 5 1 (.slice po pdu.length pc) pdu.length (u8s pdu)) := by
    intro U
    have t1 : Turn g w1 (((w1.drew.setCell ⟨g, 261 + (f + n) % 8 * 2, none⟩ (.int .u8 (U : Int))).setCell ⟨g, 261 + (f + n) % 8 * 2 + 1, none⟩ (.slice po pdu.length pc)).setCell ⟨g, 278, none⟩ (.int .i64 ((n + 1 : Nat) : Int))) := (((Turn.refl g w1).drew.set _ _).set _ _).set _ _
    refine ⟨(Turn.ofBelow K1.out).trans t1, ?_, own_turn O1.out t1 hg⟩
    have L2 := ((S1.out.drew.setWait (2 * i) (.int .u8 (U : Int)) (by omega)).setWait (2 * i + 1) (.slice po pdu.length pc) (by omega)).setWaits (n + 1) n9
    rw [x0, x1] at L2
    unfold LS.push
    rw [← EN.out]
    exact L2
  rcases hu with rfl | ⟨h1, rfl⟩
  · go_wp2_with fail
    go_region
    go_wp2
    go_end0
    exact ⟨rfl, (END.out _).1, po, pc, (END.out _).2.1, (END.out _).2.2⟩
  · have d1 : ((0 : Int) != (u : Int)) = true := by rw [bne_iff_ne]; omega
    go_wp2_with fail
    go_region
    go_wp2
    go_end0
    exact ⟨rfl, (END.out 0).1, po, pc, (END.out 0).2.1, (END.out 0).2.2⟩
/-- How take ends. -/
def TakeEnd (g : Nat) (l : LS) (bs : List Nat) (w : World) (e : Ending) (w' : World) : Prop :=
  e = .returned (.tuple #[]) ∧ Turn g w w' ∧ ((¬ Good l bs ∧ Ln w' g l) ∨ (Good l bs ∧ ∃ po pc, Ln w' g (l.push ((l.f + l.n) % 8) (rd bs).unit (.slice po (rd bs).pdu.length pc)) ∧ w'.ownsRow w.heap.size 5 1 (.slice po (rd bs).pdu.length pc) (rd bs).pdu.length (u8s (rd bs).pdu)))
theorem take_c {g : Nat} {v : Value} {l : LS} {bs : List Nat} {w : World} (s : Ln w g l) (hs : Sl w v (u8s bs)) (hB : Bytes bs) : Calls Try.prog 20 #[.pointer (some ⟨g, 0, none⟩), v] w (TakeEnd g l bs w) := by
  have hn := s.num
  by_cases hg : Good l bs
  · obtain ⟨h1, h2, h3⟩ := hg
    have hr : rd bs = ⟨(rd bs).unit, (rd bs).pdu, 0⟩ := by rw [← h1]
    exact (take_yes g _ v l _ _ bs w s hs hB hr (by omega) h3 rfl).mono fun e w' ⟨he, ht, po, pc, h⟩ => ⟨he, ht, Or.inr ⟨⟨h1, h2, h3⟩, po, pc, h⟩⟩
  · refine (take_no g v l (rd bs).unit (rd bs).e (rd bs).pdu bs w s hs hB rfl ?_).mono fun e w' ⟨he, hb⟩ => ⟨he, Turn.ofBelow hb, Or.inl ⟨hg, s.below hb s.lt⟩⟩
    unfold Good at hg
    by_cases h1 : (rd bs).e = 0
    · by_cases h2 : (rd bs).unit = l.u
      · exact Or.inr (Or.inr (Or.inl ⟨h1, h2, by omega⟩))
      · by_cases h3 : (rd bs).unit = 0
        · exact Or.inr (Or.inr (Or.inr ⟨h1, h2, h3, by omega⟩))
        · exact Or.inr (Or.inl ⟨h1, h2, h3⟩)
    · exact Or.inl h1
end Go.Proofs.Ytgmbboimndepnaa
