/- The walk of StreamReads. -/
import Derived.Test.YtjfaocpbhhpbdaaK7
namespace Go.Proofs.Ytjfaocpbhhpbdaa
open Go.RowKit
open Pdu
theorem Outs.at {base I : Nat} {W : World} {v : Value} {L : List Fr} {f : Fr} (o : Outs base W v L) (hf : L[I]? = some f) : ∃ gv c po pc, v = .slice (some ⟨gv, 0, none⟩) L.length c ∧ W.cell? ⟨gv, 3 * I, none⟩ = some (.int .u16 (f.id : Int)) ∧ W.cell? ⟨gv, 3 * I + 1, none⟩ = some (.int .u8 (f.unit : Int)) ∧ W.cell? ⟨gv, 3 * I + 2, none⟩ = some (.slice po f.pdu.length pc) ∧ Sl W (.slice po f.pdu.length pc) (u8s f.pdu) := by
  obtain ⟨xs, h1, h2⟩ := o
  obtain ⟨po, pc, a, b, c, d⟩ := h2 I f hf
  have hlt : I < L.length := (List.getElem?_eq_some_iff.1 hf).1
  rcases h1.2 with ⟨_, h0⟩ | ⟨g, cap, cur, rfl, hb, hg, r⟩
  · omega
  · have add : ∀ j, (⟨g, 0, none⟩ : Addr).add j = ⟨g, j, none⟩ := fun j => by unfold Addr.add; split <;> simp_all
    have hc := h1.cells (g := g) rfl
    refine ⟨g, cap, po, pc, rfl, ?_, ?_, ?_, own_sl d⟩
    · have := hc _ _ a; rwa [add] at this
    · have := hc _ _ b; rwa [add] at this
    · have := hc _ _ c; rwa [add] at this
theorem keep_cell {X u : World} {a : Addr} {v : Value} (k : Below X.heap.size X u) (h : X.cell? a = some v) : u.cell? a = some v := (k.cell (p := a) (lt_of_cell h)).trans h
theorem told_end {L : List Fr} {bs r : List Nat} (h : ToldOf L bs r) (h0 : (rd bs).n = 0) : L = [] ∧ r = bs := by
  cases L with
  | nil => exact ⟨rfl, h⟩
  | cons f L => have := h.1; omega
theorem told_next {L : List Fr} {bs r : List Nat} (h : ToldOf L bs r) (h0 : 0 < (rd bs).n) (hr : (rd r).n = 0) : ∃ L', L = fr1 bs :: L' ∧ ToldOf L' (bs.drop (rd bs).n) r := by
  cases L with
  | nil => have h : r = bs := h; subst h; omega
  | cons f L => exact ⟨L, by rw [h.2.1], h.2.2⟩
set_option maxRecDepth 100000 in
set_option maxHeartbeats 1600000 in
theorem sreads_big (ao co : Option Addr) (n cap m bc : Nat) (w : World) (h : 4000 < n) :
    Calls Try.prog 3 #[.slice ao n cap, .slice co m bc] w fun e w' => e = .returned (.bool true) ∧ Below w.heap.size w w' := by
  have h1 : (4000 : Int) < (n : Int) := by omega
  have X := hid_as (known_law w)
  clear h
  go_enter Try.func3, Try.ntmps3
  go_wp2_with fail
  refine X.out.mono ?_
  rintro e w1 ⟨rfl, k1⟩
  have K1 := hid_as k1
  clear k1
  go_wp2
  go_ret
  exact ⟨rfl, K1.out⟩
set_option maxRecDepth 100000 in
set_option maxHeartbeats 1600000 in
theorem sreads_more (ao co : Option Addr) (n cap m bc : Nat) (w : World) (hn : n ≤ 4000) (h : 400 < m) :
    Calls Try.prog 3 #[.slice ao n cap, .slice co m bc] w fun e w' => e = .returned (.bool true) ∧ Below w.heap.size w w' := by
  have h0 : ¬ ((4000 : Int) < (n : Int)) := by omega
  have h1 : (400 : Int) < (m : Int) := by omega
  have X := hid_as (known_law w)
  clear h hn
  go_enter Try.func3, Try.ntmps3
  go_wp2_with fail
  refine X.out.mono ?_
  rintro e w1 ⟨rfl, k1⟩
  have K1 := hid_as k1
  clear k1
  go_wp2
  go_ret
  exact ⟨rfl, K1.out⟩
/-- What the loop keeps: from A on the frames from I on are told. -/
def RdI (w2 wr : World) (n A I : Nat) (L : List Fr) (bs r : List Nat) : Prop := Below w2.heap.size w2 wr ∧ ToldOf (L.drop I) (bs.drop A) r ∧ A ≤ n ∧ I ≤ L.length
set_option maxRecDepth 100000 in
set_option maxHeartbeats 4000000 in
theorem sreads_w (b off n cap m bc : Nat) (co : Option Addr) (bs cs : List Nat) (w : World) (hs : Lies w b off (u8s bs)) (hB : Bytes bs) (hn : n = bs.length) (hcap : n ≤ cap) (hC : Sl w (.slice co m bc) (u8s cs)) (hCB : Bytes cs) (hm : m = cs.length) (hn1 : n ≤ 4000) (hm1 : m ≤ 400) :
    Calls Try.prog 3 #[.slice (some ⟨b, off, none⟩) n cap, .slice co m bc] w fun e w' => e = .returned (.bool true) ∧ Below w.heap.size w w' := by
  have h0 : ¬ ((4000 : Int) < (n : Int)) := by omega
  have h1 : ¬ ((400 : Int) < (m : Int)) := by omega
  have X := hid_as (known_law w)
  have HS := hid_as hs
  have HN := hid_as hn
  have HC := hid_as hC
  have HM := hid_as hm
  clear hs hn hC hm
  go_enter Try.func3, Try.ntmps3
  go_wp2_with fail
  refine X.out.mono ?_
  rintro e w1 ⟨rfl, k1⟩
  have K1 := hid_as k1
  have FR : Hid (Calls Try.prog 7 #[.slice (some ⟨b, off, none⟩) n cap, .slice co m bc] w1 (FramesEnd bs w1)) :=
    frames_at b off n cap m bc co bs cs w1 (HS.out.below k1) hB HN.out hcap (HC.out.below k1) hCB HM.out (by omega) hm1
  clear k1 X
  go_wp2_with fail
  refine FR.out.mono ?_
  rintro e w2 ⟨k2, v, L, r, E, rfl, o2, tl, rn, re⟩
  have K2 : Hid (Below w.heap.size w w2) := below_and K1.out k2
  obtain ⟨vo, vc, rfl⟩ := o2.shape
  have OT := hid_as o2
  have RN := hid_as rn
  have RE := hid_as re
  have TL := hid_as tl
  have HL : Hid (L.length ≤ 4000) := by have h1 := tl.len; have h2 := HN.out; show _ ≤ _; omega
  clear k2 o2 rn re tl FR K1
  generalize hLn : L.length = LN at HL ⊢
  have HLN := hid_as hLn
  clear hLn
  have hLN := HL.out
  go_wp2_with fail
  go_loopw [8, 9] (fun at_ i wr => ∃ A I : Nat, at_ = .int .i64 A ∧ i = .int .i64 I ∧ RdI w2 wr n A I L bs r) (fun at_ _ _ => n - (intOf at_).toNat)
  case atStart => exact ⟨0, 0, rfl, rfl, Below.refl _ _, by simpa using TL.out, by omega, by omega⟩
  case round =>
    obtain ⟨A, I, rfl, rfl, kr, tr, hA, hI⟩ := hrel
    have KR := hid_as kr
    have TR := hid_as tr
    rw [HLN.out] at hI
    clear kr tr
    have hA2 : (A : Int) ≤ (n : Int) := by omega
    by_cases hcA : cap = A
    · subst hcA
      obtain rfl : n = cap := by omega
      have hd : bs.drop n = [] := List.drop_eq_nil_of_le (by rw [← HN.out]; omega)
      have T2 := TR.out
      rw [hd] at T2
      obtain ⟨hL0, hr0⟩ := told_end T2 rfl
      have hI2 : I = LN := by have := congrArg List.length hL0; rw [List.length_drop, HLN.out] at this; simp at this; omega
      obtain rfl : 0 = E := by rw [← RE.out, hr0]; rfl
      have RO := hid_as (ropen_c (v := .slice (some ⟨b, off, none⟩) 0 0) (bs := []) (w := wr) (Or.inl ⟨rfl, _, _, rfl, fun h => by simp at h⟩) Bytes.nil (by decide))
      subst hI2
      clear hd T2 hL0 hr0
      go_wp2_with fail
      refine RO.out.mono ?_
      rintro e w4 hend
      obtain ⟨k4, po, pc, rfl, _⟩ := hend.is (show rd [] = ⟨0, 0, [], 0, 0⟩ from rfl)
      have K4 := hid_as (below_and K2.out (below_and KR.out k4))
      clear hend k4 RO
      go_wp2
      go_ret
      exact ⟨rfl, below_new K4.out _⟩
    · have RO := hid_as (ropen_c (sub_sl (HS.out.below (below_and K2.out KR.out)) A (n - A) (cap - A) (by rw [← HN.out]; omega) (by omega)) ((hB.drop A).take (n - A)) (by rw [List.length_take]; omega))
      have e0 : (bs.drop A).take (n - A) = bs.drop A := List.take_of_length_le (by rw [List.length_drop, ← HN.out]; omega)
      rw [e0] at RO
      clear e0
      by_cases hz : (rd (bs.drop A)).n = 0
      · have hr := rd_no _ hz
        obtain ⟨hL0, hr0⟩ := told_end TR.out hz
        have hI2 : I = LN := by have := congrArg List.length hL0; rw [List.length_drop, HLN.out] at this; simp at this; omega
        have hE : (rd (bs.drop A)).e = E := by rw [← hr0]; exact RE.out
        rw [hE] at hr
        have HR := hid_as hr
        clear hL0 hr0 hz hr hE
        subst hI2
        by_cases hE0 : E = 0
        · subst hE0
          go_wp2_with fail
          refine RO.out.mono ?_
          rintro e w4 hend
          obtain ⟨k4, po, pc, rfl, _⟩ := hend.is HR.out
          have K4 := hid_as (below_and K2.out (below_and KR.out k4))
          clear hend k4 RO
          go_wp2
          go_ret
          exact ⟨rfl, below_new K4.out _⟩
        · have hE1 : ((E : Int) == 0) = false := by rw [beq_eq_false_iff_ne]; omega
          go_wp2_with fail
          refine RO.out.mono ?_
          rintro e w4 hend
          obtain ⟨k4, po, pc, rfl, _⟩ := hend.is HR.out
          have K4 := hid_as (below_and K2.out (below_and KR.out k4))
          clear hend k4 RO
          go_wp2
          go_ret
          exact ⟨rfl, below_new K4.out _⟩
      · obtain ⟨L', hL', tl'⟩ := told_next TR.out (by omega) RN.out
        have hIl : L[I]? = some (fr1 (bs.drop A)) := by
          have := congrArg (fun l => l[0]?) hL'
          simpa [List.getElem?_drop] using this
        have hI3 : I < LN := by rw [← HLN.out]; exact (List.getElem?_eq_some_iff.1 hIl).1
        have hL2 : L.drop (I + 1) = L' := by
          have := congrArg (List.drop 1) hL'
          rw [List.drop_drop] at this
          simpa using this
        rw [← hL2] at tl'
        have hle := rd_le (bs.drop A)
        have h8 := (rd_yes (bs.drop A) (by omega)).2.1
        have he := (rd_yes (bs.drop A) (by omega)).1
        have hid := rd_id (hB.drop A)
        have hun := rd_unit (hB.drop A)
        have hpb := rd_bytes (hB.drop A)
        have hr : rd (bs.drop A) = ⟨(rd (bs.drop A)).id, (rd (bs.drop A)).unit, (rd (bs.drop A)).pdu, (rd (bs.drop A)).n, 0⟩ := by conv => rhs; rw [← he]
        have hIl2 : L[I]? = some ⟨(rd (bs.drop A)).id, (rd (bs.drop A)).unit, (rd (bs.drop A)).pdu⟩ := hIl
        rw [List.length_drop, ← HN.out] at hle
        rw [List.drop_drop] at tl'
        generalize (rd (bs.drop A)).id = id at hid hr hIl2
        generalize (rd (bs.drop A)).unit = unit at hun hr hIl2
        generalize (rd (bs.drop A)).pdu = pdu at hpb hr hIl2
        generalize (rd (bs.drop A)).n = nn at hle h8 hr tl' hz
        have HR := hid_as hr
        have TL' := hid_as tl'
        obtain ⟨gv, c, po1, pc1, hv, q0, q1, q2, q3⟩ := (OT.out.below KR.out).at hIl2
        simp only [Value.slice.injEq] at hv
        obtain ⟨rfl, _, rfl⟩ := hv
        have hgv := lt_of_cell q0
        have Q0 := hid_as q0
        have Q1 := hid_as q1
        have Q2 := hid_as q2
        have Q3 := hid_as q3
        clear hL' hL2 hIl hIl2 tl' he hr q0 q1 q2 q3
        have hn0 : ((nn : Int) == 0) = false := by rw [beq_eq_false_iff_ne]; omega
        have hI4 : (I : Int) < (LN : Int) := by omega
        have hI5 : ¬ ((LN : Int) ≤ (I : Int)) := by omega
        go_wp2_with fail
        refine RO.out.mono ?_
        rintro e w4 hend
        obtain ⟨k4, po, pc, rfl, own4⟩ := hend.is HR.out
        have K4 := hid_as (below_and K2.out (below_and KR.out k4))
        have K5 := hid_as k4
        have FA : Hid (IsFr w4 (.agg #[.int .u16 id, .int .u8 unit, .slice po1 pdu.length pc1]) id unit pdu (.slice po1 pdu.length pc1)) := ⟨rfl, hid, hun, hpb, Q3.out.below k4⟩
        have FB : Hid (IsFr w4 (.agg #[.int .u16 id, .int .u8 unit, .slice po pdu.length pc]) id unit pdu (.slice po pdu.length pc)) := ⟨rfl, hid, hun, hpb, own_sl own4⟩
        clear hend k4 RO own4
        go_upto_region 10 with fail
        have b4 := below_new (Below.refl _ w4) (.cells #[.int .u16 (id : Int), .int .u8 (unit : Int), .slice po pdu.length pc] 29)
        have hX : (w4.alloc (.cells #[.int .u16 (id : Int), .int .u8 (unit : Int), .slice po pdu.length pc] 29)).heap[w4.heap.size]? = some (.cells #[.int .u16 (id : Int), .int .u8 (unit : Int), .slice po pdu.length pc] 29) := heap_alloc_new w4 _
        have KX := hid_as (below_and K4.out b4)
        have kx := below_and K5.out b4
        have x0 := (kx.cell (p := ⟨gv, 3 * I, none⟩) hgv).trans Q0.out
        have x1 := (kx.cell (p := ⟨gv, 3 * I + 1, none⟩) hgv).trans Q1.out
        have x2 := (kx.cell (p := ⟨gv, 3 * I + 2, none⟩) hgv).trans Q2.out
        have RX : Hid (Below w2.heap.size w2 (w4.alloc (.cells #[.int .u16 (id : Int), .int .u8 (unit : Int), .slice po pdu.length pc] 29))) := below_and KR.out kx
        have FT := hid_as (fun (W : World) (k : Below (w4.alloc (.cells #[.int .u16 (id : Int), .int .u8 (unit : Int), .slice po pdu.length pc] 29)).heap.size (w4.alloc (.cells #[.int .u16 (id : Int), .int .u8 (unit : Int), .slice po pdu.length pc] 29)) W) => frame_t (FA.out.below (below_and b4 k)) (FB.out.below (below_and b4 k)))
        generalize w4.alloc (.cells #[.int .u16 (id : Int), .int .u8 (unit : Int), .slice po pdu.length pc] 29) = X at hX KX x0 x1 x2 RX FT ⊢
        obtain ⟨⟨y0, y1, y2⟩, _⟩ := block3 hX
        clear b4 kx FA FB K4 K5 hX Q0 Q1 Q2 Q3
        generalize w4.heap.size = p at y0 y1 y2 ⊢
        rw [Nat.mul_comm] at x0 x1 x2
        have hg1 : decide ((LN : Int) ≤ (I : Int)) = false := decide_eq_false (by omega)
        have hg2 : decide (LN ≤ I) = false := decide_eq_false (by omega)
        go_region_held3 (fun w' => w'.cell? ⟨gv, I * 3, none⟩ = some (.int .u16 (id : Int)) ∧ w'.cell? ⟨gv, I * 3 + 1, none⟩ = some (.int .u8 (unit : Int)) ∧ w'.cell? ⟨gv, I * 3 + 2, none⟩ = some (.slice po1 pdu.length pc1) ∧ w'.cell? ⟨p, 0, none⟩ = some (.int .u16 (id : Int)) ∧ w'.cell? ⟨p, 1, none⟩ = some (.int .u8 (unit : Int)) ∧ w'.cell? ⟨p, 2, none⟩ = some (.slice po pdu.length pc)) (first | exact ⟨x0, x1, x2, y0, y1, y2⟩ | exact ⟨z0, z1, z2, z3, z4, z5⟩) (first
          | (go_at_call 9; (with_reducible refine (FT.out _ ?_).mono ?_); (first | exact (Below.refl _ _).drew); rintro e w6 ⟨rfl, k6⟩; have K6 := hid_as (below_of_drew k6); have z0 := keep_cell K6.out x0; have z1 := keep_cell K6.out x1; have z2 := keep_cell K6.out x2; have z3 := keep_cell K6.out y0; have z4 := keep_cell K6.out y1; have z5 := keep_cell K6.out y2; clear k6))
        all_goals
          go_wp2
          go_roundw
          case rel => exact ⟨A + nn, I + 1, by go_num, by go_num, below_and RX.out K6.out, TL'.out, by omega, by rw [HLN.out]; omega⟩
          case measure => simp [intOf]; omega
end Go.Proofs.Ytjfaocpbhhpbdaa
