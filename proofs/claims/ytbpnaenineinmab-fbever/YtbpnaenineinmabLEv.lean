/- The law of a TON whose input stays (stage 17). -/
import Derived.Test.YtbpnaenineinmabR1
import Derived.Test.YtbpnaenineinmabOpenF
namespace Go.Proofs.Ytbpnaenineinmab
open Go.RowKit
open Fb
theorem ever_first {P : Int} (h0 : 0 ≤ P) (h1 : P ≤ 2147483647) : (⟨[b01 (decide (P = 0)), 0], 1, 0, b01 (decide (P = 0))⟩ : Rs) = stp 0 [1, P] [] 0 0 0 0 := by
  have hm : max (w32 P) 0 = P := by rw [w32_is (by omega) h1]; omega
  have hz : (0 : Int) = min (max (w32 (w32 0 - w32 0)) 0) P := by
    have : w32 (w32 0 - w32 0) = 0 := by decide
    rw [this]; omega
  have hd : decide (P ≤ 0) = decide (P = 0) := decide_eq_decide.2 (by omega)
  simp only [stp, List.getD_cons_zero, List.getD_cons_succ, hm, ton, el, since]
  rw [show tr 1 = true from rfl, show tr (w32 0) = false from rfl]
  simp only [Bool.not_false, Bool.and_self, if_true]
  rw [if_neg (by decide), ← hz, hd]
  rfl
theorem ever_step {P G : Int} {q : Bool} {o : List Int} (h0 : 0 ≤ P) (h1 : P ≤ 2147483647) (hG : 0 ≤ G) (hq : q = false → G ≤ 2147483647) : (⟨[b01 (q || decide (P ≤ G)), if q || decide (P ≤ G) then P else G], 1, 0, b01 (q || decide (P ≤ G))⟩ : Rs) = stp 0 [1, P] o 1 0 (b01 q) G := by
  have hm : max (w32 P) 0 = P := by rw [w32_is (by omega) h1]; omega
  simp only [stp, List.getD_cons_zero, List.getD_cons_succ, hm, ton, el, since]
  rw [show tr 1 = true from rfl, show tr (w32 1) = true from rfl, show w32 0 = 0 from rfl]
  cases q with
  | true =>
    rw [show w32 (b01 true) = 1 from rfl]
    simp [b01]
  | false =>
    have hg := hq rfl
    rw [show w32 (b01 false) = 0 from rfl]
    have e : w32 (w32 G - 0) = G := by rw [w32_is (n := G) (by omega) hg, Int.sub_zero, w32_is (by omega) hg]
    simp only [e, Bool.not_true, Bool.and_false, Bool.false_eq_true, if_false, if_true, Bool.false_or, Int.zero_ne_one]
    by_cases hp : P ≤ G
    · have e2 : min (max G 0) P = P := by omega
      simp [e2, hp, b01]
    · have e2 : min (max G 0) P = G := by omega
      simp [e2, hp, b01]
theorem slu_at {w : World} {ao : Option Addr} {n c k : Nat} {l : List Nat} (h : Sl w (.slice ao n c) (u32s l)) (hk : k < l.length) : ∃ b off, ao = some ⟨b, off, none⟩ ∧ w.cell? ⟨b, off + k, none⟩ = some (.int .u32 (l.getD k 0 : Nat)) := by
  rcases h with ⟨h0, _⟩ | ⟨b, off, cap, e, _, hl⟩
  · have := congrArg List.length h0
    rw [u32s_len] at this
    simp at this
    simp [this] at hk
  · simp only [Value.slice.injEq] at e
    exact ⟨b, off, e.1, hl k _ (u32s_at l k hk)⟩
/-- Where the law's life is. -/
structure Ev (w wr : World) (kb b : Nat) (q : Bool) (l : List Int) : Prop where
  kp : wr.heap[kb]? = some (.cells #[.int .i64 1, .int .i64 0, .int .i64 (b01 q)] 26 (0, 0))
  row : Row64 wr b l
  kw : w.heap.size ≤ kb
  bl : Below w.heap.size w wr
theorem Ev.step {w wr W : World} {kb b b' : Nat} {q q' : Bool} {l l' : List Int} (h : Ev w wr kb b q l) (k : Below wr.heap.size wr W) (hb : wr.heap.size ≤ b') (r : Row64 W b' l') : Ev w (((W.setCell ⟨kb, 0, none⟩ (.int .i64 1)).setCell ⟨kb, 1, none⟩ (.int .i64 0)).setCell ⟨kb, 2, none⟩ (.int .i64 (b01 q'))) kb b' q' l' := by
  have lt : kb < wr.heap.size := (Array.getElem?_eq_some_iff.1 h.kp).1
  have kp : W.heap[kb]? = some (.cells ([.int .i64 1, .int .i64 0, .int .i64 (b01 q)] : List Value).toArray 26 (0, 0)) := (k.block _ lt).trans h.kp
  have T := ((((Turn.refl kb W).set 0 (.int .i64 1)).set 1 (.int .i64 0)).set 2 (.int .i64 (b01 q')))
  refine ⟨?_, (T.block b' (row_lt r) (fun e => by simp at e; omega)).trans r, h.kw, (h.bl.trans (k.mono h.bl.size)).trans (T.below h.kw (by have := h.bl.size; have := k.size; omega))⟩
  rw [set_row (set_row (set_row kp _) _) _]
  rfl
theorem rem31 (x : Nat) : (x : Int).tmod 2147483648 = ((x % 2147483648 : Nat) : Int) := by rw [Int.tmod_eq_emod_of_nonneg (by omega)]; omega
set_option maxRecDepth 100000 in
set_option maxHeartbeats 4000000 in
theorem ever_w {w : World} {sa : Option Addr} {n sc : Nat} {ss : List Nat} (pt : Int) (hs : Sl w (.slice sa n sc) (u32s ss)) (hn : n = ss.length) (hn9 : n ≤ 9223372036854775807) (hb : ∀ x ∈ ss, x < 4294967296) :
    Calls Try.prog 4 #[.slice sa n sc, .int .i64 pt] w fun e w' => e = .returned (.bool true) ∧ Below w.heap.size w w' := by
  have S := hid_as hs
  have HN := hid_as hn
  have HB := hid_as hb
  have KN := hid_as (known_c w)
  clear hs hn hb
  by_cases h40 : n ≤ 40
  · have h40' : ¬ (40 : Int) < n := by omega
    go_enter Try.func4, Try.ntmps4
    go_wp2_with fail
    refine KN.out.mono ?_
    rintro e w1 ⟨rfl, k1⟩
    have K1 := hid_as k1
    have WR := hid_as (rwrap_11 pt w1)
    clear KN k1
    go_wp2_with fail
    refine WR.out.mono ?_
    rintro e w2 ⟨rfl, k2⟩
    have K2 := hid_as (below_and K1.out k2)
    have ok := w32_ok pt
    generalize w32 pt = p0 at *
    clear WR K1 k2
    go_upto_region 6 with fail
    obtain ⟨P, hP⟩ : ∃ P, P = (if p0 < 0 then (0 : Int) else p0) := ⟨_, rfl⟩
    rw [← hP]
    have hP0 : 0 ≤ P := by rw [hP]; split <;> omega
    have hP1 : P ≤ 2147483647 := by rw [hP]; split <;> omega
    clear hP ok
    have X := hid_as (step_0 (r := ⟨[b01 (decide (P = 0)), 0], 1, 0, b01 (decide (P = 0))⟩) 0 0 0 0 (row_sl (row_new w2 [1, P]) (n := 2) rfl) rfl (by decide) (sl_none _) rfl (by decide) (ever_first hP0 hP1))
    unfold nm nml tx at X
    have HG0 := hid_as (show decide (P = 0) = false → (0 : Int) < P from fun h => by have := of_decide_eq_false h; omega)
    have hpe : (P == 0) = decide (P = 0) := by by_cases h : P = 0 <;> simp [h]
    generalize decide (P = 0) = q0 at *
    go_wp2_with fail
    refine X.out.mono ?_
    rintro e w3 ⟨b3, rfl, hb3, r3, k3⟩
    have EV0 : Hid (Ev w (w3.alloc (.cells #[.int .i64 1, .int .i64 0, .int .i64 (b01 q0)] 26)) w3.heap.size b3 q0 [b01 q0, 0]) := by
      have kk := below_and K2.out (below_and (below_new (Below.refl _ w2) (.cells #[.int .i64 1, .int .i64 P] 2)) k3)
      exact ⟨heap_alloc_new w3 _, row_below r3 (below_new (Below.refl _ _) _), kk.size, below_new kk _⟩
    clear X k3 r3 hb3
    go_upto_region 8 with fail
    generalize w3.alloc (.cells #[.int .i64 1, .int .i64 0, .int .i64 (b01 q0)] 26) = w4 at *
    generalize w3.heap.size = kb at *
    clear K2 hpe
    go_wp2
    go_loopw [5, 7, 8, 9, 10] (fun u nw gn qv i wr => ∃ (j : Nat) (G : Int) (q : Bool) (b : Nat) (l : List Int), j ≤ n ∧ i = .int .i64 j ∧ nw = .int .i64 G ∧ gn = .int .i64 G ∧ qv = .bool q ∧ u = .slice (some ⟨b, 0, none⟩) 2 2 ∧ 0 ≤ G ∧ G ≤ j * 2147483648 ∧ (q = false → G < P) ∧ l.length = 2 ∧ Ev w wr kb b q l) (fun _ _ _ _ i _ => n - (intOf i).toNat)
    case atStart => exact ⟨0, 0, q0, b3, _, by omega, rfl, rfl, rfl, rfl, rfl, by omega, by omega, HG0.out, rfl, EV0.out⟩
    case round =>
      obtain ⟨j, G, q, b, l, hj, rfl, rfl, rfl, rfl, rfl, hG, hGj, hqG, hl, hE⟩ := hrel
      have EV := hid_as hE
      have HL := hid_as hl
      have HQG := hid_as hqG
      clear hE hl hqG EV0 HG0
      by_cases hjn : j < n
      · have hjn' : (j : Int) < (n : Int) := by omega
        have hjs : j < ss.length := by rw [← HN.out]; exact hjn
        have hx : ss.getD j 0 < 4294967296 := by
          rw [List.getD_eq_getElem?_getD, List.getElem?_eq_getElem hjs]
          exact HB.out _ (List.getElem_mem hjs)
        obtain ⟨sb, so, rfl, cs⟩ := slu_at (S.out.below EV.out.bl) (k := j) hjs
        generalize ss.getD j 0 = x at *
        have hm := rem31 x
        obtain ⟨y, hy⟩ : ∃ y, y = x % 2147483648 := ⟨_, rfl⟩
        have hy2 : y < 2147483648 := by omega
        rw [← hy] at hm
        have hm2 : (x : Int) % 2147483648 = (y : Int) := by omega
        have hG2 : 0 ≤ G + (y : Int) := by omega
        have hG2j : G + (y : Int) ≤ ((j + 1 : Nat) : Int) * 2147483648 := by omega
        have hG29 : G + (y : Int) ≤ 100000000000 := by omega
        have HY := hid_as hy
        clear hy
        go_upto_region 13 with fail
        generalize G + (y : Int) = G2 at *
        clear cs hm hm2 hy2 HY hG hGj HQG
        cases q with
        | true =>
          have HQ := hid_as (show (true = false → G2 ≤ 2147483647) from fun h => by cases h)
          by_cases big : 2147483647 < G2
          · skip
            have X := hid_as (fun U (R : Row64 U (wr.heap.size) [1, P]) (k : Below wr.heap.size wr U) => step_0 (r := ⟨[1, P], 1, 0, b01 true⟩) 1 0 (b01 true) G2 (row_sl R (n := 2) rfl) rfl (by decide) (row_sl (row_below EV.out.row k) (n := 2) HL.out.symm) HL.out.symm (by decide) (by rw [← ever_step hP0 hP1 hG2 HQ.out]; simp [b01]))
            unfold nm nml tx at X
            have kc : Hid (wr.heap[kb]? = some (.cells #[.int .i64 1, .int .i64 0, .int .i64 (b01 true)] 26 (0, 0))) := EV.out.kp
            have lt : kb < wr.heap.size := (Array.getElem?_eq_some_iff.1 kc.out).1
            have ka : Hid (∀ o, (wr.alloc o).heap[kb]? = some (.cells #[.int .i64 1, .int .i64 0, .int .i64 (b01 true)] 26 (0, 0))) := fun o => ((below_new (Below.refl _ wr) o).block kb lt).trans kc.out
            have c0 : ∀ o, (wr.alloc o).cell? ⟨kb, 0, none⟩ = some (.int .i64 1) := fun o => cell_row (l := [.int .i64 1, .int .i64 0, .int .i64 (b01 true)]) (ka.out o) rfl
            have c1 : ∀ o, (wr.alloc o).cell? ⟨kb, 1, none⟩ = some (.int .i64 0) := fun o => cell_row (l := [.int .i64 1, .int .i64 0, .int .i64 (b01 true)]) (ka.out o) rfl
            have c2 : ∀ o, (wr.alloc o).cell? ⟨kb, 2, none⟩ = some (.int .i64 (b01 true)) := fun o => cell_row (l := [.int .i64 1, .int .i64 0, .int .i64 (b01 true)]) (ka.out o) rfl
            go_wp2_with fail
            refine (X.out _ (row_new wr [1, P]) (below_new (Below.refl _ _) _)).mono ?_
            rintro e w5 ⟨b5, rfl, hb5, r5, k5⟩
            have k6 : Below wr.heap.size wr w5 := below_and (below_new (Below.refl _ _) _) k5
            have N := hid_as (EV.out.step (q' := true) k6 (by simp at hb5; omega) r5)
            have kc5 := hid_as ((k6.block _ lt).trans kc.out)
            have d0 : w5.cell? ⟨kb, 0, none⟩ = some (.int .i64 1) := by simp [World.cell?, kc5.out]
            have d1 : w5.cell? ⟨kb, 1, none⟩ = some (.int .i64 0) := by simp [World.cell?, kc5.out]
            have d2 : w5.cell? ⟨kb, 2, none⟩ = some (.int .i64 (b01 true)) := by simp [World.cell?, kc5.out]
            have dz : ∀ j, w5.frozen? ⟨kb, j, none⟩ = false := fun j => by simp [World.frozen?, kc5.out]
            clear X k5 k6 r5 hb5 c0 c1 c2 lt
            go_upto_region 17 with fail
            generalize (((w5.setCell ⟨kb, 0, none⟩ (.int .i64 1)).setCell ⟨kb, 1, none⟩ (.int .i64 0)).setCell ⟨kb, 2, none⟩ (.int .i64 (b01 true))) = w6 at *
            have e0 := cell_row (k := 0) N.out.row rfl
            have e1 := cell_row (k := 1) N.out.row rfl
            clear d0 d1 d2 dz
            go_wp2
            go_roundw
            case rel => exact ⟨j + 1, G2, true, b5, [1, P], by omega, by go_num, rfl, rfl, rfl, by simp, by omega, by omega, (fun h => by cases h), rfl, N.out⟩
            case measure => simp [intOf]; omega
          · skip
            have X := hid_as (fun U (R : Row64 U (wr.heap.size) [1, P]) (k : Below wr.heap.size wr U) => step_0 (r := ⟨[1, P], 1, 0, b01 true⟩) 1 0 (b01 true) G2 (row_sl R (n := 2) rfl) rfl (by decide) (row_sl (row_below EV.out.row k) (n := 2) HL.out.symm) HL.out.symm (by decide) (by rw [← ever_step hP0 hP1 hG2 HQ.out]; simp [b01]))
            unfold nm nml tx at X
            have kc : Hid (wr.heap[kb]? = some (.cells #[.int .i64 1, .int .i64 0, .int .i64 (b01 true)] 26 (0, 0))) := EV.out.kp
            have lt : kb < wr.heap.size := (Array.getElem?_eq_some_iff.1 kc.out).1
            have ka : Hid (∀ o, (wr.alloc o).heap[kb]? = some (.cells #[.int .i64 1, .int .i64 0, .int .i64 (b01 true)] 26 (0, 0))) := fun o => ((below_new (Below.refl _ wr) o).block kb lt).trans kc.out
            have c0 : ∀ o, (wr.alloc o).cell? ⟨kb, 0, none⟩ = some (.int .i64 1) := fun o => cell_row (l := [.int .i64 1, .int .i64 0, .int .i64 (b01 true)]) (ka.out o) rfl
            have c1 : ∀ o, (wr.alloc o).cell? ⟨kb, 1, none⟩ = some (.int .i64 0) := fun o => cell_row (l := [.int .i64 1, .int .i64 0, .int .i64 (b01 true)]) (ka.out o) rfl
            have c2 : ∀ o, (wr.alloc o).cell? ⟨kb, 2, none⟩ = some (.int .i64 (b01 true)) := fun o => cell_row (l := [.int .i64 1, .int .i64 0, .int .i64 (b01 true)]) (ka.out o) rfl
            go_wp2_with fail
            refine (X.out _ (row_new wr [1, P]) (below_new (Below.refl _ _) _)).mono ?_
            rintro e w5 ⟨b5, rfl, hb5, r5, k5⟩
            have k6 : Below wr.heap.size wr w5 := below_and (below_new (Below.refl _ _) _) k5
            have N := hid_as (EV.out.step (q' := true) k6 (by simp at hb5; omega) r5)
            have kc5 := hid_as ((k6.block _ lt).trans kc.out)
            have d0 : w5.cell? ⟨kb, 0, none⟩ = some (.int .i64 1) := by simp [World.cell?, kc5.out]
            have d1 : w5.cell? ⟨kb, 1, none⟩ = some (.int .i64 0) := by simp [World.cell?, kc5.out]
            have d2 : w5.cell? ⟨kb, 2, none⟩ = some (.int .i64 (b01 true)) := by simp [World.cell?, kc5.out]
            have dz : ∀ j, w5.frozen? ⟨kb, j, none⟩ = false := fun j => by simp [World.frozen?, kc5.out]
            clear X k5 k6 r5 hb5 c0 c1 c2 lt
            go_upto_region 17 with fail
            generalize (((w5.setCell ⟨kb, 0, none⟩ (.int .i64 1)).setCell ⟨kb, 1, none⟩ (.int .i64 0)).setCell ⟨kb, 2, none⟩ (.int .i64 (b01 true))) = w6 at *
            have e0 := cell_row (k := 0) N.out.row rfl
            have e1 := cell_row (k := 1) N.out.row rfl
            clear d0 d1 d2 dz
            go_wp2
            go_roundw
            case rel => exact ⟨j + 1, G2, true, b5, [1, P], by omega, by go_num, rfl, rfl, rfl, by simp, by omega, by omega, (fun h => by cases h), rfl, N.out⟩
            case measure => simp [intOf]; omega
        | false =>
          by_cases big : 2147483647 < G2
          · have B := hid_as EV.out.bl
            go_wp2
            go_ret
            exact ⟨rfl, B.out⟩
          · have HQ := hid_as (show (false = false → G2 ≤ 2147483647) from fun _ => by omega)
            by_cases hp : P ≤ G2
            · skip
              have X := hid_as (fun U (R : Row64 U (wr.heap.size) [1, P]) (k : Below wr.heap.size wr U) => step_0 (r := ⟨[1, P], 1, 0, b01 true⟩) 1 0 (b01 false) G2 (row_sl R (n := 2) rfl) rfl (by decide) (row_sl (row_below EV.out.row k) (n := 2) HL.out.symm) HL.out.symm (by decide) (by rw [← ever_step hP0 hP1 hG2 HQ.out]; simp [b01, hp]))
              unfold nm nml tx at X
              have kc : Hid (wr.heap[kb]? = some (.cells #[.int .i64 1, .int .i64 0, .int .i64 (b01 false)] 26 (0, 0))) := EV.out.kp
              have lt : kb < wr.heap.size := (Array.getElem?_eq_some_iff.1 kc.out).1
              have ka : Hid (∀ o, (wr.alloc o).heap[kb]? = some (.cells #[.int .i64 1, .int .i64 0, .int .i64 (b01 false)] 26 (0, 0))) := fun o => ((below_new (Below.refl _ wr) o).block kb lt).trans kc.out
              have c0 : ∀ o, (wr.alloc o).cell? ⟨kb, 0, none⟩ = some (.int .i64 1) := fun o => cell_row (l := [.int .i64 1, .int .i64 0, .int .i64 (b01 false)]) (ka.out o) rfl
              have c1 : ∀ o, (wr.alloc o).cell? ⟨kb, 1, none⟩ = some (.int .i64 0) := fun o => cell_row (l := [.int .i64 1, .int .i64 0, .int .i64 (b01 false)]) (ka.out o) rfl
              have c2 : ∀ o, (wr.alloc o).cell? ⟨kb, 2, none⟩ = some (.int .i64 (b01 false)) := fun o => cell_row (l := [.int .i64 1, .int .i64 0, .int .i64 (b01 false)]) (ka.out o) rfl
              go_wp2_with fail
              refine (X.out _ (row_new wr [1, P]) (below_new (Below.refl _ _) _)).mono ?_
              rintro e w5 ⟨b5, rfl, hb5, r5, k5⟩
              have k6 : Below wr.heap.size wr w5 := below_and (below_new (Below.refl _ _) _) k5
              have N := hid_as (EV.out.step (q' := true) k6 (by simp at hb5; omega) r5)
              have kc5 := hid_as ((k6.block _ lt).trans kc.out)
              have d0 : w5.cell? ⟨kb, 0, none⟩ = some (.int .i64 1) := by simp [World.cell?, kc5.out]
              have d1 : w5.cell? ⟨kb, 1, none⟩ = some (.int .i64 0) := by simp [World.cell?, kc5.out]
              have d2 : w5.cell? ⟨kb, 2, none⟩ = some (.int .i64 (b01 false)) := by simp [World.cell?, kc5.out]
              have dz : ∀ j, w5.frozen? ⟨kb, j, none⟩ = false := fun j => by simp [World.frozen?, kc5.out]
              clear X k5 k6 r5 hb5 c0 c1 c2 lt
              go_upto_region 17 with fail
              generalize (((w5.setCell ⟨kb, 0, none⟩ (.int .i64 1)).setCell ⟨kb, 1, none⟩ (.int .i64 0)).setCell ⟨kb, 2, none⟩ (.int .i64 (b01 true))) = w6 at *
              have e0 := cell_row (k := 0) N.out.row rfl
              have e1 := cell_row (k := 1) N.out.row rfl
              clear d0 d1 d2 dz
              go_wp2
              go_roundw
              case rel => exact ⟨j + 1, G2, true, b5, [1, P], by omega, by go_num, rfl, rfl, rfl, by simp, by omega, by omega, (fun h => by cases h), rfl, N.out⟩
              case measure => simp [intOf]; omega
            · skip
              have X := hid_as (fun U (R : Row64 U (wr.heap.size) [1, P]) (k : Below wr.heap.size wr U) => step_0 (r := ⟨[0, G2], 1, 0, b01 false⟩) 1 0 (b01 false) G2 (row_sl R (n := 2) rfl) rfl (by decide) (row_sl (row_below EV.out.row k) (n := 2) HL.out.symm) HL.out.symm (by decide) (by rw [← ever_step hP0 hP1 hG2 HQ.out]; simp [b01, hp]))
              unfold nm nml tx at X
              have kc : Hid (wr.heap[kb]? = some (.cells #[.int .i64 1, .int .i64 0, .int .i64 (b01 false)] 26 (0, 0))) := EV.out.kp
              have lt : kb < wr.heap.size := (Array.getElem?_eq_some_iff.1 kc.out).1
              have ka : Hid (∀ o, (wr.alloc o).heap[kb]? = some (.cells #[.int .i64 1, .int .i64 0, .int .i64 (b01 false)] 26 (0, 0))) := fun o => ((below_new (Below.refl _ wr) o).block kb lt).trans kc.out
              have c0 : ∀ o, (wr.alloc o).cell? ⟨kb, 0, none⟩ = some (.int .i64 1) := fun o => cell_row (l := [.int .i64 1, .int .i64 0, .int .i64 (b01 false)]) (ka.out o) rfl
              have c1 : ∀ o, (wr.alloc o).cell? ⟨kb, 1, none⟩ = some (.int .i64 0) := fun o => cell_row (l := [.int .i64 1, .int .i64 0, .int .i64 (b01 false)]) (ka.out o) rfl
              have c2 : ∀ o, (wr.alloc o).cell? ⟨kb, 2, none⟩ = some (.int .i64 (b01 false)) := fun o => cell_row (l := [.int .i64 1, .int .i64 0, .int .i64 (b01 false)]) (ka.out o) rfl
              go_wp2_with fail
              refine (X.out _ (row_new wr [1, P]) (below_new (Below.refl _ _) _)).mono ?_
              rintro e w5 ⟨b5, rfl, hb5, r5, k5⟩
              have k6 : Below wr.heap.size wr w5 := below_and (below_new (Below.refl _ _) _) k5
              have N := hid_as (EV.out.step (q' := false) k6 (by simp at hb5; omega) r5)
              have kc5 := hid_as ((k6.block _ lt).trans kc.out)
              have d0 : w5.cell? ⟨kb, 0, none⟩ = some (.int .i64 1) := by simp [World.cell?, kc5.out]
              have d1 : w5.cell? ⟨kb, 1, none⟩ = some (.int .i64 0) := by simp [World.cell?, kc5.out]
              have d2 : w5.cell? ⟨kb, 2, none⟩ = some (.int .i64 (b01 false)) := by simp [World.cell?, kc5.out]
              have dz : ∀ j, w5.frozen? ⟨kb, j, none⟩ = false := fun j => by simp [World.frozen?, kc5.out]
              clear X k5 k6 r5 hb5 c0 c1 c2 lt
              go_upto_region 17 with fail
              generalize (((w5.setCell ⟨kb, 0, none⟩ (.int .i64 1)).setCell ⟨kb, 1, none⟩ (.int .i64 0)).setCell ⟨kb, 2, none⟩ (.int .i64 (b01 false))) = w6 at *
              have e0 := cell_row (k := 0) N.out.row rfl
              have e1 := cell_row (k := 1) N.out.row rfl
              clear d0 d1 d2 dz
              go_wp2
              go_roundw
              case rel => exact ⟨j + 1, G2, false, b5, [0, G2], by omega, by go_num, rfl, rfl, rfl, by simp, by omega, by omega, (fun h => by omega), rfl, N.out⟩
              case measure => simp [intOf]; omega
      · obtain rfl : j = n := by omega
        have B := hid_as EV.out.bl
        go_wp2
        go_ret
        exact ⟨rfl, B.out⟩
  · have h40' : (40 : Int) < n := by omega
    go_enter Try.func4, Try.ntmps4
    go_wp2_with fail
    refine KN.out.mono ?_
    rintro e w1 ⟨rfl, k1⟩
    go_wp2
    go_ret
    exact ⟨rfl, k1⟩
end Go.Proofs.Ytbpnaenineinmab
