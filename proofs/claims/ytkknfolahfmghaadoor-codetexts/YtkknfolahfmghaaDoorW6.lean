/- The walk of goAllWays (stage 20). -/
import Derived.Test.YtkknfolahfmghaaDoorA6
import Derived.Deep.LoopGhost
namespace Go.Proofs.YtkknfolahfmghaaDoor
open Go.RowKit
open Fb Cod
namespace Cod
/-- What Verify tells. -/
def Ver (K : List Int) (L : List Ins) (r : Option Nat) : Prop := (∃ k, alone K L = some k ∧ r = some k) ∨ (alone K L = none ∧ ∃ m, Fin L m ∧ r = if m < L.length then some m else none)
theorem Ver.unique {K : List Int} {L : List Ins} {r s : Option Nat} (h : Ver K L r) (k : Ver K L s) : r = s := by
  rcases h with ⟨a, h1, rfl⟩ | ⟨h1, m, hm, rfl⟩
  · rcases k with ⟨b, k1, rfl⟩ | ⟨k1, _⟩
    · rw [h1] at k1; exact k1
    · rw [h1] at k1; cases k1
  · rcases k with ⟨b, k1, rfl⟩ | ⟨k1, m', hm', rfl⟩
    · rw [h1] at k1; cases k1
    · rw [hm.unique hm']
theorem alone_ok {K : List Int} {L : List Ins} (h : alone K L = none) : whole K L.length = true ∧ ∀ (i : Nat) (x : Ins), L[i]? = some x → rgt K L.length x = true := by
  unfold alone at h
  cases hw : whole K L.length with
  | false => rw [hw] at h; cases h
  | true =>
    rw [hw, if_pos rfl, List.findIdx?_eq_none_iff] at h
    refine ⟨rfl, fun i x hx => ?_⟩
    have := h x (List.mem_of_getElem? hx)
    simpa using this
theorem whole_pos {K : List Int} {n : Nat} (h : whole K n = true) : 0 < n ∧ n ≤ 32768 := by
  unfold whole at h
  simp only [Bool.and_eq_true, decide_eq_true_iff] at h
  exact ⟨h.1.2, h.2⟩
end Cod
/-- What goAllWays hands back. -/
def AllW (w : World) (la : Option Addr) (n lc : Nat) (K : List Int) (L : List Ins) (e : Ending) (w' : World) : Prop :=
  (∃ k v, Ver K L (some k) ∧ e = .returned (.tuple #[.pointer none, v]) ∧ Err w (some k) v w') ∨ (Ver K L none ∧ alone K L = none ∧ ∃ g m wv S, e = .returned (.tuple #[.pointer (some ⟨g, 0, none⟩), .nilIface]) ∧ Wy w.heap.size w' g m (.slice la n lc) wv S [] n ∧ Inv L S [] nox n)
theorem own_take {w : World} {base s n cap g k : Nat} {e : TypeId} {xs : List Value} (h : w.ownsRow base e s (.slice (some ⟨g, 0, none⟩) n cap) n xs) (hk : k ≤ n) : w.ownsRow base e s (.slice (some ⟨g, 0, none⟩) k cap) k (xs.take (k * s)) := by
  refine ⟨by rw [List.length_take, h.1]; exact Nat.min_eq_left (Nat.mul_le_mul_right s hk), ?_⟩
  rcases h.2 with ⟨h', _⟩ | ⟨g', cap', cur, e1, hb, hg, hn, hm, hs, ht⟩
  · simp at h'
  · simp only [Value.slice.injEq, Option.some.injEq, Addr.mk.injEq] at e1
    obtain ⟨⟨rfl, _, _⟩, _, rfl⟩ := e1
    refine Or.inr ⟨g, cap, cur, rfl, hb, hg, Nat.le_trans hk hn, hm, hs, ?_⟩
    rw [← ht, List.take_take, Nat.min_eq_left (Nat.mul_le_mul_right s hk)]
theorem prs_take (T : List (Nat × Nat)) (q : Nat × Nat) : (prs (T ++ [q])).take (T.length * 2) = prs T := by
  rw [prs_app, ← prs_len]
  exact List.take_left
theorem prs_last (T : List (Nat × Nat)) (q : Nat × Nat) : (prs (T ++ [q]))[T.length * 2]? = some (.int .i64 (q.1 : Int)) ∧ (prs (T ++ [q]))[T.length * 2 + 1]? = some (.int .i64 (q.2 : Int)) := by
  rw [prs_app, List.getElem?_append_right (by rw [prs_len]; exact Nat.le_refl _), List.getElem?_append_right (by rw [prs_len]; omega), prs_len, Nat.sub_self, show T.length * 2 + 1 - T.length * 2 = 1 by omega]
  exact ⟨rfl, rfl⟩
/-- The last place that waits is taken. -/
theorem Gw.pop {B : Nat} {w : World} {g m : Nat} {la : Option Addr} {n lc : Nat} {wv : Value} {L : List Ins} {S T : List (Nat × Nat)} {q : Nat × Nat} {wr : Nat} (h : Gw B w g m la n lc wv L S (T ++ [q]) wr) :
    ∃ h0 cap, wv = .slice (some ⟨h0, 0, none⟩) (T.length + 1) cap ∧ w.cell? ⟨h0, T.length * 2, none⟩ = some (.int .i64 (q.1 : Int)) ∧ w.cell? ⟨h0, T.length * 2 + 1, none⟩ = some (.int .i64 (q.2 : Int)) ∧ T.length + 1 ≤ cap ∧ Gw B ((w.alloc (.cells #[.int .i64 (q.1 : Int), .int .i64 (q.2 : Int)] 95)).setCell ⟨g, 2, none⟩ (.slice (some ⟨h0, 0, none⟩) T.length cap)) g m la n lc (.slice (some ⟨h0, 0, none⟩) T.length cap) L S T wr := by
  have own := h.wy.own
  rw [List.length_append] at own
  obtain ⟨h0, cap, rfl⟩ := own_at own (Nat.succ_pos _)
  have cl : ∀ j, j < (T.length + 1) * 2 → w.cell? ⟨h0, j, none⟩ = (prs (T ++ [q]))[j]? := fun j hj => own.cellAt j hj
  refine ⟨h0, cap, rfl, ?_, ?_, ?_, ?_⟩
  · rw [cl _ (by omega)]; exact (prs_last T q).1
  · rw [cl _ (by omega)]; exact (prs_last T q).2
  · rcases own.2 with ⟨h', _⟩ | ⟨g', cap', cur, e1, hb, hg, hn, _⟩
    · simp at h'
    · simp only [Value.slice.injEq] at e1
      obtain ⟨_, _, rfl⟩ := e1
      exact hn
  · have k1 := below_new1 w (.cells #[.int .i64 (q.1 : Int), .int .i64 (q.2 : Int)] 95)
    have h1 := h.below k1
    refine h1.step ?_ ?_
    · exact ((Turn.refl g _).set 2 _).below h.wy.gB h1.hB
    · have t : Turn g (w.alloc (.cells #[.int .i64 (q.1 : Int), .int .i64 (q.2 : Int)] 95)) ((w.alloc (.cells #[.int .i64 (q.1 : Int), .int .i64 (q.2 : Int)] 95)).setCell ⟨g, 2, none⟩ (.slice (some ⟨h0, 0, none⟩) T.length cap)) := (Turn.refl g _).set 2 _
      obtain ⟨F, hF, hM⟩ := h1.wy.map
      have hne := (h.wy.wg h0 rfl).1
      refine ⟨set_row h1.wy.row _, ?_, ⟨F, hF.turn t (fun e => h.wy.gm e.symm), hM⟩, h.wy.gB, h.wy.mB, h.wy.gm, fun b hb => h.wy.wg b hb⟩
      have o2 := h1.wy.own
      rw [List.length_append] at o2
      have o3 := own_take o2 (k := T.length) (Nat.le_succ _)
      rw [prs_take] at o3
      exact o3.kept t (Or.inr (fun e => hne (by simpa [Value.ownBlock] using e)))
theorem states_sub {α : Type} [BEq α] [LawfulBEq α] : ∀ {T S : List α}, T.Nodup → (∀ q, q ∈ T → q ∈ S) → T.length ≤ S.length
  | [], _, _, _ => Nat.zero_le _
  | a :: T, S, hn, h => by
    obtain ⟨h1, h2⟩ := List.nodup_cons.1 hn
    have ha := h a (by simp)
    have := states_sub (S := S.erase a) h2 (fun q hq => by
      refine (List.mem_erase_of_ne (fun (e : q = a) => h1 (by rw [← e]; exact hq))).2 (h q (by simp [hq])))
    rw [List.length_erase_of_mem ha] at this
    have := List.length_pos_of_mem ha
    simp only [List.length_cons]
    omega
theorem set_far {w : World} {g k b o : Nat} {v u : Value} (h : w.cell? ⟨b, o, none⟩ = some u) (hne : b ≠ g) : (w.setCell ⟨g, k, none⟩ v).cell? ⟨b, o, none⟩ = some u :=
  (World.cell?_of_block (w := w) (a := ⟨b, o, none⟩) (Below.heap_setCell _ _ _ _ (fun e => hne e))).trans h
theorem mu_pop {L : List Ins} {S T : List (Nat × Nat)} {q : Nat × Nat} : mu L S T < mu L S (T ++ [q]) := by
  unfold mu
  rw [List.length_append]
  simp
theorem snoc_cases {α : Type} (T : List α) : T = [] ∨ ∃ T0 q, T = T0 ++ [q] := by
  rcases List.eq_nil_or_concat T with h | ⟨T0, q, h⟩
  · exact Or.inl h
  · exact Or.inr ⟨T0, q, by rw [h, List.concat_eq_append]⟩
/-- The going through code begins. -/
theorem gw_start {w w2 : World} {la : Option Addr} {n lc : Nat} {L : List Ins} (k : Below w.heap.size w w2) (hI : Il w la L) (hT : Tabs w) :
    Gw w.heap.size ((w2.alloc (.map #[] 0)).alloc (.cells #[.slice la n lc, .map (some w2.heap.size), .slice none 0 0, .int .i64 (n : Int)] 93)) (w2.heap.size + 1) w2.heap.size la n lc (.slice none 0 0) L [] [] n := by
  have k2 : Below w2.heap.size w2 ((w2.alloc (.map #[] 0)).alloc (.cells #[.slice la n lc, .map (some w2.heap.size), .slice none 0 0, .int .i64 (n : Int)] 93)) := two_new1 _ _ _
  have k3 := below_and k k2
  have s2 := k.size
  refine ⟨⟨?_, World.ownsRow_nil .., ⟨fun _ => none, ?_, fun i => Or.inl ⟨rfl, fun d h => by cases h⟩⟩, by omega, s2, by omega, fun h hh => by cases hh⟩, hI.below k3, fun p hp h0 => ?_, hT.below k3, hT.big, k3.size⟩
  · have := heap_alloc_new (w2.alloc (.map #[] 0)) (.cells #[.slice la n lc, .map (some w2.heap.size), .slice none 0 0, .int .i64 (n : Int)] 93)
    rw [World.size_alloc] at this
    exact this
  · exact (map_made w2).below (below_new1 _ _)
  · rcases hI with rfl | ⟨b, o, e, hI⟩
    · simp at h0
    · rw [e] at hp
      have : p = ⟨b, o, none⟩ := (Option.some.inj hp).symm
      subst this
      exact lt_of_cell (hI 0 _ (List.getElem?_eq_getElem h0) 0 _ rfl)
/-- Between two rounds. -/
def Rnd (w : World) (g m : Nat) (la : Option Addr) (n lc : Nat) (L : List Ins) (k : Nat) (wr : World) : Prop := ∃ wv S T e, Gw w.heap.size wr g m la n lc wv L S T e ∧ Inv L S T nox e ∧ mu L S T ≤ k ∧ Below w.heap.size w wr
theorem came_first {S T : List (Nat × Nat)} {n wr : Nat} (h : Came (0, 0) [] [] n S T wr) : S = [(0, 0)] ∧ T = [(0, 0)] ∧ wr = n := by
  obtain ⟨h1, h2⟩ := h.new (by simp)
  refine ⟨h1, h2, ?_⟩
  rcases h.wr with e | ⟨_, e, he, _⟩
  · exact e
  · cases he
set_option maxHeartbeats 3200000 in
set_option maxRecDepth 100000 in
theorem goAll_c {w : World} {va : Option Addr} {kn kc : Nat} {la : Option Addr} {n lc : Nat} {K : List Int} {L : List Ins} (h : Cd w va kn kc la n lc K L) (hT : Tabs w) :
    Calls Tryd.prog 24 #[.agg #[.slice va kn kc, .slice la n lc]] w fun e w' => AllW w la n lc K L e w' ∧ Below w.heap.size w w' := by
  obtain ⟨w1, hw1⟩ : ∃ w1, w.alloc (.cells #[.slice va kn kc, .slice la n lc] 25) = w1 := ⟨_, rfl⟩
  obtain ⟨bs, hbs⟩ : ∃ bs, bs = w.heap.size := ⟨_, rfl⟩
  have K1 : Below w.heap.size w w1 := by rw [← hw1]; exact below_new1 _ _
  have r1 : w1.heap[bs]? = some (.cells [Value.slice va kn kc, .slice la n lc].toArray 25 (0, 0)) := by rw [← hw1, hbs]; exact heap_alloc_new w _
  have y0 : w1.cell? ⟨bs, 0, none⟩ = some (.slice va kn kc) := cell_row (k := 0) r1 rfl
  have y1 : w1.cell? ⟨bs, 1, none⟩ = some (.slice la n lc) := cell_row (k := 1) r1 rfl
  have C1 := hid_as (h.below K1)
  have CA := hid_as (checkAlone_c C1.out)
  have NL := hid_as h.nl
  have n9 := h.n9
  have T1 := hid_as (hT.below K1)
  have IL := hid_as h.il
  have T0 := hid_as hT
  have KB := hid_as K1
  clear h K1 r1 hT
  cases hA : alone K L with
  | some k =>
    rw [hA] at CA
    have HV : Hid (Ver K L (some k)) := Or.inl ⟨k, hA, rfl⟩
    clear hA
    go_enter Tryd.func24, Tryd.ntmps24
    go_upto_region 1 with fail
    rw [← hbs]
    clear hw1 hbs
    go_wp2_with (go_at_call 43; refine CA.out.mono ?_; rintro e w2 ⟨⟨v, rfl, g, hv, hg, q0, q1⟩, b2⟩; subst hv)
    go_ret2
    exact ⟨Or.inl ⟨k, _, HV.out, rfl, g, rfl, Nat.le_trans KB.out.size hg, q0, q1⟩, below_and KB.out b2⟩
  | none =>
    rw [hA] at CA
    have AO := hid_as hA
    clear hA
    have hmm := @run_makeMap Tryd.prog
    go_enter Tryd.func24, Tryd.ntmps24
    go_upto_region 1 with fail
    rw [← hbs]
    clear hw1 hbs
    go_upto_region 5 with (go_at_call 43; refine CA.out.mono ?_; rintro e w2 ⟨⟨v, rfl, hv⟩, b2⟩; (have hv2 : v = Value.nilIface := hv); subst hv2; have y0 := keep_cell b2 y0; have y1 := keep_cell b2 y1; have ym := keep_cell (below_new1 w2 (.map #[] 0)) y1)
    have B2 := hid_as (below_and KB.out b2)
    have GS := hid_as (gw_start (n := n) (lc := lc) B2.out IL.out T0.out)
    clear b2 y0 y1 ym C1 CA T1 IL KB
    have CO : Hid (∀ (W : World) (g m : Nat), Gw w.heap.size W g m la n lc (.slice none 0 0) L [] [] n → Calls Tryd.prog 44 #[.pointer (some ⟨g, 0, none⟩), .int .i64 0, .int .i64 0] W fun e w' => e = .returned (.tuple #[]) ∧ ∃ wv' S' T' wr', Gw w.heap.size w' g m la n lc wv' L S' T' wr' ∧ Came (0, 0) [] [] n S' T' wr' ∧ Below w.heap.size W w' ∧ Oth W w' g m (Value.ownBlock (.slice none 0 0))) := fun W g m h => come_g (k := 0) (D := 0) h (by decide) (by decide) (by decide)
    have K3 : Hid (Below w.heap.size w ((w2.alloc (.map #[] 0)).alloc (.cells #[.slice la n lc, .map (some w2.heap.size), .slice none 0 0, .int .i64 (n : Int)] 93))) := below_and B2.out (two_new1 _ _ _)
    generalize hW3 : (w2.alloc (.map #[] 0)).alloc (.cells #[.slice la n lc, .map (some w2.heap.size), .slice none 0 0, .int .i64 (n : Int)] 93) = W3 at *
    clear hW3
    generalize w2.heap.size + 1 = g at *
    generalize w2.heap.size = m at *
    go_upto_region 6 with (go_at_call 44; refine (CO.out _ _ _ GS.out).mono ?_; rintro e w4 ⟨rfl, wv, S, T, wr0, h1, h2, h3, _⟩; obtain ⟨hS, hT, hw⟩ := came_first h2; subst hS; subst hT; rw [hw] at h1; clear hw h2)
    have AL := hid_as (alone_ok AO.out)
    have WP := hid_as (whole_pos AL.out.1)
    have R0 : Hid (Rnd w g m la n lc L (mu L [(0, 0)] [(0, 0)]) w4) := by
      refine ⟨wv, _, _, _, h1, ?_, Nat.le_refl _, K3.out.trans h3⟩
      rw [NL.out]
      exact Inv.init WP.out.1
    clear h1 h3 GS CO K3
    go_loopg [6] (mu L [(0, 0)] [(0, 0)]) (fun k _ wr => Rnd w g m la n lc L k wr)
    case atStart => exact R0.out
    case round =>
      obtain ⟨wv, S, T, e, hG, hI, hm, hB⟩ := hrel
      have G := hid_as hG
      have I := hid_as hI
      have MU := hid_as hm
      have BB := hid_as hB
      clear hG hI hm hB R0
      rcases snoc_cases T with rfl | ⟨T0, q, rfl⟩
      · have c2 := G.out.wy.c2
        have c3 := G.out.wy.c3
        have c0 := G.out.wy.c0
        obtain ⟨wa, wc, hwv⟩ := own_shapeS G.out.wy.own
        subst hwv
        have FI := hid_as (I.out.fin (by obtain ⟨F, _, hM⟩ := G.out.wy.map; exact hM.two))
        by_cases he : e < n
        · have he' : (e : Int) < (n : Int) := by omega
          have WR := hid_as (wrong_c e)
          have HV : Hid (Ver K L (some e)) := Or.inr ⟨AO.out, e, FI.out, by rw [if_pos (by rw [← NL.out]; exact he)]⟩
          go_upto_region 11 with fail
          go_region
          go_wp2_with (go_at_call 46; refine (WR.out _).mono ?_; rintro e w' ⟨rfl, hw⟩; subst w')
          go_ret2
          have B := below_and BB.out (Same.drew wr).below
          exact ⟨Or.inl ⟨_, _, HV.out, rfl, err_new w _ _ B.size⟩, below_new B _⟩
        · have he' : ¬ (e : Int) < (n : Int) := by omega
          have en : Hid (e = n) := by have := I.out.le; have := NL.out; show e = n; omega
          have HV : Hid (Ver K L none) := Or.inr ⟨AO.out, e, FI.out, by rw [if_neg (by rw [← NL.out]; exact he)]⟩
          go_upto_region 11 with fail
          go_region
          go_wp2
          go_ret2
          have B := below_and BB.out (Same.drew wr).below
          refine ⟨Or.inr ⟨HV.out, AO.out, g, m, .slice wa 0 wc, S, rfl, ?_, ?_⟩, B⟩
          · have := G.out.wy.same (Same.drew wr)
            rw [en.out] at this
            exact this
          · have := I.out
            rw [en.out] at this
            exact this
      · obtain ⟨h0, cap, hwv, k0, k1, hcap, G2⟩ := G.out.pop
        have I2 := hid_as I.out.pop
        have hq : q ∈ S := I.out.sub q (by simp)
        have hrg := I.out.rng q hq
        obtain ⟨x, hx⟩ : ∃ x, L[q.1]? = some x := ⟨_, List.getElem?_eq_getElem hrg.1⟩
        have ok := rgt_ok (AL.out.2 _ x hx)
        rw [← NL.out] at ok
        obtain ⟨i, d⟩ := q
        simp only at k0 k1 hx hrg
        have tn : T0.length ≤ 900000000 := by
          have h1 := I.out.size
          have h2 : (T0 ++ [(i, d)]).length ≤ S.length := by
            have := states_sub I.out.tnd I.out.sub
            exact this
          rw [List.length_append] at h2
          have := WP.out.2
          simp at h2
          omega
        have GO := hid_as (goOn_c G2 NL.out n9 hx ok I2.out hq tn)
        have K4 : Hid (Below w.heap.size wr ((wr.alloc (.cells #[.int .i64 (i : Int), .int .i64 (d : Int)] 95)).setCell ⟨g, 2, none⟩ (.slice (some ⟨h0, 0, none⟩) T0.length cap))) := ((below_new1 wr _).mono BB.out.size).trans (((Turn.refl g _).set 2 _).below G.out.wy.gB (Nat.le_trans BB.out.size (by simp)))
        have MP := hid_as (Nat.lt_of_lt_of_le (mu_pop (L := L) (S := S) (T := T0) (q := (i, d))) MU.out)
        subst hwv
        have c2 := G.out.wy.c2
        have k1' := below_new1 wr (.cells #[.int .i64 (i : Int), .int .i64 (d : Int)] 95)
        have c2' := keep_cell k1' c2
        have f2 := (G.out.below k1').wy.fz 2
        have b0 : ((wr.alloc (.cells #[.int .i64 (i : Int), .int .i64 (d : Int)] 95)).setCell ⟨g, 2, none⟩ (.slice (some ⟨h0, 0, none⟩) T0.length cap)).cell? ⟨wr.heap.size, 0, none⟩ = some (.int .i64 (i : Int)) := set_far (cell_row (l := [.int .i64 (i : Int), .int .i64 (d : Int)]) (k := 0) (heap_alloc_new wr _) rfl) (fun e => by have := G.out.wy.glt; omega)
        have b1 : ((wr.alloc (.cells #[.int .i64 (i : Int), .int .i64 (d : Int)] 95)).setCell ⟨g, 2, none⟩ (.slice (some ⟨h0, 0, none⟩) T0.length cap)).cell? ⟨wr.heap.size, 1, none⟩ = some (.int .i64 (d : Int)) := set_far (cell_row (l := [.int .i64 (i : Int), .int .i64 (d : Int)]) (k := 1) (heap_alloc_new wr _) rfl) (fun e => by have := G.out.wy.glt; omega)
        obtain ⟨W5, hW5⟩ : ∃ W5, (wr.alloc (.cells #[.int .i64 (i : Int), .int .i64 (d : Int)] 95)).setCell ⟨g, 2, none⟩ (.slice (some ⟨h0, 0, none⟩) T0.length cap) = W5 := ⟨_, rfl⟩
        rw [hW5] at GO K4 b0 b1
        have tc : (T0.length : Int) ≤ (cap : Int) := by omega
        have tc2 : T0.length ≤ cap := by omega
        have hwt : wrap64 (T0.length : Int) = (T0.length : Int) := by unfold wrap64; omega
        clear hrg hx ok hq G2 G I I2 k1' hcap
        go_wp2_with (go_at_call 45; refine GO.out.mono ?_; rintro e6 w6 ⟨rfl, wv6, S6, T6, wr6, g6, i6, m6, b6⟩)
        have Z6 : Hid (Rnd w g m la n lc L (mu L S T0) w6) := ⟨wv6, S6, T6, wr6, g6, i6, m6, (BB.out.trans K4.out).trans b6⟩
        clear g6 i6 m6 b6
        go_roundg (mu L S T0)
        case measure => exact MP.out
        case rel => exact Z6.out
end Go.Proofs.YtkknfolahfmghaaDoor
