/- The reference's token, walked: signs (stage 12). -/
import Derived.Test.YtnponognncdkcaaDoorJ3
import Derived.Test.YtnponognncdkcaaDoorRN
namespace Go.Proofs.YtnponognncdkcaaDoor
open Go.RowKit
open Adr Lx
def sgl : List (List UInt8) := two ++ one.map (fun c => [c])
def sgk (k : Nat) : ByteArray := tx (sgl.getD k [])
def scells : Array Value := #[.string ⟨#[58, 61]⟩, .string ⟨#[46, 46]⟩, .string ⟨#[60, 61]⟩, .string ⟨#[62, 61]⟩, .string ⟨#[60, 62]⟩, .string ⟨#[61, 62]⟩, .string ⟨#[58]⟩, .string ⟨#[59]⟩, .string ⟨#[44]⟩, .string ⟨#[46]⟩, .string ⟨#[40]⟩, .string ⟨#[41]⟩, .string ⟨#[91]⟩, .string ⟨#[93]⟩, .string ⟨#[61]⟩, .string ⟨#[60]⟩, .string ⟨#[62]⟩, .string ⟨#[43]⟩, .string ⟨#[45]⟩, .string ⟨#[42]⟩, .string ⟨#[47]⟩]
theorem scells_at : ∀ (k : Nat), k < 21 → scells[k]? = some (.string (sgk k))
  | 0, _ => rfl
  | 1, _ => rfl
  | 2, _ => rfl
  | 3, _ => rfl
  | 4, _ => rfl
  | 5, _ => rfl
  | 6, _ => rfl
  | 7, _ => rfl
  | 8, _ => rfl
  | 9, _ => rfl
  | 10, _ => rfl
  | 11, _ => rfl
  | 12, _ => rfl
  | 13, _ => rfl
  | 14, _ => rfl
  | 15, _ => rfl
  | 16, _ => rfl
  | 17, _ => rfl
  | 18, _ => rfl
  | 19, _ => rfl
  | 20, _ => rfl
  | k + 21, h => by omega
theorem sgk_list (k : Nat) : (sgk k).data.toList = sgl.getD k [] := tx_list _
theorem sgk_size (k : Nat) : (sgk k).size ≤ 2 := by
  by_cases h : k < 21
  · have q : ∀ k : Fin 21, (sgk k).size ≤ 2 := by decide
    exact q ⟨k, h⟩
  · have e : sgl.getD k [] = [] := by
      rw [List.getD_eq_getElem?_getD, List.getElem?_eq_none (by show 21 ≤ k; omega)]; rfl
    unfold sgk
    rw [e]
    exact Nat.zero_le _
theorem pair_no {l : List UInt8} (h : ∀ j, j < 6 → hp l (sgk j).data.toList = false) : two.contains (l.take 2) = false := by
  cases e : two.contains (l.take 2) with
  | false => rfl
  | true =>
    have hm : l.take 2 ∈ two := by simpa using e
    obtain ⟨j, hj, hx⟩ := List.getElem_of_mem hm
    have hj6 : j < 6 := hj
    have h2 := h j hj6
    have e2 : (sgk j).data.toList = l.take 2 := by
      rw [sgk_list, ← hx, List.getD_eq_getElem?_getD]
      unfold sgl
      rw [List.getElem?_append_left hj, List.getElem?_eq_getElem hj]
      rfl
    rw [e2, hp_iff.2 (List.take_prefix _ _)] at h2
    exact h2
theorem sgR_no {c : UInt8} {l : List UInt8} (h : ∀ j, j < 21 → hp (c :: l) (sgk j).data.toList = false) : okR (sgR (c :: l)) = none := by
  have h1 : one.contains c = false := by
    cases e : one.contains c with
    | false => rfl
    | true =>
      have hm : c ∈ one := by simpa using e
      obtain ⟨j, hj, hx⟩ := List.getElem_of_mem hm
      have hj6 : j < 15 := hj
      have h2 := h (6 + j) (by omega)
      have e2 : (sgk (6 + j)).data.toList = [c] := by
        rw [sgk_list, ← hx, List.getD_eq_getElem?_getD]
        unfold sgl
        rw [List.getElem?_append_right (by show 6 ≤ 6 + j; omega), show 6 + j - two.length = j by show 6 + j - 6 = j; omega, List.getElem?_map, List.getElem?_eq_getElem hj]
        rfl
      rw [e2, show hp (c :: l) [c] = true from hp_iff.2 ⟨l, rfl⟩] at h2
      exact h2
  have e : sgz (c :: l) = 0 := by
    unfold sgz
    rw [pair_no (fun j hj => h j (by omega)), Bool.and_false, if_neg Bool.false_ne_true]
    show (if ([c].all one.contains) = true then 1 else 0) = 0
    rw [List.all_cons, h1]
    rfl
  unfold sgR
  rw [e]
  rfl
theorem sgR_two (c d : UInt8) (l : List UInt8) (h : two.contains [c, d] = true) : okR (sgR (c :: d :: l)) = some (⟨6, 0, 0, [c, d]⟩, 2) := by
  have e : sgz (c :: d :: l) = 2 := by
    unfold sgz
    rw [show (c :: d :: l).take 2 = [c, d] from rfl, h, decide_eq_true (show 1 < (c :: d :: l).length by simp)]
    rfl
  unfold sgR
  rw [e]
  rfl
theorem sgR_one (c : UInt8) (l : List UInt8) (h0 : two.contains ((c :: l).take 2) = false) (h : one.contains c = true) : okR (sgR (c :: l)) = some (⟨6, 0, 0, [c]⟩, 1) := by
  have e : sgz (c :: l) = 1 := by
    unfold sgz
    rw [h0, Bool.and_false, if_neg Bool.false_ne_true]
    show (if ([c].all one.contains) = true then 1 else 0) = 1
    rw [List.all_cons, h]
    rfl
  unfold sgR
  rw [e]
  rfl
theorem sgR_at {l : List UInt8} : ∀ (k : Nat), k < 21 → (∀ j, j < k → hp l (sgk j).data.toList = false) → hp l (sgk k).data.toList = true → okR (sgR l) = some (⟨6, 0, 0, sgl.getD k []⟩, (sgk k).size)
  | 0, _, _, h => by obtain ⟨r, e⟩ := hp_iff.1 h; rw [← e]; exact sgR_two 58 61 r (by decide)
  | 1, _, _, h => by obtain ⟨r, e⟩ := hp_iff.1 h; rw [← e]; exact sgR_two 46 46 r (by decide)
  | 2, _, _, h => by obtain ⟨r, e⟩ := hp_iff.1 h; rw [← e]; exact sgR_two 60 61 r (by decide)
  | 3, _, _, h => by obtain ⟨r, e⟩ := hp_iff.1 h; rw [← e]; exact sgR_two 62 61 r (by decide)
  | 4, _, _, h => by obtain ⟨r, e⟩ := hp_iff.1 h; rw [← e]; exact sgR_two 60 62 r (by decide)
  | 5, _, _, h => by obtain ⟨r, e⟩ := hp_iff.1 h; rw [← e]; exact sgR_two 61 62 r (by decide)
  | 6, _, hn, h => by obtain ⟨r, e⟩ := hp_iff.1 h; have q := pair_no (fun j hj => hn j (by omega)); rw [← e] at q ⊢; exact sgR_one 58 r q (by decide)
  | 7, _, hn, h => by obtain ⟨r, e⟩ := hp_iff.1 h; have q := pair_no (fun j hj => hn j (by omega)); rw [← e] at q ⊢; exact sgR_one 59 r q (by decide)
  | 8, _, hn, h => by obtain ⟨r, e⟩ := hp_iff.1 h; have q := pair_no (fun j hj => hn j (by omega)); rw [← e] at q ⊢; exact sgR_one 44 r q (by decide)
  | 9, _, hn, h => by obtain ⟨r, e⟩ := hp_iff.1 h; have q := pair_no (fun j hj => hn j (by omega)); rw [← e] at q ⊢; exact sgR_one 46 r q (by decide)
  | 10, _, hn, h => by obtain ⟨r, e⟩ := hp_iff.1 h; have q := pair_no (fun j hj => hn j (by omega)); rw [← e] at q ⊢; exact sgR_one 40 r q (by decide)
  | 11, _, hn, h => by obtain ⟨r, e⟩ := hp_iff.1 h; have q := pair_no (fun j hj => hn j (by omega)); rw [← e] at q ⊢; exact sgR_one 41 r q (by decide)
  | 12, _, hn, h => by obtain ⟨r, e⟩ := hp_iff.1 h; have q := pair_no (fun j hj => hn j (by omega)); rw [← e] at q ⊢; exact sgR_one 91 r q (by decide)
  | 13, _, hn, h => by obtain ⟨r, e⟩ := hp_iff.1 h; have q := pair_no (fun j hj => hn j (by omega)); rw [← e] at q ⊢; exact sgR_one 93 r q (by decide)
  | 14, _, hn, h => by obtain ⟨r, e⟩ := hp_iff.1 h; have q := pair_no (fun j hj => hn j (by omega)); rw [← e] at q ⊢; exact sgR_one 61 r q (by decide)
  | 15, _, hn, h => by obtain ⟨r, e⟩ := hp_iff.1 h; have q := pair_no (fun j hj => hn j (by omega)); rw [← e] at q ⊢; exact sgR_one 60 r q (by decide)
  | 16, _, hn, h => by obtain ⟨r, e⟩ := hp_iff.1 h; have q := pair_no (fun j hj => hn j (by omega)); rw [← e] at q ⊢; exact sgR_one 62 r q (by decide)
  | 17, _, hn, h => by obtain ⟨r, e⟩ := hp_iff.1 h; have q := pair_no (fun j hj => hn j (by omega)); rw [← e] at q ⊢; exact sgR_one 43 r q (by decide)
  | 18, _, hn, h => by obtain ⟨r, e⟩ := hp_iff.1 h; have q := pair_no (fun j hj => hn j (by omega)); rw [← e] at q ⊢; exact sgR_one 45 r q (by decide)
  | 19, _, hn, h => by obtain ⟨r, e⟩ := hp_iff.1 h; have q := pair_no (fun j hj => hn j (by omega)); rw [← e] at q ⊢; exact sgR_one 42 r q (by decide)
  | 20, _, hn, h => by obtain ⟨r, e⟩ := hp_iff.1 h; have q := pair_no (fun j hj => hn j (by omega)); rw [← e] at q ⊢; exact sgR_one 47 r q (by decide)
  | k + 21, h, _, _ => by omega
/-- The row of signs lies in block b. -/
def SC (W : World) (b : Nat) : Prop := Hid (∀ k, k < 21 → W.cell? ⟨b, k, none⟩ = some (.string (sgk k)))
theorem SC.out {W : World} {b : Nat} (h : SC W b) : ∀ k, k < 21 → W.cell? ⟨b, k, none⟩ = some (.string (sgk k)) := Hid.out h
theorem SC.same {W W' : World} {b : Nat} (h : SC W b) (k : Same W W') : SC W' b := hid_as (fun i hi => by rw [← h.out i hi]; simp [World.cell?, k.heap])
theorem SC.set {W : World} {b g : Nat} (h : SC W b) (hg : ¬ b = g) (v : Int) : SC ((W.setCell ⟨g, 1, none⟩ (.int .i64 v)).drew) b := hid_as (fun i hi => by
  rw [show ((W.setCell ⟨g, 1, none⟩ (.int .i64 v)).drew).cell? ⟨b, i, none⟩ = (W.setCell ⟨g, 1, none⟩ (.int .i64 v)).cell? ⟨b, i, none⟩ from rfl, World.cell?_setCell_other _ _ _ _ (fun e => by injection e with e1; exact hg e1.symm)]
  exact h.out i hi)
theorem TS.move {w W : World} {g bt br a : Nat} {s u : ByteArray} {x y n v : Int} (h : TS w W g s bt br a x y n u v) (z : Nat) : TS w ((W.setCell ⟨g, 1, none⟩ (.int .i64 ((a : Int) + (z : Nat)))).drew) g s bt br (a + z) x y n u v := by
  have h1 := h.gt
  have h2 := h.ht
  have h3 := h.hr
  have q := h.sc.set (a + z)
  rw [show ((a + z : Nat) : Int) = (a : Int) + (z : Nat) by omega] at q
  have k : TS w (W.setCell ⟨g, 1, none⟩ (.int .i64 ((a : Int) + (z : Nat)))) g s bt br (a + z) x y n u v := ⟨q, h.t.far (by omega) _ _, h.r.far (by omega) _ _, h.tu.set 1 _, h1, h2, h3⟩
  exact k.turn (Turn.same (Same.drew _)) (k.sc.same (Same.drew _))
theorem Sc.drew {W : World} {g : Nat} {s : ByteArray} {a : Nat} (h : Sc W g s a) : Sc W.drew g s a := h.same (Same.drew _)
theorem sc_new (w : World) : SC (w.alloc (.cells scells 9)) w.heap.size := hid_as (fun k hk => by
  rw [World.cell?_alloc_at _ _ _ _ rfl]
  exact scells_at k hk)
set_option maxHeartbeats 4000000 in
set_option maxRecDepth 100000 in
theorem tokS (s : ByteArray) (g a : Nat) (w : World) (h : Sc w g s a) (ha : a < s.size) (hs : s.size ≤ 65536) (hl : isL (chr s a) = false) (hd : dgt (chr s a) = false) (g37 : (((chr s a).toNat : Int) == 37) = false) : Calls Tryd.prog 35 #[.pointer (some ⟨g, 0, none⟩)] w fun e w' => RT g s a a (okR (sgR (s.data.toList.drop a))) w e w' := by
  have C0 : Hid (∀ V, Sc V g s a → Calls Tryd.prog 34 #[.pointer (some ⟨g, 0, none⟩), .int .i64 0] V fun e w' => e = .returned (.int .u8 (chr s a).toNat) ∧ Same V w') := fun V q => c_r s g a 0 V q (by omega) (by omega)
  have L : Hid (∀ V, Calls Tryd.prog 51 #[.int .u8 (chr s a).toNat] V fun e w' => e = .returned (.bool false) ∧ w' = V) := fun V => by have q := rletter_c (chr s a) V; rw [hl] at q; exact q
  have DG : Hid (∀ V, Calls Tryd.prog 52 #[.int .u8 (chr s a).toNat] V fun e w' => e = .returned (.bool false) ∧ w' = V) := fun V => by have q := rdigit_c (chr s a) V; rw [hd] at q; exact q
  have hgl := h.lt
  have f0 := h.c0
  have f1 := h.c1
  have ff := h.fr
  have hX := hid_as (ts_token h)
  have hcs := hid_as (chr_drop ha)
  clear hl hd
  generalize (chr s a).toNat = cc at *
  generalize hR : okR (sgR (s.data.toList.drop a)) = R at *
  replace hR := hid_as hR
  go_enter Tryd.func35, Tryd.ntmps35
  go_wp2_with (first
    | (go_at_call 34; (with_reducible refine (C0.out _ hX.out.sc).mono ?_); rintro e w4 ⟨rfl, k_⟩; replace hX := hid_as (hX.out.turn (Turn.same k_) (hX.out.sc.same k_)); clear k_; have d0 := hX.out.sc.c0; have d1 := hX.out.sc.c1; have df := hX.out.sc.fr)
    | (go_at_call 51; (with_reducible refine (L.out _).mono ?_); rintro e w' ⟨rfl, hw⟩; subst w')
    | (go_at_call 52; (with_reducible refine (DG.out _).mono ?_); rintro e w' ⟨rfl, hw⟩; subst w'))
  have hS0 := hid_as (hX.out.below (below_new1 w4 (.cells scells 9)))
  have hC0 : SC (w4.alloc (.cells scells 9)) w4.heap.size := sc_new w4
  unfold scells at hS0 hC0
  have hgg : ¬ w4.heap.size = g := by have := hX.out.tu.size; omega
  have hgt : ¬ w4.heap.size = w.heap.size + 1 := by have := hX.out.t.lt; omega
  have hgt2 : ¬ w.heap.size + 1 = w4.heap.size := by have := hX.out.t.lt; omega
  generalize hW1 : w4.alloc _ = W1 at *
  generalize hgb : w4.heap.size = gb at *
  clear hW1 hX d0 d1 df f0 f1 ff C0 L DG
  go_loopw [13] (fun v wr => ∃ i : Nat, i ≤ 21 ∧ v = .int .i64 i ∧ Hid (TS w wr g s (w.heap.size + 1) w.heap.size a 0 0 0 ⟨#[]⟩ (a : Nat)) ∧ Hid (∀ j, j < i → hp (s.data.toList.drop a) (sgk j).data.toList = false) ∧ SC wr gb) (fun v wr => 21 - (intOf v).toNat)
  case atStart => exact ⟨0, by omega, rfl, hS0, hid_as (fun j hj => by omega), hC0⟩
  case round =>
    obtain ⟨i, hi, rfl, hX, hn, hC⟩ := hrel
    by_cases hlt : i < 21
    · have hlt' : (i : Int) < 21 := by omega
      have hdk : decide ((21 : Int) ≤ i) = false := decide_eq_false (by omega)
      have q := hC.out i hlt
      have d0 := hX.out.sc.c0
      have d1 := hX.out.sc.c1
      have df := hX.out.sc.fr
      have hpi := hid_as (hp_piece s (sgk i) a (by omega))
      have hbs := sgk_size i
      cases hp' : hp (s.data.toList.drop a) (sgk i).data.toList with
      | false =>
        rw [hpi.out] at hp'
        have hn2 := hid_as (show hp (s.data.toList.drop a) (sgk i).data.toList = false by rw [hpi.out]; exact hp')
        by_cases hf : a + (sgk i).size ≤ s.size
        · have hf' : (a : Int) + (sgk i).size ≤ s.size := by omega
          have he : ((s.extract a (a + (sgk i).size)).toList == (sgk i).toList) = false := by rw [decide_eq_true hf] at hp'; simpa using hp'
          have x1 : (0 : Int) ≤ a := by omega
          have x2 : (a : Int) ≤ (a : Int) + (sgk i).size := by omega
          have x3 : ((a : Int) + (sgk i).size).toNat = a + (sgk i).size := by omega
          clear hp' hpi
          go_upto_region 41 with fail
          go_quiet (fail)
          go_wp2
          go_roundw
          case rel =>
            refine ⟨i + 1, by omega, by go_num, hid_as (hX.out.turn (Turn.same (by first | exact Same.drewN _ _ | exact Same.drew _)) (hX.out.sc.same (by first | exact Same.drewN _ _ | exact Same.drew _))), hid_as (fun j hj => ?_), hC.same (by first | exact Same.drewN _ _ | exact Same.drew _)⟩
            by_cases e : j = i
            · subst e; exact hn2.out
            · exact hn.out j (by omega)
          case measure => simp [intOf]; omega
        · have hf' : decide ((a : Int) + (sgk i).size ≤ s.size) = false := decide_eq_false (by omega)
          have hf2 : (s.size : Int) < (a : Int) + (sgk i).size := by omega
          clear hp' hpi hf
          go_upto_region 41 with fail
          go_quiet (fail)
          go_wp2
          go_roundw
          case rel =>
            refine ⟨i + 1, by omega, by go_num, hid_as (hX.out.turn (Turn.same (by first | exact Same.drewN _ _ | exact Same.drew _)) (hX.out.sc.same (by first | exact Same.drewN _ _ | exact Same.drew _))), hid_as (fun j hj => ?_), hC.same (by first | exact Same.drewN _ _ | exact Same.drew _)⟩
            by_cases e : j = i
            · subst e; exact hn2.out
            · exact hn.out j (by omega)
          case measure => simp [intOf]; omega
      | true =>
        have hRR := hid_as (hR.out.symm.trans (sgR_at i hlt hn.out hp'))
        rw [hpi.out, Bool.and_eq_true, decide_eq_true_eq] at hp'
        obtain ⟨hf, he⟩ := hp'
        have hf' : (a : Int) + (sgk i).size ≤ s.size := by omega
        have x1 : (0 : Int) ≤ a := by omega
        have x2 : (a : Int) ≤ (a : Int) + (sgk i).size := by omega
        have x3 : ((a : Int) + (sgk i).size).toNat = a + (sgk i).size := by omega
        clear hpi
        go_upto_region 41 with fail
        go_quiet (fail)
        replace hX := hid_as (hX.out.turn (Turn.same (Same.drewN wr nq)) (hX.out.sc.same (Same.drewN wr nq)))
        replace hC := hC.same (Same.drewN wr nq)
        generalize wr.drewN nq = w5 at *
        clear q d0 d1 df
        have q := hC.out i hlt
        have d1 := hX.out.sc.c1
        have df := hX.out.sc.fr
        obtain ⟨_, ⟨q0, q1, q2, q3, q4, qf, ql⟩, ⟨r0, r1, r2, r3, r4, rf, rl⟩, _, _, _, _⟩ := hX.out
        go_wp2
        go_region
        replace hX := hid_as (hX.out.move (sgk i).size)
        replace hC := hC.set hgg ((a : Int) + (sgk i).size)
        generalize (w5.setCell ⟨g, 1, none⟩ (.int .i64 ((a : Int) + (sgk i).size))).drew = w6 at *
        clear q d1 df
        have q := hC.out i hlt
        clear q0 q1 q2 q3 q4 qf ql r0 r1 r2 r3 r4 rf rl
        obtain ⟨_, ⟨q0, q1, q2, q3, q4, qf, ql⟩, ⟨r0, r1, r2, r3, r4, rf, rl⟩, _, _, _, _⟩ := hX.out
        go_wp2
        go_region
        go_wp2
        have hTu := hX.out.tu
        have hSc := hX.out.sc
        rw [hRR.out]
        exact bodyPost_ret (v := .tuple #[tv ⟨6, 0, 0, sgl.getD i []⟩ a, .int .i64 0]) (by simp [results, Tryd.results35, go_sem, tv, sgk, r0, r1, r2, r3, r4]) rfl (rt_some (by repeat (first | (with_reducible exact hTu) | (with_reducible refine Turn.drew ?_) | refine Turn.far ?_ (by omega) _ _)) (by repeat (first | (with_reducible exact hSc) | (with_reducible refine Sc.drew ?_) | refine Sc.far ?_ (by omega) _ _)))
    · obtain rfl : i = 21 := by omega
      have hRR : Hid (R = none) := by
        rw [← hR.out, hcs.out]
        exact hid_as (sgR_no (fun j hj => by rw [← hcs.out]; exact hn.out j hj))
      obtain ⟨_, ⟨q0, q1, q2, q3, q4, qf, ql⟩, ⟨r0, r1, r2, r3, r4, rf, rl⟩, _, _, _, _⟩ := hX.out
      go_wp2
      subst_vars
      have hTu := hX.out.tu
      rw [hRR.out]
      exact bodyPost_ret (v := .tuple #[.agg #[.int .i64 0, .int .i64 0, .int .i64 0, .string ⟨#[]⟩, .int .i64 a], .int .i64 120]) (by simp [results, Tryd.results35, go_sem, r0, r1, r2, r3, r4]) rfl (rt_none (by decide) (by repeat (first | (with_reducible exact hTu) | refine Turn.far ?_ (by omega) _ _)))
end Go.Proofs.YtnponognncdkcaaDoor
