/- The reader's small methods (stage 13). -/
import Derived.Test.YtgdoanhemgklpaaGreatDoorV2
import Derived.Deep.QuietTactic
namespace Go.Proofs.YtgdoanhemgklpaaGreatDoor
open Go.RowKit
open Adr Lx Sx
theorem fd0 (a b c d e : Value) (w : World) : (Instr.field 50 (.agg #[a, b, c, d, e]) 0).run Tryz.prog w = .ok a w := by kernel_rfl
theorem fd1 (a b c d e : Value) (w : World) : (Instr.field 50 (.agg #[a, b, c, d, e]) 1).run Tryz.prog w = .ok b w := by kernel_rfl
theorem fd2 (a b c d e : Value) (w : World) : (Instr.field 50 (.agg #[a, b, c, d, e]) 2).run Tryz.prog w = .ok c w := by kernel_rfl
theorem fd3 (a b c d e : Value) (w : World) : (Instr.field 50 (.agg #[a, b, c, d, e]) 3).run Tryz.prog w = .ok d w := by kernel_rfl
theorem fd4 (a b c d e : Value) (w : World) : (Instr.field 50 (.agg #[a, b, c, d, e]) 4).run Tryz.prog w = .ok e w := by kernel_rfl
set_option maxHeartbeats 2000000 in
theorem now_c {w : World} {rb tb cap : Nat} {T : TL} {i : Nat} (h : Rd w rb tb cap T i) : Calls Tryz.prog 52 #[.pointer (some ⟨rb, 0, none⟩)] w fun e w' => e = .returned (tv (cu T i).1 (cu T i).2) ∧ Below w.heap.size w w' := by
  have h1 := hid_as (h.alloc (.cells #[.int .i64 0, .int .i64 0, .int .i64 0, .string ⟨#[]⟩, .int .i64 0] 50))
  obtain ⟨k0, k1, k2, k3, k4⟩ := cell_tk h1.out.laid h.ir
  have r0 := h1.out.own.cell 0
  have r1 := h1.out.own.cell 1
  simp only [List.getElem?_toArray, List.getElem?_cons_zero, List.getElem?_cons_succ] at r0 r1
  have q1 : (0 : Int) ≤ i := by omega
  have q2 : (i : Int) < T.length := by have := h.ir; omega
  generalize (cu T i).2 = pl at *
  generalize (cu T i).1 = tk at *
  obtain ⟨ta, tk, tn, tt⟩ := tk
  simp only at k0 k1 k2 k3 k4
  go_enter Tryz.func52, Tryz.ntmps52
  go_wp2
  go_region
  go_wp2
  exact bodyPost_ret (v := tv ⟨ta, tk, tn, tt⟩ pl) (by simp [results, Tryz.results52, go_sem, tv]) rfl ⟨rfl, (below_new1 w _).drew⟩
set_option maxRecDepth 100000 in
theorem is_c {w : World} {rb tb cap : Nat} {T : TL} {i : Nat} (h : Rd w rb tb cap T i) (s : ByteArray) : Calls Tryz.prog 57 #[.pointer (some ⟨rb, 0, none⟩), .string s] w fun e w' => e = .returned (.bool (isT T s.data.toList i)) ∧ Below w.heap.size w w' := by
  have C := hid_as (fun W (H : Rd W rb tb cap T i) => now_c H)
  have e1 : isT T s.data.toList i = ((tx (cu T i).1.text).toList == s.toList) := by rw [tx_toList, Lib.toList_data]; rfl
  rw [e1]
  clear e1
  unfold tv at C
  generalize (cu T i).2 = pl at *
  generalize (cu T i).1 = tk at *
  obtain ⟨ta, tk, tn, tt⟩ := tk
  simp only at C ⊢
  have F3 := fd3
  go_enter Tryz.func57, Tryz.ntmps57
  go_wp2_with (go_at_call 52; (with_reducible refine (C.out _ h).mono ?_); rintro e w1 ⟨rfl, b1⟩)
  go_ret
  exact ⟨rfl, b1⟩
set_option maxRecDepth 100000 in
theorem refuse_c {w : World} {rb tb cap : Nat} {T : TL} {i : Nat} (h : Rd w rb tb cap T i) (n : Nat) : Calls Tryz.prog 53 #[.pointer (some ⟨rb, 0, none⟩), .int .i64 n] w fun e w' => e = .panicked (pan T n i) ∧ Below w.heap.size w w' := by
  have C := hid_as (fun W (H : Rd W rb tb cap T i) => now_c H)
  unfold tv at C
  unfold pan ca
  generalize (cu T i).2 = pl at *
  generalize (cu T i).1 = tk at *
  obtain ⟨ta, tk, tn, tt⟩ := tk
  simp only at C
  have F4 := fd4
  go_enter Tryz.func53, Tryz.ntmps53
  go_wp2_with (go_at_call 52; (with_reducible refine (C.out _ h).mono ?_); rintro e w1 ⟨rfl, b1⟩)
  exact ⟨rfl, rfl, b1⟩
theorem refuse_130 {w : World} {rb tb cap : Nat} {T : TL} {i : Nat} (h : Rd w rb tb cap T i) : Calls Tryz.prog 53 #[.pointer (some ⟨rb, 0, none⟩), .int .i64 130] w fun e w' => e = .panicked (pan T 130 i) ∧ Below w.heap.size w w' := refuse_c h 130
theorem refuse_131 {w : World} {rb tb cap : Nat} {T : TL} {i : Nat} (h : Rd w rb tb cap T i) : Calls Tryz.prog 53 #[.pointer (some ⟨rb, 0, none⟩), .int .i64 131] w fun e w' => e = .panicked (pan T 131 i) ∧ Below w.heap.size w w' := refuse_c h 131
theorem Wf.more {T : TL} {i : Nat} (h : Wf T) (hi : i < T.length) (hn : ¬ (cu T i).1 = nul) : i + 1 < T.length := (h.2 i hi).resolve_right hn
theorem ct_more {T : TL} {s : List UInt8} {i : Nat} (h : isT T s i = true) (hs : s ≠ []) : ¬ (cu T i).1 = nul := by
  intro e
  unfold isT ct at h
  rw [e] at h
  exact hs (eq_of_beq h).symm
theorem ck_more {T : TL} {t i : Nat} (h : ck T i = t) (hs : t ≠ 0) : ¬ (cu T i).1 = nul := by
  intro e
  unfold ck at h
  rw [e] at h
  exact hs h.symm
set_option maxHeartbeats 2000000 in
theorem take_c {w : World} {rb tb cap : Nat} {T : TL} {i : Nat} (h : Rd w rb tb cap T i) (hn : ¬ (cu T i).1 = nul) : Calls Tryz.prog 58 #[.pointer (some ⟨rb, 0, none⟩)] w fun e w' => e = .returned (tv (cu T i).1 (cu T i).2) ∧ Kp rb w w' ∧ Rd w' rb tb cap T (i + 1) := by
  have hi := h.wf.more h.ir hn
  have h1 := hid_as (h.alloc (.cells #[.int .i64 0, .int .i64 0, .int .i64 0, .string ⟨#[]⟩, .int .i64 0] 50))
  have B1 := hid_as (Bk.fresh w #[.int .i64 0, .int .i64 0, .int .i64 0, .string ⟨#[]⟩, .int .i64 0] 50)
  have C := hid_as (fun W (H : Rd W rb tb cap T i) => now_c H)
  have hrl := h.rlt
  have q5 : i ≤ 1000000 := by have := h.wf.1; omega
  unfold tv at C
  generalize (cu T i).2 = pl at *
  generalize (cu T i).1 = tk at *
  obtain ⟨ta, tk, tn, tt⟩ := tk
  simp only at C
  go_enter Tryz.func58, Tryz.ntmps58
  go_wp2_with (go_at_call 52; (with_reducible refine (C.out _ h1.out).mono ?_); rintro e w1 ⟨rfl, b1⟩; have R1 := hid_as (h1.out.below b1); have R2 := hid_as (B1.out.below b1); have r1 := R1.out.own.cell 1; simp only [List.getElem?_toArray, List.getElem?_cons_zero, List.getElem?_cons_succ] at r1; have f1 := R1.out.own.fr 1; have s0 := R2.out.cell 0; have s1 := R2.out.cell 1; have s2 := R2.out.cell 2; have s3 := R2.out.cell 3; have s4 := R2.out.cell 4; simp only [List.getElem?_toArray, List.getElem?_cons_zero, List.getElem?_cons_succ] at s0 s1 s2 s3 s4; have sf := R2.out.fr; have rl := R1.out.rlt; have gl := R2.out.lt)
  have z1 := b1.size
  rw [World.size_alloc] at z1
  have FB := ((R2.out.other (b := rb) 1 (.int .i64 ((i : Int) + 1)) (by omega)).put5 (.int .i64 ta) (.int .i64 tk) (.int .i64 tn) (.string (tx tt)) (.int .i64 pl)).alloc (.cells #[.int .i64 ta, .int .i64 tk, .int .i64 tn, .string (tx tt), .int .i64 pl] 50)
  have c0 := FB.cell 0
  have c1 := FB.cell 1
  have c2 := FB.cell 2
  have c3 := FB.cell 3
  have c4 := FB.cell 4
  simp only [List.getElem?_toArray, List.getElem?_cons_zero, List.getElem?_cons_succ] at c0 c1 c2 c3 c4
  refine bodyPost_ret (v := tv ⟨ta, tk, tn, tt⟩ pl) (by simp [results, Tryz.results58, go_sem, tv, c0, c1, c2, c3, c4]) rfl ⟨rfl, ?_, ?_⟩
  · exact (((((Kp.refl rb w).alloc _).below b1).put _ _).put5 (Nat.le_refl _) _ _ _ _ _).alloc _
  · exact ((R1.out.step1 hi).put5 (by omega) (by have := h.lt; omega) _ _ _ _ _).alloc _
/-- What a function of the reader's does, whatever the world, wherever the reader is. -/
def Cn {α : Type} (f : FuncId) (rest : Array Value) (rb tb cap : Nat) (T : TL) (m : Nat → Re α) (Q : World → α → Value → World → Prop) : Prop :=
  ∀ W i, Rd W rb tb cap T i → Calls Tryz.prog f (#[.pointer (some ⟨rb, 0, none⟩)] ++ rest) W fun e w' => Outc rb tb cap T i W (m i) (Q W) e w'
def qU : World → Unit → Value → World → Prop := fun _ _ v _ => v = .tuple #[]
def qT : World → Tk × Nat → Value → World → Prop := fun _ a v _ => v = tv a.1 a.2
theorem th_go {α β : Type} {M : Re β} {p : Re α} {f : α → Nat → Re β} {a : α} {k : Nat} (hM : M = th p f) (hp : p = ok a k) : M = f a k := by rw [hM, hp]; rfl
theorem th_no {α β : Type} {M : Re β} {p : Re α} {f : α → Nat → Re β} {n k : Nat} (hM : M = th p f) (hp : p = no n k) : M = no n k := by rw [hM, hp]; rfl
theorem th_th {α β γ : Type} (p : Re α) (f : α → Nat → Re β) (g : β → Nat → Re γ) : th (th p f) g = th p fun a k => th (f a k) g := by
  obtain ⟨v, k, e⟩ := p
  cases v <;> rfl
theorem rp_yes {α β : Type} {M : Re β} {g : Nat → Bool} {b : α → Nat → Re α} {f : Nat} {a : α} {k : Nat} {r : α → Nat → Re β} (hM : M = th (rp g b (f + 1) a k) r) (hg : g k = true) : M = th (b a k) fun a m => th (rp g b f a m) r := by
  rw [hM, rp, if_pos hg, th_th]
theorem rp_not {α β : Type} {M : Re β} {g : Nat → Bool} {b : α → Nat → Re α} {f : Nat} {a : α} {k : Nat} {r : α → Nat → Re β} (hM : M = th (rp g b (f + 1) a k) r) (hg : g k = false) : M = r a k := by
  rw [hM, rp, hg]; rfl
theorem Outc.stop0 {α : Type} {rb tb cap : Nat} {T : TL} {i : Nat} {w w1 : World} {M p : Re α} {Q : α → Value → World → Prop} {n k : Nat} (hM : M = p) (hp : p = no n k) (hk : Kp rb w w1) : Outc rb tb cap T i w M Q (.panicked (pan T n k)) w1 := ⟨hk, Or.inr ⟨n, k, hM.trans hp, rfl⟩⟩
theorem Outc.stop {α β : Type} {rb tb cap : Nat} {T : TL} {i : Nat} {w w1 : World} {M : Re β} {p : Re α} {f : α → Nat → Re β} {Q : β → Value → World → Prop} {n k : Nat} (hM : M = th p f) (hp : p = no n k) (hk : Kp rb w w1) : Outc rb tb cap T i w M Q (.panicked (pan T n k)) w1 := ⟨hk, Or.inr ⟨n, k, th_no hM hp, rfl⟩⟩
theorem bodyPost_panic {P : Program} {fn : Func} {R : Ending → World → Prop} {ch : List PanicEntry} {a : Act} {w : World} (hd : a.defers = []) (h : R (.panicked ch) w) : bodyPost P fn R (.panic ch) a w := ⟨hd, h⟩
theorem kp_of_below {rb : Nat} {w w' : World} (h : Below w.heap.size w w') : Kp rb w w' := (Kp.refl rb w).below h
theorem Kp.of {rb : Nat} {w w' : World} (h : Below w.heap.size w w') : Kp rb w w' := (Kp.refl rb w).below h
set_option maxHeartbeats 2000000 in
set_option maxRecDepth 100000 in
theorem accept_y {w : World} {rb tb cap : Nat} {T : TL} {i : Nat} (h : Rd w rb tb cap T i) (s : ByteArray) (hs : isT T s.data.toList i = true) (h0 : s.data.toList ≠ []) : Calls Tryz.prog 34 #[.pointer (some ⟨rb, 0, none⟩), .string s] w fun e w' => e = .returned (.bool true) ∧ Kp rb w w' ∧ Rd w' rb tb cap T (i + 1) := by
  have C := hid_as (fun W (H : Rd W rb tb cap T i) => is_c H s)
  rw [hs] at C
  have D := hid_as (fun W (H : Rd W rb tb cap T i) => take_c H (ct_more hs h0))
  unfold tv at D
  have H := hid_as h
  clear hs h h0
  go_enter Tryz.func34, Tryz.ntmps34
  go_wp2_with (first
    | (go_at_call 57; (with_reducible refine (C.out _ H.out).mono ?_); rintro e w1 ⟨rfl, b1⟩; have R1 := hid_as (H.out.below b1); have K1 := hid_as (Kp.of (rb := rb) b1); clear b1)
    | (go_at_call 58; (with_reducible refine (D.out _ R1.out).mono ?_); rintro e w2 ⟨rfl, k2, R2⟩))
  go_ret
  exact ⟨rfl, K1.out.trans k2, R2⟩
set_option maxRecDepth 100000 in
theorem accept_n {w : World} {rb tb cap : Nat} {T : TL} {i : Nat} (h : Rd w rb tb cap T i) (s : ByteArray) (hs : isT T s.data.toList i = false) : Calls Tryz.prog 34 #[.pointer (some ⟨rb, 0, none⟩), .string s] w fun e w' => e = .returned (.bool false) ∧ Below w.heap.size w w' := by
  have C := hid_as (fun W (H : Rd W rb tb cap T i) => is_c H s)
  rw [hs] at C
  have H := hid_as h
  clear hs h
  go_enter Tryz.func34, Tryz.ntmps34
  go_wp2_with (go_at_call 57; (with_reducible refine (C.out _ H.out).mono ?_); rintro e w1 ⟨rfl, b1⟩; have B1 := hid_as b1; clear b1)
  go_ret
  exact ⟨rfl, B1.out⟩
set_option maxRecDepth 100000 in
theorem expect_c {rb tb cap : Nat} {T : TL} (s : ByteArray) (h0 : s.data.toList ≠ []) : Cn 36 #[.string s] rb tb cap T (xp T s.data.toList) qU := by
  intro w i h
  show Calls Tryz.prog 36 #[.pointer (some ⟨rb, 0, none⟩), .string s] w _
  cases hs : isT T s.data.toList i with
  | true =>
    have em : xp T s.data.toList i = ok () (i + 1) := by unfold xp; rw [if_pos hs]
    have C := hid_as (fun W (H : Rd W rb tb cap T i) => accept_y H s hs h0)
    have H := hid_as h
    rw [em]
    clear hs h em h0
    go_enter Tryz.func36, Tryz.ntmps36
    go_wp2_with (go_at_call 34; (with_reducible refine (C.out _ H.out).mono ?_); rintro e w1 ⟨rfl, k1, R1⟩)
    go_end0
    exact ⟨k1, Or.inl ⟨(), i + 1, _, rfl, rfl, rfl, R1, Nat.le_succ _⟩⟩
  | false =>
    have em : xp T s.data.toList i = no 130 i := by unfold xp; rw [hs]; rfl
    have C := hid_as (fun W (H : Rd W rb tb cap T i) => accept_n H s hs)
    have D := hid_as (fun W (H : Rd W rb tb cap T i) => refuse_130 H)
    have H := hid_as h
    rw [em]
    clear hs h em h0
    go_enter Tryz.func36, Tryz.ntmps36
    go_wp2_with (first
      | (go_at_call 34; (with_reducible refine (C.out _ H.out).mono ?_); rintro e w1 ⟨rfl, b1⟩; have R1 := hid_as (H.out.below b1); have K1 := hid_as (Kp.of (rb := rb) b1); clear b1)
      | (go_at_call 53; (with_reducible refine (D.out _ R1.out).mono ?_); rintro e w2 ⟨rfl, b2⟩))
    exact ⟨rfl, K1.out.below b2, Or.inr ⟨130, i, rfl, rfl⟩⟩
set_option maxHeartbeats 2000000 in
set_option maxRecDepth 100000 in
theorem takeOf_c {rb tb cap : Nat} {T : TL} (t : Nat) (h0 : t ≠ 0) : Cn 60 #[.int .i64 t] rb tb cap T (tof T t) qT := by
  intro w i h
  show Calls Tryz.prog 60 #[.pointer (some ⟨rb, 0, none⟩), .int .i64 t] w _
  have N0 := hid_as (fun W (H : Rd W rb tb cap T i) => now_c H)
  have F0 := fd0
  have B1 := hid_as (Bk.fresh w #[.int .i64 0, .int .i64 0, .int .i64 0, .string ⟨#[]⟩, .int .i64 0] 50)
  have K0 := hid_as ((Kp.refl rb w).alloc (.cells #[.int .i64 0, .int .i64 0, .int .i64 0, .string ⟨#[]⟩, .int .i64 0] 50))
  have H := hid_as (h.alloc (.cells #[.int .i64 0, .int .i64 0, .int .i64 0, .string ⟨#[]⟩, .int .i64 0] 50))
  have hrl := h.rlt
  have htl := h.lt
  by_cases hs : ck T i = t
  · have em : tof T t i = ok (cu T i) (i + 1) := by unfold tof; rw [if_pos hs]
    have D := hid_as (fun W (H : Rd W rb tb cap T i) => take_c H (ck_more hs h0))
    have hs' : ((cu T i).1.tok : Int) = t := by unfold ck at hs; omega
    rw [em]
    unfold tv at D N0
    clear em h hs h0
    generalize hcu : cu T i = c at *
    obtain ⟨⟨ta, tk, tn, tt⟩, pl⟩ := c
    simp only at D N0 hs'
    obtain rfl : ta = t := by omega
    clear hs'
    go_enter Tryz.func60, Tryz.ntmps60
    go_wp2_with (first
      | (go_at_call 52; (with_reducible refine (N0.out _ H.out).mono ?_); rintro e w1 ⟨rfl, b1⟩; have R1 := hid_as (H.out.below b1); have K1 := hid_as (K0.out.below b1); have B2 := hid_as (B1.out.below b1); clear b1)
      | (go_at_call 58; (with_reducible refine (D.out _ R1.out).mono ?_); rintro e w2 ⟨rfl, k2, R2⟩; have K2 := hid_as (K1.out.trans k2); have B3 := hid_as (B2.out.kp k2 (by omega)); have s0 := B3.out.cell 0; have s1 := B3.out.cell 1; have s2 := B3.out.cell 2; have s3 := B3.out.cell 3; have s4 := B3.out.cell 4; simp only [List.getElem?_toArray, List.getElem?_cons_zero, List.getElem?_cons_succ] at s0 s1 s2 s3 s4; have sf := B3.out.fr))
    exact bodyPost_ret (v := tv ⟨ta, tk, tn, tt⟩ pl) (by simp [results, Tryz.results60, go_sem, tv, s0, s1, s2, s3, s4]) rfl ⟨K2.out.put5 (Nat.le_refl _) _ _ _ _ _, Or.inl ⟨_, _, _, rfl, rfl, rfl, R2.put5 (by omega) (by omega) _ _ _ _ _, Nat.le_succ _⟩⟩
  · have em : tof T t i = no 130 i := by unfold tof; rw [if_neg hs]
    have D := hid_as (fun W (H : Rd W rb tb cap T i) => refuse_130 H)
    have hs' : ¬ ((cu T i).1.tok : Int) = t := by unfold ck at hs; omega
    rw [em]
    unfold tv at N0
    clear em h hs h0
    generalize cu T i = c at *
    obtain ⟨⟨ta, tk, tn, tt⟩, pl⟩ := c
    simp only at N0 hs'
    go_enter Tryz.func60, Tryz.ntmps60
    go_wp2_with (first
      | (go_at_call 52; (with_reducible refine (N0.out _ H.out).mono ?_); rintro e w1 ⟨rfl, b1⟩; have R1 := hid_as (H.out.below b1); have K1 := hid_as (K0.out.below b1); clear b1)
      | (go_at_call 53; (with_reducible refine (D.out _ R1.out).mono ?_); rintro e w2 ⟨rfl, b2⟩))
    exact ⟨rfl, K1.out.below b2, Or.inr ⟨130, i, rfl, rfl⟩⟩
set_option maxHeartbeats 2000000 in
set_option maxRecDepth 100000 in
theorem name_c {rb tb cap : Nat} {T : TL} : Cn 37 #[] rb tb cap T (tof T 2) qT := by
  intro w i h
  show Calls Tryz.prog 37 #[.pointer (some ⟨rb, 0, none⟩)] w _
  have C : Hid (∀ W i, Rd W rb tb cap T i → Calls Tryz.prog 60 #[.pointer (some ⟨rb, 0, none⟩), .int .i64 2] W fun e w' => Outc rb tb cap T i W (tof T 2 i) (qT W) e w') := takeOf_c 2 (by decide)
  have B1 := hid_as (Bk.fresh w #[.int .i64 0, .int .i64 0, .int .i64 0, .string ⟨#[]⟩, .int .i64 0] 50)
  have K0 := hid_as ((Kp.refl rb w).alloc (.cells #[.int .i64 0, .int .i64 0, .int .i64 0, .string ⟨#[]⟩, .int .i64 0] 50))
  have H := hid_as (h.alloc (.cells #[.int .i64 0, .int .i64 0, .int .i64 0, .string ⟨#[]⟩, .int .i64 0] 50))
  have hrl := h.rlt
  have htl := h.lt
  clear h
  generalize hM : tof T 2 i = M at *
  have M0 := hid_as hM.symm
  clear hM
  go_enter Tryz.func37, Tryz.ntmps37
  go_wp2_with (go_at_call 60; (with_reducible refine (C.out _ _ H.out).mono ?_); rintro e w1 ⟨k1, ⟨⟨⟨ta, tk, tn, tt⟩, pl⟩, i1, _, m1, rfl, rfl, R1, l1⟩ | ⟨n1, i1, m1, rfl⟩⟩; rotate_left; exact bodyPost_panic rfl (Outc.stop0 M0.out m1 (K0.out.trans k1)); have K1 := hid_as (K0.out.trans k1); have B2 := hid_as (B1.out.kp k1 (by omega)); clear k1; have s0 := B2.out.cell 0; have s1 := B2.out.cell 1; have s2 := B2.out.cell 2; have s3 := B2.out.cell 3; have s4 := B2.out.cell 4; simp only [List.getElem?_toArray, List.getElem?_cons_zero, List.getElem?_cons_succ] at s0 s1 s2 s3 s4; have sf := B2.out.fr; unfold tv)
  exact bodyPost_ret (v := tv ⟨ta, tk, tn, tt⟩ pl) (by simp [results, Tryz.results37, go_sem, tv, s0, s1, s2, s3, s4]) rfl ⟨K1.out.put5 (Nat.le_refl _) _ _ _ _ _, Or.inl ⟨_, _, _, M0.out.trans m1, rfl, rfl, R1.put5 (by omega) (by omega) _ _ _ _ _, l1⟩⟩
end Go.Proofs.YtgdoanhemgklpaaGreatDoor
