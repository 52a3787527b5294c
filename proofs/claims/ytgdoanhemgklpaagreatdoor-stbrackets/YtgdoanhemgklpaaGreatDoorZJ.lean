/- The law of brackets, whole (stage 13). -/
import Derived.Test.YtgdoanhemgklpaaGreatDoorZI
namespace Go.Proofs.YtgdoanhemgklpaaGreatDoor
open Go.RowKit
open Adr Lx Sx
theorem onl_some {T : TL} {t : Tr} (h : (onl T).v = some t) : onl T = ok t (onl T).k := by
  unfold onl at h ⊢
  cases hv : (xpr T 32 0).v with
  | none => rw [th_none hv] at h; cases h
  | some a =>
    rw [th_some hv] at h ⊢
    unfold endT at h ⊢
    by_cases q : ck T (xpr T 32 0).k = 0
    · rw [if_pos q] at h ⊢
      cases h
      rfl
    · rw [if_neg q] at h; cases h
theorem onl_none2 {T : TL} (h : (onl T).v = none) : onl T = no (onl T).e (onl T).k := by
  generalize onl T = r at *
  obtain ⟨v, k, e⟩ := r
  cases h
  rfl
theorem sz_br {t t' : Tr} (h : Sz t) (e : br t' = br t) : Sz t' := by
  intro q nd hq
  have e1 : (t' q).map sp = (t q).map sp := congrFun e q
  rw [hq] at e1
  cases hx : t q with
  | none => rw [hx] at e1; cases e1
  | some y =>
    rw [hx] at e1
    have e2 : sp nd = sp y := Option.some.inj e1
    have e3 : nd.ar = y.ar := congrArg (fun z => z.ar) e2
    rw [e3]
    exact h q y hx
/-- Expr of a text of which it is known what it comes to. -/
theorem c_no {s : ByteArray} {T : TL} {n k : Nat} (hs : s.size ≤ 900000) (ht : toks s.data.toList false = (T, none)) (hM : onl T = no n k) : Hid (∀ W, Tabs W → Calls Tryz.prog 7 #[.string s] W fun e w' => ∃ g, e = .returned (.tuple #[.agg #[.int .i64 0, .int .i64 0, .int .i64 0, .string ⟨#[]⟩, .string ⟨#[]⟩, .slice none 0 0, .int .i64 0], .iface 60 (.pointer (some ⟨g, 0, none⟩))]) ∧ W.heap.size ≤ g ∧ g < w'.heap.size ∧ (∃ a : Nat, w'.cell? ⟨g, 0, none⟩ = some (.int .i64 a)) ∧ w'.cell? ⟨g, 1, none⟩ = some (.int .i64 n) ∧ Below W.heap.size W w') := hid_as fun W hW => by
  refine (expr_no s W hW hs ht hM).mono ?_
  rintro e w' ⟨g, rfl, a1, a2, a3, a4, a5⟩
  exact ⟨g, rfl, a1, a2, ⟨_, a3⟩, a4, a5⟩
theorem c_lex {s : ByteArray} {a n : Nat} (hs : s.size ≤ 900000) (h : (toks s.data.toList false).2 = some (a, n)) : Hid (∀ W, Tabs W → Calls Tryz.prog 7 #[.string s] W fun e w' => ∃ g, e = .returned (.tuple #[.agg #[.int .i64 0, .int .i64 0, .int .i64 0, .string ⟨#[]⟩, .string ⟨#[]⟩, .slice none 0 0, .int .i64 0], .iface 60 (.pointer (some ⟨g, 0, none⟩))]) ∧ W.heap.size ≤ g ∧ g < w'.heap.size ∧ (∃ a : Nat, w'.cell? ⟨g, 0, none⟩ = some (.int .i64 a)) ∧ w'.cell? ⟨g, 1, none⟩ = some (.int .i64 n) ∧ Below W.heap.size W w') := hid_as fun W hW => by
  refine (expr_lex s W hW hs h).mono ?_
  rintro e w' ⟨g, rfl, a1, a2, a3, a4, a5⟩
  exact ⟨g, rfl, a1, a2, ⟨_, a3⟩, a4, a5⟩
theorem c_yes {s : ByteArray} {T : TL} {t : Tr} {k : Nat} (hs : s.size ≤ 900000) (ht : toks s.data.toList false = (T, none)) (hM : onl T = ok t k) : Hid (∀ W, Tabs W → Calls Tryz.prog 7 #[.string s] W fun e w' => ∃ (o1 k1 n1 : Int) (nm1 fl1 : ByteArray) (lp1 : Option Addr) (ln1 lc1 : Nat) (p1 : Int), e = .returned (.tuple #[.agg #[.int .i64 o1, .int .i64 k1, .int .i64 n1, .string nm1, .string fl1, .slice lp1 ln1 lc1, .int .i64 p1], .nilIface]) ∧ Et (fun x => W.heap.size ≤ x) w' (.agg #[.int .i64 o1, .int .i64 k1, .int .i64 n1, .string nm1, .string fl1, .slice lp1 ln1 lc1, .int .i64 p1]) t ∧ Below W.heap.size W w') := hid_as fun W hW => expr_yes s W hW hs ht hM
theorem brackets_w (s : ByteArray) (w : World) (hT : Tabs w) : Calls Tryz.prog 3 #[.string s] w fun e w' => e = .returned (.bool true) ∧ Below w.heap.size w w' := by
  by_cases h : 800 < s.size
  · exact br_long s w hT h
  · have hs : s.size ≤ 900000 := by omega
    have hl : s.data.toList.length ≤ 800 := by rw [← Lib.size_eq]; omega
    cases hb : (toks s.data.toList false).2 with
    | some q =>
      obtain ⟨a, n⟩ := q
      exact br_no s w hT h n (c_lex hs hb)
    | none =>
      obtain ⟨T, hTT⟩ : ∃ T, (toks s.data.toList false).1 = T := ⟨_, rfl⟩
      have ht : toks s.data.toList false = (T, none) := Prod.ext hTT hb
      clear hb hTT
      cases hv : (onl T).v with
      | none => exact br_no s w hT h _ (c_no hs ht (onl_none2 hv))
      | some t =>
        have hM := onl_some hv
        generalize (onl T).k = k at hM
        obtain ⟨G, g0, gl⟩ := toks_gt ht
        obtain ⟨hk, D, l, hP, hPl⟩ := onl_wr G g0 hM
        have hll : l.length ≤ 32000 := by omega
        have C := c_yes hs ht hM
        obtain ⟨T', t1, t2, t3, t4, t5⟩ := toks_brackets ht (by omega)
        have hck := (onl_in hM).2.2
        obtain ⟨t6, t7⟩ := t5 k hk hck
        have es : (⟨#[40, 32]⟩ ++ s ++ ⟨#[32, 41]⟩ : ByteArray).data.toList = [40, 32] ++ s.data.toList ++ [32, 41] := by
          have e := tx3 [40, 32] s.data.toList [32, 41]
          rw [tx_of s] at e
          have e2 : (⟨#[40, 32]⟩ ++ s ++ ⟨#[32, 41]⟩ : ByteArray) = tx ([40, 32] ++ s.data.toList ++ [32, 41]) := e
          rw [e2, tx_list]
        have hs2 : (⟨#[40, 32]⟩ ++ s ++ ⟨#[32, 41]⟩ : ByteArray).size ≤ 900000 := by rw [Lib.size_eq, es]; simp only [List.length_append, List.length_cons, List.length_nil]; omega
        rw [← es] at t1
        rcases onl_brackets hM t2 t3 t4 t6 t7 with ⟨e, he⟩ | ⟨t', m, e2, he⟩
        · exact br_deep s w hT h t C (c_no hs2 t1 he)
        · have C2 := c_yes hs2 t1 he
          obtain ⟨T'', u1, u2⟩ := onl_back hP (by omega)
          have et : (tx l).data.toList = l := tx_list l
          rw [← et] at u1
          have hs3 : (tx l).size ≤ 900000 := by rw [tx_size]; omega
          have PR : Hid (∀ W S (o1 k1 n1 : Int) (nm1 fl1 : ByteArray) (lp1 : Option Addr) (ln1 lc1 : Nat) (p1 : Int), Et S W (.agg #[.int .i64 o1, .int .i64 k1, .int .i64 n1, .string nm1, .string fl1, .slice lp1 ln1 lc1, .int .i64 p1]) t → Calls Tryz.prog 9 #[.agg #[.int .i64 o1, .int .i64 k1, .int .i64 n1, .string nm1, .string fl1, .slice lp1 ln1 lc1, .int .i64 p1]] W fun e w' => e = .returned (.string (tx l)) ∧ Below W.heap.size W w') := hid_as fun W S o1 k1 n1 nm1 fl1 lp1 ln1 lc1 p1 ⟨d, ea⟩ => print_c D S d W _ _ _ _ _ _ _ _ _ t l hP (by omega) ea
          rcases u2 with ⟨e, he3⟩ | ⟨t'', m3, e4, he3⟩
          · exact br_deep2 s w hT h t t' l C C2 PR (c_no hs3 u1 he3)
          · have hz := pr_sz D t l hP (by omega)
            have BC : Hid (∀ W S (o1 k1 n1 : Int) (nm1 fl1 : ByteArray) (lp1 : Option Addr) (ln1 lc1 : Nat) (p1 : Int) t, Sz t → Et S W (.agg #[.int .i64 o1, .int .i64 k1, .int .i64 n1, .string nm1, .string fl1, .slice lp1 ln1 lc1, .int .i64 p1]) t → Calls Tryz.prog 11 #[.agg #[.int .i64 o1, .int .i64 k1, .int .i64 n1, .string nm1, .string fl1, .slice lp1 ln1 lc1, .int .i64 p1]] W fun e w' => ∃ (o3 k3 n3 : Int) (nm3 fl3 : ByteArray) (lp3 : Option Addr) (ln3 lc3 : Nat) (p3 : Int), e = .returned (.agg #[.int .i64 o3, .int .i64 k3, .int .i64 n3, .string nm3, .string fl3, .slice lp3 ln3 lc3, .int .i64 p3]) ∧ Et (fun x => W.heap.size ≤ x) w' (.agg #[.int .i64 o3, .int .i64 k3, .int .i64 n3, .string nm3, .string fl3, .slice lp3 ln3 lc3, .int .i64 p3]) (br t) ∧ Below W.heap.size W w') := hid_as fun W S o1 k1 n1 nm1 fl1 lp1 ln1 lc1 p1 t hz ⟨d, ea⟩ => bare_c d S W _ _ _ _ _ _ _ _ _ t hz ea
            have EC : Hid (∀ W S S' (o1 k1 n1 : Int) (nm1 fl1 : ByteArray) (lp1 : Option Addr) (ln1 lc1 : Nat) (p1 : Int) (o3 k3 n3 : Int) (nm3 fl3 : ByteArray) (lp3 : Option Addr) (ln3 lc3 : Nat) (p3 : Int) u, Sz u → Et S W (.agg #[.int .i64 o1, .int .i64 k1, .int .i64 n1, .string nm1, .string fl1, .slice lp1 ln1 lc1, .int .i64 p1]) u → Et S' W (.agg #[.int .i64 o3, .int .i64 k3, .int .i64 n3, .string nm3, .string fl3, .slice lp3 ln3 lc3, .int .i64 p3]) u → Calls Tryz.prog 10 #[.agg #[.int .i64 o1, .int .i64 k1, .int .i64 n1, .string nm1, .string fl1, .slice lp1 ln1 lc1, .int .i64 p1], .agg #[.int .i64 o3, .int .i64 k3, .int .i64 n3, .string nm3, .string fl3, .slice lp3 ln3 lc3, .int .i64 p3]] W fun e w' => e = .returned (.bool true) ∧ Below W.heap.size W w') := hid_as fun W S S' o1 k1 n1 nm1 fl1 lp1 ln1 lc1 p1 o3 k3 n3 nm3 fl3 lp3 ln3 lc3 p3 u hz ⟨d, ea⟩ ⟨d', ea'⟩ => expr_eq d d' S S' W _ _ _ _ _ _ _ _ _ _ _ _ _ _ _ _ _ _ u hz ea ea'
            exact br_same s w hT h t t' t'' l C C2 PR (c_yes hs3 u1 he3) hz (sz_br hz e2) (sz_br hz e4) BC EC e2 e4
end Go.Proofs.YtgdoanhemgklpaaGreatDoor
