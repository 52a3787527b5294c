/- The reference's: appends as steps, limits. -/
import Derived.Test.YtehbbkdiekgpbaaHReq
import Derived.Test.YtehbbkdiekgpbaaSix
namespace Go.Proofs.Ytehbbkdiekgpbaa
open Go.RowKit
open Pdu
/-- One byte laid behind bytes, as a step of a region that draws. -/
theorem step_push {ops : Array Oper} {o : Oper} {a : Act} {Y : World} {K : Act → World → Prop} {Q : Exit → Act → World → Prop} {E : Prop}
    (hg : o.guard = none) (s x : Operand) (ho : o.op = .call { callee := .builtin .append, args := #[s, x], argTypes := #[29, 29] })
    (base : Nat) (v : Value) (bs : List Nat) (z : Nat) (zi : Int) (hz : zi = (z : Int)) (hs : a.eval s = v) (hx : a.eval x = .slice (some ⟨Y.heap.size, 0, none⟩) 1 1)
    (hown : Y.ownsRow base 5 1 v bs.length (u8s bs)) (hsz : bs.length ≤ 60000) (hbase : base ≤ Y.heap.size)
    (h : ∀ v' w', w'.ownsRow base 5 1 v' (bs ++ [z]).length (u8s (bs ++ [z])) → Below base Y w' → K (a.put o.dst v') w') :
    if Region.wanted o (yielded ops a.tmps) = true then Oper.wp Try.prog o a (Y.alloc (.cells #[.int .u8 zi] 5)).drew K Q else E := by
  obtain ⟨i0, hi, hz0, hz1, hz2⟩ := info_parts Try.infoByte
  refine step_append_own hg s x 29 ho base 5 i0 (.int .u8 0) 1 1 Try.underlying29 hi hz0 hz1 hz2 rfl (by decide) v bs.length _ hs (hown.alloc _).drew ⟨Y.heap.size, 0, none⟩ 1 1 [.int .u8 zi] hx rfl (one_cell Y _ _) (one_int _ _) (by unfold maxLen; omega) (by omega) (by simp; omega) ?_
  intro v' w' h1 h2 _
  refine h v' w' ?_ (own_grow hown hbase ⟨h2.os, h2.tape, h2.output, h2.size, h2.block⟩)
  rw [u8s_app, List.length_append]
  subst hz
  exact h1
/-- Bytes laid behind bytes, as a step of a region that draws. -/
theorem step_join {ops : Array Oper} {o : Oper} {a : Act} {Y : World} {K : Act → World → Prop} {Q : Exit → Act → World → Prop} {E : Prop}
    (hg : o.guard = none) (s x : Operand) (ho : o.op = .call { callee := .builtin .append, args := #[s, x], argTypes := #[29, 29] })
    (base : Nat) (v : Value) (bs ys : List Nat) (g m c : Nat) (hs : a.eval s = v) (hx : a.eval x = .slice (some ⟨g, 0, none⟩) m c) (hm : ys.length = m)
    (hown : Y.ownsRow base 5 1 v bs.length (u8s bs)) (hl : ∀ j u, (u8s ys)[j]? = some u → Y.cell? ((⟨g, 0, none⟩ : Addr).add j) = some u) (hsz : bs.length + ys.length ≤ 60000) (hbase : base ≤ Y.heap.size)
    (h : ∀ v' w', w'.ownsRow base 5 1 v' (bs ++ ys).length (u8s (bs ++ ys)) → Below base Y w' → K (a.put o.dst v') w') :
    if Region.wanted o (yielded ops a.tmps) = true then Oper.wp Try.prog o a Y K Q else E := by
  obtain ⟨i0, hi, hz0, hz1, hz2⟩ := info_parts Try.infoByte
  refine step_append_own hg s x 29 ho base 5 i0 (.int .u8 0) 1 1 Try.underlying29 hi hz0 hz1 hz2 rfl (by decide) v bs.length _ hs hown ⟨g, 0, none⟩ m c (u8s ys) hx (by rw [u8s_len, hm, Nat.mul_one]) hl (u8s_one _) (by unfold maxLen; omega) (by omega) hbase ?_
  intro v' w' h1 h2 _
  refine h v' w' ?_ ((Below.refl base Y).grown h2 hbase (fun g hg' => (hown.lt g hg').1))
  rw [u8s_app, List.length_append, hm]
  exact h1
set_option maxHeartbeats 800000 in
theorem rwithin_t (n lo hi : Int) (w : World) (h : lo ≤ n ∧ n ≤ hi) : Calls Try.prog 37 #[.int .i64 n, .int .i64 lo, .int .i64 hi] w fun e w' => e = .returned (.bool true) ∧ w' = w := by
  have h1 : decide (lo ≤ n) = true := decide_eq_true h.1
  have h2 : decide (n ≤ hi) = true := decide_eq_true h.2
  go_enter Try.func37, Try.ntmps37
  go_wp2
  go_ret
  exact ⟨rfl, rfl⟩
set_option maxHeartbeats 800000 in
theorem rwithin_f (n lo hi : Int) (w : World) (h : ¬ (lo ≤ n ∧ n ≤ hi)) : Calls Try.prog 37 #[.int .i64 n, .int .i64 lo, .int .i64 hi] w fun e w' => e = .returned (.bool false) ∧ w' = w := by
  by_cases h1 : lo ≤ n
  · have h1' : decide (lo ≤ n) = true := decide_eq_true h1
    have h2 : decide (n ≤ hi) = false := decide_eq_false (fun h' => h ⟨h1, h'⟩)
    clear h h1
    go_enter Try.func37, Try.ntmps37
    go_wp2
    go_ret
    exact ⟨rfl, rfl⟩
  · have h1' : decide (lo ≤ n) = false := decide_eq_false h1
    clear h h1
    go_enter Try.func37, Try.ntmps37
    go_wp2
    go_ret
    exact ⟨rfl, rfl⟩
theorem pk_wrap (nb : Nat) (lb : nb ≤ 2500) : IntKind.u8.wrap (IntKind.i64.wrap (((nb : Int) + 7).tdiv 8)) = ((packed nb % 256 : Nat) : Int) := by
  have h : ((nb : Int) + 7).tdiv 8 = (packed nb : Int) := by
    rw [Int.tdiv_eq_ediv_of_nonneg (by omega)]
    unfold packed
    omega
  rw [h, IntKind.wrap_i64, IntKind.wrap_u8]
  have : packed nb ≤ 1000 := by unfold packed; omega
  omega
theorem dbl_wrap (nr : Nat) : IntKind.u8.wrap (2 * (nr : Int)) = ((2 * nr % 256 : Nat) : Int) := by
  rw [IntKind.wrap_u8]
  omega
theorem next_two_d {base : Nat} {bv : Value} {bs l : List Nat} {w : World} {a : Array Value} {n : Nat} (ha : a.toList = u16s l) (hn : n = l.length) (hw : Words l) (hsz : bs.length + 2 * l.length ≤ 1000000) (hown : w.ownsRow base 5 1 bv bs.length (u8s bs)) (hbase : base ≤ w.heap.size) :
    Calls Try.prog 36 #[bv, .slice (some ⟨w.heap.size, 0, none⟩) n n] (w.alloc (.cells a 22)).drew fun e w' => ∃ v', e = .returned v' ∧ w'.ownsRow base 5 1 v' (bs ++ wds l).length (u8s (bs ++ wds l)) ∧ Below base w w' :=
  (next_two (w := w.drew) ha hn hw hsz hown hbase).mono fun _ _ ⟨v', h1, h2, h3⟩ => ⟨v', h1, h2, ⟨h3.os, h3.tape, h3.output, h3.size, h3.block⟩⟩
/-- Words laid behind one byte, both literals. -/
theorem two_lit {X : World} {fn : Nat} {l : List Nat} {a : Array Value} {n : Nat} (ha : a.toList = u16s l) (hn : n = l.length) (hw : Words l) (hsz : 2 * l.length ≤ 1000) :
    Calls Try.prog 36 #[.slice (some ⟨X.heap.size, 0, none⟩) 1 1, .slice (some ⟨X.heap.size + 1, 0, none⟩) n n] ((X.alloc (.cells #[.int .u8 fn] 5)).alloc (.cells a 22)) fun e w' => ∃ v', e = .returned v' ∧ w'.ownsRow X.heap.size 5 1 v' ([fn] ++ wds l).length (u8s ([fn] ++ wds l)) ∧ Below X.heap.size X w' := by
  have h := next_two (base := X.heap.size) (bs := [fn]) (l := l) (n := n) (a := a) (w := X.alloc (.cells #[.int .u8 fn] 5)) ha hn hw (by simp; omega) (lit_own X fn) (by simp)
  rw [World.size_alloc] at h
  refine h.mono ?_
  rintro e w' ⟨v', rfl, h1, h2⟩
  exact ⟨v', rfl, h1, ((Below.refl _ X).alloc (Nat.le_refl _) _).trans h2⟩
theorem words_two {x y : Nat} (h : x < 65536) (h2 : y < 65536) : Words [x, y] := by intro t ht; simp at ht; omega
theorem hid_in {p : Prop} (h : p) : Hid p := h
/-- How the reference's Request and Reply end: with the bytes, or with the error 30. -/
def RefEnd (fits : Prop) (bytes : List Nat) (w : World) (e : Ending) (w' : World) : Prop :=
  Below w.heap.size w w' ∧ ((fits ∧ ∃ v', e = .returned (.tuple #[v', .int .i64 0]) ∧ w'.ownsRow w.heap.size 5 1 v' bytes.length (u8s bytes)) ∨ (¬ fits ∧ e = .returned (.tuple #[.slice none 0 0, .int .i64 30])))
theorem RefEnd.no {fits : Prop} {bytes : List Nat} {w w' : World} {e : Ending} (h : ¬ fits) (he : e = .returned (.tuple #[.slice none 0 0, .int .i64 30])) (hb : Below w.heap.size w w') : RefEnd fits bytes w e w' := ⟨hb, Or.inr ⟨h, he⟩⟩
theorem RefEnd.yes {fits : Prop} {bytes : List Nat} {w w' : World} {e : Ending} {v' : Value} (h : fits) (he : e = .returned (.tuple #[v', .int .i64 0])) (ho : w'.ownsRow w.heap.size 5 1 v' bytes.length (u8s bytes)) (hb : Below w.heap.size w w') : RefEnd fits bytes w e w' := ⟨hb, Or.inl ⟨h, v', he, ho⟩⟩
end Go.Proofs.Ytehbbkdiekgpbaa
