/- Step of any block; the blocks' names; append of numbers; two arrays of three (stage 17). -/
import Derived.Test.YtbpnaenineinmaaP1
import Derived.Test.YtbpnaenineinmaaFF0
import Derived.Test.YtbpnaenineinmaaFF1
import Derived.Test.YtbpnaenineinmaaFF2
import Derived.Test.YtbpnaenineinmaaFF3
import Derived.Test.YtbpnaenineinmaaFF4
import Derived.Test.YtbpnaenineinmaaFF5
import Derived.Test.YtbpnaenineinmaaFF6
import Derived.Test.YtbpnaenineinmaaFF7
import Derived.Test.YtbpnaenineinmaaFF8
import Derived.Test.YtbpnaenineinmaaFF9
import Derived.Deep.CutRange
import Derived.Deep.CutBlock
namespace Go.Proofs.Ytbpnaenineinmaa
open Go.RowKit
open Fb
theorem step_any {w : World} {ia oa : Option Addr} {n m ic oc : Nat} {l q : List Int} (k : Nat) (hk : k < 10) (p0 p1 p2 t : Int) (hi : Sl w (.slice ia n ic) (i64s l)) (hn : n = l.length) (hn9 : n ≤ 9223372036854775807) (ho : Sl w (.slice oa m oc) (i64s q)) (hm : m = q.length) (hm9 : m ≤ 9223372036854775807) :
    Calls Try.prog 10 #[.string (nm k), .slice ia n ic, .agg #[.int .i64 p0, .int .i64 p1, .int .i64 p2], .slice oa m oc, .int .i64 t] w (StepEnd w (stp k l q p0 p1 p2 t)) := by
  match k, hk with
  | 0, _ => exact step_0 p0 p1 p2 t hi hn hn9 ho hm hm9 rfl
  | 1, _ => exact step_1 p0 p1 p2 t hi hn hn9 ho hm hm9 rfl
  | 2, _ => exact step_2 p0 p1 p2 t hi hn hn9 ho hm hm9 rfl
  | 3, _ => exact step_3 p0 p1 p2 t hi hn hn9 ho hm hm9 rfl
  | 4, _ => exact step_4 p0 p1 p2 t hi hn hn9 ho hm hm9 rfl
  | 5, _ => exact step_5 p0 p1 p2 t hi hn hn9 ho hm hm9 rfl
  | 6, _ => exact step_6 p0 p1 p2 t hi hn hn9 ho hm hm9 rfl
  | 7, _ => exact step_7 p0 p1 p2 t hi hn hn9 ho hm hm9 rfl
  | 8, _ => exact step_8 p0 p1 p2 t hi hn hn9 ho hm hm9 rfl
  | 9, _ => exact step_9 p0 p1 p2 t hi hn hn9 ho hm hm9 rfl
set_option maxHeartbeats 400000 in
theorem names_c (w : World) : Calls Try.prog 13 #[] w fun e w' => e = .returned (.slice (some ⟨w.heap.size, 0, none⟩) 10 10) ∧ Below w.heap.size w w' ∧ w.heap.size < w'.heap.size ∧ ∀ k, k < 10 → w'.cell? ⟨w.heap.size, k, none⟩ = some (.string (nm k)) := by
  go_enter Try.func13, Try.ntmps13
  go_wp2
  go_ret
  refine ⟨rfl, below_new (Below.refl _ _) _, by simp, fun k hk => ?_⟩
  match k, hk with
  | 0, _ => simp [nm, nml, tx]
  | 1, _ => simp [nm, nml, tx]
  | 2, _ => simp [nm, nml, tx]
  | 3, _ => simp [nm, nml, tx]
  | 4, _ => simp [nm, nml, tx]
  | 5, _ => simp [nm, nml, tx]
  | 6, _ => simp [nm, nml, tx]
  | 7, _ => simp [nm, nml, tx]
  | 8, _ => simp [nm, nml, tx]
  | 9, _ => simp [nm, nml, tx]
theorem eq3 (a b d a' b' d' : Int) (w : World) : (Op.equalIn 10000 23 (.agg #[.int .i64 a, .int .i64 b, .int .i64 d]) (.agg #[.int .i64 a', .int .i64 b', .int .i64 d'])).run Try.prog w = .ok (a == a' && b == b' && d == d') w := by
  have u3 := Try.underlying2
  have a3 := Try.isAgg2
  have z3 := Try.sizeOf2
  rw [show (10000 : Nat) = 9999 + 1 from rfl, Op.equalIn]
  simp only [Sem.run_bind, run_underlying Try.underlying23, Result.andThen_ok]
  simp only [Std.Legacy.Range.forIn_eq_forIn_range', Std.Legacy.Range.size, Nat.sub_zero, Nat.add_sub_cancel, Nat.div_one, List.range'_succ, List.range'_zero, List.forIn_cons, List.forIn_nil]
  go_simp
  by_cases h1 : a = a' <;> by_cases h2 : b = b' <;> by_cases h3 : d = d' <;> simp [h1, h2, h3]
theorem eq3_yes (a b d : Int) (w : World) : (Op.equalIn 10000 23 (.agg #[.int .i64 a, .int .i64 b, .int .i64 d]) (.agg #[.int .i64 a, .int .i64 b, .int .i64 d])).run Try.prog w = .ok true w := by
  rw [eq3]; simp
theorem run_append_sl {P : Program} {w : World} (base : Nat) (t ty e : TypeId) (i : TypeInfo) (z : Value) (bytes : Nat) (ht : P.underlying t = some (.slice e)) (hi : P.info? e = some i) (hz : i.zero = some z)
    (hsize : i.size = 1) (hby : i.bytes = bytes) (hzs : z.cells.size = 1) (v : Value) (n : Nat) (xs : List Value) (hown : w.ownsRow base e 1 v n xs)
    (x : Value) (news : List Value) (hx : Sl w x news) (h1 : ∀ u ∈ news, u.oneCell' = true) (h63 : n + news.length ≤ maxLen) (hbytes : (n + news.length) * bytes ≤ 140737488355328) (hbase : base ≤ w.heap.size) :
    ∃ v' w', (Builtin.append_ #[t, t] ty #[v, x]).run P w = .ok v' w' ∧ w'.ownsRow base e 1 v' (n + news.length) (xs ++ news) ∧ w.grownBy w' v.ownBlock := by
  rcases hx with ⟨rfl, ao, cap, rfl, h0⟩ | ⟨b, off, cap, rfl, hcap, hc⟩
  · match ao, h0 with
    | none, h0 =>
      rw [h0 rfl]
      refine ⟨v, w, run_append_owned_none (P := P) (w := w) base t ty e i 1 ht hi v n xs hown, ?_, ⟨rfl, rfl, rfl, Nat.le_refl _, fun _ _ _ => rfl⟩⟩
      rw [List.length_nil, Nat.add_zero, List.append_nil]
      exact hown
    | some a, _ =>
      obtain ⟨v', w', hr, h2, h3, _⟩ := run_append_own (P := P) w base t ty e i z 1 bytes ht hi hz hsize hby hzs (by decide) v n xs hown a 0 cap [] rfl (fun j u hj => by simp at hj) (fun u hu => by simp at hu) (by simpa using h63) (by simpa using hbytes) hbase
      exact ⟨v', w', hr, h2, h3⟩
  · obtain ⟨v', w', hr, h2, h3, _⟩ := run_append_own (P := P) w base t ty e i z 1 bytes ht hi hz hsize hby hzs (by decide) v n xs hown ⟨b, off, none⟩ news.length cap news (by rw [Nat.mul_one]) hc.news h1 h63 hbytes hbase
    exact ⟨v', w', hr, h2, h3⟩
theorem one_nums (l : List Int) : ∀ u ∈ i64s l, u.oneCell' = true := by
  intro u hu
  simp only [i64s, List.mem_map] at hu
  obtain ⟨x, _, rfl⟩ := hu
  rfl
/-- Numbers are appended to a row of one's own. -/
theorem app_nums {w : World} {base n : Nat} {v x : Value} {q l : List Int} (hown : w.ownsRow base 2 1 v n (i64s q)) (hx : Sl w x (i64s l)) (hb : n + l.length ≤ 1000000) (hbase : base ≤ w.heap.size) :
    ∃ v' w', (Builtin.append_ #[22, 22] 22 #[v, x]).run Try.prog w = .ok v' w' ∧ w'.ownsRow base 2 1 v' (n + l.length) (i64s (q ++ l)) ∧ Below base w w' ∧ (∀ g, v.ownBlock = some g → True) ∧ w.grownBy w' v.ownBlock := by
  obtain ⟨i0, hi, hz0, hz1, hz2⟩ := info_parts Try.info64
  obtain ⟨v', w', h1, h2, h3⟩ := run_append_sl (P := Try.prog) (w := w) base 22 22 2 i0 (.int .i64 0) 8 Try.underlying22 hi hz0 hz1 hz2 rfl v n (i64s q) hown x (i64s l) hx (one_nums l) (by rw [i64s_len]; unfold maxLen; omega) (by rw [i64s_len]; omega) hbase
  rw [i64s_len] at h2
  refine ⟨v', w', h1, ?_, (Below.refl base w).grown h3 hbase (fun g hg => (hown.lt g hg).1), fun _ _ => trivial, h3⟩
  rw [show i64s (q ++ l) = i64s q ++ i64s l by simp [i64s]]
  exact h2
theorem own_shape {w : World} {base n : Nat} {e : TypeId} {v : Value} {vs : List Value} (h : w.ownsRow base e 1 v n vs) : ∃ ao c, v = .slice ao n c := by
  rcases h.2 with ⟨rfl, h0⟩ | ⟨g, cap, cur, rfl, _⟩
  · exact ⟨none, 0, by rw [h0]⟩
  · exact ⟨_, _, rfl⟩
end Go.Proofs.Ytbpnaenineinmaa
