/- A great region whose order is open: its lexical order is allowed, shown piece by piece. -/
import Derived.WalkKit
import Derived.Deep.QuietTactic
import Derived.BigQuiet
namespace Go.Proofs.YtonbbibnledleabDoor
def lexL (n k : Nat) : Array Bool := (List.replicate k true ++ List.replicate (n - k) false).toArray
def lexOk (md : Region.Mode) (ops : Array Oper) (n k : Nat) : Bool := (Region.ready md ops (lexL n k)).contains k && Region.free md ops (lexL n k) k
theorem lexL_set (n k : Nat) (h : k < n) : (lexL n k).setIfInBounds k true = lexL n (k + 1) := by
  unfold lexL
  apply Array.ext'
  simp only [Array.toList_setIfInBounds]
  rw [List.set_append_right _ _ (by simp)]
  simp only [List.length_replicate, Nat.sub_self]
  have e : n - k = (n - (k + 1)) + 1 := by omega
  rw [e, List.replicate_succ, List.set_cons_zero, List.replicate_succ' (n := k)]
  simp
theorem lexFrom_by {md : Region.Mode} {ops : Array Oper} (n : Nat) (h : ∀ k, 0 ≤ k → k < n → lexOk md ops n k = true) (he : (Region.ready md ops (lexL n n)).isEmpty = true) :
    ∀ (fuel k : Nat), fuel + k = n → Region.lexFrom md ops fuel k (lexL n k) = true
  | 0, k, hk => by
    obtain rfl : k = n := by omega
    exact he
  | fuel + 1, k, hk => by
    have h1 := h k (Nat.zero_le _) (by omega)
    unfold lexOk at h1
    unfold Region.lexFrom
    rw [Bool.and_eq_true] at h1
    rw [h1.1, h1.2, lexL_set n k (by omega)]
    exact lexFrom_by n h he fuel (k + 1) (by omega)
theorem lexB_by {md : Region.Mode} {ops : Array Oper} (n : Nat) (hn : ops.size = n) (hs : Region.noSelect ops = true) (he : (Region.ready md ops (lexL n n)).isEmpty = true)
    (h : ∀ k, 0 ≤ k → k < n → lexOk md ops n k = true) : Region.lexB md ops = true := by
  unfold Region.lexB
  rw [hs, hn]
  have := lexFrom_by n h he n 0 (by omega)
  have e : lexL n 0 = Array.replicate n false := by
    unfold lexL
    apply Array.ext'
    simp
  rw [e] at this
  rw [this]
  rfl
theorem lex_chunk {P : Nat → Bool} {n : Nat} (a len : Nat) (h1 : (List.range' a len).all P = true) (h2 : ∀ k, a + len ≤ k → k < n → P k = true) : ∀ k, a ≤ k → k < n → P k = true := by
  intro k ha hk
  by_cases hb : a + len ≤ k
  · exact h2 k hb hk
  · rw [List.all_eq_true] at h1
    exact h1 k (by rw [List.mem_range'_1]; omega)
end Go.Proofs.YtonbbibnledleabDoor
