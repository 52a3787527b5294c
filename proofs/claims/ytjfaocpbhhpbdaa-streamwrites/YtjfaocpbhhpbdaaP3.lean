/- Frames laid one behind the other, in plain mathematics. -/
import Derived.Test.YtjfaocpbhhpbdaaP2
namespace Go.Proofs.Ytjfaocpbhhpbdaa
namespace Pdu
/-- The bytes of these frames, one behind the other. -/
def mbs (L : List Fr) : List Nat := L.flatMap fun f => mb f.id f.unit f.pdu
/-- A PDU's length as it may be. -/
def Fits (f : Fr) : Prop := 1 ≤ f.pdu.length ∧ f.pdu.length ≤ 253
theorem mbs_cons (f : Fr) (L : List Fr) : mbs (f :: L) = mb f.id f.unit f.pdu ++ mbs L := by simp [mbs]
theorem mbs_snoc (f : Fr) (L : List Fr) : mbs (L ++ [f]) = mbs L ++ mb f.id f.unit f.pdu := by simp [mbs]
theorem mbs_take {L : List Fr} {k : Nat} {f : Fr} (h : L[k]? = some f) : mbs (L.take (k + 1)) = mbs (L.take k) ++ mb f.id f.unit f.pdu := by
  rw [List.take_add_one, h, ← mbs_snoc]
  rfl
theorem told_mbs {L : List Fr} (h : ∀ f ∈ L, Fits f) : ToldOf L (mbs L) [] := by
  induction L with
  | nil => rfl
  | cons f L ih =>
    have hf := h f (List.mem_cons_self ..)
    have e := rd_mb f.id f.unit f.pdu (mbs L) hf
    rw [mbs_cons]
    refine ⟨by rw [e]; show 0 < f.pdu.length + 7; omega, by unfold fr1; rw [e], ?_⟩
    rw [e]
    show ToldOf L ((mb f.id f.unit f.pdu ++ mbs L).drop (f.pdu.length + 7)) []
    rw [← mb_length f.id f.unit f.pdu, List.drop_left]
    exact ih fun x hx => h x (List.mem_cons_of_mem _ hx)
theorem told_one {L : List Fr} : ∀ {L' : List Fr} {bs r r' : List Nat}, ToldOf L bs r → (rd r).n = 0 → ToldOf L' bs r' → (rd r').n = 0 → L = L' ∧ r = r' := by
  induction L with
  | nil =>
    intro L' bs r r' h hr h' hr'
    have h : r = bs := h
    subst h
    cases L' with
    | nil => exact ⟨rfl, h'.symm⟩
    | cons f L' => have := h'.1; omega
  | cons f L ih =>
    intro L' bs r r' h hr h' hr'
    cases L' with
    | nil =>
      have h' : r' = bs := h'
      subst h'
      have := h.1
      omega
    | cons f' L' =>
      obtain ⟨e1, e2⟩ := ih h.2.2 hr h'.2.2 hr'
      exact ⟨by rw [h.2.1, h'.2.1, e1], e2⟩
theorem mbs_length {L : List Fr} (h : ∀ f ∈ L, Fits f) : (mbs L).length ≤ 260 * L.length := by
  induction L with
  | nil => simp [mbs]
  | cons f L ih =>
    have hf := h f (List.mem_cons_self ..)
    have := ih fun x hx => h x (List.mem_cons_of_mem _ hx)
    rw [mbs_cons, List.length_append, mb_length, List.length_cons]
    have := hf.2
    omega
theorem mbs_bytes {L : List Fr} (h : ∀ f ∈ L, Fits f) (hb : ∀ f ∈ L, f.id < 65536 ∧ f.unit < 256 ∧ Bytes f.pdu) : Bytes (mbs L) := by
  induction L with
  | nil => exact Bytes.nil
  | cons f L ih =>
    have hf := h f (List.mem_cons_self ..)
    obtain ⟨h1, h2, h3⟩ := hb f (List.mem_cons_self ..)
    rw [mbs_cons]
    exact (mb_bytes h1 h2 h3 (by have := hf.2; omega)).app (ih (fun x hx => h x (List.mem_cons_of_mem _ hx)) fun x hx => hb x (List.mem_cons_of_mem _ hx))
theorem fits_take {L : List Fr} {k : Nat} {f : Fr} (h : ∀ f ∈ L.take k, Fits f) (hk : L[k]? = some f) (hf : Fits f) : ∀ f ∈ L.take (k + 1), Fits f := by
  intro x hx
  rw [List.take_add_one, hk] at hx
  rcases List.mem_append.1 hx with hx | hx
  · exact h x hx
  · simp at hx
    subst hx
    exact hf
end Pdu
end Go.Proofs.Ytjfaocpbhhpbdaa
