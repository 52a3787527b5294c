/- A connection's bytes as frames, in plain mathematics. -/
import Derived.Test.YtjfaocpbhhpbdaaP1
namespace Go.Proofs.Ytjfaocpbhhpbdaa
namespace Pdu
/-- A frame. -/
structure Fr where
  id : Nat
  unit : Nat
  pdu : List Nat
/-- The frame that bytes begin with. -/
def fr1 (bs : List Nat) : Fr := ⟨(rd bs).id, (rd bs).unit, (rd bs).pdu⟩
/-- These frames are told of bs, one behind the other, and r is left. -/
def ToldOf : List Fr → List Nat → List Nat → Prop
  | [], bs, r => r = bs
  | f :: L, bs, r => 0 < (rd bs).n ∧ f = fr1 bs ∧ ToldOf L (bs.drop (rd bs).n) r
theorem ToldOf.snoc {L : List Fr} : ∀ {bs r : List Nat}, ToldOf L bs r → 0 < (rd r).n → ToldOf (L ++ [fr1 r]) bs (r.drop (rd r).n) := by
  induction L with
  | nil =>
    intro bs r h hn
    have h : r = bs := h
    subst h
    exact ⟨hn, rfl, rfl⟩
  | cons f L ih =>
    intro bs r h hn
    exact ⟨h.1, h.2.1, ih h.2.2 hn⟩
theorem wordAt_more (bs more : List Nat) (i : Nat) (h : i + 1 < bs.length) : wordAt (bs ++ more) i = wordAt bs i := by
  unfold wordAt
  rw [List.getD_eq_getElem?_getD, List.getD_eq_getElem?_getD, List.getD_eq_getElem?_getD, List.getD_eq_getElem?_getD, List.getElem?_append_left (by omega), List.getElem?_append_left h]
theorem rd_more (bs more : List Nat) (h : 0 < (rd bs).n ∨ (rd bs).e ≠ 0) : rd (bs ++ more) = rd bs := by
  by_cases h6 : bs.length < 6
  · unfold rd at h
    rw [if_pos h6] at h
    simp at h
  have hl : ¬ (bs ++ more).length < 6 := by rw [List.length_append]; omega
  have e2 := wordAt_more bs more 2 (by omega)
  have e4 := wordAt_more bs more 4 (by omega)
  have e0 := wordAt_more bs more 0 (by omega)
  by_cases h2 : wordAt bs 2 = 0
  case neg =>
    unfold rd
    rw [if_neg h6, if_neg hl, e2, if_pos h2, if_pos h2]
  by_cases h4 : 2 ≤ wordAt bs 4 ∧ wordAt bs 4 ≤ 254
  case neg =>
    unfold rd
    have hz : ¬ (wordAt bs 2 ≠ 0) := by omega
    rw [if_neg h6, if_neg hl, e2, e4, if_neg hz, if_neg hz, if_pos h4, if_pos h4]
  by_cases h5 : bs.length < 6 + wordAt bs 4
  · unfold rd at h
    rw [if_neg h6, if_neg (by omega), if_neg (by omega), if_pos h5] at h
    simp at h
  have e6 : (bs ++ more).getD 6 0 = bs.getD 6 0 := by
    rw [List.getD_eq_getElem?_getD, List.getD_eq_getElem?_getD, List.getElem?_append_left (by omega)]
  have e7 : ((bs ++ more).drop 7).take (wordAt bs 4 - 1) = (bs.drop 7).take (wordAt bs 4 - 1) := by
    rw [List.drop_append_of_le_length (by omega), List.take_append_of_le_length (by rw [List.length_drop]; omega)]
  unfold rd
  have hz : ¬ (wordAt bs 2 ≠ 0) := by omega
  have hz4 : ¬ ¬ (2 ≤ wordAt bs 4 ∧ wordAt bs 4 ≤ 254) := by omega
  have hz5 : ¬ (bs ++ more).length < 6 + wordAt bs 4 := by rw [List.length_append]; omega
  rw [if_neg h6, if_neg hl, e2, e4, if_neg hz, if_neg hz, if_neg hz4, if_neg hz4, if_neg h5, if_neg hz5, e0, e6, e7]
theorem rd_le (bs : List Nat) : (rd bs).n ≤ bs.length ∧ (rd bs).n ≤ 260 := by
  by_cases h6 : bs.length < 6
  · unfold rd
    rw [if_pos h6]
    simp
  by_cases h2 : wordAt bs 2 = 0
  case neg =>
    unfold rd
    rw [if_neg h6, if_pos h2]
    simp
  by_cases h4 : 2 ≤ wordAt bs 4 ∧ wordAt bs 4 ≤ 254
  case neg =>
    unfold rd
    rw [if_neg h6, if_neg (by omega), if_pos h4]
    simp
  by_cases h5 : bs.length < 6 + wordAt bs 4
  · unfold rd
    rw [if_neg h6, if_neg (by omega), if_neg (by omega), if_pos h5]
    simp
  unfold rd
  rw [if_neg h6, if_neg (by omega), if_neg (by omega), if_neg h5]
  show 6 + wordAt bs 4 ≤ bs.length ∧ 6 + wordAt bs 4 ≤ 260
  omega
theorem rd_no (bs : List Nat) (h : (rd bs).n = 0) : rd bs = ⟨0, 0, [], 0, (rd bs).e⟩ := by
  by_cases h6 : bs.length < 6
  · unfold rd
    rw [if_pos h6]
  by_cases h2 : wordAt bs 2 = 0
  case neg =>
    unfold rd
    rw [if_neg h6, if_pos h2]
  by_cases h4 : 2 ≤ wordAt bs 4 ∧ wordAt bs 4 ≤ 254
  case neg =>
    unfold rd
    rw [if_neg h6, if_neg (by omega), if_pos h4]
  by_cases h5 : bs.length < 6 + wordAt bs 4
  · unfold rd
    rw [if_neg h6, if_neg (by omega), if_neg (by omega), if_pos h5]
  unfold rd at h
  rw [if_neg h6, if_neg (by omega), if_neg (by omega), if_neg h5] at h
  simp at h
theorem rd_yes (bs : List Nat) (h : 0 < (rd bs).n) : (rd bs).e = 0 ∧ 8 ≤ (rd bs).n ∧ 1 ≤ (rd bs).pdu.length ∧ (rd bs).pdu.length ≤ 253 := by
  by_cases h6 : bs.length < 6
  · unfold rd at h
    rw [if_pos h6] at h
    simp at h
  by_cases h2 : wordAt bs 2 = 0
  case neg =>
    unfold rd at h
    rw [if_neg h6, if_pos h2] at h
    simp at h
  by_cases h4 : 2 ≤ wordAt bs 4 ∧ wordAt bs 4 ≤ 254
  case neg =>
    unfold rd at h
    rw [if_neg h6, if_neg (by omega), if_pos h4] at h
    simp at h
  by_cases h5 : bs.length < 6 + wordAt bs 4
  · unfold rd at h
    rw [if_neg h6, if_neg (by omega), if_neg (by omega), if_pos h5] at h
    simp at h
  unfold rd
  rw [if_neg h6, if_neg (by omega), if_neg (by omega), if_neg h5]
  have hl : ((bs.drop 7).take (wordAt bs 4 - 1)).length = wordAt bs 4 - 1 := by rw [List.length_take, List.length_drop]; omega
  show (0 : Nat) = 0 ∧ 8 ≤ 6 + wordAt bs 4 ∧ 1 ≤ ((bs.drop 7).take (wordAt bs 4 - 1)).length ∧ ((bs.drop 7).take (wordAt bs 4 - 1)).length ≤ 253
  omega
theorem rd_short (bs : List Nat) (h : (rd bs).n = 0) (he : (rd bs).e = 0) : bs.length < 260 := by
  by_cases h6 : bs.length < 6
  · omega
  by_cases h2 : wordAt bs 2 = 0
  case neg =>
    unfold rd at he
    rw [if_neg h6, if_pos h2] at he
    simp at he
  by_cases h4 : 2 ≤ wordAt bs 4 ∧ wordAt bs 4 ≤ 254
  case neg =>
    unfold rd at he
    rw [if_neg h6, if_neg (by omega), if_pos h4] at he
    simp at he
  by_cases h5 : bs.length < 6 + wordAt bs 4
  · omega
  unfold rd at h
  rw [if_neg h6, if_neg (by omega), if_neg (by omega), if_neg h5] at h
  simp at h
theorem rd_e (bs : List Nat) : (rd bs).e = 0 ∨ (rd bs).e = 40 ∨ (rd bs).e = 41 := by
  unfold rd
  repeat' split
  all_goals simp
theorem ToldOf.more {L : List Fr} : ∀ {bs r : List Nat} (m : List Nat), ToldOf L bs r → ToldOf L (bs ++ m) (r ++ m) := by
  induction L with
  | nil =>
    intro bs r m h
    have h : r = bs := h
    subst h
    exact rfl
  | cons f L ih =>
    intro bs r m h
    obtain ⟨h1, h2, h3⟩ := h
    have e := rd_more bs m (Or.inl h1)
    have hle := (rd_le bs).1
    refine ⟨by rw [e]; exact h1, by rw [h2]; unfold fr1; rw [e], ?_⟩
    have h4 := ih m h3
    rw [e, List.drop_append_of_le_length hle]
    exact h4
theorem ToldOf.len {L : List Fr} : ∀ {bs r : List Nat}, ToldOf L bs r → 8 * L.length + r.length ≤ bs.length := by
  induction L with
  | nil =>
    intro bs r h
    have h : r = bs := h
    subst h
    simp
  | cons f L ih =>
    intro bs r h
    obtain ⟨h1, _, h3⟩ := h
    have h4 := ih h3
    have h5 := rd_yes bs h1
    have h6 := (rd_le bs).1
    rw [List.length_drop] at h4
    rw [List.length_cons]
    omega
theorem ToldOf.suffix {L : List Fr} : ∀ {bs r : List Nat}, ToldOf L bs r → ∃ k, k ≤ bs.length ∧ r = bs.drop k := by
  induction L with
  | nil =>
    intro bs r h
    exact ⟨0, by omega, by rw [List.drop_zero]; exact h⟩
  | cons f L ih =>
    intro bs r h
    obtain ⟨h1, _, h3⟩ := h
    obtain ⟨k, hk, e⟩ := ih h3
    have h6 := (rd_le bs).1
    rw [List.length_drop] at hk
    exact ⟨(rd bs).n + k, by omega, by rw [e, List.drop_drop]⟩
theorem ToldOf.frames {L : List Fr} : ∀ {bs r : List Nat}, ToldOf L bs r → Bytes bs → ∀ f ∈ L, f.id < 65536 ∧ f.unit < 256 ∧ Bytes f.pdu := by
  induction L with
  | nil => intro bs r _ _ f hf; simp at hf
  | cons f L ih =>
    intro bs r h hB x hx
    obtain ⟨h1, h2, h3⟩ := h
    rcases List.mem_cons.1 hx with rfl | hx
    · rw [h2]
      refine ⟨?_, ?_, rd_bytes hB⟩
      · show (rd bs).id < 65536
        unfold rd
        repeat' split
        all_goals first | exact wordAt_lt hB 0 | decide
      · show (rd bs).unit < 256
        unfold rd
        repeat' split
        all_goals first | exact hB.at 6 | decide
    · exact ih h3 (hB.drop _) x hx
end Pdu
end Go.Proofs.Ytjfaocpbhhpbdaa
