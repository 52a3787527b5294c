/- The walk: a reply is read: exceptions, and what answers a request that reads. -/
import Derived.Test.YtehbbkdiekgpbaaOP
namespace Go.Proofs.Ytehbbkdiekgpbaa
open Go.RowKit
open Pdu
theorem exc_c {a0 a1 a2 a3 : Nat} {a4 : List Bool} {a5 : List Nat} {av aw so : Value} {bs : List Nat} {W : World} (hs : Sl W so (u8s bs)) (hB : Bytes bs) (hf : a0 < 128) : Calls Try.prog 44 #[rqV a0 a1 a2 a3 av aw, so] W fun e w' => Told (ExcIs ⟨a0, a1, a2, a3, a4, a5⟩ bs) (excOf ⟨a0, a1, a2, a3, a4, a5⟩ bs) W e w' := by
  by_cases h2 : bs.length = 2
  case neg =>
    obtain ⟨ao, c, rfl⟩ := hs.shape
    rw [u8s_len]
    exact (te_other a0 a1 a2 a3 bs.length c av aw ao W h2).mono fun e w' ⟨he, hb⟩ => Told.no hb he (fun h => h2 h.1)
  rcases hs with ⟨h, _⟩ | ⟨b, off, cap, rfl, hcap, hc⟩
  · have := congrArg List.length h
    rw [u8s_len, List.length_nil] at this
    omega
  have S : Bs W b off 2 cap bs := ⟨h2.symm, by rw [u8s_len, h2] at hcap; exact hcap, hB, hc⟩
  rw [u8s_len, h2]
  by_cases h0 : bs.getD 0 0 = a0 + 128
  case neg => exact tx_n1 a0 a1 a2 a3 cap b off _ _ a4 a5 av aw bs W S hf rfl rfl h0
  by_cases h1 : bs.getD 1 0 = 0
  · exact tx_n2 a0 a1 a2 a3 cap b off _ _ a4 a5 av aw bs W S hf rfl rfl h0 h1
  · exact tx_y a0 a1 a2 a3 cap b off _ _ a4 a5 av aw bs W S hf rfl rfl h0 h1
theorem anr_c {a0 a1 a2 a3 : Nat} {a4 : List Bool} {a5 : List Nat} {av aw so : Value} {bs : List Nat} {W : World} (hs : Sl W so (u8s bs)) (hB : Bytes bs) (hm : bs.length ≤ 1000) (hn : a2 ≤ 2000) (hq : a0 = 1 ∨ a0 = 2 ∨ a0 = 3 ∨ a0 = 4 ∨ a0 = 23 ∨ bs.getD 0 0 ≠ a0) : Calls Try.prog 45 #[rqV a0 a1 a2 a3 av aw, so] W fun e w' => Told (AnsIs ⟨a0, a1, a2, a3, a4, a5⟩ bs) (ansOf ⟨a0, a1, a2, a3, a4, a5⟩ bs) W e w' := by
  by_cases h0 : bs = []
  · obtain ⟨ao, c, rfl⟩ := hs.shape
    rw [u8s_len, h0]
    exact ta_none a0 a1 a2 a3 c ao a4 a5 av aw [] W rfl
  have hl : 1 ≤ bs.length := List.length_pos_iff.2 h0
  rcases hs with ⟨h, _⟩ | ⟨b, off, cap, rfl, hcap, hc⟩
  · have := congrArg List.length h
    rw [u8s_len, List.length_nil] at this
    omega
  rw [u8s_len] at hcap ⊢
  have S : Bs W b off bs.length cap bs := ⟨rfl, hcap, hB, hc⟩
  by_cases hb0 : bs.getD 0 0 = a0
  case neg => exact ta_other a0 a1 a2 a3 _ cap b off _ a4 a5 av aw bs W S hl rfl hb0
  have e1 : cap = 1 → bs.length = 1 := fun h => by omega
  have hb : ∀ (f : Nat), (f = 1 ∨ f = 2) → a0 = f → Calls Try.prog 45 #[rqV a0 a1 a2 a3 av aw, .slice (some ⟨b, off, none⟩) bs.length cap] W fun e w' => Told (AnsIs ⟨a0, a1, a2, a3, a4, a5⟩ bs) (ansOf ⟨a0, a1, a2, a3, a4, a5⟩ bs) W e w' := by
    intro f hf hfa
    subst hfa
    by_cases hT : bs.length = 2 + packed a2 ∧ bs.getD 1 0 = packed a2
    · rcases hf with rfl | rfl
      · exact ta1_y a1 a2 a3 _ cap b off a4 a5 av aw bs W S hn hm hb0 hT
      · exact ta2_y a1 a2 a3 _ cap b off a4 a5 av aw bs W S hn hm hb0 hT
    · by_cases hc1 : cap = 1
      · have h1 := e1 hc1
        rw [h1, hc1] at S
        rw [h1, hc1]
        rcases hf with rfl | rfl
        · exact ta1_e a1 a2 a3 b off a4 a5 av aw bs W S hn (by omega) hb0
        · exact ta2_e a1 a2 a3 b off a4 a5 av aw bs W S hn (by omega) hb0
      · rcases hf with rfl | rfl
        · exact ta1_n a1 a2 a3 _ cap b off a4 a5 av aw bs W S hn hm hb0 hl hc1 hT
        · exact ta2_n a1 a2 a3 _ cap b off a4 a5 av aw bs W S hn hm hb0 hl hc1 hT
  have hr : ∀ (f : Nat), (f = 3 ∨ f = 4 ∨ f = 23) → a0 = f → Calls Try.prog 45 #[rqV a0 a1 a2 a3 av aw, .slice (some ⟨b, off, none⟩) bs.length cap] W fun e w' => Told (AnsIs ⟨a0, a1, a2, a3, a4, a5⟩ bs) (ansOf ⟨a0, a1, a2, a3, a4, a5⟩ bs) W e w' := by
    intro f hf hfa
    subst hfa
    by_cases hT : bs.length = 2 + 2 * a2 ∧ bs.getD 1 0 = 2 * a2
    · rcases hf with rfl | rfl | rfl
      · exact ta3_y a1 a2 a3 _ cap b off a4 a5 av aw bs W S hn hm hb0 hT
      · exact ta4_y a1 a2 a3 _ cap b off a4 a5 av aw bs W S hn hm hb0 hT
      · exact ta23_y a1 a2 a3 _ cap b off a4 a5 av aw bs W S hn hm hb0 hT
    · by_cases hc1 : cap = 1
      · have h1 := e1 hc1
        rw [h1, hc1] at S
        rw [h1, hc1]
        rcases hf with rfl | rfl | rfl
        · exact ta3_e a1 a2 a3 b off a4 a5 av aw bs W S hn (by omega) hb0
        · exact ta4_e a1 a2 a3 b off a4 a5 av aw bs W S hn (by omega) hb0
        · exact ta23_e a1 a2 a3 b off a4 a5 av aw bs W S hn (by omega) hb0
      · rcases hf with rfl | rfl | rfl
        · exact ta3_n a1 a2 a3 _ cap b off a4 a5 av aw bs W S hn hm hb0 hl hc1 hT
        · exact ta4_n a1 a2 a3 _ cap b off a4 a5 av aw bs W S hn hm hb0 hl hc1 hT
        · exact ta23_n a1 a2 a3 _ cap b off a4 a5 av aw bs W S hn hm hb0 hl hc1 hT
  rcases hq with h | h | h | h | h | h
  · exact hb 1 (Or.inl rfl) h
  · exact hb 2 (Or.inr rfl) h
  · exact hr 3 (Or.inl rfl) h
  · exact hr 4 (Or.inr (Or.inl rfl)) h
  · exact hr 23 (Or.inr (Or.inr rfl)) h
  · exact absurd hb0 h
/-- A reply is read: of exceptions, of a request that reads, of another function. -/
theorem orep_r {v so : Value} {q : Rq} {bs : List Nat} {w : World} (h : IsRq w v q) (hs : Sl w so (u8s bs)) (hB : Bytes bs) (hm : bs.length ≤ 1000) (hq : q.fn = 1 ∨ q.fn = 2 ∨ q.fn = 3 ∨ q.fn = 4 ∨ q.fn = 23 ∨ bs.getD 0 0 ≠ q.fn) : Calls Try.prog 21 #[v, so] w fun e w' => AnsEnd q bs w e w' := by
  have h' := h
  obtain ⟨_, av, aw, rfl, _, _⟩ := h'
  obtain ⟨a0, a1, a2, a3, a4, a5⟩ := q
  by_cases hf : Rq.Fits ⟨a0, a1, a2, a3, a4, a5⟩
  case neg => exact op_unfit a0 a1 a2 a3 a4 a5 av aw so bs w h hf
  have hn : a2 ≤ 2000 := by
    have hf := hf
    unfold Rq.Fits FitsN at hf
    simp only at hf
    omega
  exact op_fit a0 a1 a2 a3 a4 a5 av aw so bs w h hf (fun W k => exc_c (hs.below k) hB (fits_128 hf)) (fun W k => anr_c (hs.below k) hB hm hn hq)
end Go.Proofs.Ytehbbkdiekgpbaa
