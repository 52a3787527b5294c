/- The walk: a reply is read, any request, any bytes. -/
import Derived.Test.YtehbbkdiekgpbaaOPr
import Derived.Test.YtehbbkdiekgpbaaTA5
namespace Go.Proofs.Ytehbbkdiekgpbaa
open Go.RowKit
open Pdu
theorem ans_c {a0 a1 a2 a3 : Nat} {a4 : List Bool} {a5 : List Nat} {av aw so : Value} {bs : List Nat} {W : World} (hq : IsRq W (rqV a0 a1 a2 a3 av aw) ⟨a0, a1, a2, a3, a4, a5⟩) (hf : Rq.Fits ⟨a0, a1, a2, a3, a4, a5⟩) (hs : Sl W so (u8s bs)) (hB : Bytes bs) (hm : bs.length ≤ 1000) : Calls Try.prog 45 #[rqV a0 a1 a2 a3 av aw, so] W fun e w' => Told (AnsIs ⟨a0, a1, a2, a3, a4, a5⟩ bs) (ansOf ⟨a0, a1, a2, a3, a4, a5⟩ bs) W e w' := by
  have hn : a2 ≤ 2000 ∧ (a0 = 1 ∨ a0 = 2 ∨ a0 = 3 ∨ a0 = 4 ∨ a0 = 5 ∨ a0 = 6 ∨ a0 = 15 ∨ a0 = 16 ∨ a0 = 22 ∨ a0 = 23) := by
    have hf := hf
    unfold Rq.Fits FitsN at hf
    simp only at hf
    omega
  by_cases hb0 : bs.getD 0 0 = a0
  case neg => exact anr_c hs hB hm hn.1 (by omega)
  by_cases hk : a0 = 5 ∨ a0 = 6 ∨ a0 = 15 ∨ a0 = 16 ∨ a0 = 22
  case neg => exact anr_c hs hB hm hn.1 (by omega)
  by_cases h0 : bs = []
  · subst h0
    simp at hb0
    omega
  have hl : 1 ≤ bs.length := List.length_pos_iff.2 h0
  rcases hs with ⟨h, _⟩ | ⟨b, off, cap, rfl, hcap, hc⟩
  · have := congrArg List.length h
    rw [u8s_len, List.length_nil] at this
    omega
  rw [u8s_len] at hcap ⊢
  have S : Bs W b off bs.length cap bs := ⟨rfl, hcap, hB, hc⟩
  rcases hk with rfl | rfl | rfl | rfl | rfl
  · exact ta5_w a1 a2 a3 _ cap b off a4 a5 av aw bs W S hl hb0 hq hf
  · exact ta6_w a1 a2 a3 _ cap b off a4 a5 av aw bs W S hl hb0 hq hf
  · exact ta15_w a1 a2 a3 _ cap b off a4 a5 av aw bs W S hl hb0 hq hf
  · exact ta16_w a1 a2 a3 _ cap b off a4 a5 av aw bs W S hl hb0 hq hf
  · exact ta22_w a1 a2 a3 _ cap b off a4 a5 av aw bs W S hl hb0 hq hf
theorem orep_c {v so : Value} {q : Rq} {bs : List Nat} {w : World} (h : IsRq w v q) (hs : Sl w so (u8s bs)) (hB : Bytes bs) (hm : bs.length ≤ 1000) : Calls Try.prog 21 #[v, so] w fun e w' => AnsEnd q bs w e w' := by
  have h' := h
  obtain ⟨_, av, aw, rfl, _, _⟩ := h'
  obtain ⟨a0, a1, a2, a3, a4, a5⟩ := q
  by_cases hf : Rq.Fits ⟨a0, a1, a2, a3, a4, a5⟩
  case neg => exact op_unfit a0 a1 a2 a3 a4 a5 av aw so bs w h hf
  exact op_fit a0 a1 a2 a3 a4 a5 av aw so bs w h hf (fun W k => exc_c (hs.below k) hB (fits_128 hf)) (fun W k => ans_c (h.below k) hf (hs.below k) hB hm)
end Go.Proofs.Ytehbbkdiekgpbaa
