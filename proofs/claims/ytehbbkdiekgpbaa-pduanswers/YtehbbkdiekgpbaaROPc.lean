/- The walk: the reference reads a reply: any request, any bytes. -/
import Derived.Test.YtehbbkdiekgpbaaROP0
import Derived.Test.YtehbbkdiekgpbaaROP1
import Derived.Test.YtehbbkdiekgpbaaROP2
import Derived.Test.YtehbbkdiekgpbaaROP3
import Derived.Test.YtehbbkdiekgpbaaROP23
import Derived.Test.YtehbbkdiekgpbaaROP5
import Derived.Test.YtehbbkdiekgpbaaROP15
namespace Go.Proofs.Ytehbbkdiekgpbaa
open Go.RowKit
open Pdu
theorem rop_c {v so : Value} {q : Rq} {bs : List Nat} {w : World} (h : IsRq w v q) (hs : Sl w so (u8s bs)) (hB : Bytes bs) (lb : q.bits.length ≤ 2500) (lr : q.regs.length ≤ 200) : Calls Try.prog 22 #[v, so] w fun e w' => AnsEnd q bs w e w' := by
  have h' := h
  obtain ⟨_, av, aw, rfl, s1, s2⟩ := h'
  obtain ⟨a0, a1, a2, a3, a4, a5⟩ := q
  simp only at lb lr s1 s2
  obtain ⟨ao, ac, rfl⟩ := s1.shape
  obtain ⟨ro, rc, rfl⟩ := s2.shape
  unfold rqV at h ⊢
  simp only at h ⊢
  rw [bls_len, u16s_len] at h ⊢
  by_cases hf : Rq.Fits ⟨a0, a1, a2, a3, a4, a5⟩
  case neg => exact rop_unfit a0 a1 a2 a3 _ _ ac rc a4 a5 ao ro bs w h lb lr hf so
  by_cases hm : 2 ≤ bs.length
  case neg =>
    obtain ⟨xo, c, rfl⟩ := hs.shape
    rw [u8s_len]
    exact rop_short a0 _ c a1 a2 a3 _ _ ac rc a4 a5 ao ro bs w h lb lr hf xo rfl (by omega)
  rcases hs with ⟨h0, _⟩ | ⟨b, off, cap, rfl, hcap, hc⟩
  · have := congrArg List.length h0
    rw [u8s_len, List.length_nil] at this
    omega
  rw [u8s_len] at hcap ⊢
  have S : Bs w b off bs.length cap bs := ⟨rfl, hcap, hB, hc⟩
  by_cases hx : bs.getD 0 0 = a0 + 128
  · by_cases h2 : bs.length = 2
    · by_cases h1 : bs.getD 1 0 = 0
      · exact rop_exc_n2 a0 _ cap b off _ _ a1 a2 a3 _ _ ac rc a4 a5 ao ro bs w h lb lr hf S hm rfl rfl hx h2 h1
      · exact rop_exc_y a0 _ cap b off _ _ a1 a2 a3 _ _ ac rc a4 a5 ao ro bs w h lb lr hf S hm rfl rfl hx h2 h1
    · exact rop_exc_n1 a0 _ cap b off _ _ a1 a2 a3 _ _ ac rc a4 a5 ao ro bs w h lb lr hf S hm rfl rfl hx h2
  by_cases hb0 : bs.getD 0 0 = a0
  case neg => exact rop_oth a0 _ cap b off _ _ a1 a2 a3 _ _ ac rc a4 a5 ao ro bs w h lb lr hf S hm rfl rfl hx hb0
  have hk : a0 = 1 ∨ a0 = 2 ∨ a0 = 3 ∨ a0 = 4 ∨ a0 = 5 ∨ a0 = 6 ∨ a0 = 15 ∨ a0 = 16 ∨ a0 = 22 ∨ a0 = 23 := by
    have hf := hf
    unfold Rq.Fits FitsN at hf
    simp only at hf
    omega
  rcases hk with rfl | rfl | rfl | rfl | rfl | rfl | rfl | rfl | rfl | rfl
  · by_cases h1 : bs.getD 1 0 = packed a2
    case neg => exact rop1_a _ cap b off _ _ a1 a2 a3 _ _ ac rc a4 a5 ao ro bs w h lb lr hf S hm rfl rfl hb0 h1
    by_cases hl : bs.length = 2 + bs.getD 1 0
    · exact rop1_y _ cap b off _ _ a1 a2 a3 _ _ ac rc a4 a5 ao ro bs w h lb lr hf S hm rfl rfl hb0 h1 hl
    · exact rop1_b _ cap b off _ _ a1 a2 a3 _ _ ac rc a4 a5 ao ro bs w h lb lr hf S hm rfl rfl hb0 h1 hl
  · by_cases h1 : bs.getD 1 0 = packed a2
    case neg => exact rop2_a _ cap b off _ _ a1 a2 a3 _ _ ac rc a4 a5 ao ro bs w h lb lr hf S hm rfl rfl hb0 h1
    by_cases hl : bs.length = 2 + bs.getD 1 0
    · exact rop2_y _ cap b off _ _ a1 a2 a3 _ _ ac rc a4 a5 ao ro bs w h lb lr hf S hm rfl rfl hb0 h1 hl
    · exact rop2_b _ cap b off _ _ a1 a2 a3 _ _ ac rc a4 a5 ao ro bs w h lb lr hf S hm rfl rfl hb0 h1 hl
  · by_cases h1 : bs.getD 1 0 = 2 * a2
    case neg => exact rop3_a _ cap b off _ _ a1 a2 a3 _ _ ac rc a4 a5 ao ro bs w h lb lr hf S hm rfl rfl hb0 h1
    by_cases hl : bs.length = 2 + bs.getD 1 0
    · exact rop3_y _ cap b off _ _ a1 a2 a3 _ _ ac rc a4 a5 ao ro bs w h lb lr hf S hm rfl rfl hb0 h1 hl
    · exact rop3_b _ cap b off _ _ a1 a2 a3 _ _ ac rc a4 a5 ao ro bs w h lb lr hf S hm rfl rfl hb0 h1 hl
  · by_cases h1 : bs.getD 1 0 = 2 * a2
    case neg => exact rop4_a _ cap b off _ _ a1 a2 a3 _ _ ac rc a4 a5 ao ro bs w h lb lr hf S hm rfl rfl hb0 h1
    by_cases hl : bs.length = 2 + bs.getD 1 0
    · exact rop4_y _ cap b off _ _ a1 a2 a3 _ _ ac rc a4 a5 ao ro bs w h lb lr hf S hm rfl rfl hb0 h1 hl
    · exact rop4_b _ cap b off _ _ a1 a2 a3 _ _ ac rc a4 a5 ao ro bs w h lb lr hf S hm rfl rfl hb0 h1 hl
  · by_cases h1 : bs = reqBytes ⟨5, a1, a2, a3, a4, a5⟩
    · exact rop5_y _ cap b off _ _ a1 a2 a3 _ _ ac rc a4 a5 ao ro bs w h lb lr hf S hm rfl rfl hb0 h1
    · exact rop5_n _ cap b off _ _ a1 a2 a3 _ _ ac rc a4 a5 ao ro bs w h lb lr hf S hm rfl rfl hb0 h1
  · by_cases h1 : bs = reqBytes ⟨6, a1, a2, a3, a4, a5⟩
    · exact rop6_y _ cap b off _ _ a1 a2 a3 _ _ ac rc a4 a5 ao ro bs w h lb lr hf S hm rfl rfl hb0 h1
    · exact rop6_n _ cap b off _ _ a1 a2 a3 _ _ ac rc a4 a5 ao ro bs w h lb lr hf S hm rfl rfl hb0 h1
  · by_cases h1 : bs = (reqBytes ⟨15, a1, a2, a3, a4, a5⟩).take 5
    · exact rop15_y _ cap b off _ _ a1 a2 a3 _ _ ac rc a4 a5 ao ro bs w h lb lr hf S hm rfl rfl hb0 h1
    · exact rop15_n _ cap b off _ _ a1 a2 a3 _ _ ac rc a4 a5 ao ro bs w h lb lr hf S hm rfl rfl hb0 h1
  · by_cases h1 : bs = (reqBytes ⟨16, a1, a2, a3, a4, a5⟩).take 5
    · exact rop16_y _ cap b off _ _ a1 a2 a3 _ _ ac rc a4 a5 ao ro bs w h lb lr hf S hm rfl rfl hb0 h1
    · exact rop16_n _ cap b off _ _ a1 a2 a3 _ _ ac rc a4 a5 ao ro bs w h lb lr hf S hm rfl rfl hb0 h1
  · by_cases h1 : bs = reqBytes ⟨22, a1, a2, a3, a4, a5⟩
    · exact rop22_y _ cap b off _ _ a1 a2 a3 _ _ ac rc a4 a5 ao ro bs w h lb lr hf S hm rfl rfl hb0 h1
    · exact rop22_n _ cap b off _ _ a1 a2 a3 _ _ ac rc a4 a5 ao ro bs w h lb lr hf S hm rfl rfl hb0 h1
  · by_cases h1 : bs.getD 1 0 = 2 * a2
    case neg => exact rop23_a _ cap b off _ _ a1 a2 a3 _ _ ac rc a4 a5 ao ro bs w h lb lr hf S hm rfl rfl hb0 h1
    by_cases hl : bs.length = 2 + bs.getD 1 0
    · exact rop23_y _ cap b off _ _ a1 a2 a3 _ _ ac rc a4 a5 ao ro bs w h lb lr hf S hm rfl rfl hb0 h1 hl
    · exact rop23_b _ cap b off _ _ a1 a2 a3 _ _ ac rc a4 a5 ao ro bs w h lb lr hf S hm rfl rfl hb0 h1 hl
end Go.Proofs.Ytehbbkdiekgpbaa
