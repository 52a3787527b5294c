/- The walk: the reference reads a request: any bytes. -/
import Derived.Test.YtehbbkdiekgpbaaTKAll
import Derived.Test.YtehbbkdiekgpbaaRReqAll
import Derived.Test.YtehbbkdiekgpbaaRO1
import Derived.Test.YtehbbkdiekgpbaaRO3
import Derived.Test.YtehbbkdiekgpbaaRO5
import Derived.Test.YtehbbkdiekgpbaaRO22
import Derived.Test.YtehbbkdiekgpbaaRO16
import Derived.Test.YtehbbkdiekgpbaaRO15
import Derived.Test.YtehbbkdiekgpbaaRO15b
import Derived.Test.YtehbbkdiekgpbaaRO23
namespace Go.Proofs.Ytehbbkdiekgpbaa
open Go.RowKit
open Pdu
theorem ropen_c {v : Value} {bs : List Nat} {w : World} (h : Sl w v (u8s bs)) (hB : Bytes bs) (hl4 : bs.length ≤ 400) : Calls Try.prog 17 #[v] w fun e w' => OpenEnd bs w e w' := by
  by_cases h5 : 5 ≤ bs.length
  case neg =>
    obtain ⟨ao, c, rfl⟩ := h.shape
    rw [u8s_len]
    exact ro_short ao bs.length c bs w rfl (by omega)
  rcases h with ⟨h, _⟩ | ⟨b, off, cap, rfl, hcap, hc⟩
  · have := congrArg List.length h
    rw [u8s_len, List.length_nil] at this
    omega
  rw [u8s_len] at hcap ⊢
  have S : Bs w b off bs.length cap bs := ⟨rfl, hcap, hB, hc⟩
  have hk : ∀ f, f = bs.getD 0 0 → (f = 1 ∨ f = 2 ∨ f = 3 ∨ f = 4 ∨ f = 5 ∨ f = 6 ∨ f = 15 ∨ f = 16 ∨ f = 22 ∨ f = 23) ∨ (f ≠ 1 ∧ f ≠ 2 ∧ f ≠ 3 ∧ f ≠ 4 ∧ f ≠ 5 ∧ f ≠ 6 ∧ f ≠ 15 ∧ f ≠ 16 ∧ f ≠ 22 ∧ f ≠ 23) := fun f _ => by omega
  rcases hk _ rfl with (e | e | e | e | e | e | e | e | e | e) | e
  · exact ro1 b off _ cap _ bs w S h5 hl4 e rfl
  · exact ro2 b off _ cap _ bs w S h5 hl4 e rfl
  · exact ro3 b off _ cap _ bs w S h5 hl4 e rfl
  · exact ro4 b off _ cap _ bs w S h5 hl4 e rfl
  · exact ro5 b off _ cap _ bs w S h5 hl4 e rfl
  · exact ro6 b off _ cap _ bs w S h5 hl4 e rfl
  · by_cases h6 : 6 ≤ bs.length
    case neg => exact ro15_s b off _ cap _ bs w S h5 hl4 e rfl (by omega)
    by_cases v1 : 1 ≤ wordAt bs 3
    case neg => exact ro15_a b off _ cap _ bs w S h5 hl4 e rfl h6 (by omega)
    by_cases v2 : wordAt bs 3 ≤ 1968
    case neg => exact ro15_b b off _ cap _ bs w S h5 hl4 e rfl h6 v1 (by omega)
    by_cases hT : bs.length = 6 + bs.getD 5 0
    case neg => exact ro15_c b off _ cap _ bs w S h5 hl4 e rfl h6 v1 v2 hT
    by_cases hc6 : cap = 6
    · subst hc6
      have h6' : bs.length = 6 := by omega
      rw [h6'] at S hT ⊢
      exact ro15_e b off _ bs w S (by omega) (by omega) e rfl (by omega) v1 v2 hT rfl
    · exact ro15_y b off _ cap _ bs w S h5 hl4 e rfl h6 v1 v2 hT hc6
  · by_cases h6 : 6 ≤ bs.length
    case neg => exact ro16_s b off _ cap _ bs w S h5 hl4 e rfl (by omega)
    by_cases hc6 : cap = 6
    · subst hc6
      have h6' : bs.length = 6 := by omega
      rw [h6'] at S ⊢
      exact ro16_e b off _ bs w S (by omega) (by omega) e rfl (by omega) rfl
    · exact ro16_y b off _ cap _ bs w S h5 hl4 e rfl h6 hc6
  · exact ro22 b off _ cap _ bs w S h5 hl4 e rfl
  · by_cases h10 : 10 ≤ bs.length
    case neg => exact ro23_s b off _ cap _ bs w S h5 hl4 e rfl (by omega)
    by_cases hc6 : cap = 10
    · subst hc6
      have h6' : bs.length = 10 := by omega
      rw [h6'] at S ⊢
      exact ro23_e b off _ _ bs w S (by omega) (by omega) e rfl (by omega) rfl rfl
    · exact ro23_y b off _ cap _ _ bs w S h5 hl4 e rfl h10 rfl hc6
  · exact ro_other b off _ cap _ (bs.getD 0 0) bs w S h5 hl4 rfl rfl e
end Go.Proofs.Ytehbbkdiekgpbaa
