/- The walk of PduMatches, whole. -/
import Derived.Test.YtehbbkdiekgpbaaLMaE
import Derived.Test.YtehbbkdiekgpbaaLMaR
namespace Go.Proofs.Ytehbbkdiekgpbaa
open Go.RowKit
open Pdu
theorem len_b {a0 a2 : Nat} {l : List Bool} (hk : a0 = 1 ∨ a0 = 2) (hl : l.length = a2) (h : a2 ≤ 2000) : (repBytes ⟨a0, 0, 0, 0, l, []⟩).length ≤ 900 := by
  have hp : (pack l).length = packed a2 := by rw [pack_length, hl]
  have hq : packed a2 ≤ 250 := by unfold packed; omega
  rcases hk with rfl | rfl <;> simp [repBytes, rtail, hp] <;> omega
theorem len_r {a0 a2 : Nat} {l : List Nat} (hk : a0 = 3 ∨ a0 = 4 ∨ a0 = 23) (hl : l.length = a2) (h : a2 ≤ 125) : (repBytes ⟨a0, 0, 0, 0, [], l⟩).length ≤ 900 := by
  have hp : (wds l).length = 2 * a2 := by rw [wds_length, hl]
  rcases hk with rfl | rfl | rfl <;> simp [repBytes, rtail, hp] <;> omega
theorem fr_b {a0 a2 : Nat} (hk : a0 = 1 ∨ a0 = 2) (h : 1 ≤ a2 ∧ a2 ≤ 2000) : RFitsN a0 0 0 0 a2 0 := Or.inr ⟨rfl, Or.inl ⟨hk, h.1, h.2, rfl, rfl, rfl⟩⟩
theorem fr_r {a0 a2 : Nat} (hk : a0 = 3 ∨ a0 = 4 ∨ a0 = 23) (h : 1 ≤ a2 ∧ a2 ≤ 125) : RFitsN a0 0 0 0 0 a2 := Or.inr ⟨rfl, Or.inr (Or.inl ⟨hk, h.1, h.2, rfl, rfl, rfl⟩)⟩
theorem fr_x {a0 x : Nat} (h : a0 < 128) (hx : x ≠ 0) : RFitsN a0 x 0 0 0 0 := Or.inl ⟨hx, h, rfl, rfl, rfl, rfl⟩
theorem hd_f {a0 a1 n : Nat} {l : List Bool} {m : List Nat} : (repBytes ⟨a0, 0, a1, n, l, m⟩).getD 0 0 = a0 := by unfold repBytes; rw [if_pos rfl]; rfl
theorem hd_x {a0 x : Nat} (hx : x ≠ 0) : (repBytes ⟨a0, x, 0, 0, [], []⟩).getD 0 0 = a0 + 128 := by unfold repBytes; rw [if_neg hx]; rfl
theorem len_x {a0 x : Nat} (hx : x ≠ 0) : (repBytes ⟨a0, x, 0, 0, [], []⟩).length ≤ 900 := by unfold repBytes; rw [if_neg hx]; simp
theorem other_way {a0 a1 a2 a3 oth : Nat} {a4 : List Bool} {a5 bs : List Nat} (hf : Rq.Fits ⟨a0, a1, a2, a3, a4, a5⟩) (h0 : bs.getD 0 0 = a0 ∨ bs.getD 0 0 = a0 + 128) : oth = a0 ∨ (((oth : Int) == a0) = false ∧ ¬ IsAns ⟨oth, a1, a2, a3, a4, a5⟩ bs) := by
  by_cases h : oth = a0
  · exact Or.inl h
  · exact Or.inr ⟨by rw [beq_eq_false_iff_ne]; omega, m_other hf h h0⟩
theorem take_len {α : Type} (l : List α) (n : Nat) (z : α) : ((l ++ List.replicate n z).take n).length = n := by simp
theorem len_e {f a1 n : Nat} {l : List Bool} {m : List Nat} (hk : f = 5 ∨ f = 6 ∨ f = 15 ∨ f = 16 ∨ f = 22) (hm : m.length ≤ 2) : (repBytes ⟨f, 0, a1, n, l, m⟩).length ≤ 900 := by
  have hp : (wds m).length = 2 * m.length := wds_length m
  rcases hk with rfl | rfl | rfl | rfl | rfl <;> simp [repBytes, rtail, wd_length, hp] <;> omega
set_option maxHeartbeats 3200000 in
theorem match_law {v vb vr : Value} {q : Rq} {bits : List Bool} {regs : List Nat} {x oth : Nat} {w : World} (h : IsRq w v q) (hb : Sl w vb (bls bits)) (hr : Sl w vr (u16s regs)) (hw : Words regs) (hx : x < 256) (ho : oth < 256) : Calls Try.prog 7 #[v, vb, vr, .int .u8 x, .int .u8 oth] w fun e w' => e = .returned (.bool true) ∧ Below w.heap.size w w' := by
  have h' := h
  obtain ⟨ok, av, aw, rfl, s1, s2⟩ := h'
  obtain ⟨a0, a1, a2, a3, a4, a5⟩ := q
  obtain ⟨ao, ac, rfl⟩ := s1.shape
  obtain ⟨eo, ec, rfl⟩ := s2.shape
  clear s1 s2
  obtain ⟨bo, bc, rfl⟩ := hb.shape
  obtain ⟨ro, rc, rfl⟩ := hr.shape
  unfold rqV at h ⊢
  rw [bls_len, u16s_len] at h ⊢
  rw [bls_len] at hb ⊢
  rw [u16s_len] at hr ⊢
  simp only at h ok ⊢
  by_cases hl : a4.length ≤ 2500 ∧ a5.length ≤ 200
  case neg => exact match_heavy a0 a1 a2 a3 _ ac _ ec _ bc _ rc oth x a4 a5 ao eo bo ro w h hl
  by_cases hnb : bits.length ≤ 2500
  case neg => exact match_long a0 a1 a2 a3 _ ac _ ec _ bc _ rc oth x a4 a5 ao eo bo ro w h hl (by omega)
  by_cases hnr : regs.length ≤ 200
  case neg => exact match_wide a0 a1 a2 a3 _ ac _ ec _ bc _ rc oth x a4 a5 ao eo bo ro w h hl hnb (by omega)
  by_cases fa : Rq.Fits ⟨a0, a1, a2, a3, a4, a5⟩
  case neg => exact match_no a0 a1 a2 a3 _ ac _ ec _ bc _ rc oth x a4 a5 ao eo bo ro w h hl hnb hnr fa
  have h256 : a0 < 256 := ok.fn
  by_cases hx0 : x = 0
  case neg =>
    exact match_exc a0 a1 a2 a3 _ ac _ ec _ bc _ rc oth x a4 a5 ao eo bo ro w h hl hnb hnr fa rfl rfl hx0 (fr_x (fits_128 fa) hx0) ⟨h256, hx, by simp, by simp, fun _ h => by simp at h⟩ (m_exc fa hx0) (len_x hx0) ho (other_way fa (Or.inr (hd_x hx0))) (by simp) (by simp)
  subst hx0
  have hk : ((a0 = 1 ∨ a0 = 2) ∧ 1 ≤ a2 ∧ a2 ≤ 2000) ∨ ((a0 = 3 ∨ a0 = 4 ∨ a0 = 23) ∧ 1 ≤ a2 ∧ a2 ≤ 125) ∨ (a0 = 5 ∧ a4.length = 1 ∧ a5.length = 0) ∨ (a0 = 6 ∧ a4.length = 0 ∧ a5.length = 1) ∨ (a0 = 22 ∧ a4.length = 0 ∧ a5.length = 2) ∨ a0 = 15 ∨ a0 = 16 := by
    have hf := fa
    unfold Rq.Fits FitsN at hf
    simp only at hf
    clear fa ok h hb hr
    omega
  have hwz : Words ((regs ++ List.replicate a2 0).take a2) := fun y hy => by
    rcases List.mem_append.1 (List.mem_of_mem_take hy) with hy | hy
    · exact hw y hy
    · rw [(List.mem_replicate.1 hy).2]
      decide
  have lb := take_len bits a2 false
  have lr := take_len regs a2 0
  have h16 : a4.length < 65536 ∧ a5.length < 65536 := ⟨by have := hl.1; omega, by have := hl.2; omega⟩
  rcases hk with ⟨hk, hn⟩ | ⟨hk, hn⟩ | ⟨rfl, h4, h5⟩ | ⟨rfl, h4, h5⟩ | ⟨rfl, h4, h5⟩ | rfl | rfl
  · rcases hk with rfl | rfl
    · exact match_1 a1 a2 a3 _ ac _ ec _ bc _ rc oth a4 a5 ao eo bo ro w h hl hnb hnr fa rfl rfl bits hb rfl (show RFitsN 1 0 0 0 _ 0 from lb.symm ▸ fr_b (by decide) hn) ⟨by simp, by simp, by simp, by simp, fun _ h => by simp at h⟩ (m_bits fa (by decide) lb) (len_b (by decide) lb hn.2) ho (other_way fa (Or.inl hd_f)) (by show ((bits ++ List.replicate a2 false).take a2).length ≤ 1000000; rw [lb]; have := hn.2; omega) (by simp)
    · exact match_2 a1 a2 a3 _ ac _ ec _ bc _ rc oth a4 a5 ao eo bo ro w h hl hnb hnr fa rfl rfl bits hb rfl (show RFitsN 2 0 0 0 _ 0 from lb.symm ▸ fr_b (by decide) hn) ⟨by simp, by simp, by simp, by simp, fun _ h => by simp at h⟩ (m_bits fa (by decide) lb) (len_b (by decide) lb hn.2) ho (other_way fa (Or.inl hd_f)) (by show ((bits ++ List.replicate a2 false).take a2).length ≤ 1000000; rw [lb]; have := hn.2; omega) (by simp)
  · rcases hk with rfl | rfl | rfl
    · exact match_3 a1 a2 a3 _ ac _ ec _ bc _ rc oth a4 a5 ao eo bo ro w h hl hnb hnr fa rfl rfl regs hr rfl (show RFitsN 3 0 0 0 0 _ from lr.symm ▸ fr_r (by decide) hn) ⟨by simp, by simp, by simp, by simp, hwz⟩ (m_regs fa (by decide) lr) (len_r (by decide) lr hn.2) ho (other_way fa (Or.inl hd_f)) (by simp) (by show ((regs ++ List.replicate a2 0).take a2).length ≤ 1000000; rw [lr]; have := hn.2; omega)
    · exact match_4 a1 a2 a3 _ ac _ ec _ bc _ rc oth a4 a5 ao eo bo ro w h hl hnb hnr fa rfl rfl regs hr rfl (show RFitsN 4 0 0 0 0 _ from lr.symm ▸ fr_r (by decide) hn) ⟨by simp, by simp, by simp, by simp, hwz⟩ (m_regs fa (by decide) lr) (len_r (by decide) lr hn.2) ho (other_way fa (Or.inl hd_f)) (by simp) (by show ((regs ++ List.replicate a2 0).take a2).length ≤ 1000000; rw [lr]; have := hn.2; omega)
    · exact match_23 a1 a2 a3 _ ac _ ec _ bc _ rc oth a4 a5 ao eo bo ro w h hl hnb hnr fa rfl rfl regs hr rfl (show RFitsN 23 0 0 0 0 _ from lr.symm ▸ fr_r (by decide) hn) ⟨by simp, by simp, by simp, by simp, hwz⟩ (m_regs fa (by decide) lr) (len_r (by decide) lr hn.2) ho (other_way fa (Or.inl hd_f)) (by simp) (by show ((regs ++ List.replicate a2 0).take a2).length ≤ 1000000; rw [lr]; have := hn.2; omega)
  · have e0 : a5 = [] := List.length_eq_zero_iff.1 h5
    have e : (⟨5, 0, a1, 0, a4, a5⟩ : Rp) = echo ⟨5, a1, a2, a3, a4, a5⟩ := by rw [e0]; rfl
    exact match_5 a1 a2 a3 _ ac _ ec _ bc _ rc oth a4 a5 ao eo bo ro w h hl hnb hnr fa rfl rfl (e ▸ echo_fits fa (by simp)) ⟨by simp, by simp, ok.addr, by simp, ok.regs⟩ (by rw [e]; exact m_echo fa (by simp)) (len_e (by decide) (by omega)) ho (other_way fa (Or.inl hd_f)) (by show a4.length ≤ 1000000; omega) (by show a5.length ≤ 1000000; omega)
  · have e0 : a4 = [] := List.length_eq_zero_iff.1 h4
    have e : (⟨6, 0, a1, 0, a4, a5⟩ : Rp) = echo ⟨6, a1, a2, a3, a4, a5⟩ := by rw [e0]; rfl
    exact match_6 a1 a2 a3 _ ac _ ec _ bc _ rc oth a4 a5 ao eo bo ro w h hl hnb hnr fa rfl rfl (e ▸ echo_fits fa (by simp)) ⟨by simp, by simp, ok.addr, by simp, ok.regs⟩ (by rw [e]; exact m_echo fa (by simp)) (len_e (by decide) (by omega)) ho (other_way fa (Or.inl hd_f)) (by show a4.length ≤ 1000000; omega) (by show a5.length ≤ 1000000; omega)
  · have e0 : a4 = [] := List.length_eq_zero_iff.1 h4
    have e : (⟨22, 0, a1, 0, a4, a5⟩ : Rp) = echo ⟨22, a1, a2, a3, a4, a5⟩ := by rw [e0]; rfl
    exact match_22 a1 a2 a3 _ ac _ ec _ bc _ rc oth a4 a5 ao eo bo ro w h hl hnb hnr fa rfl rfl (e ▸ echo_fits fa (by simp)) ⟨by simp, by simp, ok.addr, by simp, ok.regs⟩ (by rw [e]; exact m_echo fa (by simp)) (len_e (by decide) (by omega)) ho (other_way fa (Or.inl hd_f)) (by show a4.length ≤ 1000000; omega) (by show a5.length ≤ 1000000; omega)
  · have e : (⟨15, 0, a1, a4.length, [], []⟩ : Rp) = echo ⟨15, a1, a2, a3, a4, a5⟩ := rfl
    exact match_15 a1 a2 a3 _ ac _ ec _ bc _ rc oth a4 a5 ao eo bo ro w h hl hnb hnr fa rfl rfl (e ▸ echo_fits fa (by simp)) ⟨by simp, by simp, ok.addr, h16.1, fun _ h => by simp at h⟩ (by rw [e]; exact m_echo fa (by simp)) (len_e (by decide) (by simp)) ho (other_way fa (Or.inl hd_f)) (by simp) (by simp)
  · have e : (⟨16, 0, a1, a5.length, [], []⟩ : Rp) = echo ⟨16, a1, a2, a3, a4, a5⟩ := rfl
    exact match_16 a1 a2 a3 _ ac _ ec _ bc _ rc oth a4 a5 ao eo bo ro w h hl hnb hnr fa rfl rfl (e ▸ echo_fits fa (by simp)) ⟨by simp, by simp, ok.addr, h16.2, fun _ h => by simp at h⟩ (by rw [e]; exact m_echo fa (by simp)) (len_e (by decide) (by simp)) ho (other_way fa (Or.inl hd_f)) (by simp) (by simp)
end Go.Proofs.Ytehbbkdiekgpbaa
