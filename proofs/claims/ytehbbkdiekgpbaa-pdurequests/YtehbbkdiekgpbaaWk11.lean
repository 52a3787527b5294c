/- The walks: counted bits and words laid behind bytes. -/
import Derived.Test.YtehbbkdiekgpbaaWk3
import Derived.Test.YtehbbkdiekgpbaaWk4
import Derived.Test.YtehbbkdiekgpbaaWk6
namespace Go.Proofs.Ytehbbkdiekgpbaa
open Go.RowKit
open Pdu
theorem own_grow {w w1 : World} {base n : Nat} {v : Value} {xs : List Value} {o : Obj} (h : w.ownsRow base 5 1 v n xs) (hbase : base ≤ w.heap.size) (hg : (w.alloc o).grownBy w1 v.ownBlock) : Below base w w1 :=
  ((Below.refl base w).alloc hbase o).grown hg (by simp; omega) (fun g hg' => (h.lt g hg').1)
theorem Off.lower {base : Nat} {w w' : World} {v : Value} {vs : List Value} (h : Off base w v vs) (hb : ∀ a n c, v = .slice (some a) n c → vs ≠ [] → w'.heap[a.block]? = w.heap[a.block]?) : Off base w' v vs := by
  intro hne a n c hv
  rcases h hne a n c hv with h | ⟨cs, fl, h⟩
  · exact Or.inl h
  · exact Or.inr ⟨cs, fl, (hb a n c hv hne).trans h⟩
/-- A slice that lies below base. -/
def Old (base : Nat) (v : Value) (vs : List Value) : Prop := vs ≠ [] → ∀ a n c, v = .slice (some a) n c → a.block < base
theorem Old.off {base : Nat} {v : Value} {vs : List Value} (h : Old base v vs) (w : World) : Off base w v vs := fun hne a n c hv => Or.inl (h hne a n c hv)
theorem Sl.old {w : World} {v : Value} {vs : List Value} (h : Sl w v vs) {base : Nat} (hb : w.heap.size ≤ base) : Old base v vs := by
  intro hne a n c hv
  rcases h with ⟨h, _⟩ | ⟨b, off, cap, rfl, _, hc⟩
  · exact absurd h hne
  · simp only [Value.slice.injEq, Option.some.injEq] at hv
    have h0 : 0 < vs.length := List.length_pos_iff.2 hne
    have := lt_of_cell (hc 0 _ (List.getElem?_eq_getElem h0))
    rw [← hv.1]
    exact Nat.lt_of_lt_of_le this hb
theorem Sl.keep {base : Nat} {w u : World} {v : Value} {vs : List Value} (h : Sl w v vs) (ho : Old base v vs) (k : Below base w u) : Sl u v vs := by
  rcases h with h | ⟨b, off, cap, rfl, hcap, hc⟩
  · exact Or.inl h
  · by_cases hne : vs = []
    · subst hne
      exact Or.inl ⟨rfl, some ⟨b, off, none⟩, cap, rfl, fun h => by simp at h⟩
    · exact Or.inr ⟨b, off, cap, rfl, hcap, hc.kept (k.block b (ho hne _ _ _ rfl))⟩
set_option maxHeartbeats 1600000 in
theorem putRegs_c {base : Nat} {bv v : Value} {bs l : List Nat} {w : World} (hw : Words l) (hsz : bs.length + 2 * l.length ≤ 60000)
    (hown : w.ownsRow base 5 1 bv bs.length (u8s bs)) (hl : Sl w v (u16s l)) (hoff : Old base v (u16s l)) (hbase : base ≤ w.heap.size) :
    Calls Try.prog 35 #[bv, v] w fun e w' => ∃ v', e = .returned v' ∧ w'.ownsRow base 5 1 v' (bs ++ (2 * l.length % 256 :: wds l)).length (u8s (bs ++ (2 * l.length % 256 :: wds l))) ∧ Below base w w' := by
  obtain ⟨i0, hi, hz0, hz1, hz2⟩ := info_parts Try.infoByte
  obtain ⟨ao, c, rfl⟩ := hl.shape
  rw [u16s_len] at hl hoff ⊢
  obtain ⟨m, hm⟩ : ∃ m, m = l.length := ⟨_, rfl⟩
  rw [← hm] at hl hoff hsz ⊢
  have HM : Hid (m = l.length) := hm
  have HL : Hid (Sl w (.slice ao m c) (u16s l)) := hl
  have HF : Hid (Old base (.slice ao m c) (u16s l)) := hoff
  have HO : Hid (w.ownsRow base 5 1 bv bs.length (u8s bs)) := hown
  clear hl hoff hm hown
  go_enter Try.func35, Try.ntmps35
  go_wp2_with (at_builtin; refine wpList_append_own _ rfl (.tmp 5) (.tmp 10) 29 rfl base 5 i0 (.int .u8 0) 1 1 Try.underlying29 hi hz0 hz1 hz2 rfl (by decide) _ bs.length _ rfl (HO.out.alloc _) ⟨w.heap.size, 0, none⟩ 1 1 [.int .u8 (2 * (m : Int) % 256)] rfl rfl (one_cell _ _ _) (one_int _ _) (by unfold maxLen; omega) (by omega) (by simp; omega) ?_; intro v' w1 hown' hgrow _)
  have hb : Below base w w1 := own_grow HO hbase hgrow
  have e1 : u8s bs ++ [.int .u8 (2 * (m : Int) % 256)] = u8s (bs ++ [2 * m % 256]) := by rw [u8s_app]; simp [u8s]
  rw [e1] at hown'
  have hlen : (bs ++ [2 * m % 256]).length = bs.length + 1 := by simp
  refine (putWords_c (base := base) (bs := bs ++ [2 * m % 256]) (l := l) hw (by rw [hlen, ← (show m = _ from HM)]; omega) (by rw [hlen]; exact hown') (HL.out.keep HF hb) (HF.out.off _) (Nat.le_trans hbase hb.size)).mono ?_
  rintro e w2 ⟨v2, rfl, own2, hb2⟩
  rw [List.append_assoc] at own2
  have own2 : Hid (w2.ownsRow base 5 1 v2 (bs ++ (2 * m % 256 :: wds l)).length (u8s (bs ++ (2 * m % 256 :: wds l)))) := own2
  have hb2 : Hid (Below base w w2) := hb.trans hb2
  clear hown' hgrow hb e1 hlen
  go_wp2
  go_ret
  exact ⟨_, rfl, own2, hb2⟩
set_option maxHeartbeats 1600000 in
theorem putBits_c {base : Nat} {bv v : Value} {bs : List Nat} {l : List Bool} {w : World} (hsz : bs.length + l.length ≤ 60000)
    (hown : w.ownsRow base 5 1 bv bs.length (u8s bs)) (hl : Sl w v (bls l)) (hbase : base ≤ w.heap.size) :
    Calls Try.prog 34 #[bv, v] w fun e w' => ∃ v', e = .returned v' ∧ w'.ownsRow base 5 1 v' (bs ++ ((pack l).length % 256 :: pack l)).length (u8s (bs ++ ((pack l).length % 256 :: pack l))) ∧ Below base w w' := by
  obtain ⟨i0, hi, hz0, hz1, hz2⟩ := info_parts Try.infoByte
  have hpl : (pack l).length ≤ 8000 := by rw [pack_length]; unfold packed; omega
  have HO : Hid (w.ownsRow base 5 1 bv bs.length (u8s bs)) := hown
  have HL : Hid (Sl w v (bls l)) := hl
  clear hown hl
  go_enter Try.func34, Try.ntmps34
  go_wp2_with fail
  refine (pack_c HL.out (by omega)).mono ?_
  rintro e w1 ⟨v1, rfl, hv1, own1, hb1⟩
  obtain ⟨p, hp⟩ : ∃ p, p = (pack l).length := ⟨_, rfl⟩
  have hp8 : p ≤ 8000 := by rw [hp]; exact hpl
  rw [← hp] at own1 hv1
  subst hv1
  have HP : Hid (p = (pack l).length) := hp
  have HB : Hid (Below w.heap.size w w1) := hb1
  have H1 : Hid (w1.ownsRow base 5 1 bv bs.length (u8s bs)) := own_below HO.out hb1 (Nat.le_refl _)
  have OLD : Hid (∀ g, bv.ownBlock = some g → g < w.heap.size) := fun g hg => (HO.out.lt g hg).2
  have hs1 : w.heap.size ≤ w1.heap.size := hb1.size
  have HD : Hid (w1.ownsRow w.heap.size 5 1 (.slice (some ⟨w.heap.size, 0, none⟩) p p) p (u8s (pack l))) := own1
  clear own1 hb1 hp hpl HO
  go_wp2_with (at_builtin; refine wpList_append_own _ rfl (.tmp 8) (.tmp 12) 29 rfl base 5 i0 (.int .u8 0) 1 1 Try.underlying29 hi hz0 hz1 hz2 rfl (by decide) _ bs.length _ rfl (H1.out.alloc _) ⟨w1.heap.size, 0, none⟩ 1 1 [.int .u8 ((p : Int) % 256)] rfl rfl (one_cell _ _ _) (one_int _ _) (by unfold maxLen; omega) (by omega) (by simp; omega) ?_)
  intro v2 w2 hown2 hgrow2 _
  have e1 : u8s bs ++ [.int .u8 ((p : Int) % 256)] = u8s (bs ++ [p % 256]) := by rw [u8s_app]; simp [u8s]
  rw [e1] at hown2
  have hb2 : Below base w1 w2 := own_grow H1 (by omega) hgrow2
  have hd2 : w2.ownsRow w.heap.size 5 1 (.slice (some ⟨w.heap.size, 0, none⟩) p p) p (u8s (pack l)) := (HD.out.alloc _).kept hgrow2 (Or.inr fun e => by have := OLD.out w.heap.size e.symm; omega)
  have hs2 := hb2.size
  have news := hd2.cells (g := w.heap.size) rfl
  have hnl : (u8s (pack l)).length = p * 1 := by rw [u8s_len, Nat.mul_one]; exact HP.out.symm
  have K2 : Hid (Below base w1 w2) := hb2
  clear hgrow2 hd2 hb2 e1
  go_wp2_with (at_builtin; refine wpList_append_own _ rfl (.tmp 13) (.tmp 14) 29 rfl base 5 i0 (.int .u8 0) 1 1 Try.underlying29 hi hz0 hz1 hz2 rfl (by decide) _ (bs.length + 1) _ rfl hown2 ⟨w.heap.size, 0, none⟩ p p (u8s (pack l)) rfl hnl news (u8s_one _) (by unfold maxLen; omega) (by omega) (by omega) ?_; intro v3 w3 hown3 hgrow3 _)
  have hb3 : Hid (Below base w w3) := (HB.out.mono hbase).trans (K2.out.trans ((Below.refl base w2).grown hgrow3 (by omega) (fun g hg' => (hown2.lt g hg').1)))
  rw [← u8s_app, List.append_assoc] at hown3
  have own3 : Hid (w3.ownsRow base 5 1 v3 (bs ++ ((pack l).length % 256 :: pack l)).length (u8s (bs ++ ((pack l).length % 256 :: pack l)))) := by
    rw [← (show p = _ from HP), show (bs ++ p % 256 :: pack l).length = bs.length + 1 + p by rw [List.length_append, List.length_cons, ← (show p = _ from HP)]; omega]
    exact hown3
  clear hown3 hgrow3 hown2 news hnl
  go_wp2
  go_ret
  exact ⟨_, rfl, own3, hb3⟩
end Go.Proofs.Ytehbbkdiekgpbaa
