/- Requests read out of bytes, in plain mathematics. -/
import Derived.Test.YtehbbkdiekgpbaaPlain2
namespace Go.Proofs.Ytehbbkdiekgpbaa
namespace Pdu
/-- These bytes are a request. -/
def IsReq (bs : List Nat) : Prop :=
  5 ≤ bs.length ∧ bs.length ≤ 253 ∧
  (((bs.getD 0 0 = 1 ∨ bs.getD 0 0 = 2) ∧ bs.length = 5 ∧ 1 ≤ wordAt bs 3 ∧ wordAt bs 3 ≤ 2000) ∨
   ((bs.getD 0 0 = 3 ∨ bs.getD 0 0 = 4) ∧ bs.length = 5 ∧ 1 ≤ wordAt bs 3 ∧ wordAt bs 3 ≤ 125) ∨
   (bs.getD 0 0 = 5 ∧ bs.length = 5 ∧ (wordAt bs 3 = 65280 ∨ wordAt bs 3 = 0)) ∨
   (bs.getD 0 0 = 6 ∧ bs.length = 5) ∨
   (bs.getD 0 0 = 15 ∧ 1 ≤ wordAt bs 3 ∧ wordAt bs 3 ≤ 1968 ∧ bs.length = 6 + packed (wordAt bs 3) ∧ bs.getD 5 0 = packed (wordAt bs 3)) ∨
   (bs.getD 0 0 = 16 ∧ 1 ≤ wordAt bs 3 ∧ wordAt bs 3 ≤ 123 ∧ bs.length = 6 + 2 * wordAt bs 3 ∧ bs.getD 5 0 = 2 * wordAt bs 3) ∨
   (bs.getD 0 0 = 22 ∧ bs.length = 7) ∨
   (bs.getD 0 0 = 23 ∧ 10 ≤ bs.length ∧ 1 ≤ wordAt bs 3 ∧ wordAt bs 3 ≤ 125 ∧ 1 ≤ wordAt bs 7 ∧ wordAt bs 7 ≤ 121 ∧ bs.length = 10 + 2 * wordAt bs 7 ∧ bs.getD 9 0 = 2 * wordAt bs 7))
def readReq (bs : List Nat) : Rq :=
  { fn := bs.getD 0 0
    addr := wordAt bs 1
    n := if bs.getD 0 0 ≤ 4 ∨ bs.getD 0 0 = 23 then wordAt bs 3 else 0
    addr2 := if bs.getD 0 0 = 23 then wordAt bs 5 else 0
    bits := if bs.getD 0 0 = 5 then [decide (wordAt bs 3 = 65280)] else if bs.getD 0 0 = 15 then ub (bs.drop 6) (wordAt bs 3) else []
    regs := if bs.getD 0 0 = 6 ∨ bs.getD 0 0 = 22 then ws (bs.drop 3) else if bs.getD 0 0 = 16 then ws (bs.drop 6) else if bs.getD 0 0 = 23 then ws (bs.drop 10) else [] }
theorem isReq_bytes {q : Rq} (hf : q.Fits) (ok : q.Ok) : IsReq (reqBytes q) ∧ readReq (reqBytes q) = q := by
  obtain ⟨fn, addr, n, addr2, bits, regs⟩ := q
  have hA : 256 * (addr / 256) + addr % 256 = addr := by omega
  have hN : 256 * (n / 256) + n % 256 = n := by omega
  have hA2 : 256 * (addr2 / 256) + addr2 % 256 = addr2 := by omega
  have hf' : FitsN fn n addr2 bits.length regs.length := hf
  unfold FitsN at hf'
  rcases hf' with ⟨h, h1, h2, hb, hr, ha⟩ | ⟨h, h1, h2, hb, hr, ha⟩ | ⟨rfl, h1, hb, hr, ha⟩ | ⟨rfl, h1, hb, hr, ha⟩ | ⟨rfl, h1, hb, hb2, hr, ha⟩ | ⟨rfl, h1, hb, hr, hr2, ha⟩ | ⟨rfl, h1, hb, hr, ha⟩ | ⟨rfl, h1, h2, hb, hr, hr2⟩
  · have hb := List.length_eq_zero_iff.1 hb
    have hr := List.length_eq_zero_iff.1 hr
    subst hb hr ha
    rcases h with rfl | rfl <;> exact ⟨⟨by simp [reqBytes, tail, wd], by simp [reqBytes, tail, wd], Or.inl (by simp [reqBytes, tail, wd, wordAt, hN]; omega)⟩, by simp [readReq, reqBytes, tail, wd, wordAt, hA, hN]⟩
  · have hb := List.length_eq_zero_iff.1 hb
    have hr := List.length_eq_zero_iff.1 hr
    subst hb hr ha
    rcases h with rfl | rfl <;> exact ⟨⟨by simp [reqBytes, tail, wd], by simp [reqBytes, tail, wd], Or.inr (Or.inl (by simp [reqBytes, tail, wd, wordAt, hN]; omega))⟩, by simp [readReq, reqBytes, tail, wd, wordAt, hA, hN]⟩
  · have hr := List.length_eq_zero_iff.1 hr
    obtain ⟨on, rfl⟩ := List.length_eq_one_iff.1 hb
    subst hr ha h1
    cases on <;> exact ⟨⟨by simp [reqBytes, tail, wd], by simp [reqBytes, tail, wd], Or.inr (Or.inr (Or.inl (by simp [reqBytes, tail, wd, wordAt, coil])))⟩, by simp [readReq, reqBytes, tail, wd, wordAt, hA, coil]⟩
  · have hb := List.length_eq_zero_iff.1 hb
    obtain ⟨x, rfl⟩ := List.length_eq_one_iff.1 hr
    subst hb ha h1
    have e := ws_wds [x]
    exact ⟨⟨by simp [reqBytes, tail, wd, wds], by simp [reqBytes, tail, wd, wds], Or.inr (Or.inr (Or.inr (Or.inl (by simp [reqBytes, tail, wd, wds]))))⟩, by simp [readReq, reqBytes, tail, wd, wordAt, hA]; exact e⟩
  · have hr := List.length_eq_zero_iff.1 hr
    subst hr ha h1
    have hL : 256 * (bits.length / 256) + bits.length % 256 = bits.length := by omega
    have hp : (pack bits).length = packed bits.length := pack_length bits
    have hp2 : packed bits.length ≤ 246 := by unfold packed; omega
    have hp3 : packed bits.length % 256 = packed bits.length := by omega
    refine ⟨⟨by simp [reqBytes, tail, wd], by simp [reqBytes, tail, wd, hp]; omega, Or.inr (Or.inr (Or.inr (Or.inr (Or.inl ?_))))⟩, ?_⟩
    · simp [reqBytes, tail, wd, wordAt, hL, hp, hp3]
      omega
    · simp [readReq, reqBytes, tail, wd, wordAt, hA, hL, ub_pack]
  · have hb := List.length_eq_zero_iff.1 hb
    subst hb ha h1
    have hL : 256 * (regs.length / 256) + regs.length % 256 = regs.length := by omega
    have hp : (wds regs).length = 2 * regs.length := wds_length regs
    have hp3 : 2 * regs.length % 256 = 2 * regs.length := by omega
    refine ⟨⟨by simp [reqBytes, tail, wd], by simp [reqBytes, tail, wd, hp]; omega, Or.inr (Or.inr (Or.inr (Or.inr (Or.inr (Or.inl ?_)))))⟩, ?_⟩
    · simp [reqBytes, tail, wd, wordAt, hL, hp, hp3]
      omega
    · simp [readReq, reqBytes, tail, wd, wordAt, hA, ws_wds]
  · have hb := List.length_eq_zero_iff.1 hb
    subst hb ha h1
    have hp : (wds regs).length = 2 * regs.length := wds_length regs
    refine ⟨⟨by simp [reqBytes, tail, wd, hp]; omega, by simp [reqBytes, tail, wd, hp]; omega, Or.inr (Or.inr (Or.inr (Or.inr (Or.inr (Or.inr (Or.inl ?_))))))⟩, ?_⟩
    · simp [reqBytes, tail, wd, hp]
      omega
    · simp [readReq, reqBytes, tail, wd, wordAt, hA, ws_wds]
  · have hb := List.length_eq_zero_iff.1 hb
    subst hb
    have hL : 256 * (regs.length / 256) + regs.length % 256 = regs.length := by omega
    have hp : (wds regs).length = 2 * regs.length := wds_length regs
    have hp3 : 2 * regs.length % 256 = 2 * regs.length := by omega
    refine ⟨⟨by simp [reqBytes, tail, wd], by simp [reqBytes, tail, wd, hp]; omega, Or.inr (Or.inr (Or.inr (Or.inr (Or.inr (Or.inr (Or.inr ?_))))))⟩, ?_⟩
    · simp [reqBytes, tail, wd, wordAt, hL, hN, hp, hp3]
      omega
    · simp [readReq, reqBytes, tail, wd, wordAt, hA, hN, hA2, ws_wds]
theorem read_fits {bs : List Nat} (h : IsReq bs) : (readReq bs).Fits := by
  obtain ⟨h5, _, h⟩ := h
  unfold Rq.Fits FitsN
  rcases h with ⟨h | h, h1, h2, h3⟩ | ⟨h | h, h1, h2, h3⟩ | ⟨h, h1, h2⟩ | ⟨h, h1⟩ | ⟨h, h1, h2, h3, h4⟩ | ⟨h, h1, h2, h3, h4⟩ | ⟨h, h1⟩ | ⟨h, h0, h1, h2, h3, h4, h6, h7⟩
  all_goals simp only [readReq, h]
  all_goals simp [ub_length, ws_length]
  all_goals omega
theorem read_ok {bs : List Nat} (hB : Bytes bs) : (readReq bs).Ok := by
  refine ⟨hB.at 0, wordAt_lt hB 1, ?_, ?_, ?_⟩
  · show (if _ then _ else _) < 65536
    split
    · exact wordAt_lt hB 3
    · decide
  · show (if _ then _ else _) < 65536
    split
    · exact wordAt_lt hB 5
    · decide
  · show Words (if _ then _ else _)
    split
    · exact ws_words (hB.drop 3)
    split
    · exact ws_words (hB.drop 6)
    split
    · exact ws_words (hB.drop 10)
    · exact fun _ h => by simp at h
end Pdu
end Go.Proofs.Ytehbbkdiekgpbaa
