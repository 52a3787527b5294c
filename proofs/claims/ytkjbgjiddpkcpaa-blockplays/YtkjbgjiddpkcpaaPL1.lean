/- Two stores that do the same; a script's steps (stage 8). -/
import Derived.Test.YtkjbgjiddpkcpaaK1
import Derived.Test.YtkjbgjiddpkcpaaR4
import Derived.Test.YtkjbgjiddpkcpaaR8
namespace Go.Proofs.Ytkjbgjiddpkcpaa
open Go.RowKit
open Pdu
/-- The store and the reference's, alike in all that can be told. -/
structure Sim (s t : SS) : Prop where
  sz : t.sz = s.sz
  rows : t.rows = s.rows
  n : t.n = s.n
  dead : t.dead = s.dead
  cut : s.dead = false → (s.lft < 0 ∧ t.lft < 0) ∨ (s.lft = t.lft ∧ clip s.sz s.pre = clip s.sz t.pre)
theorem Sim.err {s t : SS} (h : Sim s t) (i : Int) : t.err i = s.err i := by
  unfold SS.err
  rw [h.dead, h.rows]
theorem Sim.row {s t : SS} (h : Sim s t) (i : Int) : t.row i = s.row i := by
  unfold SS.row
  rw [h.rows]
theorem Sim.got {s t : SS} (h : Sim s t) (i : Int) : t.got i = s.got i := by
  unfold SS.got
  rw [h.err, h.row]
theorem alive {s : SS} {i : Int} (h : s.err i = 0) : s.dead = false := by
  rcases s.err_cases i with h1 | h1 | h1
  · rw [h1.2] at h; cases h
  · exact h1.1
  · exact h1.1
theorem Sim.zero {s t : SS} (h : Sim s t) (hd : s.dead = false) : (t.lft = 0) = (s.lft = 0) := by
  apply propext
  rcases h.cut hd with h1 | h1 <;> omega
theorem Sim.errW {s t : SS} (h : Sim s t) (i : Int) (m : Nat) : t.errW i m = s.errW i m := by
  unfold SS.errW
  rw [h.err, h.sz]
  by_cases he : s.err i = 0
  · simp [he, h.zero (alive he)]
  · rw [if_pos he, if_pos he]
theorem Sim.wr {s t : SS} (h : Sim s t) (i : Int) (bs : List Nat) : Sim (s.wr i bs) (t.wr i bs) := by
  unfold SS.wr
  rw [h.err, h.sz]
  by_cases hc : s.err i ≠ 0 ∨ bs.length ≠ s.sz
  · rw [if_pos hc, if_pos hc]
    exact h
  · rw [if_neg hc, if_neg hc]
    have he : s.err i = 0 := by
      by_cases e : s.err i = 0
      · exact e
      · exact absurd (Or.inl e) hc
    have hd := alive he
    simp only [h.zero hd]
    by_cases hl : s.lft = 0
    · rw [if_pos hl, if_pos hl]
      have hcl : clip s.sz s.pre = clip s.sz t.pre := by
        rcases h.cut hd with h1 | h1
        · omega
        · exact h1.2
      refine ⟨h.sz, ?_, h.n, rfl, fun e => by cases e⟩
      show t.rows.set _ _ = s.rows.set _ _
      rw [h.rows, h.row, h.sz, hcl]
    · rw [if_neg hl, if_neg hl]
      refine ⟨h.sz, ?_, ?_, h.dead, fun e => ?_⟩
      · show t.rows.set _ _ = s.rows.set _ _
        rw [h.rows]
      · show t.n + 1 = s.n + 1
        rw [h.n]
      · show ((if 0 < s.lft then s.lft - 1 else s.lft) < 0 ∧ (if 0 < t.lft then t.lft - 1 else t.lft) < 0) ∨ ((if 0 < s.lft then s.lft - 1 else s.lft) = (if 0 < t.lft then t.lft - 1 else t.lft) ∧ clip s.sz s.pre = clip s.sz t.pre)
        rcases h.cut hd with h1 | h1
        · refine Or.inl ?_
          rw [if_neg (by omega), if_neg (by omega)]
          exact h1
        · refine Or.inr ?_
          rw [h1.1]
          exact ⟨rfl, h1.2⟩
theorem Sim.cutt {s t : SS} (h : Sim s t) (n p : Int) : Sim (s.cut n p) (t.rcut n p) := by
  unfold SS.rcut
  rw [h.dead]
  by_cases hd : s.dead = true
  · rw [if_pos hd]
    exact ⟨h.sz, h.rows, h.n, h.dead, fun e => by have e' : s.dead = false := e; rw [hd] at e'; cases e'⟩
  · rw [if_neg hd]
    refine ⟨h.sz, h.rows, h.n, rfl, fun _ => ?_⟩
    show (n < 0 ∧ (if n < -1 then -1 else n) < 0) ∨ (n = (if n < -1 then -1 else n) ∧ clip s.sz (clip s.sz p : Int) = clip s.sz p)
    by_cases hn : n < 0
    · refine Or.inl ⟨hn, ?_⟩
      split <;> omega
    · refine Or.inr ?_
      rw [if_neg (by omega)]
      exact ⟨rfl, clip_clip _ _⟩
theorem Sim.pwr {s t : SS} (h : Sim s t) : Sim s.pwr t.rpow := ⟨h.sz, h.rows, h.n, rfl, fun _ => Or.inl ⟨by show (-1 : Int) < 0; decide, by show (-1 : Int) < 0; decide⟩⟩
theorem Sim.spl {s t : SS} (h : Sim s t) (i a : Int) (x : Nat) : Sim (s.spl i a x) (t.spl i a x) := by
  unfold SS.spl
  rw [h.err, h.sz]
  by_cases hc : s.err i ≠ 0 ∨ a < 0 ∨ (s.sz : Int) ≤ a
  · rw [if_pos hc, if_pos hc]
    exact h
  · rw [if_neg hc, if_neg hc]
    exact ⟨rfl, by show t.rows.set _ _ = s.rows.set _ _; rw [h.rows, h.row], h.n, h.dead, h.cut⟩
theorem Sim.refl (s : SS) : Sim s s := ⟨rfl, rfl, rfl, rfl, fun _ => Or.inr ⟨rfl, rfl⟩⟩
theorem wr_sz (s : SS) (i : Int) (bs : List Nat) : (s.wr i bs).sz = s.sz := by
  unfold SS.wr
  split
  · rfl
  · split <;> rfl
theorem wr_n2 (s : SS) (i : Int) (bs : List Nat) : (s.wr i bs).n ≤ s.n + 1 := by
  unfold SS.wr
  split
  · omega
  · split
    · show s.n ≤ _; omega
    · exact Nat.le_refl _
theorem spl_sz (s : SS) (i a : Int) (x : Nat) : (s.spl i a x).sz = s.sz ∧ (s.spl i a x).n = s.n := by
  unfold SS.spl
  split <;> exact ⟨rfl, rfl⟩
theorem got_len {s : SS} (o : s.Ok) (i : Int) : (s.got i).length ≤ 4096 ∧ Bytes (s.got i) := by
  unfold SS.got
  split
  · rename_i h
    rcases s.err_cases i with h1 | h1 | ⟨_, _, k, rfl, hk⟩
    · rw [h1.2] at h; cases h
    · rw [h1.2.2] at h; cases h
    · exact ⟨by rw [(o.row hk).1]; exact o.hi, (o.row hk).2⟩
  · exact ⟨by simp, Bytes.nil⟩
/-- One of the steps. -/
structure Stp where
  what : Int
  i : Int
  n : Int
  p : Int
  x : Nat
  b : List Nat
def Stp.cs (y : Stp) (po : Option Addr) (pc : Nat) : List Value := [.int .i64 y.what, .int .i64 y.i, .int .i64 y.n, .int .i64 y.p, .int .u8 (y.x : Int), .slice po y.b.length pc]
def StepAt (W : World) (lb lo i : Nat) (y : Stp) : Prop := Bytes y.b ∧ y.x < 256 ∧ y.n ≤ 9223372036854775807 ∧ ∃ po pc, (∀ k u, (y.cs po pc)[k]? = some u → W.cell? ⟨lb, lo + i * 6 + k, none⟩ = some u) ∧ Sl W (.slice po y.b.length pc) (u8s y.b)
theorem StepAt.below {W W' : World} {lb lo i : Nat} {x : Stp} (h : StepAt W lb lo i x) (k : Below W.heap.size W W') : StepAt W' lb lo i x := by
  obtain ⟨h1, h2, h3, po, pc, a, d⟩ := h
  exact ⟨h1, h2, h3, po, pc, fun j u hj => keep_cell k (a j u hj), d.below k⟩
/-- So many steps and bytes. -/
def tot : List Stp → Nat
  | [] => 0
  | x :: r => 1 + x.b.length + tot r
theorem tot_app (a b : List Stp) : tot (a ++ b) = tot a + tot b := by
  induction a with
  | nil => simp [tot]
  | cons x a ih => simp only [List.cons_append, tot, ih]; omega
theorem tot_take {L : List Stp} {k : Nat} {x : Stp} (h : L[k]? = some x) : tot (L.take (k + 1)) = tot (L.take k) + (1 + x.b.length) := by
  rw [List.take_add_one, h, tot_app]
  simp [tot]
theorem tot_mem {L : List Stp} {x : Stp} (h : x ∈ L) : x.b.length ≤ tot L := by
  induction L with
  | nil => cases h
  | cons y L ih =>
    simp only [tot]
    rcases List.mem_cons.1 h with rfl | h
    · omega
    · have := ih h
      omega
/-- What light tells. -/
def Lit8 (n : Nat) (L : List Stp) (e : Ending) : Prop := ∃ b : Bool, e = .returned (.bool b) ∧ (b = true → n ≤ 200 ∧ ∀ x ∈ L, x.b.length ≤ 20000)
set_option maxHeartbeats 800000 in
theorem light_c (n c : Nat) (ao : Option Addr) (L : List Stp) (w : World) (hn : n = L.length) (hn9 : n ≤ 9223372036854775807) (hbig : ∀ x ∈ L, x.b.length ≤ 140737488355328)
    (hF : 0 < n → ∃ lb lo, ao = some ⟨lb, lo, none⟩ ∧ ∀ i x, L[i]? = some x → StepAt w lb lo i x) :
    Calls Try.prog 8 #[.slice ao n c] w fun e w' => Lit8 n L e ∧ w' = w := by
  have HF := hid_as hF
  have HN := hid_as hn
  have HBIG := hid_as hbig
  clear hF hn hbig
  go_enter Try.func8, Try.ntmps8
  go_upto_block 0 with fail
  go_cut [3] from 5 to 23 (fun v wx => ∃ M : Nat, v = .int .i64 M ∧ wx = w ∧ (M ≤ 20000 → ∀ x ∈ L, x.b.length ≤ 20000))
  case first =>
    go_wp2_with fail
    go_loop [3, 4] (fun v i => ∃ M I : Nat, v = .int .i64 M ∧ i = .int .i64 I ∧ I ≤ n ∧ I ≤ M ∧ M = tot (L.take I)) (fun _ i => n - (intOf i).toNat)
    case atStart => exact ⟨0, 0, rfl, rfl, Nat.zero_le _, Nat.le_refl _, rfl⟩
    case round =>
      obtain ⟨M, I, rfl, rfl, hI, hIM, hM⟩ := hrel
      have HM := hid_as hM
      clear hM
      by_cases hIn : I < n
      · have hI2 : (I : Int) < (n : Int) := by omega
        by_cases hM2 : M ≤ 20000
        · have hM3 : (M : Int) ≤ 20000 := by omega
          obtain ⟨lb, lo, rfl, hst⟩ := HF.out (by omega)
          obtain ⟨x, hx⟩ : ∃ x, L[I]? = some x := ⟨_, List.getElem?_eq_getElem (by rw [← HN.out]; exact hIn)⟩
          obtain ⟨_, _, _, po, pc, hc, _⟩ := hst I x hx
          have a5 : w.cell? ⟨lb, lo + I * 6 + 5, none⟩ = some (.slice po x.b.length pc) := hc 5 _ rfl
          have hlen := HBIG.out x (List.mem_of_getElem? hx)
          have HX := hid_as hx
          obtain ⟨m, hm⟩ : ∃ m, m = x.b.length := ⟨_, rfl⟩
          rw [← hm] at a5 hlen
          have HMM := hid_as hm
          clear hst hx hc hm
          go_wp2
          go_round
          case rel =>
            refine ⟨M + (1 + m), I + 1, by go_num, by go_num, by omega, by omega, ?_⟩
            rw [tot_take HX.out, ← HM.out, ← HMM.out]
          case measure => simp [intOf]; omega
        · have hM3 : ¬ ((M : Int) ≤ 20000) := by omega
          go_wp2
          go_meet
          case rel => exact ⟨M, rfl, rfl, fun h => absurd h hM2⟩
      · have hI2 : ¬ ((I : Int) < (n : Int)) := by omega
        go_wp2
        go_meet
        case rel =>
          refine ⟨M, rfl, rfl, fun h x hx => ?_⟩
          have h1 := tot_mem hx
          have h2 := HM.out
          rw [List.take_of_length_le (by rw [← HN.out]; omega)] at h2
          omega
  case rest =>
    obtain ⟨M, rfl, rfl, hall⟩ := hcut
    have HA := hid_as hall
    clear hall
    by_cases h1 : n ≤ 200
    · have h2 : (n : Int) ≤ 200 := by omega
      by_cases h3 : M ≤ 20000
      · have h4 : (M : Int) ≤ 20000 := by omega
        go_wp2
        go_ret
        exact ⟨⟨true, rfl, fun _ => ⟨h1, HA.out h3⟩⟩, rfl⟩
      · have h4 : ¬ (M : Int) ≤ 20000 := by omega
        go_wp2
        go_ret
        exact ⟨⟨false, rfl, fun h => by cases h⟩, rfl⟩
    · have h2 : ¬ (n : Int) ≤ 200 := by omega
      go_wp2
      go_ret
      exact ⟨⟨false, rfl, fun h => by cases h⟩, rfl⟩
end Go.Proofs.Ytkjbgjiddpkcpaa
