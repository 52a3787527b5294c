/- Stores whose blocks are known one by one (stage 8). -/
import Derived.Test.YtkjbgjiddpkcpaaK1
namespace Go.Proofs.Ytkjbgjiddpkcpaa
open Go.RowKit
open Pdu
/-- A living store of N blocks of z bytes, of which all is known. -/
structure Ph (s : SS) (N z n : Nat) (lft : Int) (pre : Nat) (f : Nat → List Nat) : Prop where
  sz : s.sz = z
  len : s.rows.length = N
  num : s.n = n
  dead : s.dead = false
  lft : s.lft = lft
  pre : s.pre = pre
  row : ∀ j, j < N → s.row (j : Int) = f j
theorem Ph.cong {s : SS} {N z n p : Nat} {l : Int} {f f' : Nat → List Nat} (h : Ph s N z n l p f) (k : ∀ j, j < N → f j = f' j) : Ph s N z n l p f' := ⟨h.sz, h.len, h.num, h.dead, h.lft, h.pre, fun j hj => (h.row j hj).trans (k j hj)⟩
theorem ph_new (N z : Nat) : Ph (SS.new N z) N z 0 (-1) 0 (fun _ => List.replicate z 0) := ⟨rfl, by simp [SS.new], rfl, rfl, rfl, rfl, fun j hj => by
  unfold SS.row SS.new
  simp [List.getD_eq_getElem?_getD, hj]⟩
theorem Ph.err {s : SS} {N z n p : Nat} {l : Int} {f : Nat → List Nat} (h : Ph s N z n l p f) {j : Nat} (hj : j < N) : s.err j = 0 := by
  unfold SS.err
  rw [h.len, h.dead, if_neg (by decide), if_neg (by omega)]
theorem Ph.got {s : SS} {N z n p : Nat} {l : Int} {f : Nat → List Nat} (h : Ph s N z n l p f) {j : Nat} (hj : j < N) : s.got j = f j := by
  unfold SS.got
  rw [if_pos (h.err hj), h.row j hj]
theorem set_getD {rows : List (List Nat)} {i : Nat} (j : Nat) (bs : List Nat) (hi : i < rows.length) : (rows.set i bs).getD j [] = if j = i then bs else rows.getD j [] := by
  simp only [List.getD_eq_getElem?_getD, List.getElem?_set]
  by_cases e : j = i
  · subst e
    simp [hi]
  · rw [if_neg (fun h => e h.symm), if_neg e]
theorem Ph.dn {s : SS} {N z n p : Nat} {l : Int} {f : Nat → List Nat} {bs : List Nat} (h : Ph s N z n l p f) {i : Nat} (hi : i < N) (hl : l ≠ 0) (hb : bs.length = z) : s.errW i bs.length = 0 ∧ Ph (s.wr i bs) N z (n + 1) (if 0 < l then l - 1 else l) p (fun j => if j = i then bs else f j) := by
  have he := h.err hi
  have hl' : ¬ s.lft = 0 := by rw [h.lft]; exact hl
  have hz : ¬ bs.length ≠ s.sz := by rw [hb, h.sz]; simp
  constructor
  · unfold SS.errW
    rw [if_neg (by rw [he]; simp), if_neg hz, if_neg hl']
  · have e : s.wr i bs = s.dn i bs := by
      unfold SS.wr
      rw [if_neg (by rw [he]; simp; exact Decidable.not_not.1 hz), if_neg hl']
    rw [e]
    refine ⟨h.sz, by unfold SS.dn; simp [h.len], by unfold SS.dn; simp [h.num], h.dead, by unfold SS.dn; simp [h.lft], h.pre, fun j hj => ?_⟩
    show (s.rows.set (i : Int).toNat bs).getD (j : Int).toNat [] = _
    rw [Int.toNat_natCast, Int.toNat_natCast, set_getD j bs (by rw [h.len]; exact hi), ← h.row j hj]
    rfl
theorem Ph.cut {s : SS} {N z n p : Nat} {l : Int} {f : Nat → List Nat} (h : Ph s N z n l p f) (m q : Int) : Ph (s.cut m q) N z n m (clip z q) f := ⟨h.sz, h.len, h.num, h.dead, rfl, by unfold SS.cut; rw [h.sz], h.row⟩
theorem Ph.torn {s : SS} {N z n p : Nat} {f : Nat → List Nat} {bs : List Nat} (h : Ph s N z n 0 p f) {i : Nat} (hi : i < N) (hb : bs.length = z) (hp : p ≤ z) : s.errW i bs.length = 82 ∧ (s.wr i bs).dead = true ∧ Ph (s.wr i bs).pwr N z n (-1) 0 (fun j => if j = i then bs.take p ++ (f i).drop p else f j) := by
  have he := h.err hi
  have hz : ¬ bs.length ≠ s.sz := by rw [hb, h.sz]; simp
  have hc : clip s.sz s.pre = p := by
    unfold clip
    rw [h.pre, h.sz]
    omega
  have e : s.wr i bs = s.torn i bs := by
    unfold SS.wr
    rw [if_neg (by rw [he]; simp; exact Decidable.not_not.1 hz), if_pos h.lft]
  refine ⟨?_, by rw [e]; rfl, ?_⟩
  · unfold SS.errW
    rw [if_neg (by rw [he]; simp), if_neg hz, if_pos h.lft]
  · rw [e]
    refine ⟨h.sz, by unfold SS.torn SS.pwr; simp [h.len], h.num, rfl, rfl, rfl, fun j hj => ?_⟩
    show (s.rows.set (i : Int).toNat _).getD (j : Int).toNat [] = _
    rw [Int.toNat_natCast, Int.toNat_natCast, set_getD j _ (by rw [h.len]; exact hi), ← h.row j hj, hc, h.row i hi]
    rfl
theorem dead_err {s : SS} (h : s.dead = true) (i : Int) : s.err i = 82 := by
  unfold SS.err
  rw [if_pos h]
theorem dead_wr {s : SS} (h : s.dead = true) (i : Int) (bs : List Nat) : s.errW i bs.length = 82 ∧ s.wr i bs = s := by
  constructor
  · unfold SS.errW
    rw [if_pos (by rw [dead_err h]; decide), dead_err h]
  · unfold SS.wr
    rw [if_pos (Or.inl (by rw [dead_err h]; decide))]
/-- A law's store and two rows. -/
structure TI (w W : World) (g h B d1 d2 z : Nat) (s : SS) (old now : List Nat) : Prop where
  hs : Hs w W g h s
  o1 : W.ownsRow B 5 1 (.slice (some ⟨d1, 0, none⟩) z z) old.length (u8s old)
  o2 : W.ownsRow B 5 1 (.slice (some ⟨d2, 0, none⟩) z z) now.length (u8s now)
  gB : g < B
  hB : h < B
theorem TI.nxt {w W W' : World} {g h B d1 d2 z : Nat} {s s' : SS} {old now : List Nat} (I : TI w W g h B d1 d2 z s old now) (hs : Hs w W' g h s') (o : Only [g, h] W W') : TI w W' g h B d1 d2 z s' old now :=
  ⟨hs, own_only I.o1 o (by simp; exact ⟨I.gB, I.hB⟩), own_only I.o2 o (by simp; exact ⟨I.gB, I.hB⟩), I.gB, I.hB⟩
theorem TI.below {w W W' : World} {g h B d1 d2 z : Nat} {s : SS} {old now : List Nat} (I : TI w W g h B d1 d2 z s old now) (b : Below W.heap.size W W') : TI w W' g h B d1 d2 z s old now :=
  ⟨I.hs.below b, own_below I.o1 b (Nat.le_refl _), own_below I.o2 b (Nat.le_refl _), I.gB, I.hB⟩
theorem TI.write1 {w W : World} {g h B d1 d2 z : Nat} {s : SS} {old now : List Nat} (I : TI w W g h B d1 d2 z s old now) (i : Int) (hB : Bytes old) (hn : s.n ≤ 1000000) : Calls Try.prog 15 #[.pointer (some ⟨g, 0, none⟩), .int .i64 i, .slice (some ⟨d1, 0, none⟩) z z] W fun e W' => e = .returned (.int .i64 (s.errW i old.length : Int)) ∧ TI w W' g h B d1 d2 z (s.wr i old) old now := by
  refine (I.hs.wrt i I.o1 I.gB I.hB hB hn).mono ?_
  rintro e W' ⟨rfl, t, k⟩
  exact ⟨rfl, I.nxt t k⟩
theorem TI.write2 {w W : World} {g h B d1 d2 z : Nat} {s : SS} {old now : List Nat} (I : TI w W g h B d1 d2 z s old now) (i : Int) (hB : Bytes now) (hn : s.n ≤ 1000000) : Calls Try.prog 15 #[.pointer (some ⟨g, 0, none⟩), .int .i64 i, .slice (some ⟨d2, 0, none⟩) z z] W fun e W' => e = .returned (.int .i64 (s.errW i now.length : Int)) ∧ TI w W' g h B d1 d2 z (s.wr i now) old now := by
  refine (I.hs.wrt i I.o2 I.gB I.hB hB hn).mono ?_
  rintro e W' ⟨rfl, t, k⟩
  exact ⟨rfl, I.nxt t k⟩
end Go.Proofs.Ytkjbgjiddpkcpaa
