/- The walk of pack (stage 9). -/
import Derived.Test.YtoiadofoclgnoaaM3
namespace Go.Proofs.Ytoiadofoclgnoaa
open Go.RowKit
open Pdu
/-- While numbers are put. -/
structure PkR (w wr : World) (gb gr n t s : Nat) (v : Value) (l : List Int) (A : List Nat) : Prop where
  row : Row wr gb (fl n A)
  box : wr.heap[gr]? = some (.cells ([.int .u64 (t : Int), .int .u64 (s : Int), v] : List Value).toArray 61 (0, 0))
  sl : Sl wr v (i64s l)
  k1 : Below w.heap.size w wr
  hb : w.heap.size ≤ gb
  ne : gr ≠ gb
  old : Old gb v (i64s l)
theorem PkR.put_c {w wr : World} {gb gr n t s x a : Nat} {ai : Int} {xi : Int} {v : Value} {l : List Int} {A : List Nat} (h : PkR w wr gb gr n t s v l A) (hai : ai = (a : Int)) (hxi : xi = (x : Int)) (ha : a = 2 + A.length) (hf : a + 8 ≤ n) (hm : n ≤ 4096) (hx : x < 18446744073709551616) :
    Calls Try.prog 44 #[.slice (some ⟨gb, 0, none⟩) n n, .int .i64 ai, .int .u64 xi] wr fun e w' => e = .returned (.tuple #[]) ∧ PkR w w' gb gr n t s v l (A ++ be8 x) := by
  subst hai hxi
  have hl : (fl n A).length = n := fl_len (by omega)
  refine (_root_.Go.Proofs.Ytoiadofoclgnoaa.put_c h.row hl.symm (by rw [hl]; exact hf) (by omega) hx).mono ?_
  rintro e w' ⟨rfl, hr, ht⟩
  rw [fl_put ha] at hr
  refine ⟨rfl, hr, (ht.block gr (Array.getElem?_eq_some_iff.1 h.box).1 (fun e => h.ne (by simpa using e))).trans h.box, ?_, h.k1.trans (ht.below h.hb h.k1.size), h.hb, h.ne, h.old⟩
  exact h.sl.keep h.old (ht.below (Nat.le_refl _) (Nat.le_of_lt h.row.lt))
theorem PkR.box0 {w wr : World} {gb gr n t s : Nat} {v : Value} {l : List Int} {A : List Nat} (h : PkR w wr gb gr n t s v l A) : wr.cell? ⟨gr, 0, none⟩ = some (.int .u64 (t : Int)) := cell_row h.box rfl
theorem PkR.box1 {w wr : World} {gb gr n t s : Nat} {v : Value} {l : List Int} {A : List Nat} (h : PkR w wr gb gr n t s v l A) : wr.cell? ⟨gr, 1, none⟩ = some (.int .u64 (s : Int)) := cell_row h.box rfl
theorem PkR.box2 {w wr : World} {gb gr n t s : Nat} {v : Value} {l : List Int} {A : List Nat} (h : PkR w wr gb gr n t s v l A) : wr.cell? ⟨gr, 2, none⟩ = some v := cell_row h.box rfl
theorem PkR.num {w wr : World} {gb gr n t s k c : Nat} {ao : Option Addr} {l : List Int} {A : List Nat} (h : PkR w wr gb gr n t s (.slice ao l.length c) l A) (hk : k < l.length) : ∃ b off, ao = some ⟨b, off, none⟩ ∧ wr.cell? ⟨b, off + k, none⟩ = some (.int .i64 (l.getD k 0)) := by
  rcases h.sl with ⟨h0, _⟩ | ⟨b, off, cap, e, _, hl⟩
  · have := congrArg List.length h0
    rw [i64s_len] at this
    simp at this
    simp [this] at hk
  · simp only [Value.slice.injEq] at e
    exact ⟨b, off, e.1, hl k _ (i64s_at l k hk)⟩
set_option maxHeartbeats 1600000 in
theorem pack_c {w : World} {n t s : Nat} {v : Value} {l : List Int} (hs : Sl w v (i64s l)) (hI : Ints l) (h64 : 64 ≤ n) (hm : n ≤ 4096) (hl : l.length ≤ (n - 36) / 8) (ht : t < 18446744073709551616) (hsc : s < 18446744073709551616) :
    Calls Try.prog 33 #[.agg #[.int .u64 (t : Int), .int .u64 (s : Int), v], .int .i64 (n : Int)] w fun e w' => ∃ g, e = .returned (.slice (some ⟨g, 0, none⟩) n n) ∧ Row w' g (pk n t s l) ∧ Below w.heap.size w w' ∧ w.heap.size ≤ g := by
  obtain ⟨ao, c, rfl⟩ := hs.shape
  rw [i64s_len] at hs ⊢
  have HS := hid_as hs
  have HL : Hid (8 * l.length + 36 ≤ n) := by have : 8 * ((n - 36) / 8) ≤ n - 36 := Nat.mul_div_le ..; show _ ≤ _; omega
  have hl5 : l.length ≤ 508 := by omega
  clear hs hl
  obtain ⟨m, hml⟩ : ∃ m, m = l.length := ⟨_, rfl⟩
  rw [← hml]
  rw [← hml] at HS HL hl5
  have HM := hid_as hml
  clear hml
  go_enter Try.func33, Try.ntmps33
  go_upto_region 1 with fail
  obtain ⟨X, hX⟩ : ∃ X, X = w.alloc (.cells #[.int .u64 (t : Int), .int .u64 (s : Int), .slice ao m c] 61) := ⟨_, rfl⟩
  have bX : Hid (X.heap[w.heap.size]? = some (.cells ([.int .u64 (t : Int), .int .u64 (s : Int), .slice ao m c] : List Value).toArray 61 (0, 0))) := by rw [hX]; exact heap_alloc_new w _
  have kX : Hid (Below w.heap.size w X) := by rw [hX]; exact below_new (Below.refl _ w) _
  have zX : Hid (X.heap.size = w.heap.size + 1) := by rw [hX]; exact World.size_alloc ..
  rw [← hX]
  clear hX
  obtain ⟨X1, hm1, r1, k1, z1⟩ := mk_run X n (by omega)
  have P1 : Hid (PkR w X1 X.heap.size w.heap.size n t s (.slice ao m c) l []) := by
    have hr : Row X1 X.heap.size (zs n) := r1
    refine ⟨?_, (k1.block _ (by rw [zX.out]; omega)).trans bX.out, (HS.out.below (below_and kX.out k1)), below_and kX.out k1, by rw [zX.out]; omega, by rw [zX.out]; omega, HS.out.old (by rw [zX.out]; omega)⟩
    rw [fl_nil (by omega)]
    exact hr
  clear r1 k1 z1 bX kX zX HS
  generalize w.heap.size = gr at *
  generalize X.heap.size = gb at *
  have b0 := P1.out.box0
  have C1 := hid_as (P1.out.put_c (ai := 2) (a := 2) (xi := t) rfl rfl rfl (by omega) hm ht)
  go_wp2_with fail
  refine C1.out.mono ?_
  rintro e X2 ⟨rfl, p2⟩
  have P2 := hid_as p2
  have b1 := p2.box1
  have C2 := hid_as (p2.put_c (ai := 10) (a := 10) (xi := s) rfl rfl rfl (by omega) hm hsc)
  clear C1 P1 p2 b0
  go_wp2_with fail
  refine C2.out.mono ?_
  rintro e X3 ⟨rfl, p3⟩
  have P3 := hid_as p3
  have b2 := p3.box2
  have C3 := hid_as (p3.put_c (ai := 18) (a := 18) (x := m) (xi := m) rfl rfl rfl (by omega) hm (by omega))
  clear C2 P2 p3 b1
  go_wp2_with fail
  refine C3.out.mono ?_
  rintro e X4 ⟨rfl, p4⟩
  have P4 : Hid (PkR w X4 gb gr n t s (.slice ao m c) l (bd t s m (l.take 0))) := by
    have e : bd t s m (l.take 0) = [] ++ be8 t ++ be8 s ++ be8 m := by simp [bd, nmb, List.append_assoc]
    rw [e]
    exact p4
  have b2 := p4.box2
  clear C3 P3 p4
  go_wp2
  go_loopw [27] (fun i wr => ∃ k : Nat, k ≤ m ∧ i = .int .i64 k ∧ PkR w wr gb gr n t s (.slice ao m c) l (bd t s m (l.take k))) (fun i _ => m - (intOf i).toNat)
  case atStart => exact ⟨0, by omega, rfl, P4.out⟩
  case round =>
    obtain ⟨k, hk, rfl, HP⟩ := hrel
    have P := hid_as HP
    clear HP P4
    by_cases hkm : k < m
    · have hk2 : (k : Int) < (m : Int) := by omega
      have hnum : ∃ b off, ao = some ⟨b, off, none⟩ ∧ wr.cell? ⟨b, off + k, none⟩ = some (.int .i64 (l.getD k 0)) := by
        have q := P.out
        rw [HM.out] at q hkm
        exact q.num hkm
      obtain ⟨b, off, rfl, hcell⟩ := hnum
      have hkk : k < l.length := by rw [← HM.out]; exact hkm
      have hlen : (bd t s m (l.take k)).length = 24 + 8 * k := by rw [bd_len, List.length_take]; omega
      have CP : Hid (∀ (xi : Int), xi = (nm (l.getD k 0) : Int) → Calls Try.prog 44 #[.slice (some ⟨gb, 0, none⟩) n n, .int .i64 (26 + (k : Int) * 8), .int .u64 xi] wr fun e w' => e = .returned (.tuple #[]) ∧ PkR w w' gb gr n t s (.slice (some ⟨b, off, none⟩) m c) l (bd t s m (l.take (k + 1)))) := by
        intro xi hxi
        rw [bd_step hkk]
        refine P.out.put_c (a := 26 + k * 8) (by omega) hxi (by rw [hlen]; omega) (by have := HL.out; omega) hm (nm_lt _)
      have hnm := nm_is (l.getD k 0)
      have hI1 := hI.at k
      clear hlen hkk
      generalize l.getD k 0 = y at *
      go_wp2_with fail
      refine (CP.out _ ?_).mono ?_
      · first | exact hnm | rfl
      rintro e w2 ⟨rfl, q⟩
      have Q := hid_as q
      clear q CP
      go_wp2
      go_roundw
      case rel => exact ⟨k + 1, by omega, by go_num, Q.out⟩
      case measure => simp [intOf]; omega
    · obtain rfl : k = m := by omega
      have hlen : (bd t s k (l.take k)).length + 2 ≤ n := by rw [bd_len, List.length_take]; have := HL.out; omega
      have SA := hid_as (fun W => sumAt_c n W (by omega) (by omega))
      have hlt : l.take k = l := List.take_of_length_le (by rw [HM.out]; exact Nat.le_refl _)
      have r := P.out.row
      rw [hlt] at r hlen
      have SU := hid_as (sum_c (c := n) r.lies (fl_len hlen).symm (Nat.le_refl _) h64 (by omega) (fl_bytes (bd_bytes _ _ _ _)))
      have hbs := bsum_lt (fl_bytes (sz := n) (bd_bytes t s k l))
      have PU := hid_as (put_c (a := n - 10) (c := n) r (fl_len hlen).symm (by rw [fl_len hlen]; omega) (by rw [fl_len hlen]; omega) (Nat.lt_trans hbs (by decide)))
      have HK := hid_as P.out.k1
      have HB := hid_as P.out.hb
      have HPK : Hid (pk n t s l = splice (fl n (bd t s k l)) (n - 10) (be8 (bsum (fl n (bd t s k l))))) := by
        show _ = _
        rw [HM.out]
        rfl
      clear r hlt P
      go_wp2_with fail
      refine (SA.out _).mono ?_
      rintro e w2 ⟨rfl, hw⟩
      subst w2
      go_wp2_with fail
      refine SU.out.mono ?_
      rintro e w2 ⟨rfl, hw⟩
      subst w2
      go_wp2_with fail
      refine PU.out.mono ?_
      rintro e w2 ⟨rfl, r2, t2⟩
      have R2 := hid_as r2
      have T2 := hid_as t2
      clear r2 t2 PU SU SA
      go_wp2
      go_ret
      refine ⟨gb, rfl, ?_, HK.out.trans (T2.out.below HB.out HK.out.size), HB.out⟩
      rw [HPK.out]
      exact R2.out
end Go.Proofs.Ytoiadofoclgnoaa
