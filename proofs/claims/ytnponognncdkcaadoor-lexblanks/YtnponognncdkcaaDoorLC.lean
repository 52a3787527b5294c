/- The law of blanks, walked (stage 12). -/
import Derived.Test.YtnponognncdkcaaDoorJ6
import Derived.Test.YtnponognncdkcaaDoorLW
import Derived.Deep.RegionHeld3
import Derived.Deep.RegionWith
namespace Go.Proofs.YtnponognncdkcaaDoor
open Go.RowKit
open Adr Lx
/-- What the law holds: the tables, the tokens in block g. -/
structure JB (w W : World) (g : Nat) (L : List (Tk × Nat)) : Prop where
  kept : Below w.heap.size w W
  tabs : Tabs W
  ld : Laid W g L
  lt : g < W.heap.size
theorem JB.below {w W W' : World} {g : Nat} {L : List (Tk × Nat)} (j : JB w W g L) (k : Below W.heap.size W W') : JB w W' g L := ⟨below_and j.kept k, j.tabs.below k, j.ld.below j.lt k, Nat.lt_of_lt_of_le j.lt k.size⟩
theorem JB.alloc {w W : World} {g : Nat} {L : List (Tk × Nat)} (j : JB w W g L) (o : Obj) : JB w (W.alloc o) g L := j.below (below_new1 W o)
theorem JB.drew {w W : World} {g : Nat} {L : List (Tk × Nat)} (j : JB w W g L) : JB w W.drew g L := j.below (Same.drew W).below
theorem JB.drewN {w W : World} {g : Nat} {L : List (Tk × Nat)} (d : Nat) (j : JB w W g L) : JB w (W.drewN d) g L := j.below (Same.drewN W d).below
/-- The blanks: each a number of one byte. -/
def Bl (w : World) (ao : Option Addr) (n : Nat) (f : Nat → Nat) : Prop := n = 0 ∨ ∃ b off, ao = some ⟨b, off, none⟩ ∧ b < w.heap.size ∧ ∀ i, i < n → w.cell? ⟨b, off + i, none⟩ = some (.int .u8 ((f i : Nat) : Int)) ∧ f i ≤ 255
def sepB (k : Nat) : ByteArray := tx (sep k)
def pcells : Array Value := #[.string ⟨#[32]⟩, .string ⟨#[10]⟩, .string ⟨#[9, 32, 13]⟩, .string ⟨#[40, 42, 32, 120, 32, 42, 41]⟩, .string ⟨#[32, 40, 42, 42, 41, 32]⟩, .string ⟨#[10, 40, 42, 32, 40, 42, 32, 42, 41, 10]⟩]
theorem pcells_at (k : Nat) (h : k < 6) : pcells[k]? = some (.string (sepB k)) := by
  have hc : k = 0 ∨ k = 1 ∨ k = 2 ∨ k = 3 ∨ k = 4 ∨ k = 5 := by omega
  rcases hc with rfl | rfl | rfl | rfl | rfl | rfl <;> rfl
theorem pc_new (W : World) (k : Nat) (hk : k < 6) : (W.alloc (.cells #[.string ⟨#[32]⟩, .string ⟨#[10]⟩, .string ⟨#[9, 32, 13]⟩, .string ⟨#[40, 42, 32, 120, 32, 42, 41]⟩, .string ⟨#[32, 40, 42, 42, 41, 32]⟩, .string ⟨#[10, 40, 42, 32, 40, 42, 32, 42, 41, 10]⟩] 9)).cell? ⟨W.heap.size, k, none⟩ = some (.string (sepB k)) := by
  rw [World.cell?_alloc_at _ _ _ _ rfl]
  exact pcells_at k hk
theorem sepB_size (k : Nat) : (sepB k).size ≤ 10 := by
  unfold sepB
  rw [tx_size]
  unfold sep; split <;> decide
theorem ale (a m : Nat) : (a : Int) ≤ (a : Int) + m := by omega
theorem ams {a z m S : Nat} (h : a + z ≤ S) (hm : m ≤ z) : (a : Int) + m ≤ S := by omega
theorem amt (a m : Nat) : ((a : Int) + m).toNat = a + m := by omega
theorem zz1 {o i a z S N q : Nat} (h : o ≤ 10 * i + a) (h2 : a + z ≤ S) (h3 : i ≤ N) (h4 : N ≤ S) (h5 : S ≤ 1500) (h6 : q ≤ 10) : ¬ 9223372036854775807 < o + q := by omega
theorem zz2 {o i a z S N q : Nat} (m : Nat) (h : o ≤ 10 * i + a) (h2 : a + z ≤ S) (h3 : i ≤ N) (h4 : N ≤ S) (h5 : S ≤ 1500) (h6 : q ≤ 10) : ¬ 9223372036854775807 < o + q + (min (a + m) S - a) := by omega
theorem cat_list (a b : ByteArray) : (a ++ b).data.toList = a.data.toList ++ b.data.toList := by simp
theorem lb2 (W : World) (o p : Obj) : Below W.heap.size W ((W.alloc o).alloc p).drew := below_and (below_and (below_new1 W o) (below_new1 _ p)) (Same.drew _).below
theorem sep_len (k : Nat) : (sep k).length ≤ 10 := by unfold sep; split <;> decide
theorem sq_len {l : List UInt8} {B : List (Tk × Nat)} {k : Nat} (h : Sq l B k) : B.length ≤ k := by
  have q : ∀ i, i ≤ B.length → i ≤ nxp B k i ∨ B.length = 0 := by
    intro i
    induction i with
    | zero => intro _; exact Or.inl (Nat.zero_le _)
    | succ i ih =>
      intro hi
      obtain ⟨t, a, z, e1, e2, e3⟩ := h i (by omega)
      rcases ih (by omega) with q | q
      · have e4 : nxp B k i = a := by unfold nxp; rw [e1]; rfl
        have := e2.z
        exact Or.inl (by omega)
      · exact Or.inr q
  rcases q B.length (Nat.le_refl _) with e | e
  · have : nxp B k B.length = k := by unfold nxp; rw [List.getElem?_eq_none (Nat.le_refl _)]; rfl
    omega
  · omega
theorem nxp_le {l : List UInt8} {B : List (Tk × Nat)} (h : Sq l B l.length) (i : Nat) : nxp B l.length i ≤ l.length := by
  unfold nxp
  cases e : B[i]? with
  | none => exact Nat.le_refl _
  | some p =>
    have hi : i < B.length := (List.getElem?_eq_some_iff.1 e).1
    obtain ⟨t, a, z, e1, e2, e3⟩ := h i hi
    rw [e] at e1
    rw [Option.some.inj e1]
    have := e2.z
    show a ≤ l.length
    omega
set_option maxHeartbeats 4000000 in
set_option maxRecDepth 100000 in
theorem blanks_ok (s : ByteArray) (ao : Option Addr) (n c : Nat) (f : Nat → Nat) (w : World) (hT : Tabs w) (hs : s.size ≤ 1500) (hn : n ≤ 400) (hb : Bl w ao n f) (L : List (Tk × Nat)) (hL : toks s.data.toList false = (L, none)) : Calls Tryd.prog 3 #[.string s, .slice ao n c] w fun e w' => e = .returned (.bool true) ∧ Below w.heap.size w w' := by
  have K := hid_as (known_b w hT)
  have hs' : ¬ (1500 : Int) < s.size := by omega
  have hn' : ¬ (400 : Int) < n := by omega
  have TK := hid_as (fun W hW => tokens_yes (s := s) (il := false) hL (by omega) W hW)
  obtain ⟨B, hLB, hSq, _⟩ := toks_sq hL
  have hBl := sq_len hSq
  rw [← Lib.size_eq] at hBl
  have hLl : L.length = B.length + 1 := by rw [hLB, List.length_append]; rfl
  replace hLB := hid_as hLB
  replace hSq := hid_as hSq
  replace hb := hid_as hb
  clear hL
  generalize L.length = N at *
  subst hLl
  go_enter Tryd.func3, Tryd.ntmps3
  go_wp2_with (first
    | (go_at_call 8; (with_reducible refine K.out.mono ?_); rintro e w1 ⟨rfl, b1, hT1⟩)
    | (go_at_call 9; (with_reducible refine (TK.out _ hT1).mono ?_); rintro e w2 ⟨g, cap, rfl, hg1, hg2, hLd, b2⟩))
  have hJ0 : Hid (JB w w2 g L) := ⟨below_and b1 b2, hT1.below b2, hLd, hg2⟩
  clear hLd hT1 b1 b2 TK K
  have hJ1 := hJ0
  clear hJ0
  go_loopw [7, 8] (fun o v wr => ∃ (i : Nat) (out : ByteArray), i ≤ B.length ∧ v = .int .i64 i ∧ o = .string out ∧ Hid (JB w wr g L) ∧ Hid (Inv B i out.data.toList) ∧ out.size ≤ 10 * i + nxp B s.data.toList.length i) (fun o v wr => B.length - (intOf v).toNat)
  case atStart => exact ⟨0, ⟨#[]⟩, by omega, rfl, rfl, hJ1, hid_as (Inv.fresh B), Nat.zero_le _⟩
  case round =>
    obtain ⟨i, out, hi, rfl, rfl, hJ, hI, ho⟩ := hrel
    by_cases hlt : i < B.length
    · obtain ⟨t, a, z, e1, e2, e3⟩ := hSq.out i hlt
      have hlt' : (i : Int) + 1 < (B.length : Int) + 1 := by omega
      have hz := e2.z
      rw [← Lib.size_eq] at hz
      have ea : nxp B s.data.toList.length i = a := by unfold nxp; rw [e1]; rfl
      have hnx := nxp_le hSq.out (i + 1)
      have hL1 : L[i]? = some (t, a) := by rw [hLB.out, List.getElem?_append_left hlt, e1]
      have hL2 : ∃ t2, L[i + 1]? = some (t2, nxp B s.data.toList.length (i + 1)) := by
        rw [hLB.out]
        unfold nxp
        by_cases q : i + 1 < B.length
        · rw [List.getElem?_append_left q, List.getElem?_eq_getElem q]
          exact ⟨_, rfl⟩
        · have q2 : i + 1 = B.length := by omega
          rw [q2, List.getElem?_append_right (Nat.le_refl _), Nat.sub_self, List.getElem?_eq_none (Nat.le_refl _)]
          exact ⟨_, rfl⟩
      obtain ⟨t2, hL2⟩ := hL2
      rw [ea] at ho
      generalize hnb : nxp B s.data.toList.length (i + 1) = nb at *
      replace hnb := hid_as hnb
      replace ea := hid_as ea
      have EN : Hid (∀ V, JB w V g L → Calls Tryd.prog 10 #[.string s, .slice (some ⟨g, 0, none⟩) (B.length + 1) cap, .int .i64 i] V fun e w' => ∃ m, 1 ≤ m ∧ m ≤ z ∧ e = .returned (.int .i64 ((a + m : Nat) : Int)) ∧ Hid (Pc ((s.data.toList.drop a).take m) t) ∧ Hid (JB w w' g L) ∧ Hid (∀ b k, b < V.heap.size → w'.cell? ⟨b, k, none⟩ = V.cell? ⟨b, k, none⟩)) := fun V q => (end_c s g i (B.length + 1) cap a z nb L t t2 V hs q.ld q.lt hL1 hL2 (by omega) (by omega) e2 e3).mono fun e w' ⟨m, h1, h2, h3, h4, h5⟩ => ⟨m, h1, h2, h3, hid_as h4, hid_as (q.below h5), hid_as (fun b k hb => h5.cell (p := ⟨b, k, none⟩) hb)⟩
      have fin : Hid (∀ k m, Pc ((s.data.toList.drop a).take m) t → Inv B (i + 1) ((out ++ sepB k) ++ s.extract a (a + m)).data.toList) := fun k m hp => by
        have q := hI.out.more k e1 hp
        rw [show ((out ++ sepB k) ++ s.extract a (a + m)).data.toList = out.data.toList ++ sep k ++ (s.data.toList.drop a).take m by rw [cat_list, cat_list, ext_list, sepB, tx_list]]
        exact q
      have fin2 : Hid (∀ k m, m ≤ z → ((out ++ sepB k) ++ s.extract a (a + m)).size ≤ 10 * (i + 1) + nxp B s.data.toList.length (i + 1)) := fun k m hm => by
        rw [hnb.out, Lib.size_eq, cat_list, cat_list, List.length_append, List.length_append, ext_list, List.length_take, ← Lib.size_eq, ← Lib.size_eq]
        have := sepB_size k
        omega
      go_upto_if 42 with fail
      go_cut [9] from 39 to 48 (fun v wx => ∃ k : Nat, k < 6 ∧ v = .int .i64 k ∧ wx = wr)
      case first =>
        by_cases hin : i < n
        · have hin' : (i : Int) < n := by omega
          rcases hb.out with h0 | ⟨bb, off, rfl, hbb, hcell⟩
          · omega
          · obtain ⟨hc, hf5⟩ := hcell i hin
            replace hc := (hJ.out.kept.cell (p := ⟨bb, off + i, none⟩) hbb).trans hc
            clear hcell
            go_wp2
            go_meet
            case rel => exact ⟨f i % 6, Nat.mod_lt _ (by omega), by rw [Int.natCast_emod]; rfl, rfl⟩
        · have hin' : ¬ (i : Int) < n := by omega
          go_wp2
          go_meet
          case rel => exact ⟨0, by omega, rfl, rfl⟩
      case rest =>
        obtain ⟨k, hk6, rfl, rfl⟩ := hcut
        have hk6' : (k : Int) < 6 := by omega
        go_wp2
        have u0 := pc_new wc k hk6
        have x1 : (0 : Int) ≤ a := by omega
        have q4 := (laid_at hJ.out.ld hL1).2.2.2.2
        have hgl := hJ.out.lt
        have hsl := sepB_size k
        have z1 := zz1 ho hz.2 hi hBl hs hsl
        replace ho := hid_as ho
        go_region_with (go_at_call 10; (with_reducible refine (EN.out _ ?_).mono ?_); (focus (repeat (first | exact hJ.out | refine JB.drew ?_ | refine JB.drewN _ ?_ | refine JB.alloc ?_ _))); rintro e w5 ⟨m, hm1, hm, rfl, hPc, hJ5, hcl⟩; have q5 := (laid_at hJ5.out.ld hL1).2.2.2.2; have hg5 := hJ5.out.lt; (first | (have u5 : w5.cell? ⟨wc.heap.size, k, none⟩ = some (.string (sepB k)) := (hcl.out _ _ (by simp)).trans u0) | skip); have u6 := pc_new w5 k hk6; have x2 : (a : Int) ≤ (a : Int) + m := ale a m; have x3 : (a : Int) + m ≤ s.size := ams hz.2 hm; have x4 : ((a : Int) + m).toNat = a + m := amt a m; have z2 := zz2 m ho.out hz.2 hi hBl hs hsl; clear hcl)
        all_goals
          go_wp2
          go_roundw
          case rel => exact ⟨i + 1, (out ++ sepB k) ++ s.extract a (a + m), by omega, by go_num, rfl, hid_as (by repeat (first | exact hJ5.out | refine JB.drew ?_ | refine JB.drewN _ ?_ | refine JB.alloc ?_ _)), hid_as (fin.out k m hPc.out), fin2.out k m hm⟩
          case measure => simp [intOf]; omega
    · obtain rfl : i = B.length := by omega
      have hlt' : ¬ (B.length : Int) + 1 < (B.length : Int) + 1 := by omega
      have hnx := nxp_le hSq.out B.length
      rw [← Lib.size_eq] at hnx ho
      have hol : out.data.toList.length + 1 ≤ 65536 := by rw [← Lib.size_eq]; omega
      obtain ⟨A, hA, hTA⟩ := hI.out.whole hol
      have hAl : A.length = B.length := by have := congrArg List.length hA; simpa using this
      have TK2 : Hid (∀ V, Tabs V → Calls Tryd.prog 9 #[.string (out ++ ⟨#[32]⟩), .bool false] V fun e w' => ∃ g2 cap2, e = .returned (.tuple #[.slice (some ⟨g2, 0, none⟩) (B.length + 1) cap2, .nilIface]) ∧ Hid (JB w w' g L → JB w w' g L) ∧ V.heap.size ≤ g2 ∧ g2 < w'.heap.size ∧ Hid (Laid w' g2 (A ++ [(nul, (out.data.toList ++ [32]).length)])) ∧ Hid (Below V.heap.size V w')) := fun V hV => by
        have e : (out ++ (⟨#[32]⟩ : ByteArray)).data.toList = out.data.toList ++ [32] := cat_list _ _
        have q := tokens_yes (s := out ++ ⟨#[32]⟩) (il := false) (L := A ++ [(nul, (out.data.toList ++ [32]).length)]) (by rw [e]; exact hTA) (by rw [Lib.size_eq, e, List.length_append]; show out.data.toList.length + 1 ≤ 1000000; omega) V hV
        refine q.mono fun e w' ⟨g2, cap2, h1, h2, h3, h4, h5⟩ => ⟨g2, cap2, ?_, hid_as id, h2, h3, hid_as h4, hid_as h5⟩
        rw [h1, List.length_append, hAl]
        rfl
      have z1 : ¬ 9223372036854775807 < out.size + 1 := by omega
      go_upto_region 19 with (go_at_call 9; (with_reducible refine (TK2.out _ hJ.out.tabs).mono ?_); rintro e w3 ⟨g2, cap2, rfl, _, hg3, hg4, hM, hb3⟩)
      have hJ3 : Hid (JB w w3 g L) := hid_as (hJ.out.below hb3.out)
      have hsame : Hid (∀ j, j < B.length + 1 → ∃ t a a', L[j]? = some (t, a) ∧ (A ++ [(nul, (out.data.toList ++ [32]).length)])[j]? = some (t, a')) := fun j hj => by
        rw [hLB.out]
        by_cases q : j < B.length
        · have e1 := congrArg (fun l => l[j]?) hA
          simp only [List.getElem?_map] at e1
          rw [List.getElem?_append_left q, List.getElem?_append_left (by omega), List.getElem?_eq_getElem q, List.getElem?_eq_getElem (show j < A.length by omega)]
          rw [List.getElem?_eq_getElem q, List.getElem?_eq_getElem (show j < A.length by omega)] at e1
          have e2 : (A[j]'(by omega)).1 = (B[j]'q).1 := Option.some.inj e1
          exact ⟨(B[j]'q).1, (B[j]'q).2, (A[j]'(by omega)).2, rfl, by rw [← e2]⟩
        · have q2 : j = B.length := by omega
          rw [q2, List.getElem?_append_right (Nat.le_refl _), Nat.sub_self, List.getElem?_append_right (by omega), hAl, Nat.sub_self]
          exact ⟨nul, _, _, rfl, rfl⟩
      clear hb3 hA hTA TK2 hI hAl
      generalize A ++ [(nul, (out.data.toList ++ [32]).length)] = M at *
      go_wp2
      go_loopw [12] (fun v wq => ∃ j : Nat, j ≤ B.length + 1 ∧ v = .int .i64 j ∧ Hid (JB w wq g L) ∧ Hid (Laid wq g2 M) ∧ g2 < wq.heap.size) (fun v wq => B.length + 1 - (intOf v).toNat)
      case atStart => exact ⟨0, by omega, rfl, hJ3, hM, hg4⟩
      case round =>
        obtain ⟨j, hj, rfl, hJq, hMq, hgq⟩ := hrel
        by_cases hjl : j < B.length + 1
        · have hjl' : (j : Int) < (B.length : Int) + 1 := by omega
          obtain ⟨⟨ta, tb, tc, td⟩, a, a', r1, r2⟩ := hsame.out j hjl
          obtain ⟨c0, c1, c2, c3, c4⟩ := laid_at hJq.out.ld r1
          obtain ⟨d0, d1, d2, d3, d4⟩ := laid_at hMq.out r2
          have hgl := hJq.out.lt
          have hE := fun W => eqTk ⟨ta, tb, tc, td⟩ ⟨ta, tb, tc, td⟩ W
          rw [tke_same] at hE
          clear r1 r2
          go_wp2
          go_region
          all_goals
            go_wp2
            go_roundw
            case rel =>
              refine ⟨j + 1, by omega, by go_num, hid_as ?_, hid_as ?_, ?_⟩
              · repeat (first | exact hJq.out | refine JB.drew ?_ | refine JB.drewN _ ?_ | refine JB.alloc ?_ _)
              · exact (hMq.out.below hgq (lb2 _ _ _))
              · exact Nat.lt_of_lt_of_le hgq (lb2 _ _ _).size
            case measure => simp [intOf]; omega
        · obtain rfl : j = B.length + 1 := by omega
          go_wp2
          go_ret
          exact ⟨rfl, hJq.out.kept⟩
end Go.Proofs.YtnponognncdkcaaDoor
