/- The walk of Text (stage 20). -/
import Derived.Test.YtkknfolahfmghaaDoorTU
namespace Go.Proofs.YtkknfolahfmghaaDoor
open Go.RowKit
open Fb Cod
/-- Between two lines. -/
structure Tr (w1 : World) (b : Nat) (l : List UInt8) (W : World) : Prop where
  sb : IsB b b (Lib.byteCells l) W
  kb : Below b w1 W
  hb : b ≤ W.heap.size
theorem Tr.start (w1 : World) : Tr w1 w1.heap.size [] (w1.alloc (.cells #[.pointer none, .slice none 0 0] 65)) :=
  ⟨isB_new w1, below_new1 _ _, by simp⟩
theorem Tr.sx {w1 W : World} {b : Nat} {l : List UInt8} (h : Tr w1 b l W) (hT : Tabs w1) (b5 : 5 ≤ b) (x : Ins) : Sx w1 b W.heap.size x l (W.alloc (.cells #[.int .i64 x.op, .int .i64 x.a, .int .i64 x.b, .int .i64 x.c, .string x.name] 41)) := by
  have k := below_new1 W (.cells #[.int .i64 x.op, .int .i64 x.a, .int .i64 x.b, .int .i64 x.c, .string x.name] 41)
  refine ⟨h.sb.below k, heap_alloc_new W _, h.kb.trans (k.mono h.hb), (hT.belowB b5 h.kb).below k, Nat.le_trans h.hb k.size, ?_, b5⟩
  have : b < W.heap.size := by
    rcases h.sb with ⟨_, v, hv, _⟩ | ⟨_, v, hv, _⟩
    · exact row_lt hv
    · exact row_lt hv
  omega
theorem Sx.c0 {w1 : World} {b X : Nat} {x : Ins} {l : List UInt8} {W : World} (h : Sx w1 b X x l W) : W.cell? ⟨X, 0, none⟩ = some (.int .i64 x.op) := cell_row (k := 0) h.xr rfl
theorem Sx.c1 {w1 : World} {b X : Nat} {x : Ins} {l : List UInt8} {W : World} (h : Sx w1 b X x l W) : W.cell? ⟨X, 1, none⟩ = some (.int .i64 x.a) := cell_row (k := 1) h.xr rfl
theorem Sx.c2 {w1 : World} {b X : Nat} {x : Ins} {l : List UInt8} {W : World} (h : Sx w1 b X x l W) : W.cell? ⟨X, 2, none⟩ = some (.int .i64 x.b) := cell_row (k := 2) h.xr rfl
theorem Sx.c3 {w1 : World} {b X : Nat} {x : Ins} {l : List UInt8} {W : World} (h : Sx w1 b X x l W) : W.cell? ⟨X, 3, none⟩ = some (.int .i64 x.c) := cell_row (k := 3) h.xr rfl
theorem Sx.c4 {w1 : World} {b X : Nat} {x : Ins} {l : List UInt8} {W : World} (h : Sx w1 b X x l W) : W.cell? ⟨X, 4, none⟩ = some (.string x.name) := cell_row (k := 4) h.xr rfl
theorem idx_0 (a b c : Int) (w : World) : (Instr.index 69 (.agg #[.int .i64 a, .int .i64 b, .int .i64 c]) (.int .i64 0)).run Tryd.prog w = .ok (.int .i64 a) w := by kernel_rfl
theorem idx_1 (a b c : Int) (w : World) : (Instr.index 69 (.agg #[.int .i64 a, .int .i64 b, .int .i64 c]) (.int .i64 1)).run Tryd.prog w = .ok (.int .i64 b) w := by kernel_rfl
theorem idx_2 (a b c : Int) (w : World) : (Instr.index 69 (.agg #[.int .i64 a, .int .i64 b, .int .i64 c]) (.int .i64 2)).run Tryd.prog w = .ok (.int .i64 c) w := by kernel_rfl
set_option maxHeartbeats 3200000 in
set_option maxRecDepth 100000 in
theorem text_c {w : World} {va : Option Addr} {kn kc : Nat} {la : Option Addr} {n lc : Nat} {K : List Int} {L : List Ins} (h : Cd w va kn kc la n lc K L) (hT : Tabs w) (hW : ∀ x, x ∈ L → Wf x) (hZ : (txt 0 L).length ≤ 1000000000) :
    Calls Tryd.prog 16 #[.agg #[.slice va kn kc, .slice la n lc]] w fun e w' => e = .returned (.string (tx (txt 0 L))) ∧ Below w.heap.size w w' := by
  obtain ⟨w1, hw1⟩ : ∃ w1, w.alloc (.cells #[.slice va kn kc, .slice la n lc] 25) = w1 := ⟨_, rfl⟩
  obtain ⟨bs, hbs⟩ : ∃ bs, bs = w.heap.size := ⟨_, rfl⟩
  have K1 : Below w.heap.size w w1 := by rw [← hw1]; exact below_new1 _ _
  have r1 : w1.heap[bs]? = some (.cells [Value.slice va kn kc, .slice la n lc].toArray 25 (0, 0)) := by rw [← hw1, hbs]; exact heap_alloc_new w _
  have y1 : w1.cell? ⟨bs, 1, none⟩ = some (.slice la n lc) := cell_row (k := 1) r1 rfl
  have y1 := keep_cell (below_new1 w1 (.cells #[.pointer none, .slice none 0 0] 65)) y1
  have T1 := hid_as (hT.below K1)
  have C1 := hid_as (h.below K1)
  have NL := hid_as h.nl
  have n9 := h.n9
  have WF := hid_as hW
  have HZ := hid_as hZ
  have TS := hid_as (Tr.start w1)
  have B5 := hid_as (show 5 ≤ w1.heap.size from T1.out.big)
  have KB := hid_as K1
  clear h K1 r1 hT hW hZ
  go_enter Tryd.func16, Tryd.ntmps16
  go_upto_region 2 with fail
  rw [← hbs]
  clear hw1 hbs
  obtain ⟨b, hb⟩ : ∃ b, b = w1.heap.size := ⟨_, rfl⟩
  have KW : Hid (∀ W, Below b w1 W → Below w.heap.size w W) := fun W k => KB.out.trans (k.mono (by rw [hb]; exact KB.out.size))
  have IL : Hid (∀ W, Below b w1 W → Il W la L) := fun W k => C1.out.il.below (by rw [hb] at k; exact k)
  rw [← hb] at TS B5 ⊢
  clear hb KB C1
  go_wp2
  go_loopw [11] (fun i wr => ∃ k : Nat, k ≤ n ∧ i = .int .i64 k ∧ Tr w1 b (txt 0 (L.take k)) wr) (fun i _ => n - (intOf i).toNat)
  case atStart => exact ⟨0, by omega, rfl, TS.out⟩
  case round =>
    obtain ⟨k, hk, rfl, ht⟩ := hrel
    have TRr := hid_as ht
    clear ht TS
    by_cases hkn : k < n
    · have hk2 : (k : Int) < (n : Int) := by omega
      have k0 : (-9223372036854775808 : Int) ≤ (k : Int) := by omega
      have k1 : (k : Int) ≤ 9223372036854775807 := by omega
      obtain ⟨x, b', o, hx, rfl, x0, x1, x2, x3, x4⟩ := ins_cells (IL.out _ TRr.out.kb) (show k < L.length by rw [← NL.out]; exact hkn)
      have SX := hid_as (TRr.out.sx T1.out B5.out x)
      have WX := hid_as (WF.out x (List.mem_of_getElem? hx))
      have NX := hid_as (txt_next hx)
      have ZX : Hid ((txt 0 (L.take k)).length + (lin k x).length ≤ 1000000000) := by
        have := txt_le L (k + 1)
        rw [NX.out, List.length_append] at this
        have := HZ.out
        show _ ≤ _
        omega
      generalize txt 0 (L.take k) = l at *
      clear hx
      have zz : (Lib.itoa (k : Int)).length + (wrd x.op).length + (Lib.itoa x.a).length + (Lib.itoa x.b).length + (Lib.itoa x.c).length + x.name.data.toList.length + l.length ≤ 1000000000 := by
        have := ZX.out
        unfold lin at this
        simp only [List.length_append, List.length_cons, List.length_nil] at this
        by_cases hn : x.name.data.toList = []
        · rw [hn] at this ⊢; simp at this ⊢; omega
        · rw [if_neg hn] at this; simp at this ⊢; omega
      obtain ⟨X, hX⟩ : ∃ X, X = wr.heap.size := ⟨_, rfl⟩
      obtain ⟨op, a, bb, c, nm⟩ := x
      simp only at x0 x1 x2 x3 x4 zz
      have s1 : (tx (Lib.itoa (k : Int))).size = (Lib.itoa (k : Int)).length := Lib.size_eq _
      have s2 : (tx (wrd op)).size = (wrd op).length := Lib.size_eq _
      have z1 : ¬ 9223372036854775807 < (tx (Lib.itoa (k : Int))).size + 1 := by omega
      have z2 : ¬ 9223372036854775807 < (tx (Lib.itoa (k : Int))).size + 1 + (tx (wrd op)).size := by omega
      have ZZ := hid_as zz
      clear zz s1 s2
      obtain ⟨w3, hw3⟩ : ∃ w3, wr.alloc (.cells #[.int .i64 op, .int .i64 a, .int .i64 bb, .int .i64 c, .string nm] 41) = w3 := ⟨_, rfl⟩
      simp only at SX
      rw [hw3, ← hX] at SX
      have c0 := SX.out.c0
      have IT : Hid (∀ W, Sx w1 b X ⟨op, a, bb, c, nm⟩ l W → Calls Tryd.prog 27 #[.int .i64 (k : Int)] W fun e w' => e = .returned (.string (tx (Lib.itoa (k : Int)))) ∧ Sx w1 b X ⟨op, a, bb, c, nm⟩ l w') := fun W h => sx_itoa (k : Int) k0 k1 h
      have WD : Hid (∀ W, Sx w1 b X ⟨op, a, bb, c, nm⟩ l W → Calls Tryd.prog 28 #[.int .i64 op] W fun e w' => e = .returned (.string (tx (wrd op))) ∧ w' = W) := fun W h => word_c op W h.tb
      have WS : Hid (∀ (s : ByteArray) (q l' : List UInt8), s.data.toList = q → l'.length + q.length ≤ 3000000000 → ∀ W : World, Sx w1 b X ⟨op, a, bb, c, nm⟩ l' W → Calls Tryd.prog 26 #[.pointer (some ⟨b, 0, none⟩), .string s] W fun e w' => (∃ z : Int, e = .returned (.tuple #[.int .i64 z, .nilIface])) ∧ Sx w1 b X ⟨op, a, bb, c, nm⟩ (l' ++ q) w') := fun s q l' hs hl W h => by
        subst hs
        refine (sx_str s h hl).mono ?_
        rintro e w' ⟨rfl, h2⟩
        exact ⟨⟨_, rfl⟩, h2⟩
      have W1 := hid_as (WS.out (tx (Lib.itoa (k : Int)) ++ ⟨#[32]⟩ ++ tx (wrd op)) (Lib.itoa (k : Int) ++ [32] ++ wrd op) l (by rw [app_list, app_list]; rfl) (by simp only [List.length_append, List.length_cons, List.length_nil]; have := ZZ.out; omega))
      go_upto_region 5 with fail
      rw [← hX]
      clear hw3 hX x0 x1 x2 x3 x4
      go_region_held3 (fun W => W.cell? ⟨X, 0, none⟩ = some (.int .i64 op)) (first | exact c0 | exact s3.c0 | exact s5.c0) (first | (go_at_call 27; (with_reducible refine (IT.out _ ?_).mono ?_); (first | exact SX.out.same (Same.drewN _ _) | exact SX.out.same (Same.drew _) | exact SX.out); rintro e w4 ⟨rfl, s3⟩) | (go_at_call 28; (with_reducible refine (WD.out _ ?_).mono ?_); (first | exact s3 | exact s3.same (Same.drew _)); rintro e w' ⟨rfl, hw⟩; subst w') | (go_at_call 26; (with_reducible refine (W1.out _ ?_).mono ?_); (first | exact s3 | exact s3.same (Same.drew _)); rintro e w5 ⟨⟨z5, rfl⟩, s5⟩))
      have S5 := hid_as s5
      have e1 := s5.c1
      have e2 := s5.c2
      have e3 := s5.c3
      clear s3 s5 c0 SX IT WD W1 z1 z2
      have F6 : Hid (∀ W, Sx w1 b X ⟨op, a, bb, c, nm⟩ (l ++ (Lib.itoa (k : Int) ++ [32] ++ wrd op)) W → Calls Tryd.prog 29 #[.int .i64 a, .int .i64 10] W fun e w' => e = .returned (.string (tx (Lib.itoa a))) ∧ Sx w1 b X ⟨op, a, bb, c, nm⟩ (l ++ (Lib.itoa (k : Int) ++ [32] ++ wrd op)) w') := fun W h => sx_fmt a WX.out.a h
      have W7 := hid_as (WS.out (⟨#[32]⟩ ++ tx (Lib.itoa a)) ([32] ++ Lib.itoa a) (l ++ (Lib.itoa (k : Int) ++ [32] ++ wrd op)) (by rw [app_list]; rfl) (by simp only [List.length_append, List.length_cons, List.length_nil]; have := ZZ.out; omega))
      have t7 : (tx (Lib.itoa a)).size = (Lib.itoa a).length := Lib.size_eq _
      have z7 : ¬ 9223372036854775807 < 1 + (tx (Lib.itoa a)).size := by have := ZZ.out; omega
      clear t7
      have F8 : Hid (∀ W, Sx w1 b X ⟨op, a, bb, c, nm⟩ ((l ++ (Lib.itoa (k : Int) ++ [32] ++ wrd op)) ++ ([32] ++ Lib.itoa a)) W → Calls Tryd.prog 29 #[.int .i64 bb, .int .i64 10] W fun e w' => e = .returned (.string (tx (Lib.itoa bb))) ∧ Sx w1 b X ⟨op, a, bb, c, nm⟩ ((l ++ (Lib.itoa (k : Int) ++ [32] ++ wrd op)) ++ ([32] ++ Lib.itoa a)) w') := fun W h => sx_fmt bb WX.out.b h
      have W9 := hid_as (WS.out (⟨#[32]⟩ ++ tx (Lib.itoa bb)) ([32] ++ Lib.itoa bb) ((l ++ (Lib.itoa (k : Int) ++ [32] ++ wrd op)) ++ ([32] ++ Lib.itoa a)) (by rw [app_list]; rfl) (by simp only [List.length_append, List.length_cons, List.length_nil]; have := ZZ.out; omega))
      have t9 : (tx (Lib.itoa bb)).size = (Lib.itoa bb).length := Lib.size_eq _
      have z9 : ¬ 9223372036854775807 < 1 + (tx (Lib.itoa bb)).size := by have := ZZ.out; omega
      clear t9
      have FA : Hid (∀ W, Sx w1 b X ⟨op, a, bb, c, nm⟩ (((l ++ (Lib.itoa (k : Int) ++ [32] ++ wrd op)) ++ ([32] ++ Lib.itoa a)) ++ ([32] ++ Lib.itoa bb)) W → Calls Tryd.prog 29 #[.int .i64 c, .int .i64 10] W fun e w' => e = .returned (.string (tx (Lib.itoa c))) ∧ Sx w1 b X ⟨op, a, bb, c, nm⟩ (((l ++ (Lib.itoa (k : Int) ++ [32] ++ wrd op)) ++ ([32] ++ Lib.itoa a)) ++ ([32] ++ Lib.itoa bb)) w') := fun W h => sx_fmt c WX.out.c h
      have WB := hid_as (WS.out (⟨#[32]⟩ ++ tx (Lib.itoa c)) ([32] ++ Lib.itoa c) (((l ++ (Lib.itoa (k : Int) ++ [32] ++ wrd op)) ++ ([32] ++ Lib.itoa a)) ++ ([32] ++ Lib.itoa bb)) (by rw [app_list]; rfl) (by simp only [List.length_append, List.length_cons, List.length_nil]; have := ZZ.out; omega))
      have tB : (tx (Lib.itoa c)).size = (Lib.itoa c).length := Lib.size_eq _
      have zB : ¬ 9223372036854775807 < 1 + (tx (Lib.itoa c)).size := by have := ZZ.out; omega
      clear tB
      have i0 := idx_0 a bb c
      have i1 := idx_1 a bb c
      have i2 := idx_2 a bb c
      go_upto_region 7 with fail
      refine wp_loop_rounds 4 ?_
      rw [rounds_succ]
      go_wp2_with (first | (go_at_call 29; refine (F6.out _ S5.out).mono ?_; rintro e w6 ⟨rfl, s6⟩; have S6 := hid_as s6; clear s6) | (go_at_call 26; refine (W7.out _ S6.out).mono ?_; rintro e w7 ⟨⟨z7', rfl⟩, s7⟩; have S7 := hid_as s7; clear s7))
      rw [rounds_succ]
      go_wp2_with (first | (go_at_call 29; refine (F8.out _ S7.out).mono ?_; rintro e w8 ⟨rfl, s8⟩; have S8 := hid_as s8; clear s8) | (go_at_call 26; refine (W9.out _ S8.out).mono ?_; rintro e w9 ⟨⟨z9', rfl⟩, s9⟩; have S9 := hid_as s9; clear s9))
      rw [rounds_succ]
      go_wp2_with (first | (go_at_call 29; refine (FA.out _ S9.out).mono ?_; rintro e wA ⟨rfl, sA⟩; have SA := hid_as sA; clear sA) | (go_at_call 26; refine (WB.out _ SA.out).mono ?_; rintro e wB ⟨⟨zB', rfl⟩, sB⟩; have SB := hid_as sB; clear sB))
      rw [rounds_succ]
      have eB := SB.out.c4
      obtain ⟨lB, hlB⟩ : ∃ lB, lB = ((((l ++ (Lib.itoa (k : Int) ++ [32] ++ wrd op)) ++ ([32] ++ Lib.itoa a)) ++ ([32] ++ Lib.itoa bb)) ++ ([32] ++ Lib.itoa c)) := ⟨_, rfl⟩
      rw [← hlB] at SB
      have ZB : Hid (lB.length ≤ 1000000000) := by
        show lB.length ≤ 1000000000
        rw [hlB]
        have := ZX.out
        unfold lin at this
        simp only [List.length_append, List.length_cons, List.length_nil] at this ⊢
        omega
      have LB := hid_as hlB
      clear hlB S5 S6 S7 S8 S9 SA F6 F8 FA W7 W9 WB z7 z9 zB
      by_cases hn : nm.data.toList = []
      · have hn1 : (nm.toList == []) = true := by rw [ByteArray.toList_eq, hn]; rfl
        have hn2 : (nm.toList != []) = false := by rw [ByteArray.toList_eq, hn]; rfl
        have NN := hid_as hn
        have BY := hid_as (sx_byte SB.out (by have := ZB.out; omega))
        clear hn
        go_wp2_with (go_at_call 30; refine BY.out.mono ?_; rintro e wC ⟨rfl, sC⟩; have SC := hid_as sC; clear sC)
        go_roundw
        case rel =>
          refine ⟨k + 1, by omega, by go_num, ?_⟩
          rw [NX.out]
          have e : lB ++ [10] = l ++ lin k ⟨op, a, bb, c, nm⟩ := by
            rw [LB.out]
            unfold lin
            rw [if_pos NN.out]
            simp only [List.append_assoc, List.append_nil]
          rw [← e]
          exact ⟨SC.out.sb, SC.out.kb, SC.out.hb⟩
        case measure => simp [intOf]; omega
      · have hn1 : (nm.toList == []) = false := by rw [ByteArray.toList_eq, beq_eq_false_iff_ne]; exact hn
        have hn2 : (nm.toList != []) = true := by rw [ByteArray.toList_eq, bne_iff_ne]; exact hn
        have NN := hid_as hn
        have sn : nm.size = nm.data.toList.length := Lib.size_eq _
        have zn : ¬ 9223372036854775807 < 1 + nm.size := by have := ZZ.out; omega
        have WN := hid_as (WS.out (⟨#[32]⟩ ++ nm) ([32] ++ nm.data.toList) lB (app_list _ _) (by simp only [List.length_append, List.length_cons, List.length_nil]; have := ZZ.out; have := ZB.out; omega))
        have BY : Hid (∀ W, Sx w1 b X ⟨op, a, bb, c, nm⟩ (lB ++ ([32] ++ nm.data.toList)) W → Calls Tryd.prog 30 #[.pointer (some ⟨b, 0, none⟩), .int .u8 10] W fun e w' => e = .returned .nilIface ∧ Sx w1 b X ⟨op, a, bb, c, nm⟩ ((lB ++ ([32] ++ nm.data.toList)) ++ [10]) w') := fun W h => sx_byte h (by simp only [List.length_append, List.length_cons, List.length_nil]; have := ZZ.out; have := ZB.out; omega)
        clear hn sn
        go_wp2_with (first | (go_at_call 26; refine (WN.out _ SB.out).mono ?_; rintro e wC ⟨⟨zC, rfl⟩, sC⟩; have SC := hid_as sC; clear sC) | (go_at_call 30; refine (BY.out _ SC.out).mono ?_; rintro e wD ⟨rfl, sD⟩; have SD := hid_as sD; clear sD))
        go_roundw
        case rel =>
          refine ⟨k + 1, by omega, by go_num, ?_⟩
          rw [NX.out]
          have e : (lB ++ ([32] ++ nm.data.toList)) ++ [10] = l ++ lin k ⟨op, a, bb, c, nm⟩ := by
            rw [LB.out]
            unfold lin
            rw [if_neg NN.out]
            simp only [List.append_assoc]
          rw [← e]
          exact ⟨SD.out.sb, SD.out.kb, SD.out.hb⟩
        case measure => simp [intOf]; omega
    · obtain rfl : k = n := by omega
      have AL : Hid (txt 0 (L.take k) = txt 0 L) := by rw [List.take_of_length_le (by rw [← NL.out]; exact Nat.le_refl _)]; rfl
      rw [AL.out] at TRr
      have BS := hid_as (bStr_c b b (txt 0 L) wr TRr.out.sb TRr.out.hb)
      go_wp2_with (go_at_call 31; refine BS.out.mono ?_; rintro e w4 ⟨rfl, b4⟩)
      go_ret
      exact ⟨rfl, KW.out _ (TRr.out.kb.trans b4)⟩
end Go.Proofs.YtkknfolahfmghaaDoor
