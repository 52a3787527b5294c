/- The chapter's example (stage 8). -/
import Derived.Test.YtkjbgjiddpkcpaaH1
import Derived.Lib.SlBytesConst
namespace Go.Proofs.Ytkjbgjiddpkcpaa
open Go.RowKit
open Pdu
def abcd : List Nat := [97, 98, 99, 100]
theorem abcd_bytes : Bytes abcd := by
  intro x hx
  simp [abcd] at hx
  omega
def k0 : SS := SS.new 2 16
def k1 : SS := k0.cut 0 2
def kb : List Nat := dr abcd 16
def k2 : SS := k1.wr 0 kb
def k3 : SS := k2.pwr
theorem k2_err : k1.errW 0 kb.length = 82 := by decide
theorem k2_dead : k2.dead = true := by decide
theorem k3_got : k3.got 0 = 97 :: 98 :: 0 :: List.replicate 13 0 := by decide
theorem k3_err : k3.err 0 = 0 := by decide
theorem k3_err2 : k3.err 2 = 80 := by decide
theorem k3_errW : k3.errW 0 (kb.take 5).length = 81 := by decide
theorem k3_wr : k3.wr 0 (kb.take 5) = k3 := by
  unfold SS.wr
  rw [if_pos (Or.inr (by decide))]
theorem k3_n : k3.n = 0 := by decide
theorem k3_sz : k3.sz = 16 := by decide
theorem k3_nb : k3.rows.length = 2 := by decide
theorem ab0 : (strOfNums (ints [97, 98, 0])).toList = [97, 98, 0] := by
  rw [ByteArray.toList_eq, strOfNums_data]
  simp [ints]
theorem kb_len : kb.length = 16 := dr_len _ _
set_option maxRecDepth 100000 in
set_option maxHeartbeats 1600000 in
theorem known_law (w : World) : Calls Try.prog 7 #[] w fun e w' => e = .returned (.bool true) ∧ Below w.heap.size w w' := by
  have N := hid_as (new_h (nb := 2) (sz := 16) (b := 2) (z := 16) (Below.refl _ w) (Or.inr (Or.inr ⟨by decide, by decide, rfl⟩)) (Or.inr (Or.inr ⟨by decide, by decide, rfl⟩)))
  go_enter Try.func7, Try.ntmps7
  go_wp2_with fail
  refine N.out.mono ?_
  rintro e w1 ⟨g, h, rfl, s1⟩
  have S1 : Hid (Hs w w1 g h k0) := s1
  clear N s1
  have kc := Lib.run_convert_bytes_const (P := Try.prog) w1 30 5 #[.int .u8 97, .int .u8 98, .int .u8 99, .int .u8 100] 4 4 Try.underlying30 Try.underlying5
  have AB : Hid (Sl (w1.alloc (.cells #[.int .u8 97, .int .u8 98, .int .u8 99, .int .u8 100] 5 (4, 5))) (.slice (some ⟨w1.heap.size, 0, none⟩) 4 4) (u8s abcd)) := Or.inr ⟨w1.heap.size, 0, 4, rfl, Nat.le_refl _, fun k u hk => by
    rw [Nat.zero_add]
    have hk' : (#[.int .u8 97, .int .u8 98, .int .u8 99, .int .u8 100] : Array Value)[k]? = some u := by rw [← Array.getElem?_toList]; exact hk
    simp only [World.cell?, heap_alloc_new]
    exact hk'⟩
  have D := hid_as ((S1.out.below (below_new (Below.refl _ w1) (.cells #[.int .u8 97, .int .u8 98, .int .u8 99, .int .u8 100] 5 (4, 5)))).drawn (n := 16) AB.out abcd_bytes (by decide))
  go_wp2_with fail
  refine D.out.mono ?_
  rintro e w2 ⟨d, rfl, o2, s2, -⟩
  have LT := hid_as (S1.out.below (below_new (Below.refl _ w1) (.cells #[.int .u8 97, .int .u8 98, .int .u8 99, .int .u8 100] 5 (4, 5)))).lt
  generalize (w1.alloc (.cells #[.int .u8 97, .int .u8 98, .int .u8 99, .int .u8 100] 5 (4, 5))).heap.size = B at o2 LT
  have O2 : Hid (w2.ownsRow B 5 1 (.slice (some ⟨d, 0, none⟩) 16 16) kb.length (u8s kb)) := o2
  have C := hid_as (s2.cut 0 2 (by decide))
  clear AB D o2 s2 kc S1
  go_wp2_with fail
  refine C.out.mono ?_
  rintro e w3 ⟨rfl, s3, u3⟩
  have O3 := hid_as (own_only O2.out u3 (by simp; exact LT.out))
  have X := hid_as ((show Hs w w3 g h k1 from s3).wrt 0 O3.out LT.out.1 LT.out.2 (dr_bytes _ _) (by decide))
  rw [k2_err] at X
  clear C s3 u3 O2
  go_wp2_with fail
  refine X.out.mono ?_
  rintro e w4 ⟨rfl, s4, u4⟩
  have O4 := hid_as (own_only O3.out u4 (by simp; exact LT.out))
  have Y := hid_as (show Hs w w4 g h k2 from s4).dead
  rw [k2_dead] at Y
  have Z := hid_as (show Hs w w4 g h k2 from s4).pwr2
  clear X s4 u4 O3
  go_wp2_with fail
  refine Y.out.mono ?_
  rintro e wx ⟨rfl, hw⟩
  subst wx
  go_wp2_with fail
  refine Z.out.mono ?_
  rintro e w5 ⟨rfl, s5, u5⟩
  have O5 := hid_as (own_only O4.out u5 (by simp; exact LT.out))
  have R := hid_as ((show Hs w w5 g h k3 from s5).read 0)
  have LT5 := hid_as s5.lt
  rw [k3_err, k3_got] at R
  clear Y Z s5 u5 O4
  go_wp2_with fail
  refine R.out.mono ?_
  rintro e w6 ⟨v6, rfl, o6, s6, b6⟩
  obtain ⟨gb, cb, rfl, hcb⟩ := own_some o6 (by simp)
  have O6 := hid_as o6
  have hcb2 : 3 ≤ cb := by simp at hcb; omega
  have hcb3 : (3 : Int) ≤ (cb : Int) := by omega
  have O5' := hid_as (own_below O5.out b6 (Nat.le_refl _))
  have HD := hid_as (O5'.out.lt d rfl).1
  have W5 := hid_as (writeb_c (bs := kb.take 5) s6.st 0 (n := 5) (sl_pre (own_sl O5'.out) (by decide)) (by decide) ((dr_bytes _ _).take 5) (by
    intro _ a ha hm
    have h1 := HD.out
    have h2 := LT.out
    simp only [Option.some.injEq] at ha
    subst ha
    simp only [List.mem_cons, List.not_mem_nil, or_false] at hm
    omega) (by decide))
  rw [k3_errW, k3_wr] at W5
  have S6 := hid_as s6
  clear R O5 b6 o6 hcb s6
  go_wp2_with fail
  refine W5.out.mono ?_
  rintro e w7 ⟨rfl, s7, u7⟩
  have S7 := hid_as (S6.out.nxt s7 u7)
  have O7 := hid_as (own_only O6.out u7 (by simp; exact LT5.out))
  have R2 := hid_as (S7.out.read 2)
  rw [k3_err2] at R2
  clear W5 s7 u7 O6 S6
  go_wp2_with fail
  refine R2.out.mono ?_
  rintro e w8 ⟨v8, rfl, -, s8, b8⟩
  have O8 := hid_as (own_below O7.out b8 (Nat.le_refl _))
  have E8 : Hid ((convert 30 9 (.slice (some ⟨gb, 0, none⟩) 3 cb)).run Try.prog w8 = .ok (.string (strOfNums (ints [97, 98, 0]))) w8) := str_c (bs := [97, 98, 0]) (sl_pre (own_sl O8.out) (by simp))
  have ec := E8.out
  have ab := ab0
  have Q1 := hid_as s8.writes
  have Q2 := hid_as s8.size
  have Q3 := hid_as s8.blocks
  rw [k3_n] at Q1
  rw [k3_sz] at Q2
  rw [k3_nb] at Q3
  clear R2 O7 S7 b8 s8
  go_wp2_with fail
  refine Q1.out.mono ?_
  rintro e wx ⟨rfl, hw⟩
  subst wx
  go_wp2_with fail
  refine Q2.out.mono ?_
  rintro e wx ⟨rfl, hw⟩
  subst wx
  go_wp2_with fail
  refine Q3.out.mono ?_
  rintro e w9 ⟨rfl, s9, -⟩
  have S9 := hid_as s9
  clear s9 Q1 Q2 Q3 ec E8 ab
  go_wp2
  go_ret
  exact ⟨rfl, S9.out.k⟩
end Go.Proofs.Ytkjbgjiddpkcpaa
