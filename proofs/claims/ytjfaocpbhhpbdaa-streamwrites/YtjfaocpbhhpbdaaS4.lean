/- The walks: Next, where a frame is told. -/
import Derived.Test.YtjfaocpbhhpbdaaS3
namespace Go.Proofs.Ytjfaocpbhhpbdaa
open Go.RowKit
open Pdu
theorem own_way2 {X w2 : World} {o : Obj} {v : Value} {n B : Nat} {vs : List Value} (h : w2.ownsRow (X.alloc o).drew.heap.size 5 1 v n vs) (hb : B ≤ X.heap.size) (x0 x1 x2 : Value) :
    (((w2.setCell ⟨X.heap.size, 0, none⟩ x0).setCell ⟨X.heap.size, 1, none⟩ x1).setCell ⟨X.heap.size, 2, none⟩ x2).ownsRow B 5 1 v n vs := by
  have hs : (X.alloc o).drew.heap.size = X.heap.size + 1 := World.size_alloc X o
  exact own_base (own_three h (by omega) _ _ _) (by omega)
theorem own_turn {g base n : Nat} {w u : World} {e : TypeId} {v : Value} {vs : List Value} (h : w.ownsRow base e 1 v n vs) (k : Turn g w u) (hg : g < base) : u.ownsRow base e 1 v n vs :=
  h.kept k (by
    by_cases hn : v.ownBlock = none
    · exact Or.inl hn
    · refine Or.inr fun e => ?_
      have := (h.lt g e).1
      omega)
theorem next_room {w3 Z : World} {g h N n : Nat} {b : Bool} {room : List Nat} (s : St Z g room h b N) (hn : n ≤ h) (hr : w3.heap[g]? = some (.cells (splice (strow room h b N) 0 (u8s ((room.drop n).take (h - n)))).toArray 58 (0, 0))) :
    St w3 g ((room.drop n).take (h - n) ++ room.drop (h - n)) h b N := by
  have hh := s.held
  have hl : ((room.drop n).take (h - n)).length = h - n := by rw [List.length_take, List.length_drop, s.len]; omega
  rw [splice_room s.len (by omega), hl, Nat.zero_add, List.take_zero, List.nil_append] at hr
  exact ⟨hr, by simp [s.len]; omega, ((s.byt.drop _).take _).app (s.byt.drop _), s.held⟩
theorem next_take {h n : Nat} {room : List Nat} (hl : room.length = 260) (hh : h ≤ 260) (hn : n ≤ h) : ((room.drop n).take (h - n) ++ room.drop (h - n)).take (h - n) = (room.take h).drop n := by
  rw [List.take_append_of_le_length (by simp; omega), List.take_take, Nat.min_self, List.drop_take]
theorem src_room {W : World} {g n m : Nat} {room : List Nat} (h : Lies W g 0 (u8s room)) : ∀ j v, (u8s ((room.drop n).take m))[j]? = some v → W.cell? ((⟨g, n, none⟩ : Addr).add j) = some v := by
  intro j v hj
  have hd := (h.drop n)
  rw [Nat.zero_add, ← u8s_drop] at hd
  refine hd.news j v ?_
  rw [u8s_take, List.getElem?_take] at hj
  split at hj
  · exact hj
  · cases hj
theorem Nx.kept {w Z V : World} {g p h N h' N' : Nat} {b b' : Bool} {room room' : List Nat} {x0 x1 x2 : Value} (A : Nx w Z g p h N b room x0 x1 x2) (s : St V g room' h' b' N') (k : Turn g Z V) : Nx w V g p h' N' b' room' x0 x1 x2 := by
  have hw := A.turn.size
  have hp : p < Z.heap.size := (Array.getElem?_eq_some_iff.1 A.fr).1
  exact ⟨s, A.turn.trans k, (k.block _ (Array.getElem?_eq_some_iff.1 A.res).1 (fun e => by have := A.old; simp at e; omega)).trans A.res, (k.block _ hp (fun e => by have := A.old; have := A.new; simp at e; omega)).trans A.fr, A.new, A.old⟩
/-- How a Next ends that tells a frame. -/
def Told1 (g h n N id unit : Nat) (b : Bool) (room pdu : List Nat) (w : World) (e : Ending) (w' : World) : Prop :=
  ∃ po pc room', e = .returned (.tuple #[.agg #[.int .u16 (id : Int), .int .u8 (unit : Int), .slice po pdu.length pc], .bool true, .int .i64 0]) ∧ Turn g w w' ∧ St w' g room' (h - n) b (N + 1) ∧ room'.take (h - n) = (room.take h).drop n ∧ w'.ownsRow w.heap.size 5 1 (.slice po pdu.length pc) pdu.length (u8s pdu)
set_option maxHeartbeats 3200000 in
theorem next_yesa (g h N n id unit : Nat) (b : Bool) (room pdu : List Nat) (w : World) (s : St w g room h b N) (hr : rd (room.take h) = ⟨id, unit, pdu, n, 0⟩) (h0 : 0 < n) (hnh : n ≤ h) (hN : N < 1000000) (hlt : n < 260) :
    Calls Try.prog 13 #[.pointer (some ⟨g, 0, none⟩)] w (Told1 g h n N id unit b room pdu w) := by
  have hn1 : ((n : Int) == 0) = false := by rw [beq_eq_false_iff_ne]; omega
  have hn2 : (n : Int) ≤ (h : Int) := by omega
  have hn3 : (n : Int) ≤ 260 := by have := s.held; omega
  have hc1 : ¬ (260 = n) := by omega
  have hc2 : ¬ (n = 260) := by omega
  have hgw := s.lt
  have hle := s.held
  have hle2 : (h : Int) ≤ 260 := by omega
  have S := hid_as s
  have HR := hid_as hr
  clear s hr
  go_enter Try.func13, Try.ntmps13
  go_upto_region 1 with fail
  have KX : Hid (Below w.heap.size w (w.alloc (.cells #[.int .u16 0, .int .u8 0, .slice none 0 0] 29))) := below_new (Below.refl _ w) _
  have hX : (w.alloc (.cells #[.int .u16 0, .int .u8 0, .slice none 0 0] 29)).heap[w.heap.size]? = some (.cells #[.int .u16 0, .int .u8 0, .slice none 0 0] 29) := heap_alloc_new w _
  have hXs : w.heap.size < (w.alloc (.cells #[.int .u16 0, .int .u8 0, .slice none 0 0] 29)).heap.size := by rw [World.size_alloc]; omega
  have SX := hid_as (S.out.below KX.out hgw)
  generalize w.alloc (.cells #[.int .u16 0, .int .u8 0, .slice none 0 0] 29) = X at KX hX hXs SX ⊢
  have O := hid_as (fun (W : World) (k : Below X.heap.size X W) => open_st SX.out k)
  have cX := SX.out.cHeld
  have hgX := SX.out.lt
  have BX := hid_as (below_new (Below.refl _ X) (.cells #[.int .u16 0, .int .u8 0, .slice none 0 0] 29))
  go_region_held3 (fun w' => w'.cell? ⟨g, 260, none⟩ = some (.int .i64 (h : Int))) (first | exact cX | exact cZ | (simp [World.cell?_alloc_past, hgX, cX]; done) | (simp [World.cell?_alloc_past, hg2, cZ]; done) | (simp [World.cell?_setCell_far, cZ, Nat.ne_of_gt hgX]; done)) (first
    | (go_at_call 20; (with_reducible refine (O.out _ ?_).mono ?_); (first | exact (Below.refl _ _).drew | exact BX.out.drew); rintro e w2 hend; obtain ⟨k2, po, pc, rfl, s2⟩ := hend.is HR.out; have S2 := hid_as s2; have K2 : Hid (Below X.heap.size X w2) := (by first | exact below_of_drew k2 | exact below_and BX.out (below_of_drew k2)); have hg2 : g < w2.heap.size := Nat.lt_of_lt_of_le hgX K2.out.size; have cZ : w2.cell? ⟨g, 260, none⟩ = some (.int .i64 (h : Int)) := (K2.out.cell (p := ⟨g, 260, none⟩) hgX).trans cX; (first | (have hB2 := kept_new k2; have hB3 := block3 hB2; obtain ⟨⟨z0, z1, z2⟩, zf⟩ := hB3; have HB2 := hid_as hB2; clear hB2) | skip); clear k2 hend s2))
  · have A := hid_as (nx_1 SX.out hgw KX.out hX hXs K2.out (.int .u16 (id : Int)) (.int .u8 (unit : Int)) (.slice po pdu.length pc))
    have hs2 := K2.out.size
    have OZ := hid_as ((own_base (base' := w.heap.size + 1) S2.out (Nat.succ_le_of_lt hXs)).alloc (.cells #[.int .u16 (id : Int), .int .u8 (unit : Int), .slice po pdu.length pc] 29))
    clear S2 hX hXs K2 KX SX O cX BX cZ hgX hg2
    generalize w2.alloc (.cells #[.int .u16 (id : Int), .int .u8 (unit : Int), .slice po pdu.length pc] 29) = Z at A OZ ⊢
    generalize w2.heap.size = p at A ⊢
    have hl := A.out.st.len
    have hcl : (u8s ((room.drop n).take (h - n))).length = h - n := by rw [u8s_len, List.length_take, List.length_drop, hl]; omega
    obtain ⟨w3, hrun, hrow, ht⟩ := run_copy_turn (P := Try.prog) (w := Z.drew) 22 22 3 5 Try.underlying22 (by kernel_rfl) (some ⟨g, 0, none⟩) (some ⟨g, n, none⟩) 260 260 (h - n) (260 - n) g 0 (strow room h b N) 58 A.out.st.row (u8s ((room.drop n).take (h - n))) (by rw [hcl]; exact (Nat.min_eq_left (by omega)).symm) (fun _ => ⟨rfl, _, rfl, src_room A.out.st.drew.lies⟩) (by rw [hcl, strow_len hl]; omega) (u8s_one _)
    rw [hcl] at hrun
    have S3 := hid_as (next_room A.out.st hnh hrow)
    have T3 : Hid (Turn g Z w3) := (Turn.refl g Z).drew.trans ht
    have HT := hid_as (next_take hl hle hnh)
    have cH := A.out.st.cHeld
    have c3 := S3.out.cHeld
    have f3 := S3.out.free 260
    generalize (room.drop n).take (h - n) ++ room.drop (h - n) = room' at S3 HT
    clear hrow ht hcl
    go_upto_region 7 with fail
    go_region
    have S4 := hid_as (S3.out.setHeld (h - n) (by omega))
    have T4 := hid_as (T3.out.set 260 (.int .i64 ((h - n : Nat) : Int)))
    generalize w3.setCell ⟨g, 260, none⟩ (.int .i64 ((h - n : Nat) : Int)) = w4 at S4 T4 ⊢
    have AD := hid_as (add64_c ⟨g, 262, none⟩ N w4 S4.out.cFrames (S4.out.free 262) hN)
    have c4 := S4.out.cFrames
    clear hrun c3 f3 S3 T3 w3 cH
    go_wp2_with fail
    refine AD.out.mono ?_
    rintro e w5 ⟨rfl, hw5⟩
    have A5 := hid_as (A.out.kept (S4.out.setFrames (N + 1)) (T4.out.set 262 (.int .u64 ((N + 1 : Nat) : Int))))
    have O5 := hid_as (own_turn OZ.out (T4.out.set 262 (.int .u64 ((N + 1 : Nat) : Int))) (Nat.lt_succ_of_lt hgw))
    rw [← hw5] at A5 O5
    clear hw5 AD S4 T4 c4 w4 OZ A
    obtain ⟨⟨r0, r1, r2⟩, rf⟩ := block3 A5.out.res
    obtain ⟨⟨p0, p1, p2⟩, _⟩ := block3 A5.out.fr
    have hqg : ¬ (g = w.heap.size) := Nat.ne_of_lt A5.out.old
    go_wp2
    obtain ⟨⟨e0, e1, e2⟩, _⟩ := block3 (three_same A5.out.res (.int .u16 (id : Int)) (.int .u8 (unit : Int)) (.slice po pdu.length pc))
    refine bodyPost_ret (v := .tuple #[.agg #[.int .u16 (id : Int), .int .u8 (unit : Int), .slice po pdu.length pc], .bool true, .int .i64 0]) (by simp [results, Try.results13, go_sem, e0, e1, e2]) rfl ⟨po, pc, room', rfl, A5.out.turn.three (Nat.le_refl _) _ _ _, A5.out.st.three hqg _ _ _, HT.out, own_base (own_three O5.out (Nat.lt_succ_self _) _ _ _) (Nat.le_succ _)⟩
  · have A := hid_as (nx_2 SX.out hgw KX.out hX hXs K2.out HB2.out (.int .u16 (id : Int)) (.int .u8 (unit : Int)) (.slice po pdu.length pc))
    have OZ := hid_as (own_way2 (B := w.heap.size + 1) S2.out (Nat.succ_le_of_lt hXs) (.int .u16 (id : Int)) (.int .u8 (unit : Int)) (.slice po pdu.length pc))
    clear S2 hX K2 KX SX O cX BX cZ hgX hg2 HB2 z0 z1 z2 zf
    generalize ((w2.setCell ⟨X.heap.size, 0, none⟩ (.int .u16 (id : Int))).setCell ⟨X.heap.size, 1, none⟩ (.int .u8 (unit : Int))).setCell ⟨X.heap.size, 2, none⟩ (.slice po pdu.length pc) = Z at A OZ ⊢
    generalize X.heap.size = p at A hXs ⊢
    clear hXs
    have hl := A.out.st.len
    have hcl : (u8s ((room.drop n).take (h - n))).length = h - n := by rw [u8s_len, List.length_take, List.length_drop, hl]; omega
    obtain ⟨w3, hrun, hrow, ht⟩ := run_copy_turn (P := Try.prog) (w := Z.drew) 22 22 3 5 Try.underlying22 (by kernel_rfl) (some ⟨g, 0, none⟩) (some ⟨g, n, none⟩) 260 260 (h - n) (260 - n) g 0 (strow room h b N) 58 A.out.st.row (u8s ((room.drop n).take (h - n))) (by rw [hcl]; exact (Nat.min_eq_left (by omega)).symm) (fun _ => ⟨rfl, _, rfl, src_room A.out.st.drew.lies⟩) (by rw [hcl, strow_len hl]; omega) (u8s_one _)
    rw [hcl] at hrun
    have S3 := hid_as (next_room A.out.st hnh hrow)
    have T3 : Hid (Turn g Z w3) := (Turn.refl g Z).drew.trans ht
    have HT := hid_as (next_take hl hle hnh)
    have cH := A.out.st.cHeld
    have c3 := S3.out.cHeld
    have f3 := S3.out.free 260
    generalize (room.drop n).take (h - n) ++ room.drop (h - n) = room' at S3 HT
    clear hrow ht hcl
    go_upto_region 7 with fail
    go_region
    have S4 := hid_as (S3.out.setHeld (h - n) (by omega))
    have T4 := hid_as (T3.out.set 260 (.int .i64 ((h - n : Nat) : Int)))
    generalize w3.setCell ⟨g, 260, none⟩ (.int .i64 ((h - n : Nat) : Int)) = w4 at S4 T4 ⊢
    have AD := hid_as (add64_c ⟨g, 262, none⟩ N w4 S4.out.cFrames (S4.out.free 262) hN)
    have c4 := S4.out.cFrames
    clear hrun c3 f3 S3 T3 w3 cH
    go_wp2_with fail
    refine AD.out.mono ?_
    rintro e w5 ⟨rfl, hw5⟩
    have A5 := hid_as (A.out.kept (S4.out.setFrames (N + 1)) (T4.out.set 262 (.int .u64 ((N + 1 : Nat) : Int))))
    have O5 := hid_as (own_turn OZ.out (T4.out.set 262 (.int .u64 ((N + 1 : Nat) : Int))) (Nat.lt_succ_of_lt hgw))
    rw [← hw5] at A5 O5
    clear hw5 AD S4 T4 c4 w4 OZ A
    obtain ⟨⟨r0, r1, r2⟩, rf⟩ := block3 A5.out.res
    obtain ⟨⟨p0, p1, p2⟩, _⟩ := block3 A5.out.fr
    have hqg : ¬ (g = w.heap.size) := Nat.ne_of_lt A5.out.old
    go_wp2
    obtain ⟨⟨e0, e1, e2⟩, _⟩ := block3 (three_same A5.out.res (.int .u16 (id : Int)) (.int .u8 (unit : Int)) (.slice po pdu.length pc))
    refine bodyPost_ret (v := .tuple #[.agg #[.int .u16 (id : Int), .int .u8 (unit : Int), .slice po pdu.length pc], .bool true, .int .i64 0]) (by simp [results, Try.results13, go_sem, e0, e1, e2]) rfl ⟨po, pc, room', rfl, A5.out.turn.three (Nat.le_refl _) _ _ _, A5.out.st.three hqg _ _ _, HT.out, own_base (own_three O5.out (Nat.lt_succ_self _) _ _ _) (Nat.le_succ _)⟩
set_option maxHeartbeats 3200000 in
theorem next_yesb (g N id unit : Nat) (b : Bool) (room pdu : List Nat) (w : World) (s : St w g room 260 b N) (hr : rd (room.take 260) = ⟨id, unit, pdu, 260, 0⟩) (hN : N < 1000000) :
    Calls Try.prog 13 #[.pointer (some ⟨g, 0, none⟩)] w (Told1 g 260 260 N id unit b room pdu w) := by
  have hgw := s.lt
  have S := hid_as s
  have HR := hid_as hr
  clear s hr
  go_enter Try.func13, Try.ntmps13
  go_upto_region 1 with fail
  have KX : Hid (Below w.heap.size w (w.alloc (.cells #[.int .u16 0, .int .u8 0, .slice none 0 0] 29))) := below_new (Below.refl _ w) _
  have hX : (w.alloc (.cells #[.int .u16 0, .int .u8 0, .slice none 0 0] 29)).heap[w.heap.size]? = some (.cells #[.int .u16 0, .int .u8 0, .slice none 0 0] 29) := heap_alloc_new w _
  have hXs : w.heap.size < (w.alloc (.cells #[.int .u16 0, .int .u8 0, .slice none 0 0] 29)).heap.size := by rw [World.size_alloc]; omega
  have SX := hid_as (S.out.below KX.out hgw)
  generalize w.alloc (.cells #[.int .u16 0, .int .u8 0, .slice none 0 0] 29) = X at KX hX hXs SX ⊢
  have O := hid_as (fun (W : World) (k : Below X.heap.size X W) => open_st SX.out k)
  have cX : X.cell? ⟨g, 260, none⟩ = some (.int .i64 260) := SX.out.cHeld
  have hgX := SX.out.lt
  have BX := hid_as (below_new (Below.refl _ X) (.cells #[.int .u16 0, .int .u8 0, .slice none 0 0] 29))
  go_region_held3 (fun w' => w'.cell? ⟨g, 260, none⟩ = some (.int .i64 260)) (first | exact cX | exact cZ | (simp [World.cell?_alloc_past, hgX, cX]; done) | (simp [World.cell?_alloc_past, hg2, cZ]; done) | (simp [World.cell?_setCell_far, cZ, Nat.ne_of_gt hgX]; done)) (first
    | (go_at_call 20; (with_reducible refine (O.out _ ?_).mono ?_); (first | exact (Below.refl _ _).drew | exact BX.out.drew); rintro e w2 hend; obtain ⟨k2, po, pc, rfl, s2⟩ := hend.is HR.out; have S2 := hid_as s2; have K2 : Hid (Below X.heap.size X w2) := (by first | exact below_of_drew k2 | exact below_and BX.out (below_of_drew k2)); have hg2 : g < w2.heap.size := Nat.lt_of_lt_of_le hgX K2.out.size; have cZ : w2.cell? ⟨g, 260, none⟩ = some (.int .i64 260) := (K2.out.cell (p := ⟨g, 260, none⟩) hgX).trans cX; (first | (have hB2 := kept_new k2; have hB3 := block3 hB2; obtain ⟨⟨z0, z1, z2⟩, zf⟩ := hB3; have HB2 := hid_as hB2; clear hB2) | skip); clear k2 hend s2))
  · have A := hid_as (nx_1 SX.out hgw KX.out hX hXs K2.out (.int .u16 (id : Int)) (.int .u8 (unit : Int)) (.slice po pdu.length pc))
    have hs2 := K2.out.size
    have OZ := hid_as ((own_base (base' := w.heap.size + 1) S2.out (Nat.succ_le_of_lt hXs)).alloc (.cells #[.int .u16 (id : Int), .int .u8 (unit : Int), .slice po pdu.length pc] 29))
    clear S2 hX hXs K2 KX SX O cX BX cZ hgX hg2
    generalize w2.alloc (.cells #[.int .u16 (id : Int), .int .u8 (unit : Int), .slice po pdu.length pc] 29) = Z at A OZ ⊢
    generalize w2.heap.size = p at A ⊢
    have hl := A.out.st.len
    have hrun := run_copy_none (P := Try.prog) Z.drew 22 22 3 5 (some ⟨g, 0, none⟩) (some ⟨g, 0, none⟩) 260 260 0 0 Try.underlying22 (by kernel_rfl) (Nat.zero_min 260)
    have HT : Hid (room.take (260 - 260) = (room.take 260).drop 260) := by show _ = _; simp
    have cH : Z.cell? ⟨g, 260, none⟩ = some (.int .i64 260) := A.out.st.cHeld
    have fH := A.out.st.free 260
    go_upto_region 7 with fail
    go_region
    have S4 : Hid (St (Z.setCell ⟨g, 260, none⟩ (.int .i64 0)).drew g room 0 b N) := (A.out.st.setHeld 0 (Nat.zero_le _)).drew
    have T4 : Hid (Turn g Z (Z.setCell ⟨g, 260, none⟩ (.int .i64 0)).drew) := ((Turn.refl g Z).set 260 (.int .i64 0)).drew
    generalize (Z.setCell ⟨g, 260, none⟩ (.int .i64 0)).drew = w4 at S4 T4 ⊢
    have AD := hid_as (add64_c ⟨g, 262, none⟩ N w4 S4.out.cFrames (S4.out.free 262) hN)
    have c4 := S4.out.cFrames
    clear hrun cH fH
    go_wp2_with fail
    refine AD.out.mono ?_
    rintro e w5 ⟨rfl, hw5⟩
    have A5 := hid_as (A.out.kept (S4.out.setFrames (N + 1)) (T4.out.set 262 (.int .u64 ((N + 1 : Nat) : Int))))
    have O5 := hid_as (own_turn OZ.out (T4.out.set 262 (.int .u64 ((N + 1 : Nat) : Int))) (Nat.lt_succ_of_lt hgw))
    rw [← hw5] at A5 O5
    clear hw5 AD S4 T4 c4 w4 OZ A
    obtain ⟨⟨r0, r1, r2⟩, rf⟩ := block3 A5.out.res
    obtain ⟨⟨p0, p1, p2⟩, _⟩ := block3 A5.out.fr
    have hqg : ¬ (g = w.heap.size) := Nat.ne_of_lt A5.out.old
    go_wp2
    obtain ⟨⟨e0, e1, e2⟩, _⟩ := block3 (three_same A5.out.res (.int .u16 (id : Int)) (.int .u8 (unit : Int)) (.slice po pdu.length pc))
    refine bodyPost_ret (v := .tuple #[.agg #[.int .u16 (id : Int), .int .u8 (unit : Int), .slice po pdu.length pc], .bool true, .int .i64 0]) (by simp [results, Try.results13, go_sem, e0, e1, e2]) rfl ⟨po, pc, room, rfl, A5.out.turn.three (Nat.le_refl _) _ _ _, A5.out.st.three hqg _ _ _, HT.out, own_base (own_three O5.out (Nat.lt_succ_self _) _ _ _) (Nat.le_succ _)⟩
  · have A := hid_as (nx_2 SX.out hgw KX.out hX hXs K2.out HB2.out (.int .u16 (id : Int)) (.int .u8 (unit : Int)) (.slice po pdu.length pc))
    have OZ := hid_as (own_way2 (B := w.heap.size + 1) S2.out (Nat.succ_le_of_lt hXs) (.int .u16 (id : Int)) (.int .u8 (unit : Int)) (.slice po pdu.length pc))
    clear S2 hX K2 KX SX O cX BX cZ hgX hg2 HB2 z0 z1 z2 zf
    generalize ((w2.setCell ⟨X.heap.size, 0, none⟩ (.int .u16 (id : Int))).setCell ⟨X.heap.size, 1, none⟩ (.int .u8 (unit : Int))).setCell ⟨X.heap.size, 2, none⟩ (.slice po pdu.length pc) = Z at A OZ ⊢
    generalize X.heap.size = p at A hXs ⊢
    clear hXs
    have hl := A.out.st.len
    have hrun := run_copy_none (P := Try.prog) Z.drew 22 22 3 5 (some ⟨g, 0, none⟩) (some ⟨g, 0, none⟩) 260 260 0 0 Try.underlying22 (by kernel_rfl) (Nat.zero_min 260)
    have HT : Hid (room.take (260 - 260) = (room.take 260).drop 260) := by show _ = _; simp
    have cH : Z.cell? ⟨g, 260, none⟩ = some (.int .i64 260) := A.out.st.cHeld
    have fH := A.out.st.free 260
    go_upto_region 7 with fail
    go_region
    have S4 : Hid (St (Z.setCell ⟨g, 260, none⟩ (.int .i64 0)).drew g room 0 b N) := (A.out.st.setHeld 0 (Nat.zero_le _)).drew
    have T4 : Hid (Turn g Z (Z.setCell ⟨g, 260, none⟩ (.int .i64 0)).drew) := ((Turn.refl g Z).set 260 (.int .i64 0)).drew
    generalize (Z.setCell ⟨g, 260, none⟩ (.int .i64 0)).drew = w4 at S4 T4 ⊢
    have AD := hid_as (add64_c ⟨g, 262, none⟩ N w4 S4.out.cFrames (S4.out.free 262) hN)
    have c4 := S4.out.cFrames
    clear hrun cH fH
    go_wp2_with fail
    refine AD.out.mono ?_
    rintro e w5 ⟨rfl, hw5⟩
    have A5 := hid_as (A.out.kept (S4.out.setFrames (N + 1)) (T4.out.set 262 (.int .u64 ((N + 1 : Nat) : Int))))
    have O5 := hid_as (own_turn OZ.out (T4.out.set 262 (.int .u64 ((N + 1 : Nat) : Int))) (Nat.lt_succ_of_lt hgw))
    rw [← hw5] at A5 O5
    clear hw5 AD S4 T4 c4 w4 OZ A
    obtain ⟨⟨r0, r1, r2⟩, rf⟩ := block3 A5.out.res
    obtain ⟨⟨p0, p1, p2⟩, _⟩ := block3 A5.out.fr
    have hqg : ¬ (g = w.heap.size) := Nat.ne_of_lt A5.out.old
    go_wp2
    obtain ⟨⟨e0, e1, e2⟩, _⟩ := block3 (three_same A5.out.res (.int .u16 (id : Int)) (.int .u8 (unit : Int)) (.slice po pdu.length pc))
    refine bodyPost_ret (v := .tuple #[.agg #[.int .u16 (id : Int), .int .u8 (unit : Int), .slice po pdu.length pc], .bool true, .int .i64 0]) (by simp [results, Try.results13, go_sem, e0, e1, e2]) rfl ⟨po, pc, room, rfl, A5.out.turn.three (Nat.le_refl _) _ _ _, A5.out.st.three hqg _ _ _, HT.out, own_base (own_three O5.out (Nat.lt_succ_self _) _ _ _) (Nat.le_succ _)⟩
end Go.Proofs.Ytjfaocpbhhpbdaa
