/- The walk of StreamWrites. -/
import Derived.Test.YtjfaocpbhhpbdaaR1
import Derived.Test.YtjfaocpbhhpbdaaP3
namespace Go.Proofs.Ytjfaocpbhhpbdaa
open Go.RowKit
open Pdu
set_option maxHeartbeats 1600000 in
theorem mbap_any (x0 x1 : Value) (ao : Option Addr) (n cap : Nat) (w : World) (hf : ¬ (1 ≤ n ∧ n ≤ 253)) :
    Calls Try.prog 14 #[.agg #[x0, x1, .slice ao n cap]] w fun e w' => e = .returned (.tuple #[.slice none 0 0, .int .i64 41]) ∧ Below w.heap.size w w' := by
  by_cases h1 : 1 ≤ n
  · have d1 : decide ((n : Int) < 1) = false := decide_eq_false (by omega)
    have d2 : decide ((253 : Int) < n) = true := decide_eq_true (by omega)
    clear hf h1
    go_enter Try.func14, Try.ntmps14
    go_wp2
    go_ret2
    exact ⟨rfl, below_new (Below.refl _ w) _⟩
  · have d1 : decide ((n : Int) < 1) = true := decide_eq_true (by omega)
    clear hf h1
    go_enter Try.func14, Try.ntmps14
    go_wp2
    go_ret2
    exact ⟨rfl, below_new (Below.refl _ w) _⟩
/-- One of the frames, in memory. -/
def FrAt (W : World) (lb lo i : Nat) (f : Fr) : Prop := f.id < 65536 ∧ f.unit < 256 ∧ Bytes f.pdu ∧ ∃ po pc, W.cell? ⟨lb, lo + i * 3, none⟩ = some (.int .u16 (f.id : Int)) ∧ W.cell? ⟨lb, lo + i * 3 + 1, none⟩ = some (.int .u8 (f.unit : Int)) ∧ W.cell? ⟨lb, lo + i * 3 + 2, none⟩ = some (.slice po f.pdu.length pc) ∧ Sl W (.slice po f.pdu.length pc) (u8s f.pdu)
theorem FrAt.below {W W' : World} {lb lo i : Nat} {f : Fr} (h : FrAt W lb lo i f) (k : Below W.heap.size W W') : FrAt W' lb lo i f := by
  obtain ⟨h1, h2, h3, po, pc, a, b, c, d⟩ := h
  exact ⟨h1, h2, h3, po, pc, keep_cell k a, keep_cell k b, keep_cell k c, d.below k⟩
set_option maxRecDepth 100000 in
set_option maxHeartbeats 1600000 in
theorem swrites_big (ao co : Option Addr) (n cap m bc : Nat) (w : World) (h : 30 < n) :
    Calls Try.prog 5 #[.slice ao n cap, .slice co m bc] w fun e w' => e = .returned (.bool true) ∧ Below w.heap.size w w' := by
  have h1 : (30 : Int) < (n : Int) := by omega
  have X := hid_as (known_law w)
  clear h
  go_enter Try.func5, Try.ntmps5
  go_wp2_with fail
  refine X.out.mono ?_
  rintro e w1 ⟨rfl, k1⟩
  have K1 := hid_as k1
  clear k1
  go_wp2
  go_ret
  exact ⟨rfl, K1.out⟩
set_option maxRecDepth 100000 in
set_option maxHeartbeats 1600000 in
theorem swrites_more (ao co : Option Addr) (n cap m bc : Nat) (w : World) (hn : n ≤ 30) (h : 400 < m) :
    Calls Try.prog 5 #[.slice ao n cap, .slice co m bc] w fun e w' => e = .returned (.bool true) ∧ Below w.heap.size w w' := by
  have h0 : ¬ ((30 : Int) < (n : Int)) := by omega
  have h1 : (400 : Int) < (m : Int) := by omega
  have X := hid_as (known_law w)
  clear h hn
  go_enter Try.func5, Try.ntmps5
  go_wp2_with fail
  refine X.out.mono ?_
  rintro e w1 ⟨rfl, k1⟩
  have K1 := hid_as k1
  clear k1
  go_wp2
  go_ret
  exact ⟨rfl, K1.out⟩
/-- The first loop's state: the bytes of the first k frames. -/
def WrI (w1 wr : World) (k : Nat) (L : List Fr) (bv : Value) : Prop := Below w1.heap.size w1 wr ∧ wr.ownsRow w1.heap.size 5 1 bv (mbs (L.take k)).length (u8s (mbs (L.take k))) ∧ ∀ f ∈ L.take k, Fits f
theorem getElem_mem_bytes {L : List Fr} {W : World} {lb lo : Nat} (h : ∀ i f, L[i]? = some f → FrAt W lb lo i f) : ∀ f ∈ L, f.id < 65536 ∧ f.unit < 256 ∧ Bytes f.pdu := by
  intro f hf
  obtain ⟨i, hi, e⟩ := List.getElem_of_mem hf
  have := h i f (by rw [List.getElem?_eq_getElem hi, e])
  exact ⟨this.1, this.2.1, this.2.2.1⟩
set_option maxRecDepth 100000 in
set_option maxHeartbeats 8000000 in
theorem swrites_w (ao co : Option Addr) (n cap m bc : Nat) (L : List Fr) (cs : List Nat) (w : World) (hn : n = L.length) (hF : 0 < n → ∃ lb lo, ao = some ⟨lb, lo, none⟩ ∧ ∀ i f, L[i]? = some f → FrAt w lb lo i f) (hC : Sl w (.slice co m bc) (u8s cs)) (hCB : Bytes cs) (hm : m = cs.length) (hn1 : n ≤ 30) (hm1 : m ≤ 400) :
    Calls Try.prog 5 #[.slice ao n cap, .slice co m bc] w fun e w' => e = .returned (.bool true) ∧ Below w.heap.size w w' := by
  have h0 : ¬ ((30 : Int) < (n : Int)) := by omega
  have h1 : ¬ ((400 : Int) < (m : Int)) := by omega
  have X := hid_as (known_law w)
  have HF := hid_as hF
  have HN := hid_as hn
  have HC := hid_as hC
  have HM := hid_as hm
  clear hF hn hC hm
  go_enter Try.func5, Try.ntmps5
  go_wp2_with fail
  refine X.out.mono ?_
  rintro e w1 ⟨rfl, k1⟩
  have K1 := hid_as k1
  clear k1 X
  go_wp2_with fail
  go_loopw [5, 6] (fun bv i wr => ∃ k : Nat, i = .int .i64 k ∧ k ≤ n ∧ WrI w1 wr k L bv) (fun _ i _ => n - (intOf i).toNat)
  case atStart => exact ⟨0, rfl, Nat.zero_le _, Below.refl _ _, World.ownsRow_nil .., fun f hf => by simp at hf⟩
  case round =>
    obtain ⟨k, rfl, hk, kr, orow, fits⟩ := hrel
    have KR := hid_as kr
    have OR := hid_as orow
    have FI := hid_as fits
    clear kr orow fits
    by_cases hkn : k < n
    · have hk2 : (k : Int) < (n : Int) := by omega
      obtain ⟨lb, lo, rfl, hfr⟩ := HF.out (by omega)
      obtain ⟨f, hf⟩ : ∃ f, L[k]? = some f := ⟨_, List.getElem?_eq_getElem (by rw [← HN.out]; exact hkn)⟩
      obtain ⟨b1, b2, b3, po, pc, a0, a1, a2, sl⟩ := (hfr k f hf).below (below_and K1.out KR.out)
      have HFF := hid_as hf
      have SL := hid_as sl
      clear hfr hf sl
      have IF : Hid (IsFr wr (.agg #[.int .u16 (f.id : Int), .int .u8 (f.unit : Int), .slice po f.pdu.length pc]) f.id f.unit f.pdu (.slice po f.pdu.length pc)) := ⟨rfl, b1, b2, b3, SL.out⟩
      obtain ⟨id, unit, pdu⟩ := f
      by_cases hfit : 1 ≤ pdu.length ∧ pdu.length ≤ 253
      · have RW := hid_as (rw_yes IF.out hfit)
        go_wp2_with fail
        refine RW.out.mono ?_
        rintro e w3 ⟨x, rfl, own3, k3⟩
        obtain ⟨i0, hi0, hz0, hz1, hz2⟩ := info_parts Try.infoByte
        have hml := mbs_length FI.out
        have hml2 := mb_length id unit pdu
        have hkl : (L.take k).length ≤ 30 := by rw [List.length_take]; omega
        obtain ⟨bv4, w4, hAp, own4, g4⟩ := run_append_sl (P := Try.prog) (w := w3) w1.heap.size 22 22 5 i0 (.int .u8 0) 1 Try.underlying22 hi0 hz0 hz1 hz2 rfl u5 _ _ (own_below OR.out k3 (Nat.le_refl _)) x (u8s (mb id unit pdu)) (own_sl own3) (u8s_one _) (by rw [u8s_len]; unfold maxLen; omega) (by rw [u8s_len]; omega) (Nat.le_trans KR.out.size k3.size)
        rw [← u8s_app, u8s_len, ← List.length_append] at own4
        have HA := hid_as hAp
        have NI : Hid (WrI w1 w4 (k + 1) L bv4) := by
          refine ⟨(KR.out.trans (k3.mono KR.out.size)).grown g4 (Nat.le_trans KR.out.size k3.size) (fun j hj => (OR.out.lt j hj).1), ?_, fits_take FI.out HFF.out hfit⟩
          rw [mbs_take HFF.out]
          exact own4
        clear k3 own3 hAp own4 g4 RW hml hml2 hkl i0 hi0 hz0 hz1 hz2
        go_wp2_with (at_builtin; refine Lib.wpList_append_run _ rfl _ _ _ _ rfl _ _ rfl rfl _ _ HA.out ?_)
        go_roundw
        case rel => exact ⟨k + 1, by go_num, by omega, NI.out⟩
        case measure => simp [intOf]; omega
      · have RW := hid_as (mbap_any (.int .u16 (id : Int)) (.int .u8 (unit : Int)) po pdu.length pc wr hfit)
        go_wp2_with fail
        refine RW.out.mono ?_
        rintro e w3 ⟨rfl, k3⟩
        have K3 := hid_as (below_and K1.out (below_and KR.out k3))
        clear k3 RW
        go_wp2
        go_ret
        exact ⟨rfl, K3.out⟩
    · obtain rfl : k = n := by omega
      have hk2 : ¬ ((k : Int) < (k : Int)) := by omega
      have hall : L.take k = L := List.take_of_length_le (by rw [← HN.out]; omega)
      have FA := FI.out
      have OA := OR.out
      rw [hall] at FA OA
      have hml := mbs_length FA
      have hLb : ∀ f ∈ L, f.id < 65536 ∧ f.unit < 256 ∧ Bytes f.pdu := by
        by_cases h0 : 0 < k
        · obtain ⟨lb, lo, rfl, hfr⟩ := HF.out h0
          exact getElem_mem_bytes hfr
        · intro f hf
          obtain rfl : L = [] := List.length_eq_zero_iff.1 (by rw [← HN.out]; omega)
          simp at hf
      have FR := hid_as (frames_l (own_sl OA) (mbs_bytes FA hLb) (HC.out.below (below_and K1.out KR.out)) hCB (by rw [← HN.out] at hml; omega) (by rw [← HM.out]; exact hm1))
      have TM := hid_as (told_mbs FA)
      clear hall FA OA hml FI OR
      go_wp2_with fail
      refine FR.out.mono ?_
      rintro e w3 ⟨k3, v, L', r, E, rfl, o3, tl, rn, re⟩
      obtain ⟨rfl, rfl⟩ := told_one TM.out rfl tl rn
      obtain rfl : 0 = E := by rw [← re]; rfl
      have K3 : Hid (Below w.heap.size w w3) := below_and K1.out (below_and KR.out k3)
      have OT := hid_as o3
      obtain ⟨vo, vc, rfl⟩ := o3.shape
      rw [← HN.out] at OT ⊢
      clear k3 o3 tl rn re FR TM
      go_wp2_with fail
      go_loopw [12] (fun i wx => ∃ j : Nat, i = .int .i64 j ∧ j ≤ k ∧ Below w3.heap.size w3 wx) (fun i _ => k - (intOf i).toNat)
      case atStart => exact ⟨0, rfl, Nat.zero_le _, Below.refl _ _⟩
      case round =>
        obtain ⟨j, rfl, hj, kx⟩ := hrel
        have KX := hid_as kx
        clear kx
        by_cases hjk : j < k
        · have hj2 : (j : Int) < (k : Int) := by omega
          obtain ⟨lb, lo, rfl, hfr⟩ := HF.out (by omega)
          obtain ⟨f, hf⟩ : ∃ f, L[j]? = some f := ⟨_, List.getElem?_eq_getElem (by rw [← HN.out]; exact hjk)⟩
          have hout := (OT.out.below KX.out)
          rw [HN.out] at hout
          obtain ⟨gv, c, po1, pc1, hv, q0, q1, q2, q3⟩ := hout.at hf
          simp only [Value.slice.injEq] at hv
          obtain ⟨rfl, _, rfl⟩ := hv
          obtain ⟨b1, b2, b3, po, pc, a0, a1, a2, sl⟩ := (hfr j f hf).below (below_and K3.out KX.out)
          obtain ⟨id, unit, pdu⟩ := f
          rw [Nat.mul_comm] at q0 q1 q2
          have x0 : wr.cell? ⟨gv, j * 3, none⟩ = some (.int .u16 (id : Int)) := q0
          have x1 : wr.cell? ⟨gv, j * 3 + 1, none⟩ = some (.int .u8 (unit : Int)) := q1
          have x2 : wr.cell? ⟨gv, j * 3 + 2, none⟩ = some (.slice po1 pdu.length pc1) := q2
          have y0 : wr.cell? ⟨lb, lo + j * 3, none⟩ = some (.int .u16 (id : Int)) := a0
          have y1 : wr.cell? ⟨lb, lo + j * 3 + 1, none⟩ = some (.int .u8 (unit : Int)) := a1
          have y2 : wr.cell? ⟨lb, lo + j * 3 + 2, none⟩ = some (.slice po pdu.length pc) := a2
          have FT := hid_as (fun (W : World) (k : Below wr.heap.size wr W) => frame_t (a := .agg #[.int .u16 (id : Int), .int .u8 (unit : Int), .slice po1 pdu.length pc1]) (b := .agg #[.int .u16 (id : Int), .int .u8 (unit : Int), .slice po pdu.length pc]) (id := id) (unit := unit) (pdu := pdu) (w := W) ⟨rfl, b1, b2, b3, q3.below k⟩ ⟨rfl, b1, b2, b3, sl.below k⟩)
          clear hout q0 q1 q2 q3 a0 a1 a2 sl hfr hf
          go_upto_region 19 with fail
          go_region_held3 (fun w' => w'.cell? ⟨gv, j * 3, none⟩ = some (.int .u16 (id : Int)) ∧ w'.cell? ⟨gv, j * 3 + 1, none⟩ = some (.int .u8 (unit : Int)) ∧ w'.cell? ⟨gv, j * 3 + 2, none⟩ = some (.slice po1 pdu.length pc1) ∧ w'.cell? ⟨lb, lo + j * 3, none⟩ = some (.int .u16 (id : Int)) ∧ w'.cell? ⟨lb, lo + j * 3 + 1, none⟩ = some (.int .u8 (unit : Int)) ∧ w'.cell? ⟨lb, lo + j * 3 + 2, none⟩ = some (.slice po pdu.length pc)) (first | exact ⟨x0, x1, x2, y0, y1, y2⟩ | exact ⟨z0, z1, z2, z3, z4, z5⟩) (first
            | (go_at_call 9; (with_reducible refine (FT.out _ ?_).mono ?_); (first | exact (Below.refl _ _).drew); rintro e w6 ⟨rfl, k6⟩; have K6 := hid_as (below_of_drew k6); have z0 := keep_cell K6.out x0; have z1 := keep_cell K6.out x1; have z2 := keep_cell K6.out x2; have z3 := keep_cell K6.out y0; have z4 := keep_cell K6.out y1; have z5 := keep_cell K6.out y2; clear k6))
          all_goals
            go_wp2
            go_roundw
            case rel => exact ⟨j + 1, by go_num, by omega, below_and KX.out K6.out⟩
            case measure => simp [intOf]; omega
        · have hj2 : ¬ ((j : Int) < (k : Int)) := by omega
          go_wp2
          go_ret
          exact ⟨rfl, below_and K3.out KX.out⟩
theorem swrites_law {ao : Option Addr} {n c : Nat} {u : Value} {L : List Fr} {cs : List Nat} {w : World} (hn : n = L.length) (hF : 0 < n → ∃ lb lo, ao = some ⟨lb, lo, none⟩ ∧ ∀ i f, L[i]? = some f → FrAt w lb lo i f) (hC : Sl w u (u8s cs)) (hCB : Bytes cs) :
    Calls Try.prog 5 #[.slice ao n c, u] w fun e w' => e = .returned (.bool true) ∧ Below w.heap.size w w' := by
  obtain ⟨co, bc, rfl⟩ := hC.shape
  rw [u8s_len] at hC ⊢
  by_cases hn1 : n ≤ 30
  case neg => exact swrites_big ao co n c _ bc w (by omega)
  by_cases hm : cs.length ≤ 400
  case neg => exact swrites_more ao co n c _ bc w hn1 (by omega)
  exact swrites_w ao co n c _ bc L cs w hn hF hC hCB rfl hn1 hm
end Go.Proofs.Ytjfaocpbhhpbdaa
