/- The walk of frames. -/
import Derived.Test.YtjfaocpbhhpbdaaF1
namespace Go.Proofs.Ytjfaocpbhhpbdaa
open Go.RowKit
open Pdu
/-- How frames ends. -/
def FramesEnd (bs : List Nat) (w : World) (e : Ending) (w' : World) : Prop :=
  Below w.heap.size w w' ∧ ∃ v L r E, e = .returned (.tuple #[v, .int .i64 ((E : Nat) : Int), .bool true]) ∧ Outs w.heap.size w' v L ∧ ToldOf L bs r ∧ (rd r).n = 0 ∧ (rd r).e = E
/-- The frames so far, at A; none is whole. -/
def OutJ (w wr : World) (g A E : Nat) (bs : List Nat) (v : Value) : Prop :=
  ∃ L h N brk room, FrI w wr g bs v L A h N brk room ∧ (rd (room.take h)).n = 0 ∧ (rd (room.take h)).e = E ∧ (E = 0 → brk = false)
/-- The outer loop's state: at A of n, in round I. -/
def OutI (w wr : World) (g n m A I E : Nat) (bs : List Nat) (v : Value) : Prop := OutJ w wr g A E bs v ∧ A ≤ n ∧ I ≤ m + A
theorem out_start {w : World} {n m : Nat} {bs : List Nat} : OutI w (w.alloc (.cells zS 58)) w.heap.size n m 0 0 0 bs (.slice none 0 0) := by
  refine ⟨⟨[], 0, 0, false, _, ⟨zS_st w, rfl, Outs.nil _ _, below_new (Below.refl _ w) _, rfl⟩, rfl, rfl, fun _ => rfl⟩, by omega, by omega⟩
theorem sl_cell {w W : World} {co : Option Addr} {m bc i : Nat} {cs : List Nat} (h : Sl w (.slice co m bc) (u8s cs)) (k : Below w.heap.size w W) (hi : i < cs.length) : ∃ cb cf, co = some ⟨cb, cf, none⟩ ∧ W.cell? ⟨cb, cf + i, none⟩ = some (.int .u8 (cs.getD i 0 : Nat)) := by
  rcases h with ⟨h, _⟩ | ⟨b, off, c, hv, _, hc⟩
  · obtain rfl := u8s_nil h
    simp at hi
  · simp only [Value.slice.injEq] at hv
    exact ⟨b, off, hv.1, (hc.below k).u8 i hi⟩
/-- A piece more has been fed, and its copy spoilt. -/
theorem fri_fed {w wc w2 w3 w4 : World} {g A h N t : Nat} {bs room room' pb : List Nat} {v : Value} {L : List Fr} (f : FrI w wc g bs v L A h N false room) (k2 : Below wc.heap.size wc w2) (k3 : Turn g w2 w3) (s3 : St w3 g room' (h + t) false N) (e3 : room'.take (h + t) = room.take h ++ pb.take t) (k4 : Below wc.heap.size w3 w4) (ht : (bs.drop A).take t = pb.take t) :
    FrI w w4 g bs v L (A + t) (h + t) N false room' := by
  have hgc := f.st.lt
  have T : Turn g wc w4 := by
    refine ⟨(k4.os.trans k3.os).trans k2.os, (k4.tape.trans k3.tape).trans k2.tape, (k4.output.trans k3.output).trans k2.output, Nat.le_trans k2.size (Nat.le_trans k3.size k4.size), fun j hj hne => ?_⟩
    have h2 := k2.size
    exact ((k4.block j hj).trans (k3.block j (by omega) hne)).trans (k2.block j hj)
  refine ⟨s3.below k4 hgc, f.num, f.out.turn f.st T, f.kept.trans (T.below (Nat.le_refl g) (Nat.le_of_lt hgc)), ?_⟩
  rw [e3, List.take_add, ht]
  exact f.told.more (pb.take t)
/-- Where Next told no frame: all but the stream is as it was. -/
theorem out_same {w wr w6 : World} {g A h N E : Nat} {bs room : List Nat} {v : Value} {L : List Fr} {brk : Bool} (f : FrI w wr g bs v L A h N false room) (k : Turn g wr w6) (s : St w6 g room h brk N) (o : Obj) (hn : (rd (room.take h)).n = 0) (he : (rd (room.take h)).e = E) (hb : E = 0 → brk = false) : OutJ w (w6.alloc o) g A E bs v := by
  have b6 := below_new (Below.refl _ w6) o
  exact ⟨L, h, N, brk, room, ⟨s.below b6 s.lt, f.num, (f.out.turn f.st k).below b6, f.kept.trans ((k.below (Nat.le_refl g) (Nat.le_of_lt f.st.lt)).trans (b6.mono (Nat.le_of_lt s.lt))), f.told⟩, hn, he, hb⟩
theorem frames_done {w wr : World} {n A E : Nat} {bs : List Nat} {v : Value} {L : List Fr} {h N : Nat} {brk : Bool} {room : List Nat} (f : FrI w wr w.heap.size bs v L A h N brk room) (hr : (rd (room.take h)).n = 0) (he : (rd (room.take h)).e = E) (hx : ¬ A < n ∨ E ≠ 0) (hn : n = bs.length) :
    Below w.heap.size w wr ∧ ∃ L' r, Outs w.heap.size wr v L' ∧ ToldOf L' bs r ∧ (rd r).n = 0 ∧ (rd r).e = E := by
  refine ⟨f.kept, L, room.take h ++ bs.drop A, f.out.base (Nat.le_succ _), ?_, ?_⟩
  · have := f.told.more (bs.drop A)
    rwa [List.take_append_drop] at this
  · rcases hx with hx | hx
    · rw [List.drop_eq_nil_of_le (by omega), List.append_nil]
      exact ⟨hr, he⟩
    · rw [rd_more _ _ (Or.inr (by rw [he]; exact hx))]
      exact ⟨hr, he⟩
set_option maxRecDepth 100000 in
set_option maxHeartbeats 4000000 in
theorem frames_at (b off n cap m bc : Nat) (co : Option Addr) (bs cs : List Nat) (w : World) (hs : Lies w b off (u8s bs)) (hB : Bytes bs) (hn : n = bs.length) (hcap : n ≤ cap) (hC : Sl w (.slice co m bc) (u8s cs)) (hCB : Bytes cs) (hm : m = cs.length) (hn1 : n ≤ 10000) (hm1 : m ≤ 400) :
    Calls Try.prog 7 #[.slice (some ⟨b, off, none⟩) n cap, .slice co m bc] w (FramesEnd bs w) := by
  have HS := hid_as hs
  have HN := hid_as hn
  have HC := hid_as hC
  have HM := hid_as hm
  have NW := hid_as (new_c w)
  clear hs hn hC hm
  go_enter Try.func7, Try.ntmps7
  go_wp2_with fail
  refine NW.out.mono ?_
  rintro e w1 ⟨rfl, hw⟩
  have START : Hid (OutI w w1 w.heap.size n m 0 0 0 bs (.slice none 0 0)) := by rw [hw]; exact out_start
  clear hw NW
  go_wp2_with fail
  go_loopw [8, 9, 10, 11] (fun v at_ bad i wr => ∃ A E I : Nat, at_ = .int .i64 A ∧ bad = .int .i64 E ∧ i = .int .i64 I ∧ OutI w wr w.heap.size n m A I E bs v) (fun _ at_ _ i _ => (n - (intOf at_).toNat) + (m - (intOf i).toNat))
  case atStart => exact ⟨0, 0, 0, rfl, rfl, rfl, START.out⟩
  case round =>
    obtain ⟨A, E, I, rfl, rfl, rfl, HO⟩ := hrel
    have O := hid_as HO
    clear HO START
    by_cases hcond : A < n ∧ E = 0
    case neg =>
      obtain ⟨L, h, N, brk, room, F, rn, re, hb⟩ := O.out.1
      have D := hid_as (frames_done F rn re (n := n) (by omega) HN.out)
      have FC := hid_as (frames_c F.st)
      obtain ⟨ao, c, rfl⟩ := F.out.shape
      have hNl : N = L.length := F.num
      have hfew : L.length ≤ 10000 := F.few (by rw [← HN.out]; exact hn1)
      clear rn re hb F O
      rw [← hNl] at hfew D ⊢
      have e64 : IntKind.u64.wrap (N : Int) = (N : Int) := by rw [IntKind.wrap_u64]; omega
      clear hNl
      by_cases hA : A < n
      · have hA2 : (A : Int) < (n : Int) := by omega
        have hE2 : ((E : Int) == 0) = false := by rw [beq_eq_false_iff_ne]; omega
        go_wp2_with fail
        refine FC.out.mono ?_
        rintro e w5 ⟨rfl, hw⟩
        subst w5
        go_wp2
        obtain ⟨d1, L', r, d2⟩ := D.out
        refine bodyPost_ret (v := .tuple #[.slice ao N c, .int .i64 (E : Int), .bool true]) (by simp [results, Try.results7, go_sem]) rfl ⟨d1, _, L', r, E, rfl, d2⟩
      · have hA2 : ¬ ((A : Int) < (n : Int)) := by omega
        go_wp2_with fail
        refine FC.out.mono ?_
        rintro e w5 ⟨rfl, hw⟩
        subst w5
        go_wp2
        obtain ⟨d1, L', r, d2⟩ := D.out
        refine bodyPost_ret (v := .tuple #[.slice ao N c, .int .i64 (E : Int), .bool true]) (by simp [results, Try.results7, go_sem]) rfl ⟨d1, _, L', r, E, rfl, d2⟩
    obtain ⟨hA, rfl⟩ := hcond
    obtain ⟨wo, rfl⟩ : ∃ wo : World, wo = wr := ⟨_, rfl⟩
    have hA2 : (A : Int) < (n : Int) := by omega
    obtain ⟨R, hR⟩ : ∃ R : Nat, (n : Int) - (A : Int) = (R : Int) := ⟨n - A, by omega⟩
    have KO : Hid (Below w.heap.size w wo) := by obtain ⟨L, h, N, brk, room, f, _⟩ := O.out.1; exact f.kept
    go_upto_if 36 with fail
    go_cut [12] from 19 to 90 (fun s wc => ∃ k : Nat, s = .int .i64 k ∧ k ≤ R ∧ (I < m ∨ k = R) ∧ wc = wo)
    case first =>
      by_cases hi : I < m
      · obtain ⟨cb, cf, rfl, hcell⟩ := sl_cell HC.out KO.out (by rw [← HM.out]; exact hi)
        have hi2 : (I : Int) < (m : Int) := by omega
        have hc3 : cs.getD I 0 < 256 := hCB.at I
        generalize cs.getD I 0 = c at hcell hc3
        by_cases hc : c < R
        · have hc2 : (c : Int) < (R : Int) := by omega
          go_wp2
          go_meet
          case rel => exact ⟨c, rfl, by omega, Or.inl hi, rfl⟩
        · have hc2 : ¬ ((c : Int) < (R : Int)) := by omega
          go_wp2
          go_meet
          case rel => exact ⟨R, rfl, by omega, Or.inl hi, rfl⟩
      · go_wp2
        go_meet
        case rel => exact ⟨R, rfl, by omega, Or.inr rfl, rfl⟩
    case rest =>
      obtain ⟨k, rfl, hk, hk2, rfl⟩ := hcut
      obtain ⟨Q, hQ⟩ : ∃ Q : Nat, (A : Int) + (k : Int) = (Q : Int) := ⟨A + k, by omega⟩
      have hq1 : (A : Int) ≤ (Q : Int) := by omega
      have hq2 : (Q : Int) ≤ (cap : Int) := by omega
      have hq3 : ¬ (cap = A) := by omega
      have hQk : Q - A = k := by omega
      obtain ⟨L, h, N, brk, room, F, rn, re, hb⟩ := O.out.1
      obtain rfl := hb rfl
      have hAn := O.out.2.1
      have hIm := O.out.2.2
      have HF := hid_as F
      have hh := F.st.held
      have hgc : w.heap.size < wc.heap.size := F.st.lt
      have hsh : (room.take h).length < 260 := rd_short _ rn re
      rw [List.length_take, F.st.len, Nat.min_eq_left hh] at hsh
      have S1 := hid_as (sub_sl (HS.out.below KO.out) A k (cap - A) (by rw [← HN.out]; omega) (by omega))
      have hpl : ((bs.drop A).take k).length = k := by rw [List.length_take, List.length_drop, ← HN.out]; omega
      have HPB : Hid (Bytes ((bs.drop A).take k)) := (hB.drop _).take _
      have HPT : Hid (∀ t, t ≤ k → (bs.drop A).take t = ((bs.drop A).take k).take t) := fun t ht => by rw [List.take_take, Nat.min_eq_left ht]
      generalize (bs.drop A).take k = pb at S1 hpl HPB HPT
      have CP := hid_as (copy_c S1.out (by rw [hpl]; omega))
      have HPL := hid_as hpl
      clear F rn re hb hpl
      go_wp2_with fail
      refine CP.out.mono ?_
      rintro e w2 ⟨v2, rfl, own2, k2⟩
      have OW := hid_as own2
      have K2 := hid_as k2
      have FD := hid_as (feed_c (HF.out.st.below k2 hgc) (own_sl own2) HPB.out)
      clear own2 k2 CP
      go_wp2_with fail
      refine FD.out.mono ?_
      rintro e w3 ⟨rfl, k3, room', s3, e3⟩
      have K3 := hid_as k3
      have S3 := hid_as s3
      have E3 := hid_as e3
      have SP := hid_as (spoil_c (own_turn OW.out k3 hgc) (Nat.le_trans K2.out.size k3.size) (by rw [HPL.out]; omega))
      clear k3 s3 e3 FD
      rw [HPL.out]
      rw [HPL.out] at S3 E3
      obtain ⟨t, ht⟩ : ∃ t, t = Nat.min k (260 - h) := ⟨_, rfl⟩
      have ht1 : t ≤ k := by rw [ht]; exact Nat.min_le_left _ _
      have ht2 : t ≤ 260 - h := by rw [ht]; exact Nat.min_le_right _ _
      have ht3 : t = k ∨ t = 260 - h := by rw [ht]; rcases Nat.le_total k (260 - h) with q | q; exact Or.inl (Nat.min_eq_left q); exact Or.inr (Nat.min_eq_right q)
      rw [← ht] at S3 E3 ⊢
      clear ht
      go_wp2_with fail
      refine SP.out.mono ?_
      rintro e w4 ⟨rfl, k4⟩
      have F4 := hid_as (fri_fed HF.out K2.out K3.out S3.out E3.out k4 (HPT.out t ht1))
      have LF := hid_as (left_c F4.out.st)
      clear k4 SP S3 E3 K3 K2 OW S1 HPB HPT HF
      have hh4 : h + t ≤ 260 := by omega
      obtain ⟨A', hA'⟩ : ∃ A' : Nat, (A : Int) + (t : Int) = (A' : Int) := ⟨A + t, by omega⟩
      obtain rfl : A' = A + t := by omega
      have d1 : decide ((t : Int) < 0) = false := decide_eq_false (by omega)
      have d2 : ¬ (k < t) := by omega
      have d3 : decide ((260 : Int) < ((h + t : Nat) : Int)) = false := decide_eq_false (by omega)
      generalize h + t = h4 at F4 LF hh4 d3
      generalize A + t = A4 at *
      go_wp2_with fail
      refine LF.out.mono ?_
      rintro e w5 ⟨rfl, hw⟩
      subst w5
      go_upto_block 2 with fail
      go_cut [8, 10] from 19 to 90 (fun v bad wx => ∃ E' : Nat, bad = .int .i64 E' ∧ OutJ w wx w.heap.size A4 E' bs v)
      case first =>
        have few : Hid (∀ {wr : World} {h N : Nat} {room : List Nat} {v : Value} {L : List Fr} {brk : Bool}, FrI w wr w.heap.size bs v L A4 h N brk room → L.length ≤ 10000) := fun f => f.few (by rw [← HN.out]; exact hn1)
        go_wp2_with fail
        go_loopw [8, 10] (fun v bad wr => bad = .int .i64 0 ∧ ∃ L h N room, FrI w wr w.heap.size bs v L A4 h N false room) (fun _ _ wr => heldOf w.heap.size wr)
        case atStart => exact ⟨rfl, _, _, _, _, F4.out⟩
        case round =>
          clear F4 LF O KO hh hsh ht3 ht2 d3 hh4
          obtain ⟨rfl, L, h, N, room, F⟩ := hrel
          have G := hid_as F
          have hheld := F.st.held
          have hnum := F.num
          have hfew : N < 1000000 := by have := few.out F; omega
          have HH := hid_as F.st.heldOf
          clear hnum
          by_cases h0 : 0 < (rd (room.take h)).n
          · obtain ⟨⟨id, unit, pdu⟩, hf⟩ : ∃ f, f = fr1 (room.take h) := ⟨_, rfl⟩
            obtain ⟨nn, hnn⟩ : ∃ nn, nn = (rd (room.take h)).n := ⟨_, rfl⟩
            have hle := (rd_le (room.take h)).1
            have h8 := (rd_yes _ h0).2.1
            rw [List.length_take, F.st.len, Nat.min_eq_left hheld, ← hnn] at hle
            rw [← hnn] at h8
            have NX : Hid (Calls Try.prog 13 #[.pointer (some ⟨w.heap.size, 0, none⟩)] wr (Told1 w.heap.size h nn N id unit false room pdu wr)) := by
              have e1 : id = (rd (room.take h)).id := congrArg Fr.id hf
              have e2 : unit = (rd (room.take h)).unit := congrArg Fr.unit hf
              have e3 : pdu = (rd (room.take h)).pdu := congrArg Fr.pdu hf
              rw [e1, e2, e3, hnn]
              exact next_yes F.st h0 hfew
            have PU : Hid (∀ {w2 w3 : World} {room' : List Nat} {v' : Value}, St w2 w.heap.size room' (h - nn) false (N + 1) → Turn w.heap.size wr w2 → room'.take (h - nn) = (room.take h).drop nn → Outs (w.heap.size + 1) w3 v' (L ++ [⟨id, unit, pdu⟩]) → w2.grownBy w3 u8.ownBlock → FrI w w3 w.heap.size bs v' (L ++ [⟨id, unit, pdu⟩]) A4 (h - nn) (N + 1) false room') := by
              intro w2 w3 room' v' s2 k2 e2 o3 g3
              rw [hf] at o3 ⊢
              rw [hnn] at s2 e2 ⊢
              exact fri_push G.out h0 s2 k2 e2 o3 g3 (Nat.le_refl _)
            clear F h0 hf hnn
            go_wp2_with fail
            refine NX.out.mono ?_
            rintro e w6 ⟨po, pc, room6, rfl, k6, s6, e6, o6⟩
            have b6 := below_new (Below.refl _ w6) (.cells #[.int .u16 (id : Int), .int .u8 (unit : Int), .slice po pdu.length pc] 29)
            obtain ⟨v7, w7, hAp, o7, g7⟩ := outs_push (f := ⟨id, unit, pdu⟩) (((G.out.out).turn G.out.st k6).below b6) (few.out G.out) (Nat.le_trans (Nat.succ_le_of_lt s6.lt) b6.size) ((own_base o6 (Nat.zero_le _)).alloc _)
            rw [World.size_alloc] at hAp
            have HA := hid_as hAp
            have FP := hid_as (PU.out ((s6.below b6 s6.lt).below (below_new (Below.refl _ _) _) (s6.below b6 s6.lt).lt) ((k6.alloc _).alloc _) e6 o7 g7)
            clear k6 s6 e6 o6 b6 hAp o7 g7 NX
            go_wp2_with (at_builtin; refine Lib.wpList_append_run _ rfl _ _ _ _ rfl _ _ rfl rfl _ _ HA.out ?_)
            go_roundw
            case rel => exact ⟨rfl, _, _, _, _, FP.out⟩
            case measure =>
              rw [FP.out.st.heldOf, HH.out]
              omega
          · have hn0 : (rd (room.take h)).n = 0 := by omega
            have hr := rd_no _ hn0
            by_cases he : (rd (room.take h)).e = 0
            · rw [he] at hr
              have NX := hid_as (next_wait _ h N false room wr F.st hr)
              have HE := hid_as (And.intro hn0 he)
              clear F hr he hn0 h0
              go_wp2_with fail
              refine NX.out.mono ?_
              rintro e w6 ⟨rfl, k6, s6⟩
              have J6 : Hid (OutJ w (w6.alloc (.cells #[.int .u16 0, .int .u8 0, .slice none 0 0] 29)) w.heap.size A4 0 bs u8) := out_same G.out k6 s6 _ HE.out.1 HE.out.2 (fun _ => rfl)
              clear k6 s6 NX
              go_wp2
              go_meet
              case rel => exact ⟨0, rfl, J6.out⟩
            · have NX := hid_as (next_err _ h N _ false room wr F.st hr he)
              have HE := hid_as hn0
              have HE2 : Hid ((rd (room.take h)).e = (rd (room.take h)).e) := rfl
              generalize hEE : (rd (room.take h)).e = E6 at NX he HE2
              have hE3 : ((E6 : Int) == 0) = false := by rw [beq_eq_false_iff_ne]; omega
              have HE4 := hid_as hEE
              clear F hr hn0 h0 hEE HE2
              go_wp2_with fail
              refine NX.out.mono ?_
              rintro e w6 ⟨rfl, k6, s6⟩
              have J6 : Hid (OutJ w (w6.alloc (.cells #[.int .u16 0, .int .u8 0, .slice none 0 0] 29)) w.heap.size A4 E6 bs u8) := out_same G.out k6 s6 _ HE.out HE4.out (fun h => absurd h he)
              clear k6 s6 NX
              go_wp2
              go_meet
              case rel => exact ⟨E6, rfl, J6.out⟩
      case rest =>
        obtain ⟨E6, rfl, J6⟩ := hcut
        have J := hid_as J6
        clear J6
        have d5 : ¬ ((5000 : Int) + (n : Int) < (I : Int)) := by omega
        go_wp2
        go_roundw
        case rel => exact ⟨A4, E6, I + 1, rfl, rfl, by go_num, J.out, by omega, by omega⟩
        case measure => simp [intOf]; omega
end Go.Proofs.Ytjfaocpbhhpbdaa
