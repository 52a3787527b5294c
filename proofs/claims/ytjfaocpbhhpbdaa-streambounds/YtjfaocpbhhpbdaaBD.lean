/- The walk of StreamBounds. -/
import Derived.Test.YtjfaocpbhhpbdaaC1
namespace Go.Proofs.Ytjfaocpbhhpbdaa
open Go.RowKit
open Pdu
/-- One of the lists, in memory at a. -/
def RowAt (W : World) (a : Addr) (bs : List Nat) : Prop := Bytes bs ∧ ∃ av c, W.cell? a = some (.slice av bs.length c) ∧ Sl W (.slice av bs.length c) (u8s bs)
theorem RowAt.below {W W' : World} {a : Addr} {bs : List Nat} (h : RowAt W a bs) (k : Below W.heap.size W W') : RowAt W' a bs := by
  obtain ⟨hB, av, c, h1, h2⟩ := h
  exact ⟨hB, av, c, (k.cell (p := a) (lt_of_cell h1)).trans h1, h2.below k⟩
/-- The stream, and the bytes that are held beside it. -/
structure Bd (w wr : World) (g : Nat) (hv : Value) (room : List Nat) (h N : Nat) (brk : Bool) : Prop where
  st : St wr g room h brk N
  kept : Below g w wr
  held : Cut (g + 1) wr hv (room.take h)
theorem Bd.below {w wr w2 : World} {g h N : Nat} {hv : Value} {room : List Nat} {brk : Bool} (b : Bd w wr g hv room h N brk) (k : Below wr.heap.size wr w2) : Bd w w2 g hv room h N brk :=
  ⟨b.st.below k b.st.lt, b.kept.trans (k.mono (Nat.le_of_lt b.st.lt)), b.held.below k⟩
theorem Bd.len {w wr : World} {g h N : Nat} {hv : Value} {room : List Nat} {brk : Bool} (b : Bd w wr g hv room h N brk) : (room.take h).length = h := by
  rw [List.length_take, b.st.len]
  exact Nat.min_eq_left b.st.held
theorem Bd.shape {w wr : World} {g h N : Nat} {hv : Value} {room : List Nat} {brk : Bool} (b : Bd w wr g hv room h N brk) : ∃ ho hc, hv = .slice ho h hc := by
  obtain ⟨ho, hc, e⟩ := b.held.shape
  rw [b.len] at e
  exact ⟨ho, hc, e⟩
/-- A piece has been fed, and laid behind what is held. -/
theorem bd_fed {w wr w2 w3 : World} {g h N k : Nat} {hv hv' : Value} {room room' bs : List Nat} (b : Bd w wr g hv room h N false) (t2 : Turn g wr w2) (s2 : St w2 g room' (h + k) false N) (e2 : room'.take (h + k) = room.take h ++ bs.take k) (c3 : Cut (g + 1) w3 hv' (room.take h ++ bs.take k)) (g3 : w2.grownBy w3 hv.ownBlock) :
    Bd w w3 g hv' room' (h + k) N false := by
  have hne : some g ≠ hv.ownBlock := fun e => by have := (b.held.own g e.symm).1; omega
  refine ⟨s2.heap (g3.block g s2.lt hne), (b.kept.trans (t2.below (Nat.le_refl g) (Nat.le_of_lt b.st.lt))).grown g3 (Nat.le_of_lt s2.lt) (fun j hj => by have := (b.held.own j hj).1; omega), ?_⟩
  rw [e2]
  exact c3
/-- Next has told a frame. -/
theorem bd_told {w wr w2 : World} {g h N nn : Nat} {ho : Option Addr} {room room' : List Nat} {hc : Nat} (b : Bd w wr g (.slice ho h hc) room h N false) (t2 : Turn g wr w2) (s2 : St w2 g room' (h - nn) false (N + 1)) (e2 : room'.take (h - nn) = (room.take h).drop nn) (hn : nn ≤ h) :
    Bd w w2 g (.slice (if hc = nn then ho else ho.map (·.add nn)) (h - nn) (hc - nn)) room' (h - nn) (N + 1) false := by
  refine ⟨s2, b.kept.trans (t2.below (Nat.le_refl g) (Nat.le_of_lt b.st.lt)), ?_⟩
  rw [e2]
  have hd := b.held.turn t2 (Nat.lt_succ_self g)
  have hl := b.len
  have := Cut.drop (n := nn) (bs := room.take h) (cap := hc) (ao := ho) (by rw [hl]; exact hd) (by rw [hl]; exact hn)
  rw [hl] at this
  exact this
/-- Next has told none. -/
theorem bd_none {w wr w2 : World} {g h N : Nat} {hv : Value} {room : List Nat} {brk brk' : Bool} (b : Bd w wr g hv room h N brk) (t2 : Turn g wr w2) (s2 : St w2 g room h brk' N) : Bd w w2 g hv room h N brk' :=
  ⟨s2, b.kept.trans (t2.below (Nat.le_refl g) (Nat.le_of_lt b.st.lt)), b.held.turn t2 (Nat.lt_succ_self g)⟩
/-- Nothing has been fed, and nothing laid behind what is held. -/
theorem bd_fed0 {w wr w3 : World} {g h N : Nat} {hv hv' : Value} {room : List Nat} {brk : Bool} (b : Bd w wr g hv room h N brk) (c3 : Cut (g + 1) w3 hv' (room.take h)) (g3 : wr.grownBy w3 hv.ownBlock) : Bd w w3 g hv' room h N brk := by
  have hne : some g ≠ hv.ownBlock := fun e => by have := (b.held.own g e.symm).1; omega
  exact ⟨b.st.heap (g3.block g b.st.lt hne), b.kept.grown g3 (Nat.le_of_lt b.st.lt) (fun j hj => by have := (b.held.own j hj).1; omega), c3⟩
/-- A frame's box has been written. -/
theorem Bd.three {w wr : World} {g h N p : Nat} {hv : Value} {room : List Nat} {brk : Bool} {cs : Array Value} {fl : Nat × Nat} (b : Bd w wr g hv room h N brk) (hp : wr.heap[p]? = some (.cells cs 29 fl)) (hg : g < p) (y0 y1 y2 : Value) :
    Bd w (((wr.setCell ⟨p, 0, none⟩ y0).setCell ⟨p, 1, none⟩ y1).setCell ⟨p, 2, none⟩ y2) g hv room h N brk := by
  refine ⟨b.st.three (by omega) _ _ _, Below.setCell (Below.setCell (Below.setCell b.kept (Nat.le_of_lt hg) _) (Nat.le_of_lt hg) _) (Nat.le_of_lt hg) _, b.held.heap fun j hj => three_other ?_ _ _ _⟩
  rintro rfl
  rcases b.held with ⟨rfl, _⟩ | ⟨g', off, cap, cur, rfl, _, hg', _⟩
  · simp [Value.ownBlock] at hj
  · simp [Value.ownBlock] at hj
    subst hj
    rw [hg'] at hp
    simp at hp
/-- The loop's state. -/
def BdI (w wr : World) (g E I : Nat) (hv : Value) : Prop :=
  ∃ room h N brk, Bd w wr g hv room h N brk ∧ N ≤ I ∧ ((E = 0 ∧ brk = false) ∨ (E ≠ 0 ∧ brk = true ∧ (rd (room.take h)).n = 0 ∧ (rd (room.take h)).e = E))
theorem bd_start (w : World) : BdI w (w.alloc (.cells zS 58)) w.heap.size 0 0 (.slice none 0 0) :=
  ⟨_, 0, 0, false, ⟨zS_st w, below_new (Below.refl _ w) _, Cut.nil _ _⟩, Nat.le_refl _, Or.inl ⟨rfl, rfl⟩⟩
theorem sl_pre {w : World} {a : Option Addr} {n c k : Nat} {bs : List Nat} (h : Sl w (.slice a n c) (u8s bs)) (hk : k ≤ n) : Sl w (.slice a k c) (u8s (bs.take k)) := by
  rcases h with ⟨h, ao, cap, hv, h0⟩ | ⟨b, off, cap, hv, hcap, hc⟩
  · obtain rfl := u8s_nil h
    simp only [Value.slice.injEq] at hv
    obtain ⟨rfl, rfl, rfl⟩ := hv
    obtain rfl : k = 0 := by omega
    exact Or.inl ⟨by simp [u8s], a, c, rfl, h0⟩
  · simp only [Value.slice.injEq] at hv
    obtain ⟨rfl, rfl, rfl⟩ := hv
    rw [u8s_len] at hk hcap
    have := sub_sl hc 0 k c (by omega) (by omega)
    simpa using this
set_option maxRecDepth 100000 in
set_option maxHeartbeats 1600000 in
theorem bounds_big (ao : Option Addr) (n c : Nat) (w : World) (h : 60 < n) : Calls Try.prog 4 #[.slice ao n c] w fun e w' => e = .returned (.bool true) ∧ Below w.heap.size w w' := by
  have h1 : (60 : Int) < (n : Int) := by omega
  have X := hid_as (known_law w)
  clear h
  go_enter Try.func4, Try.ntmps4
  go_wp2_with fail
  refine X.out.mono ?_
  rintro e w1 ⟨rfl, k1⟩
  have K1 := hid_as k1
  clear k1
  go_wp2
  go_ret
  exact ⟨rfl, K1.out⟩
set_option maxRecDepth 100000 in
set_option maxHeartbeats 8000000 in
theorem bounds_w (ao : Option Addr) (n c : Nat) (w : World) (hn : n ≤ 60) (hR : 0 < n → ∃ lb lo, ao = some ⟨lb, lo, none⟩ ∧ ∀ i, i < n → ∃ bs, RowAt w ⟨lb, lo + i, none⟩ bs) :
    Calls Try.prog 4 #[.slice ao n c] w fun e w' => e = .returned (.bool true) ∧ Below w.heap.size w w' := by
  have h1 : ¬ ((60 : Int) < (n : Int)) := by omega
  have X := hid_as (known_law w)
  have HR := hid_as hR
  clear hR
  go_enter Try.func4, Try.ntmps4
  go_wp2_with fail
  refine X.out.mono ?_
  rintro e w0 ⟨rfl, k0⟩
  have K0 := hid_as k0
  have NW := hid_as (new_c w0)
  have START := hid_as (bd_start w0)
  clear k0 X
  go_wp2_with fail
  refine NW.out.mono ?_
  rintro e w1 ⟨rfl, hw⟩
  rw [← hw] at START
  clear hw NW
  go_wp2_with fail
  go_loopw [4, 5, 6] (fun hv bad i wr => ∃ E I : Nat, bad = .int .i64 E ∧ i = .int .i64 I ∧ I ≤ n ∧ BdI w0 wr w0.heap.size E I hv) (fun _ _ i _ => n - (intOf i).toNat)
  case atStart => exact ⟨0, 0, rfl, rfl, Nat.zero_le _, START.out⟩
  case round =>
    obtain ⟨E, I, rfl, rfl, hI, room, h, N, brk, B, hNI, hE⟩ := hrel
    have BB := hid_as B
    have KW : Hid (Below w.heap.size w wr) := below_and K0.out B.kept
    obtain ⟨ho, hc, rfl⟩ := B.shape
    have hh := B.st.held
    have hgl : w0.heap.size < wr.heap.size := B.st.lt
    clear B START
    by_cases hIn : I < n
    case neg =>
      have hI2 : ¬ ((I : Int) < (n : Int)) := by omega
      go_wp2
      go_ret
      exact ⟨rfl, KW.out⟩
    have hI2 : (I : Int) < (n : Int) := by omega
    obtain ⟨lb, lo, rfl, hrow⟩ := HR.out (by omega)
    obtain ⟨bs, hB, av, rc, hcw, hsl⟩ := hrow I hIn
    obtain ⟨m, hm⟩ : ∃ m, m = bs.length := ⟨_, rfl⟩
    rw [← hm] at hcw hsl
    have SL := hid_as hsl
    have hmc : m ≤ rc := by
      rcases hsl with ⟨_, ao, cap, hv, _⟩ | ⟨_, _, cap, hv, hcap, _⟩
      · simp only [Value.slice.injEq] at hv; omega
      · simp only [Value.slice.injEq] at hv; omega
    have HM := hid_as hm
    have CW := hid_as hcw
    have hcell := keep_cell KW.out hcw
    clear hm hcw hsl hrow HR
    by_cases hbig : 1000 < m
    · have hbig2 : (1000 : Int) < (m : Int) := by omega
      go_wp2
      go_ret
      exact ⟨rfl, KW.out⟩
    have hbig2 : ¬ ((1000 : Int) < (m : Int)) := by omega
    rcases hE with ⟨rfl, rfl⟩ | ⟨hE0, rfl, hz, he⟩
    · obtain ⟨R, hR⟩ : ∃ R : Nat, (260 : Int) - (h : Int) = (R : Int) := ⟨260 - h, by omega⟩
      obtain ⟨k, hk⟩ : ∃ k, k = Nat.min m (260 - h) := ⟨_, rfl⟩
      have hk1 : k ≤ m := by rw [hk]; exact Nat.min_le_left _ _
      have hk2 : k ≤ 260 - h := by rw [hk]; exact Nat.min_le_right _ _
      have hk3 : k = m ∨ k = 260 - h := by rw [hk]; rcases Nat.le_total m (260 - h) with q | q; exact Or.inl (Nat.min_eq_left q); exact Or.inr (Nat.min_eq_right q)
      have HK := hid_as hk
      clear hk
      go_upto_if 33 with fail
      go_cut [7] from 20 to 98 (fun s wc => s = .int .i64 k ∧ wc = wr)
      case first =>
        by_cases hlt : R < m
        · have hlt2 : (R : Int) < (m : Int) := by omega
          obtain rfl : R = k := by omega
          go_wp2
          go_meet
          case rel => exact ⟨rfl, rfl⟩
        · have hlt2 : ¬ ((R : Int) < (m : Int)) := by omega
          obtain rfl : m = k := by omega
          go_wp2
          go_meet
          case rel => exact ⟨rfl, rfl⟩
      case rest =>
        obtain ⟨rfl, rfl⟩ := hcut
        have FD := hid_as (feed_c BB.out.st (SL.out.below KW.out) hB)
        rw [← HM.out, ← HK.out] at FD
        go_wp2_with fail
        refine FD.out.mono ?_
        rintro e w2 ⟨rfl, t2, room2, s2, e2⟩
        have T2 := hid_as t2
        have S2 := hid_as s2
        have E2 := hid_as e2
        have KW2 : Hid (Below w.heap.size w w2) := KW.out.trans (t2.below K0.out.size KW.out.size)
        have hcell2 := keep_cell KW2.out CW.out
        obtain ⟨hv3, w3, hAp, c3, g3⟩ := cut_append (BB.out.held.turn t2 (Nat.lt_succ_self _)) (sl_pre (SL.out.below KW2.out) hk1) (by rw [BB.out.len, List.length_take]; omega) (Nat.succ_le_of_lt s2.lt)
        have HA := hid_as hAp
        have B3 := hid_as (bd_fed BB.out t2 s2 e2 c3 g3)
        have hkc : (k : Int) ≤ (rc : Int) := by omega
        have hkc2 : k ≤ rc := by omega
        clear t2 s2 e2 FD hAp c3 g3 hcell
        obtain ⟨h3, hh3⟩ : ∃ h3, h3 = h + k := ⟨_, rfl⟩
        rw [← hh3] at B3
        obtain ⟨ho3, hc3, rfl⟩ := B3.out.shape
        have hl3 := B3.out.st.held
        have HH3 := hid_as hh3
        clear hh3 S2 E2 T2 SL BB KW KW2 CW
        have LF := hid_as (left_c B3.out.st)
        have RO := hid_as (ropen_c B3.out.held.sl (B3.out.st.byt.take h3) (by rw [B3.out.len]; omega))
        have hg3 : w0.heap.size < w3.heap.size := B3.out.st.lt
        go_wp2_with (at_builtin; refine Lib.wpList_append_run _ rfl _ _ _ _ rfl _ _ rfl rfl _ _ HA.out ?_)
        clear HA hcell2
        refine LF.out.mono ?_
        rintro e wx ⟨rfl, hw⟩
        subst wx
        by_cases hz : (rd (room2.take h3)).n = 0
        · have hr3 := rd_no _ hz
          by_cases he : (rd (room2.take h3)).e = 0
          · rw [he] at hr3
            have HR3 := hid_as hr3
            clear hr3
            go_wp2_with fail
            refine RO.out.mono ?_
            rintro e w4 hend
            obtain ⟨k4, po, pc, rfl, own4⟩ := hend.is HR3.out
            have b4 := below_new (Below.refl _ w4) (.cells #[.int .u16 0, .int .u8 0, .slice po 0 pc] 29)
            have B4 := hid_as ((B3.out.below k4).below b4)
            have F4 := hid_as (heap_alloc_new w4 (.cells #[.int .u16 0, .int .u8 0, .slice po 0 pc] 29))
            have O4 := hid_as (own4.alloc (.cells #[.int .u16 0, .int .u8 0, .slice po 0 pc] 29))
            have hp4 : w0.heap.size < w4.heap.size := Nat.lt_of_lt_of_le hg3 k4.size
            clear hend k4 own4 b4 RO LF
            have NX := hid_as (next_wait _ h3 N false room2 _ B4.out.st HR3.out)
            go_wp2_with fail
            refine NX.out.mono ?_
            rintro e w5 ⟨rfl, t5, s5⟩
            have F5 := hid_as (kept_alloc (o2 := .cells #[.int .u16 0, .int .u8 0, .slice none 0 0] 29) (kept_far t5 F4.out (Nat.ne_of_gt hp4)))
            have O5 := hid_as ((own_turn O4.out t5 hg3).alloc (.cells #[.int .u16 0, .int .u8 0, .slice none 0 0] 29))
            have b5 := below_new (Below.refl _ w5) (.cells #[.int .u16 0, .int .u8 0, .slice none 0 0] 29)
            have B5 := hid_as ((bd_none B4.out t5 s5).below b5)
            clear t5 s5 b5 NX F4 O4 B4
            obtain ⟨⟨f0, f1, f2⟩, _⟩ := block3 F5.out
            have FT := hid_as (frame_t (a := .agg #[.int .u16 0, .int .u8 0, .slice po 0 pc]) (b := .agg #[.int .u16 0, .int .u8 0, .slice none 0 0]) (id := 0) (unit := 0) (pdu := []) (w := w5.alloc (.cells #[.int .u16 0, .int .u8 0, .slice none 0 0] 29)) ⟨rfl, (by decide), (by decide), Bytes.nil, own_sl O5.out⟩ ⟨rfl, (by decide), (by decide), Bytes.nil, Sl.nil _⟩)
            go_wp2_with fail
            refine FT.out.mono ?_
            rintro e w6 ⟨rfl, k6⟩
            have B6 := hid_as (B5.out.below k6)
            clear k6 FT f0 f1 f2
            go_wp2
            go_roundw
            case rel => exact ⟨0, I + 1, rfl, by go_num, by omega, room2, h3, N, false, B6.out, by omega, Or.inl ⟨rfl, rfl⟩⟩
            case measure => simp [intOf]; omega
          · obtain ⟨E3, hE3⟩ : ∃ E3, E3 = (rd (room2.take h3)).e := ⟨_, rfl⟩
            rw [← hE3] at hr3 he
            have HE3 := hid_as hE3
            have HZ := hid_as hz
            clear hE3
            have HR3 := hid_as hr3
            clear hr3
            go_wp2_with fail
            refine RO.out.mono ?_
            rintro e w4 hend
            obtain ⟨k4, po, pc, rfl, own4⟩ := hend.is HR3.out
            have b4 := below_new (Below.refl _ w4) (.cells #[.int .u16 0, .int .u8 0, .slice po 0 pc] 29)
            have B4 := hid_as ((B3.out.below k4).below b4)
            have F4 := hid_as (heap_alloc_new w4 (.cells #[.int .u16 0, .int .u8 0, .slice po 0 pc] 29))
            have O4 := hid_as (own4.alloc (.cells #[.int .u16 0, .int .u8 0, .slice po 0 pc] 29))
            have hp4 : w0.heap.size < w4.heap.size := Nat.lt_of_lt_of_le hg3 k4.size
            clear hend k4 own4 b4 RO LF
            have NX := hid_as (next_err _ h3 N E3 false room2 _ B4.out.st HR3.out he)
            have hE4 : ((E3 : Int) == 0) = false := by rw [beq_eq_false_iff_ne]; omega
            go_wp2_with fail
            refine NX.out.mono ?_
            rintro e w5 ⟨rfl, t5, s5⟩
            have F5 := hid_as (kept_alloc (o2 := .cells #[.int .u16 0, .int .u8 0, .slice none 0 0] 29) (kept_far t5 F4.out (Nat.ne_of_gt hp4)))
            have O5 := hid_as ((own_turn O4.out t5 hg3).alloc (.cells #[.int .u16 0, .int .u8 0, .slice none 0 0] 29))
            have b5 := below_new (Below.refl _ w5) (.cells #[.int .u16 0, .int .u8 0, .slice none 0 0] 29)
            have B5 := hid_as ((bd_none B4.out t5 s5).below b5)
            clear t5 s5 b5 NX F4 O4 B4
            obtain ⟨⟨f0, f1, f2⟩, _⟩ := block3 F5.out
            have FT := hid_as (frame_t (a := .agg #[.int .u16 0, .int .u8 0, .slice po 0 pc]) (b := .agg #[.int .u16 0, .int .u8 0, .slice none 0 0]) (id := 0) (unit := 0) (pdu := []) (w := w5.alloc (.cells #[.int .u16 0, .int .u8 0, .slice none 0 0] 29)) ⟨rfl, (by decide), (by decide), Bytes.nil, own_sl O5.out⟩ ⟨rfl, (by decide), (by decide), Bytes.nil, Sl.nil _⟩)
            go_wp2_with fail
            refine FT.out.mono ?_
            rintro e w6 ⟨rfl, k6⟩
            have B6 := hid_as (B5.out.below k6)
            clear k6 FT f0 f1 f2
            go_wp2
            go_roundw
            case rel => exact ⟨E3, I + 1, rfl, by go_num, by omega, room2, h3, N, true, B6.out, by omega, Or.inr ⟨he, rfl, HZ.out, HE3.out.symm⟩⟩
            case measure => simp [intOf]; omega
        · have hr3 : rd (room2.take h3) = ⟨(rd (room2.take h3)).id, (rd (room2.take h3)).unit, (rd (room2.take h3)).pdu, (rd (room2.take h3)).n, 0⟩ := by
            conv => rhs; rw [← (rd_yes (room2.take h3) (by omega)).1]
          have NX := fun {W : World} (s : St W w0.heap.size room2 h3 false N) => next_yes s (by omega) (by omega)
          have hle := (rd_le (room2.take h3)).1
          rw [B3.out.len] at hle
          have hid := rd_id (B3.out.st.byt.take h3)
          have hun := rd_unit (B3.out.st.byt.take h3)
          have hpb := rd_bytes (B3.out.st.byt.take h3)
          generalize (rd (room2.take h3)).id = id at hr3 NX hid
          generalize (rd (room2.take h3)).unit = unit at hr3 NX hun
          generalize (rd (room2.take h3)).pdu = pdu at hr3 NX hpb
          generalize (rd (room2.take h3)).n = nn at hr3 NX hz hle
          have NY := hid_as (fun (W : World) (s : St W w0.heap.size room2 h3 false N) => NX s)
          clear NX
          have hn0 : (0 : Int) < (nn : Int) := by omega
          have hn1 : 0 < nn := by omega
          have hnh : (nn : Int) ≤ (h3 : Int) := by omega
          have HR3 := hid_as hr3
          clear hr3
          go_wp2_with fail
          refine RO.out.mono ?_
          rintro e w4 hend
          obtain ⟨k4, po, pc, rfl, own4⟩ := hend.is HR3.out
          have b4 := below_new (Below.refl _ w4) (.cells #[.int .u16 (id : Int), .int .u8 (unit : Int), .slice po pdu.length pc] 29)
          have B4 := hid_as ((B3.out.below k4).below b4)
          have F4 := hid_as (heap_alloc_new w4 (.cells #[.int .u16 (id : Int), .int .u8 (unit : Int), .slice po pdu.length pc] 29))
          have O4 := hid_as (own4.alloc (.cells #[.int .u16 (id : Int), .int .u8 (unit : Int), .slice po pdu.length pc] 29))
          have hp4 : w0.heap.size < w4.heap.size := Nat.lt_of_lt_of_le hg3 k4.size
          clear hend k4 own4 b4 RO LF
          have NX := hid_as (NY.out _ B4.out.st)
          go_wp2_with fail
          refine NX.out.mono ?_
          rintro e w5 ⟨po5, pc5, room5, rfl, t5, s5, e5, own5⟩
          have F5 := hid_as (kept_alloc (o2 := .cells #[.int .u16 (id : Int), .int .u8 (unit : Int), .slice po5 pdu.length pc5] 29) (kept_far t5 F4.out (Nat.ne_of_gt hp4)))
          have O5 := hid_as ((own_turn O4.out t5 hg3).alloc (.cells #[.int .u16 (id : Int), .int .u8 (unit : Int), .slice po5 pdu.length pc5] 29))
          have b5 := below_new (Below.refl _ w5) (.cells #[.int .u16 (id : Int), .int .u8 (unit : Int), .slice po5 pdu.length pc5] 29)
          have B5 := hid_as ((bd_told B4.out t5 s5 e5 hle).below b5)
          have P5 := hid_as (own5.alloc (.cells #[.int .u16 (id : Int), .int .u8 (unit : Int), .slice po5 pdu.length pc5] 29))
          clear own5 e5
          clear t5 s5 b5 NX F4 O4 B4
          obtain ⟨⟨f0, f1, f2⟩, _⟩ := block3 F5.out
          have FT := hid_as (frame_t (a := .agg #[.int .u16 (id : Int), .int .u8 (unit : Int), .slice po pdu.length pc]) (b := .agg #[.int .u16 (id : Int), .int .u8 (unit : Int), .slice po5 pdu.length pc5]) (id := id) (unit := unit) (pdu := pdu) (w := w5.alloc (.cells #[.int .u16 (id : Int), .int .u8 (unit : Int), .slice po5 pdu.length pc5] 29)) ⟨rfl, hid, hun, hpb, own_sl O5.out⟩ ⟨rfl, hid, hun, hpb, own_sl P5.out⟩)
          go_wp2_with fail
          refine FT.out.mono ?_
          rintro e w6 ⟨rfl, k6⟩
          have B6 := hid_as (B5.out.below k6)
          clear k6 FT f0 f1 f2
          go_wp2
          go_roundw
          case rel => exact ⟨0, I + 1, rfl, by go_num, by omega, room5, h3 - nn, N + 1, false, B6.out, by omega, Or.inl ⟨rfl, rfl⟩⟩
          case measure => simp [intOf]; omega
    · have hE1 : ((E : Int) == 0) = false := by rw [beq_eq_false_iff_ne]; omega
      have hr3 := rd_no _ hz
      rw [he] at hr3
      have HR3 := hid_as hr3
      have HZ := hid_as hz
      have HE := hid_as he
      have FD := hid_as (feed_broken BB.out.st (.slice av m rc))
      obtain ⟨hv3, w3, hAp, c3, g3⟩ := cut_append BB.out.held (sl_pre (SL.out.below KW.out) (Nat.zero_le m)) (by rw [BB.out.len, List.length_take]; omega) (Nat.succ_le_of_lt BB.out.st.lt)
      rw [List.take_zero, List.append_nil] at c3
      have HA := hid_as hAp
      have B3 := hid_as (bd_fed0 BB.out c3 g3)
      clear hr3 hz he hAp c3 g3 SL BB KW CW
      obtain ⟨ho3, hc3, rfl⟩ := B3.out.shape
      have LF := hid_as (left_c B3.out.st)
      have RO := hid_as (ropen_c B3.out.held.sl (B3.out.st.byt.take h) (by rw [B3.out.len]; omega))
      have hg3 : w0.heap.size < w3.heap.size := B3.out.st.lt
      go_wp2_with fail
      refine FD.out.mono ?_
      rintro e wx ⟨rfl, hw⟩
      subst wx
      go_wp2_with (at_builtin; refine Lib.wpList_append_run _ rfl _ _ _ _ rfl _ _ rfl rfl _ _ HA.out ?_)
      clear HA FD
      refine LF.out.mono ?_
      rintro e wx ⟨rfl, hw⟩
      subst wx
      go_wp2_with fail
      refine RO.out.mono ?_
      rintro e w4 hend
      obtain ⟨k4, po, pc, rfl, own4⟩ := hend.is HR3.out
      have b4 := below_new (Below.refl _ w4) (.cells #[.int .u16 0, .int .u8 0, .slice po 0 pc] 29)
      have B4 := hid_as ((B3.out.below k4).below b4)
      have F4 := hid_as (heap_alloc_new w4 (.cells #[.int .u16 0, .int .u8 0, .slice po 0 pc] 29))
      have hp4 : w0.heap.size < w4.heap.size := Nat.lt_of_lt_of_le hg3 k4.size
      clear hend k4 own4 b4 RO LF
      have NX := hid_as (next_err _ h N E true room _ B4.out.st HR3.out hE0)
      go_wp2_with fail
      refine NX.out.mono ?_
      rintro e w5 ⟨rfl, t5, s5⟩
      have F5 := hid_as (kept_alloc (o2 := .cells #[.int .u16 0, .int .u8 0, .slice none 0 0] 29) (kept_far t5 F4.out (Nat.ne_of_gt hp4)))
      have b5 := below_new (Below.refl _ w5) (.cells #[.int .u16 0, .int .u8 0, .slice none 0 0] 29)
      have B5 := hid_as ((bd_none B4.out t5 s5).below b5)
      have hp5 : w4.heap.size < w5.heap.size := (Array.getElem?_eq_some_iff.1 (kept_far t5 F4.out (Nat.ne_of_gt hp4))).1
      have G5 := hid_as (heap_alloc_new w5 (.cells #[.int .u16 0, .int .u8 0, .slice none 0 0] 29))
      clear t5 s5 b5 NX F4 B4
      go_upto_region 24 with fail
      generalize w5.alloc (.cells #[.int .u16 0, .int .u8 0, .slice none 0 0] 29) = X5 at F5 B5 G5 ⊢
      generalize w5.heap.size = p5 at hp5 G5 ⊢
      generalize w4.heap.size = p4 at hp4 hp5 F5 ⊢
      have B6 := hid_as (B5.out.three F5.out hp4 (.int .u16 0) (.int .u8 0) (.slice none 0 0))
      obtain ⟨⟨f0, f1, f2⟩, ff⟩ := block3 F5.out
      have R5 := three_same F5.out (.int .u16 0) (.int .u8 0) (.slice none 0 0)
      have R6 := (three_other (w := X5) (p := p4) (q := p5) (Nat.ne_of_gt hp5) (.int .u16 0) (.int .u8 0) (.slice none 0 0)).trans G5.out
      obtain ⟨⟨q0, q1, q2⟩, _⟩ := block3 R5
      obtain ⟨⟨r0, r1, r2⟩, _⟩ := block3 R6
      have FT := hid_as (fun (W : World) => frame_t (a := .agg #[.int .u16 0, .int .u8 0, .slice none 0 0]) (b := .agg #[.int .u16 0, .int .u8 0, .slice none 0 0]) (id := 0) (unit := 0) (pdu := []) (w := W) ⟨rfl, by decide, by decide, Bytes.nil, Sl.nil _⟩ ⟨rfl, by decide, by decide, Bytes.nil, Sl.nil _⟩)
      clear R5 R6
      go_wp2_with fail
      refine (FT.out _).mono ?_
      rintro e w6 ⟨rfl, k6⟩
      have B7 := hid_as (B6.out.below k6)
      clear k6 FT f0 f1 f2 ff q0 q1 q2 r0 r1 r2
      go_wp2
      go_roundw
      case rel => exact ⟨E, I + 1, rfl, by go_num, by omega, room, h, N, true, B7.out, by omega, Or.inr ⟨hE0, rfl, HZ.out, HE.out⟩⟩
      case measure => simp [intOf]; omega
theorem bounds_law {ao : Option Addr} {n c : Nat} {w : World} (hR : 0 < n → ∃ lb lo, ao = some ⟨lb, lo, none⟩ ∧ ∀ i, i < n → ∃ bs, RowAt w ⟨lb, lo + i, none⟩ bs) : Calls Try.prog 4 #[.slice ao n c] w fun e w' => e = .returned (.bool true) ∧ Below w.heap.size w w' := by
  by_cases hn : n ≤ 60
  · exact bounds_w ao n c w hn hR
  · exact bounds_big ao n c w (by omega)
end Go.Proofs.Ytjfaocpbhhpbdaa
