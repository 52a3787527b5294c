/- The walk of RetainEvery (stage 9). -/
import Derived.Test.YtoiadofoclgnoaaL1
namespace Go.Proofs.Ytoiadofoclgnoaa
open Go.RowKit
open Pdu
theorem own64_only {w u : World} {base n : Nat} {v : Value} {vs : List Value} {S : List Nat} (h : w.ownsRow base 2 1 v n vs) (k : Only S w u) (hS : ∀ b, v.ownBlock = some b → b ∉ S) : u.ownsRow base 2 1 v n vs := by
  refine ⟨h.1, ?_⟩
  rcases h.2 with h' | ⟨g, cap, cur, rfl, hb, hg, r⟩
  · exact Or.inl h'
  · exact Or.inr ⟨g, cap, cur, rfl, hb, (k.block g (h.lt g rfl).2 (hS g rfl)).trans hg, r⟩
/-- What RetainEvery holds: the store, and both lists. -/
structure EvR (w W : World) (g h : Nat) (s : SS) (n z T : Nat) (o : Last) (va vb : Value) (fa fb : Int) : Prop where
  hk : Hk w W g h s n T o
  dead : s.dead = false
  sz : s.sz = z
  oa : W.ownsRow 0 2 1 va n (i64s (nbs fa n))
  ob : W.ownsRow 0 2 1 vb n (i64s (nbs fb n))
theorem EvR.below {w W W' : World} {g h : Nat} {s : SS} {n z T : Nat} {o : Last} {va vb : Value} {fa fb : Int} (q : EvR w W g h s n z T o va vb fa fb) (b : Below W.heap.size W W') : EvR w W' g h s n z T o va vb fa fb := ⟨q.hk.below b, q.dead, q.sz, own64_below q.oa b, own64_below q.ob b⟩
theorem EvR.size_c {w W : World} {g h : Nat} {s : SS} {n z T : Nat} {o : Last} {va vb : Value} {fa fb : Int} (q : EvR w W g h s n z T o va vb fa fb) : Calls Try.prog 21 #[.pointer (some ⟨g, 0, none⟩)] W fun e w' => e = .returned (.int .i64 (z : Int)) ∧ w' = W := by
  have := _root_.Go.Proofs.Ytoiadofoclgnoaa.size_c q.hk.st
  rwa [q.sz] at this
/-- A copy that is worked on. -/
structure EvC (w W0 W : World) (g h g' h' : Nat) (s0 s : SS) (n z T T' : Nat) (o o' : Last) (va vb : Value) (fa fb : Int) : Prop where
  hk : Hk w W g' h' s n T' o'
  ev : EvR w W0 g h s0 n z T o va vb fa fb
  k : Below W0.heap.size W0 W
  g0 : W0.heap.size ≤ g'
  h0 : W0.heap.size ≤ h'
  dead : s.dead = false
theorem EvC.kept {w W0 W W' : World} {g h g' h' : Nat} {s0 s : SS} {n z T T' : Nat} {o o' : Last} {va vb : Value} {fa fb : Int} (q : EvC w W0 W g h g' h' s0 s n z T T' o o' va vb fa fb) (b : Below W.heap.size W W') : EvR w W' g h s0 n z T o va vb fa fb := q.ev.below (below_and q.k b)
theorem EvR.copy_c {w W : World} {g h : Nat} {s : SS} {n z T : Nat} {o : Last} {va vb : Value} {fa fb : Int} (q : EvR w W g h s n z T o va vb fa fb) : Calls Try.prog 22 #[.pointer (some ⟨g, 0, none⟩)] W fun e W' => ∃ g' h', e = .returned (.pointer (some ⟨g', 0, none⟩)) ∧ EvC w W W' g h g' h' s s n z T T o o va vb fa fb := by
  refine (copyb_c q.hk.st).mono ?_
  rintro e W' ⟨g', h', rfl, t, k, k1, k2⟩
  exact ⟨g', h', rfl, ⟨t, below_and q.hk.k k, Nat.le_trans q.hk.k.size k1, Nat.le_trans q.hk.k.size k2, q.hk.sg⟩, q, k, k1, k2, q.dead⟩
/-- .. with a journal. -/
structure EvJ (w W0 W : World) (g h gj g' h' : Nat) (J : JS) (s0 s : SS) (n z T T' : Nat) (o o' : Last) (va vb : Value) (fa fb : Int) : Prop where
  hj : Hj w W gj g' h' J s n T' o'
  ev : EvR w W0 g h s0 n z T o va vb fa fb
  k : Below W0.heap.size W0 W
  g0 : W0.heap.size ≤ g'
  h0 : W0.heap.size ≤ h'
  j0 : W0.heap.size ≤ gj
theorem EvC.opened {w W0 W W' : World} {g h gj g' h' : Nat} {J : JS} {s0 s : SS} {n z T T' : Nat} {o o' : Last} {va vb v : Value} {fa fb f : Int} (q : EvC w W0 W g h g' h' s0 s n z T T' o o' va vb fa fb) (op : Opn w W W' gj g' h' J s n T' o' v f) : EvJ w W0 W' g h gj g' h' J s0 s n z T T' o o' va vb fa fb :=
  ⟨op.hj, q.ev, below_and q.k op.b, q.g0, q.h0, Nat.le_trans q.k.size op.j1⟩
theorem EvJ.cut_c {w W0 W : World} {g h gj g' h' : Nat} {J : JS} {s0 s : SS} {n z T T' : Nat} {o o' : Last} {va vb : Value} {fa fb : Int} (q : EvJ w W0 W g h gj g' h' J s0 s n z T T' o o' va vb fa fb) (a p : Int) (ha : a ≤ 9223372036854775807) : Calls Try.prog 18 #[.pointer (some ⟨g', 0, none⟩), .int .i64 a, .int .i64 p] W fun e W' => e = .returned (.tuple #[]) ∧ EvJ w W0 W' g h gj g' h' J s0 (s.cut a p) n z T T' o o' va vb fa fb := by
  refine (q.hj.cut a p ha).mono ?_
  rintro e W' ⟨rfl, hj, t⟩
  exact ⟨rfl, hj, q.ev, q.k.trans (t.below q.g0 q.k.size), q.g0, q.h0, q.j0⟩
/-- What a Lay of the second list leaves. -/
structure EvL (w W0 W : World) (g h g' h' : Nat) (s0 s : SS) (n z T T' : Nat) (o o' : Last) (va vb : Value) (fa fb : Int) : Prop where
  hk : Hk w W g' h' s n T' o'
  ev : EvR w W0 g h s0 n z T o va vb fa fb
  k : Below W0.heap.size W0 W
  g0 : W0.heap.size ≤ g'
  h0 : W0.heap.size ≤ h'
theorem EvJ.lay_c {w W0 W : World} {g h gj g' h' : Nat} {J : JS} {s0 s : SS} {n z T T' : Nat} {o o' : Last} {va vb : Value} {fa fb : Int} (q : EvJ w W0 W g h gj g' h' J s0 s n z T T' o o' va vb fa fb) (hT : T' ≤ 1000) : Calls Try.prog 15 #[.pointer (some ⟨gj, 0, none⟩), .int .u64 8, vb] W fun e W' => ∃ (en : Nat) (s' : SS) (o2 : Last), e = .returned (.int .i64 (en : Int)) ∧ ((o2 = some (8, nbs fb n) ∧ (en = 0 ∨ en = 82)) ∨ (o2 = o' ∧ en = 82)) ∧ EvL w W0 W' g h g' h' s0 s' n z T (T' + 1) o o2 va vb fa fb := by
  have hne : ∀ b, vb.ownBlock = some b → b ∉ [gj, g', h'] := by
    intro b hb hm
    have h1 := (q.ev.ob.lt b hb).2
    have h2 := q.g0
    have h3 := q.h0
    have h4 := q.j0
    simp only [List.mem_cons, List.not_mem_nil, or_false] at hm
    omega
  refine (q.hj.lay_ne (sc := 8) rfl (own64_below q.ev.ob q.k) hne (nbs_len _ _) (nbs_ints _ _) (by decide) hT).mono ?_
  rintro e W' ⟨en, rfl, ly⟩
  rcases ly with ⟨J', s', he, hj, hl, hf, hz, hs, b, kp⟩ | ⟨s', o2, he, hk, ho, hf, hz, b⟩
  · exact ⟨en, s', _, rfl, Or.inl ⟨rfl, Or.inl he⟩, hj.hk, q.ev, q.k.trans (b.below (mem3 q.j0 q.g0 q.h0) q.k.size), q.g0, q.h0⟩
  · skip
    refine ⟨en, s', o2, rfl, ?_, hk, q.ev, q.k.trans (b.below (mem3 q.j0 q.g0 q.h0) q.k.size), q.g0, q.h0⟩
    rcases ho with ho | ho
    · exact Or.inr ⟨ho, he⟩
    · exact Or.inl ⟨ho, Or.inr he⟩
theorem EvL.pow_c {w W0 W : World} {g h g' h' : Nat} {s0 s : SS} {n z T T' : Nat} {o o' : Last} {va vb : Value} {fa fb : Int} (q : EvL w W0 W g h g' h' s0 s n z T T' o o' va vb fa fb) : Calls Try.prog 19 #[.pointer (some ⟨g', 0, none⟩)] W fun e W' => e = .returned (.tuple #[]) ∧ EvC w W0 W' g h g' h' s0 s.pwr n z T T' o o' va vb fa fb := by
  refine q.hk.pwr2.mono ?_
  rintro e W' ⟨rfl, hk, t⟩
  exact ⟨rfl, hk, q.ev, q.k.trans (t.below q.g0 q.k.size), q.g0, q.h0, rfl⟩
set_option maxRecDepth 100000 in
set_option maxHeartbeats 3200000 in
theorem every_t (size n first second step : Int) (w : World) : Calls Try.prog 4 #[.int .i64 size, .int .i64 n, .int .i64 first, .int .i64 second, .int .i64 step, .bool true] w fun e w' => e = .returned (.bool true) ∧ Below w.heap.size w w' := by
  have KN := hid_as (known_c w)
  go_enter Try.func4, Try.ntmps4
  go_wp2_with fail
  with_reducible refine KN.out.mono ?_
  rintro e w1 ⟨rfl, k1⟩
  have K1 := hid_as k1
  have ST := hid_as (store_c size w1)
  clear KN k1
  go_wp2_with fail
  with_reducible refine ST.out.mono ?_
  rintro e w2 ⟨z, hz1, hz2, rfl, t2, k2⟩
  have RM := hid_as (room_c t2)
  rw [new_room hz1] at RM
  have T2 := hid_as t2
  have K2 := hid_as (below_and K1.out k2)
  have GZ : Hid (w.heap.size ≤ w1.heap.size) := K1.out.size
  have GY : Hid (w.heap.size ≤ w1.heap.size + 1) := Nat.le_succ_of_le K1.out.size
  clear ST t2 k2 K1
  generalize w1.heap.size + 1 = g at *
  generalize w1.heap.size = h at *
  obtain ⟨r, hr⟩ : ∃ r, r = (z - 36) / 8 := ⟨_, rfl⟩
  rw [← hr] at RM
  have hr1 : r ≤ 60 := by omega
  have HR := hid_as hr
  clear hr
  go_upto_region 4 with fail
  go_cut [1] from 38 to 43 (fun v wx => ∃ a : Nat, a ≤ r ∧ a ≤ 30 ∧ v = .int .i64 a ∧ Same w2 wx)
  case first =>
    go_wp2_with fail
    with_reducible refine RM.out.mono ?_
    rintro e w3 ⟨rfl, k3⟩
    have K3 := hid_as k3
    clear RM k3
    by_cases hl : (30 : Int) < (r : Int)
    · have PA := hid_as (fun W => place_i n 31 (by decide) (by decide) W)
      go_wp2_with fail
      with_reducible refine (PA.out _).mono ?_
      rintro e w4 ⟨⟨a, ha, rfl⟩, hw⟩
      subst w4
      clear PA
      go_wp2_with fail
      go_meet
      exact ⟨a, by omega, by omega, rfl, K3.out⟩
    · have PA := hid_as (fun W => place_i n (1 + (r : Int)) (by omega) (by omega) W)
      go_wp2_with fail
      with_reducible refine (PA.out _).mono ?_
      rintro e w4 ⟨⟨a, ha, rfl⟩, hw⟩
      subst w4
      clear PA
      go_wp2_with fail
      go_meet
      exact ⟨a, by omega, by omega, rfl, K3.out⟩
  case rest =>
  obtain ⟨a, har, ha5, rfl, k3⟩ := hcut
  have H3 : Hid (Hk w wc g h (SS.new 8 z) a 0 none) := ⟨T2.out.same k3, below_and K2.out k3.below, GY.out, GZ.out, sg_new (by decide) (by omega) (by have := HR.out; omega) (by omega)⟩
  clear RM T2 K2 k3 HR
  have PS := hid_as (fun W => place_i step 40 (by decide) (by decide) W)
  go_wp2_with fail
  with_reducible refine (PS.out _).mono ?_
  rintro e w4 ⟨⟨q, hq, rfl⟩, hw⟩
  subst w4
  have hq4 : q < 40 := by omega
  obtain ⟨sp, hsp⟩ : ∃ sp, sp = q + 3 := ⟨_, rfl⟩
  have hsp1 : (3 : Int) + (q : Int) = (sp : Int) := by omega
  have hsp2 : 3 ≤ sp := by omega
  have hsp3 : sp ≤ 42 := by omega
  clear PS hq hsp
  have OP := hid_as (H3.out.opn (ni := a) rfl rfl)
  go_wp2_with fail
  with_reducible refine OP.out.mono ?_
  rintro e w4 ⟨gj, J, v, f, rfl, op⟩
  obtain ⟨rfl, rfl⟩ := op.told
  have H4 := hid_as op.hj
  have LT := hid_as H4.out.lts
  have NA := hid_as (fun (W : World) => num_i first a (ni := a) rfl W (by omega))
  have NB := hid_as (fun (W : World) => num_i second a (ni := a) rfl W (by omega))
  clear OP op H3
  go_wp2_with fail
  with_reducible refine (NA.out _).mono ?_
  rintro e w5 ⟨va, rfl, owna, k5⟩
  have H5 := hid_as (H4.out.below k5)
  have OA := hid_as owna
  have LT5 := hid_as H5.out.lts
  clear H4 owna k5
  go_wp2_with fail
  with_reducible refine (NB.out _).mono ?_
  rintro e w6 ⟨vb, rfl, ownb, k6⟩
  have H6 := hid_as (H5.out.below k6)
  have OA6 := hid_as (own64_below OA.out k6)
  have OB6 := hid_as ownb
  clear H5 OA ownb k6 NA NB
  have LY := hid_as (H6.out.lay0 (sc := 7) (sci := 7) (show (-1 : Int) < 0 by decide) rfl OA6.out LT.out.1 LT.out.2.1 LT.out.2.2 (nbs_len _ _) (nbs_ints _ _) (by decide) (by decide))
  go_wp2_with fail
  with_reducible refine LY.out.mono ?_
  rintro e w7 ⟨rfl, J7, s7, ly⟩
  have R0 : Hid (EvR w w7 g h s7 a z 1 (some (7, nbs first a)) va vb first second) := ⟨ly.hj.hk, ly.hj.dead, ly.sz, own_base (own64_only OA6.out ly.b (not3 OA6.out LT.out.1 LT.out.2.1 LT.out.2.2)) (Nat.zero_le _), own_base (own64_only OB6.out ly.b (not3 OB6.out LT5.out.1 LT5.out.2.1 LT5.out.2.2)) (Nat.zero_le _)⟩
  clear LY ly H6 OA6 OB6
  go_wp2
  go_loopw [20] (fun i wr => ∃ u : Nat, u ≤ 8 ∧ i = .int .i64 u ∧ EvR w wr g h s7 a z 1 (some (7, nbs first a)) va vb first second) (fun i _ => 8 - (intOf i).toNat)
  case atStart => exact ⟨0, by omega, rfl, R0.out⟩
  case round =>
    obtain ⟨u, hu, rfl, hR⟩ := hrel
    have RR := hid_as hR
    clear hR R0
    by_cases hu8 : u < 8
    · have hu82 : (u : Int) < 8 := by omega
      go_wp2
      go_loopw [21] (fun i wr => ∃ p : Nat, p ≤ z + 42 ∧ i = .int .i64 p ∧ EvR w wr g h s7 a z 1 (some (7, nbs first a)) va vb first second) (fun i _ => z + 1 - (intOf i).toNat)
      case atStart => exact ⟨0, by omega, rfl, RR.out⟩
      case round =>
        obtain ⟨p, hp, rfl, hR⟩ := hrel
        have PR := hid_as hR
        clear hR RR
        have SZ := hid_as PR.out.size_c
        by_cases hpz : p ≤ z
        · have hpz2 : (p : Int) ≤ (z : Int) := by omega
          have CP := hid_as PR.out.copy_c
          go_wp2_with fail
          with_reducible refine SZ.out.mono ?_
          rintro e w8 ⟨rfl, hw⟩
          subst w8
          go_wp2_with fail
          with_reducible refine CP.out.mono ?_
          rintro e w8 ⟨g8, h8, rfl, c8⟩
          have C8 := hid_as c8
          have OP := hid_as (C8.out.hk.opn (ni := a) C8.out.dead rfl)
          clear CP c8
          go_wp2_with fail
          with_reducible refine OP.out.mono ?_
          rintro e w9 ⟨g9, J9, v9, f9, rfl, op9⟩
          have C9 := hid_as (C8.out.opened op9)
          clear OP op9 C8
          have CU := hid_as (C9.out.cut_c (u : Int) (p : Int) (by omega))
          go_wp2_with fail
          with_reducible refine CU.out.mono ?_
          rintro e w10 ⟨rfl, c10⟩
          have LY := hid_as (c10.lay_c (by decide))
          clear CU c10 C9
          go_wp2_with fail
          with_reducible refine LY.out.mono ?_
          rintro e w11 ⟨en, s11, o11, rfl, hen, c11⟩
          have PW := hid_as c11.pow_c
          clear LY c11
          go_wp2_with fail
          with_reducible refine PW.out.mono ?_
          rintro e w12 ⟨rfl, c12⟩
          have OP := hid_as (c12.hk.opn (ni := a) c12.dead rfl)
          have C12 := hid_as c12
          clear PW c12
          go_wp2_with fail
          with_reducible refine OP.out.mono ?_
          rintro e w13 ⟨g13, J13, v13, f13, rfl, op13⟩
          have B13 := hid_as (C12.out.kept op13.b)
          have NT := hid_as (fun (l : List Int) (hl : l.length ≤ 1000000) (W : World) (k : Same w13 W) (n2 : Nat) (hv : w13.ownsRow w12.heap.size 2 1 v13 n2 (i64s l)) => (And.intro (nums_told (own64_below hv k.below) (own64_below B13.out.ob k.below) hl) (nums_told (own64_below hv k.below) (own64_below B13.out.oa k.below) hl)))
          have NXT : Hid (∀ W, Same w13 W → EvR w W g h s7 a z 1 (some (7, nbs first a)) va vb first second) := fun W k => B13.out.below k.below
          have SZ2 := hid_as (fun (W : World) (k : Same w13 W) => (NXT.out W k).size_c)
          rcases hen with ⟨rfl, hen⟩ | ⟨rfl, rfl⟩
          · obtain ⟨rfl, own13⟩ := op13.told
            have N1 := hid_as (fun (W : World) (k : Same w13 W) => (NT.out _ (by rw [nbs_len]; omega) W k _ own13).1)
            have N2 := hid_as (fun (W : World) (k : Same w13 W) => (NT.out _ (by rw [nbs_len]; omega) W k _ own13).2)
            rw [decide_eq_true rfl] at N1
            clear op13 own13 NT OP B13 C12
            go_wp2_with fail
            with_reducible refine (N1.out _ (Same.refl _)).mono ?_
            rintro e w14 ⟨rfl, k14⟩
            have S14 := hid_as k14
            clear k14
            go_wp2_with fail
            with_reducible refine (N2.out _ S14.out).mono ?_
            rintro e w15 ⟨rfl, k15⟩
            have S15 := hid_as (S14.out.trans k15)
            clear k15 N1 N2 S14
            generalize decide (nbs second a = nbs first a) = d at *
            cases d with
            | true =>
              rcases hen with rfl | rfl
              · go_wp2_with fail
                with_reducible refine (SZ2.out _ S15.out).mono ?_
                rintro e w16 ⟨rfl, hw⟩
                subst w16
                go_wp2
                go_roundw
                case rel => exact ⟨z + sp, by omega, by go_num, NXT.out _ S15.out⟩
                case measure => simp [intOf]; omega
              · go_wp2
                go_roundw
                case rel => exact ⟨p + sp, by omega, by go_num, NXT.out _ S15.out⟩
                case measure => simp [intOf]; omega
            | false =>
              rcases hen with rfl | rfl
              · go_wp2_with fail
                with_reducible refine (SZ2.out _ S15.out).mono ?_
                rintro e w16 ⟨rfl, hw⟩
                subst w16
                go_wp2
                go_roundw
                case rel => exact ⟨z + sp, by omega, by go_num, NXT.out _ S15.out⟩
                case measure => simp [intOf]; omega
              · go_wp2
                go_roundw
                case rel => exact ⟨p + sp, by omega, by go_num, NXT.out _ S15.out⟩
                case measure => simp [intOf]; omega
          · obtain ⟨rfl, own13⟩ := op13.told
            have N1 := hid_as (fun (W : World) (k : Same w13 W) => (NT.out _ (by rw [nbs_len]; omega) W k _ own13).1)
            have N2 := hid_as (fun (W : World) (k : Same w13 W) => (NT.out _ (by rw [nbs_len]; omega) W k _ own13).2)
            rw [decide_eq_true rfl] at N2
            clear op13 own13 NT OP B13 C12
            go_wp2_with fail
            with_reducible refine (N1.out _ (Same.refl _)).mono ?_
            rintro e w14 ⟨rfl, k14⟩
            have S14 := hid_as k14
            clear k14
            go_wp2_with fail
            with_reducible refine (N2.out _ S14.out).mono ?_
            rintro e w15 ⟨rfl, k15⟩
            have S15 := hid_as (S14.out.trans k15)
            clear k15 N1 N2 S14
            generalize decide (nbs first a = nbs second a) = d at *
            cases d with
            | true =>
              go_wp2
              go_roundw
              case rel => exact ⟨p + sp, by omega, by go_num, NXT.out _ S15.out⟩
              case measure => simp [intOf]; omega
            | false =>
              go_wp2
              go_roundw
              case rel => exact ⟨p + sp, by omega, by go_num, NXT.out _ S15.out⟩
              case measure => simp [intOf]; omega
        · have hpz2 : ¬ (p : Int) ≤ (z : Int) := by omega
          go_wp2_with fail
          with_reducible refine SZ.out.mono ?_
          rintro e w8 ⟨rfl, hw⟩
          subst w8
          go_wp2
          go_roundw
          case rel => exact ⟨u + 1, by omega, by go_num, PR.out⟩
          case measure => simp [intOf]; omega
    · obtain rfl : u = 8 := by omega
      go_wp2
      go_ret
      exact ⟨rfl, RR.out.hk.k⟩
set_option maxRecDepth 100000 in
set_option maxHeartbeats 3200000 in
theorem every_f (size n first second step : Int) (w : World) : Calls Try.prog 4 #[.int .i64 size, .int .i64 n, .int .i64 first, .int .i64 second, .int .i64 step, .bool false] w fun e w' => e = .returned (.bool true) ∧ Below w.heap.size w w' := by
  have KN := hid_as (known_c w)
  go_enter Try.func4, Try.ntmps4
  go_wp2_with fail
  with_reducible refine KN.out.mono ?_
  rintro e w1 ⟨rfl, k1⟩
  have K1 := hid_as k1
  have ST := hid_as (store_c size w1)
  clear KN k1
  go_wp2_with fail
  with_reducible refine ST.out.mono ?_
  rintro e w2 ⟨z, hz1, hz2, rfl, t2, k2⟩
  have RM := hid_as (room_c t2)
  rw [new_room hz1] at RM
  have T2 := hid_as t2
  have K2 := hid_as (below_and K1.out k2)
  have GZ : Hid (w.heap.size ≤ w1.heap.size) := K1.out.size
  have GY : Hid (w.heap.size ≤ w1.heap.size + 1) := Nat.le_succ_of_le K1.out.size
  clear ST t2 k2 K1
  generalize w1.heap.size + 1 = g at *
  generalize w1.heap.size = h at *
  obtain ⟨r, hr⟩ : ∃ r, r = (z - 36) / 8 := ⟨_, rfl⟩
  rw [← hr] at RM
  have hr1 : r ≤ 60 := by omega
  have HR := hid_as hr
  clear hr
  go_upto_region 4 with fail
  go_cut [1] from 38 to 43 (fun v wx => ∃ a : Nat, a ≤ r ∧ a ≤ 30 ∧ v = .int .i64 a ∧ Same w2 wx)
  case first =>
    go_wp2_with fail
    with_reducible refine RM.out.mono ?_
    rintro e w3 ⟨rfl, k3⟩
    have K3 := hid_as k3
    clear RM k3
    by_cases hl : (30 : Int) < (r : Int)
    · have PA := hid_as (fun W => place_i n 31 (by decide) (by decide) W)
      go_wp2_with fail
      with_reducible refine (PA.out _).mono ?_
      rintro e w4 ⟨⟨a, ha, rfl⟩, hw⟩
      subst w4
      clear PA
      go_wp2_with fail
      go_meet
      exact ⟨a, by omega, by omega, rfl, K3.out⟩
    · have PA := hid_as (fun W => place_i n (1 + (r : Int)) (by omega) (by omega) W)
      go_wp2_with fail
      with_reducible refine (PA.out _).mono ?_
      rintro e w4 ⟨⟨a, ha, rfl⟩, hw⟩
      subst w4
      clear PA
      go_wp2_with fail
      go_meet
      exact ⟨a, by omega, by omega, rfl, K3.out⟩
  case rest =>
  obtain ⟨a, har, ha5, rfl, k3⟩ := hcut
  have H3 : Hid (Hk w wc g h (SS.new 8 z) a 0 none) := ⟨T2.out.same k3, below_and K2.out k3.below, GY.out, GZ.out, sg_new (by decide) (by omega) (by have := HR.out; omega) (by omega)⟩
  clear RM T2 K2 k3 HR
  have PS := hid_as (fun W => place_i step 40 (by decide) (by decide) W)
  go_wp2_with fail
  with_reducible refine (PS.out _).mono ?_
  rintro e w4 ⟨⟨q, hq, rfl⟩, hw⟩
  subst w4
  have hq4 : q < 40 := by omega
  obtain ⟨sp, hsp⟩ : ∃ sp, sp = q + 3 := ⟨_, rfl⟩
  have hsp1 : (3 : Int) + (q : Int) = (sp : Int) := by omega
  have hsp2 : 3 ≤ sp := by omega
  have hsp3 : sp ≤ 42 := by omega
  clear PS hq hsp
  have OP := hid_as (H3.out.opn (ni := a) rfl rfl)
  go_wp2_with fail
  with_reducible refine OP.out.mono ?_
  rintro e w4 ⟨gj, J, v, f, rfl, op⟩
  obtain ⟨rfl, rfl⟩ := op.told
  have H4 := hid_as op.hj
  have LT := hid_as H4.out.lts
  have NA := hid_as (fun (W : World) => num_i first a (ni := a) rfl W (by omega))
  have NB := hid_as (fun (W : World) => num_i second a (ni := a) rfl W (by omega))
  clear OP op H3
  go_wp2_with fail
  with_reducible refine (NA.out _).mono ?_
  rintro e w5 ⟨va, rfl, owna, k5⟩
  have H5 := hid_as (H4.out.below k5)
  have OA := hid_as owna
  have LT5 := hid_as H5.out.lts
  clear H4 owna k5
  go_wp2_with fail
  with_reducible refine (NB.out _).mono ?_
  rintro e w6 ⟨vb, rfl, ownb, k6⟩
  have H6 := hid_as (H5.out.below k6)
  have OA6 := hid_as (own64_below OA.out k6)
  have OB6 := hid_as ownb
  clear H5 OA ownb k6 NA NB
  have R0 : Hid (EvR w w6 g h (SS.new 8 z) a z 0 none va vb first second) := ⟨H6.out.hk, rfl, rfl, own_base OA6.out (Nat.zero_le _), own_base OB6.out (Nat.zero_le _)⟩
  clear H6 OA6 OB6
  obtain ⟨s7, hs7⟩ : ∃ s7, s7 = SS.new 8 z := ⟨_, rfl⟩
  rw [← hs7] at R0
  clear hs7
  go_wp2
  go_loopw [20] (fun i wr => ∃ u : Nat, u ≤ 8 ∧ i = .int .i64 u ∧ EvR w wr g h s7 a z 0 (none) va vb first second) (fun i _ => 8 - (intOf i).toNat)
  case atStart => exact ⟨0, by omega, rfl, R0.out⟩
  case round =>
    obtain ⟨u, hu, rfl, hR⟩ := hrel
    have RR := hid_as hR
    clear hR R0
    by_cases hu8 : u < 8
    · have hu82 : (u : Int) < 8 := by omega
      go_wp2
      go_loopw [21] (fun i wr => ∃ p : Nat, p ≤ z + 42 ∧ i = .int .i64 p ∧ EvR w wr g h s7 a z 0 (none) va vb first second) (fun i _ => z + 1 - (intOf i).toNat)
      case atStart => exact ⟨0, by omega, rfl, RR.out⟩
      case round =>
        obtain ⟨p, hp, rfl, hR⟩ := hrel
        have PR := hid_as hR
        clear hR RR
        have SZ := hid_as PR.out.size_c
        by_cases hpz : p ≤ z
        · have hpz2 : (p : Int) ≤ (z : Int) := by omega
          have CP := hid_as PR.out.copy_c
          go_wp2_with fail
          with_reducible refine SZ.out.mono ?_
          rintro e w8 ⟨rfl, hw⟩
          subst w8
          go_wp2_with fail
          with_reducible refine CP.out.mono ?_
          rintro e w8 ⟨g8, h8, rfl, c8⟩
          have C8 := hid_as c8
          have OP := hid_as (C8.out.hk.opn (ni := a) C8.out.dead rfl)
          clear CP c8
          go_wp2_with fail
          with_reducible refine OP.out.mono ?_
          rintro e w9 ⟨g9, J9, v9, f9, rfl, op9⟩
          have C9 := hid_as (C8.out.opened op9)
          clear OP op9 C8
          have CU := hid_as (C9.out.cut_c (u : Int) (p : Int) (by omega))
          go_wp2_with fail
          with_reducible refine CU.out.mono ?_
          rintro e w10 ⟨rfl, c10⟩
          have LY := hid_as (c10.lay_c (by decide))
          clear CU c10 C9
          go_wp2_with fail
          with_reducible refine LY.out.mono ?_
          rintro e w11 ⟨en, s11, o11, rfl, hen, c11⟩
          have PW := hid_as c11.pow_c
          clear LY c11
          go_wp2_with fail
          with_reducible refine PW.out.mono ?_
          rintro e w12 ⟨rfl, c12⟩
          have OP := hid_as (c12.hk.opn (ni := a) c12.dead rfl)
          have C12 := hid_as c12
          clear PW c12
          go_wp2_with fail
          with_reducible refine OP.out.mono ?_
          rintro e w13 ⟨g13, J13, v13, f13, rfl, op13⟩
          have B13 := hid_as (C12.out.kept op13.b)
          have NT := hid_as (fun (l : List Int) (hl : l.length ≤ 1000000) (W : World) (k : Same w13 W) (n2 : Nat) (hv : w13.ownsRow w12.heap.size 2 1 v13 n2 (i64s l)) => (And.intro (nums_told (own64_below hv k.below) (own64_below B13.out.ob k.below) hl) (nums_told (own64_below hv k.below) (own64_below B13.out.oa k.below) hl)))
          have NXT : Hid (∀ W, Same w13 W → EvR w W g h s7 a z 0 (none) va vb first second) := fun W k => B13.out.below k.below
          have SZ2 := hid_as (fun (W : World) (k : Same w13 W) => (NXT.out W k).size_c)
          rcases hen with ⟨rfl, hen⟩ | ⟨rfl, rfl⟩
          · obtain ⟨rfl, own13⟩ := op13.told
            have N1 := hid_as (fun (W : World) (k : Same w13 W) => (NT.out _ (by rw [nbs_len]; omega) W k _ own13).1)
            have N2 := hid_as (fun (W : World) (k : Same w13 W) => (NT.out _ (by rw [nbs_len]; omega) W k _ own13).2)
            rw [decide_eq_true rfl] at N1
            clear op13 own13 NT OP B13 C12
            go_wp2_with fail
            with_reducible refine (N1.out _ (Same.refl _)).mono ?_
            rintro e w14 ⟨rfl, k14⟩
            have S14 := hid_as k14
            clear k14
            have S15 := S14
            clear N1 N2 S14
            rcases hen with rfl | rfl
            · go_wp2_with fail
              with_reducible refine (SZ2.out _ S15.out).mono ?_
              rintro e w16 ⟨rfl, hw⟩
              subst w16
              go_wp2
              go_roundw
              case rel => exact ⟨z + sp, by omega, by go_num, NXT.out _ S15.out⟩
              case measure => simp [intOf]; omega
            · go_wp2
              go_roundw
              case rel => exact ⟨p + sp, by omega, by go_num, NXT.out _ S15.out⟩
              case measure => simp [intOf]; omega
          · obtain ⟨rfl, rfl⟩ := op13.told
            have N13 := hid_as (NXT.out _ (Same.refl _))
            clear op13 NT OP B13 C12
            go_wp2
            go_roundw
            case rel => exact ⟨p + sp, by omega, by go_num, N13.out⟩
            case measure => simp [intOf]; omega
        · have hpz2 : ¬ (p : Int) ≤ (z : Int) := by omega
          go_wp2_with fail
          with_reducible refine SZ.out.mono ?_
          rintro e w8 ⟨rfl, hw⟩
          subst w8
          go_wp2
          go_roundw
          case rel => exact ⟨u + 1, by omega, by go_num, PR.out⟩
          case measure => simp [intOf]; omega
    · obtain rfl : u = 8 := by omega
      go_wp2
      go_ret
      exact ⟨rfl, RR.out.hk.k⟩
theorem every_w (size n first second step : Int) (elder : Bool) (w : World) : Calls Try.prog 4 #[.int .i64 size, .int .i64 n, .int .i64 first, .int .i64 second, .int .i64 step, .bool elder] w fun e w' => e = .returned (.bool true) ∧ Below w.heap.size w w' := by
  cases elder with
  | true => exact every_t size n first second step w
  | false => exact every_f size n first second step w
end Go.Proofs.Ytoiadofoclgnoaa
