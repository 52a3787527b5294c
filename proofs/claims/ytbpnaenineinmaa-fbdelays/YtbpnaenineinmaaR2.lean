/- The reference's truth, since, pad, Pins (stage 17). -/
import Derived.Test.YtbpnaenineinmaaP2
import Derived.Test.YtbpnaenineinmaaM2
import Derived.Laws.CopyOwn
namespace Go.Proofs.Ytbpnaenineinmaa
open Go.RowKit
open Fb
theorem run_copy_turn {P : Program} {w : World} (dT sT ty : TypeId) (elem : TypeId) (hu : P.underlying dT = some (.slice elem)) (hsz : (P.info? elem).map (·.size) = some 1)
    (dp sp : Option Addr) (dLen dCap sLen sCap : Nat)
    (g off : Nat) (cur : List Value) (t : TypeId) (hg : w.heap[g]? = some (.cells cur.toArray t (0, 0))) (cs : List Value) (hn : cs.length = Nat.min sLen dLen)
    (hpos : 0 < cs.length → dp = some ⟨g, off, none⟩ ∧ ∃ ad, sp = some ad ∧ ∀ j v, cs[j]? = some v → w.cell? (ad.add j) = some v)
    (hfit : off + cs.length ≤ cur.length) (h1 : ∀ v ∈ cs, v.oneCell' = true) :
    ∃ w', (Builtin.copy_ #[dT, sT] ty #[.slice dp dLen dCap, .slice sp sLen sCap]).run P w = .ok (goInt cs.length) w' ∧ w'.heap[g]? = some (.cells (splice cur off cs).toArray t (0, 0)) ∧ Turn g w w' := by
  by_cases h0 : cs.length = 0
  · obtain rfl : cs = [] := List.eq_nil_of_length_eq_zero h0
    exact ⟨w, run_copy_none (P := P) w dT sT ty elem dp sp dLen dCap sLen sCap hu hsz (by simpa using hn.symm), by simpa [splice] using hg, Turn.refl g w⟩
  · obtain ⟨rfl, ad, rfl, hsrc⟩ := hpos (by omega)
    exact ⟨_, run_copy_row (P := P) w dT sT ty elem g off dLen dCap ad sLen sCap cur.toArray t cs hu hsz hg hn hsrc (by simpa using hfit) h1, by simpa [splice] using setRow_heap w g _ _ t _ hg, ⟨rfl, rfl, rfl, by simp [World.setRow], fun k _ hk => setRow_other w g k _ (fun e => hk (by simp [e]))⟩⟩
theorem src_cells {w : World} {ao : Option Addr} {n cap : Nat} {vs : List Value} (h : Sl w (.slice ao n cap) vs) (k : Nat) (hk : 0 < (vs.take k).length) : ∃ ad, ao = some ad ∧ ∀ j v, (vs.take k)[j]? = some v → w.cell? (ad.add j) = some v := by
  rcases h with ⟨h, _⟩ | ⟨b, off, c, hv, _, hc⟩
  · subst h
    simp at hk
  · simp only [Value.slice.injEq] at hv
    refine ⟨⟨b, off, none⟩, hv.1, fun j v hj => hc.news j v ?_⟩
    rw [List.getElem?_take] at hj
    split at hj
    · exact hj
    · cases hj
theorem rtruth_c (b : Bool) (w : World) : Calls Try.prog 23 #[.bool b] w fun e w' => e = .returned (.int .i64 (b01 b)) ∧ w' = w := by
  cases b
  · go_enter Try.func23, Try.ntmps23
    go_wp2
    go_ret
    exact ⟨rfl, rfl⟩
  · go_enter Try.func23, Try.ntmps23
    go_wp2
    go_ret
    exact ⟨rfl, rfl⟩
set_option maxHeartbeats 400000 in
theorem rsince_c {a b : Int} (ha : -2147483648 ≤ a ∧ a ≤ 2147483647) (hb : -2147483648 ≤ b ∧ b ≤ 2147483647) (w : World) : Calls Try.prog 31 #[.int .i64 a, .int .i64 b] w fun e w' => e = .returned (.int .i64 (Fb.since a b)) ∧ Below w.heap.size w w' := by
  have WR := hid_as (rwrap_4 (a - b) w)
  have hs : Fb.since a b = max (w32 (a - b)) 0 := rfl
  have HS := hid_as hs
  clear hs
  obtain ⟨x, hx⟩ : ∃ x, x = w32 (a - b) := ⟨_, rfl⟩
  rw [← hx] at WR HS
  clear hx
  by_cases h : x < 0
  · go_enter Try.func31, Try.ntmps31
    go_wp2_with fail
    refine WR.out.mono ?_
    rintro e w1 ⟨rfl, k1⟩
    go_wp2
    go_ret
    exact ⟨ret_int (by rw [HS.out]; omega), k1⟩
  · go_enter Try.func31, Try.ntmps31
    go_wp2_with fail
    refine WR.out.mono ?_
    rintro e w1 ⟨rfl, k1⟩
    go_wp2
    go_ret
    exact ⟨ret_int (by rw [HS.out]; omega), k1⟩
/-- So many numbers. -/
def padl (l : List Int) (n : Nat) : List Int := (List.range n).map fun i => l.getD i 0
theorem padl_len (l : List Int) (n : Nat) : (padl l n).length = n := by simp [padl]
theorem padl_at (l : List Int) (n i : Nat) (h : i < n) : (padl l n).getD i 0 = l.getD i 0 := by simp [padl, h]
theorem padl_get (l : List Int) (n i : Nat) (h : i < n) : (padl l n)[i]? = some (l.getD i 0) := by simp [padl, h]
theorem i64s_take (l : List Int) (k : Nat) : i64s (l.take k) = (i64s l).take k := by simp [i64s, List.map_take]
theorem splice_pad (l : List Int) (n : Nat) : splice (i64s (List.replicate n 0)) 0 (i64s (l.take n)) = i64s (padl l n) := by
  apply List.ext_getElem?
  intro i
  simp only [splice, List.take_zero, List.nil_append, Nat.zero_add, i64s_len, List.length_take]
  by_cases h : i < n
  · have hr : (i64s (padl l n))[i]? = some (.int .i64 (l.getD i 0)) := by simp [i64s, padl_get l n i h]
    rw [hr]
    by_cases hl : i < l.length
    · rw [List.getElem?_append_left (by rw [i64s_len, List.length_take]; omega)]
      simp [i64s, h, hl]
    · rw [List.getElem?_append_right (by rw [i64s_len, List.length_take]; omega), List.getElem?_drop, i64s_len, List.length_take]
      rw [show min n l.length + (i - min n l.length) = i by omega]
      simp [i64s, h, hl]
  · rw [List.getElem?_eq_none (by simp [i64s]; omega), List.getElem?_eq_none (by simp [i64s, padl]; omega)]
set_option maxHeartbeats 400000 in
theorem rpad_c {w : World} {ia : Option Addr} {m ic : Nat} {l : List Int} (n : Nat) (hi : Sl w (.slice ia m ic) (i64s l)) (hm : m = l.length) (hn : n ≤ 100) :
    Calls Try.prog 22 #[.slice ia m ic, .int .i64 (n : Int)] w fun e w' => e = .returned (.slice (some ⟨w.heap.size, 0, none⟩) n n) ∧ Row64 w' w.heap.size (padl l n) ∧ Below w.heap.size w w' := by
  obtain ⟨W1, h1, r1, b1, s1⟩ := mk_run w n (by omega)
  have hs := hi.below b1
  obtain ⟨W2, h2, r2, t2⟩ := run_copy_turn (P := Try.prog) (w := W1) 22 22 3 2 Try.underlying22 (by kernel_rfl) (some ⟨w.heap.size, 0, none⟩) ia n n m ic w.heap.size 0 (i64s (List.replicate n 0)) 2 r1 (i64s (l.take n)) (by rw [i64s_len, List.length_take, hm]; exact Nat.min_comm _ _)
    (fun h0 => by
      refine ⟨rfl, ?_⟩
      have := src_cells hs n
      rw [← i64s_take] at this
      exact this h0) (by rw [i64s_len, i64s_len, List.length_take, List.length_replicate]; omega) (one_nums _)
  rw [splice_pad] at r2
  have FIN : Hid (Row64 W2 w.heap.size (padl l n) ∧ Below w.heap.size w W2) := ⟨r2, b1.trans (t2.below (Nat.le_refl _) (by omega))⟩
  generalize (i64s (l.take n)).length = cn at h2
  clear hs r1 b1 s1 r2 t2 hi hm
  go_enter Try.func22, Try.ntmps22
  go_wp2
  go_ret
  exact ⟨rfl, FIN.out.1, FIN.out.2⟩
/-- What the reference's Pins tell: so many. -/
def PinsEnd (w : World) (ni no : Nat) (e : Ending) (w' : World) : Prop := ∃ a b c d, e = .returned (.tuple #[.slice a ni c, .slice b no d]) ∧ Below w.heap.size w w'
set_option maxHeartbeats 400000 in
theorem rpins_0 (w : World) : Calls Try.prog 21 #[.string (nm 0)] w (PinsEnd w (pI 0).length (pO 0).length) := by
  unfold nm nml tx
  go_enter Try.func21, Try.ntmps21
  go_wp2
  go_ret2
  exact ⟨_, _, _, _, rfl, below_new (below_new (Below.refl _ _) _) _⟩
set_option maxHeartbeats 400000 in
theorem rpins_1 (w : World) : Calls Try.prog 21 #[.string (nm 1)] w (PinsEnd w (pI 1).length (pO 1).length) := by
  unfold nm nml tx
  go_enter Try.func21, Try.ntmps21
  go_wp2
  go_ret2
  exact ⟨_, _, _, _, rfl, below_new (below_new (Below.refl _ _) _) _⟩
set_option maxHeartbeats 400000 in
theorem rpins_2 (w : World) : Calls Try.prog 21 #[.string (nm 2)] w (PinsEnd w (pI 2).length (pO 2).length) := by
  unfold nm nml tx
  go_enter Try.func21, Try.ntmps21
  go_wp2
  go_ret2
  exact ⟨_, _, _, _, rfl, below_new (below_new (Below.refl _ _) _) _⟩
set_option maxHeartbeats 400000 in
theorem rpins_3 (w : World) : Calls Try.prog 21 #[.string (nm 3)] w (PinsEnd w (pI 3).length (pO 3).length) := by
  unfold nm nml tx
  go_enter Try.func21, Try.ntmps21
  go_wp2
  go_ret2
  exact ⟨_, _, _, _, rfl, below_new (below_new (Below.refl _ _) _) _⟩
set_option maxHeartbeats 400000 in
theorem rpins_4 (w : World) : Calls Try.prog 21 #[.string (nm 4)] w (PinsEnd w (pI 4).length (pO 4).length) := by
  unfold nm nml tx
  go_enter Try.func21, Try.ntmps21
  go_wp2
  go_ret2
  exact ⟨_, _, _, _, rfl, below_new (below_new (Below.refl _ _) _) _⟩
set_option maxHeartbeats 400000 in
theorem rpins_5 (w : World) : Calls Try.prog 21 #[.string (nm 5)] w (PinsEnd w (pI 5).length (pO 5).length) := by
  unfold nm nml tx
  go_enter Try.func21, Try.ntmps21
  go_wp2
  go_ret2
  exact ⟨_, _, _, _, rfl, below_new (below_new (Below.refl _ _) _) _⟩
set_option maxHeartbeats 400000 in
theorem rpins_6 (w : World) : Calls Try.prog 21 #[.string (nm 6)] w (PinsEnd w (pI 6).length (pO 6).length) := by
  unfold nm nml tx
  go_enter Try.func21, Try.ntmps21
  go_wp2
  go_ret2
  exact ⟨_, _, _, _, rfl, below_new (below_new (Below.refl _ _) _) _⟩
set_option maxHeartbeats 400000 in
theorem rpins_7 (w : World) : Calls Try.prog 21 #[.string (nm 7)] w (PinsEnd w (pI 7).length (pO 7).length) := by
  unfold nm nml tx
  go_enter Try.func21, Try.ntmps21
  go_wp2
  go_ret2
  exact ⟨_, _, _, _, rfl, below_new (below_new (Below.refl _ _) _) _⟩
set_option maxHeartbeats 400000 in
theorem rpins_8 (w : World) : Calls Try.prog 21 #[.string (nm 8)] w (PinsEnd w (pI 8).length (pO 8).length) := by
  unfold nm nml tx
  go_enter Try.func21, Try.ntmps21
  go_wp2
  go_ret2
  exact ⟨_, _, _, _, rfl, below_new (below_new (Below.refl _ _) _) _⟩
set_option maxHeartbeats 400000 in
theorem rpins_9 (w : World) : Calls Try.prog 21 #[.string (nm 9)] w (PinsEnd w (pI 9).length (pO 9).length) := by
  unfold nm nml tx
  go_enter Try.func21, Try.ntmps21
  go_wp2
  go_ret2
  exact ⟨_, _, _, _, rfl, below_new (below_new (Below.refl _ _) _) _⟩
theorem rpins_c (k : Nat) (hk : k < 10) (w : World) : Calls Try.prog 21 #[.string (nm k)] w (PinsEnd w (pI k).length (pO k).length) := by
  match k, hk with
  | 0, _ => exact rpins_0 w
  | 1, _ => exact rpins_1 w
  | 2, _ => exact rpins_2 w
  | 3, _ => exact rpins_3 w
  | 4, _ => exact rpins_4 w
  | 5, _ => exact rpins_5 w
  | 6, _ => exact rpins_6 w
  | 7, _ => exact rpins_7 w
  | 8, _ => exact rpins_8 w
  | 9, _ => exact rpins_9 w
set_option maxHeartbeats 400000 in
theorem rpins_none (s : ByteArray) (h : Nob s) (w : World) : Calls Try.prog 21 #[.string s] w fun e w' => e = .returned (.tuple #[.slice none 0 0, .slice none 0 0]) ∧ w' = w := by
  have h0 := h 0 (by decide)
  have h1 := h 1 (by decide)
  have h2 := h 2 (by decide)
  have h3 := h 3 (by decide)
  have h4 := h 4 (by decide)
  have h5 := h 5 (by decide)
  have h6 := h 6 (by decide)
  have h7 := h 7 (by decide)
  have h8 := h 8 (by decide)
  have h9 := h 9 (by decide)
  simp only [nml] at h0 h1 h2 h3 h4 h5 h6 h7 h8 h9
  clear h
  go_enter Try.func21, Try.ntmps21
  go_wp2
  go_ret2
  exact ⟨rfl, rfl⟩
end Go.Proofs.Ytbpnaenineinmaa
