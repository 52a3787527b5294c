/- The walks: words taken out of bytes. -/
import Derived.Test.YtehbbkdiekgpbaaWk6
namespace Go.Proofs.Ytehbbkdiekgpbaa
open Go.RowKit
open Pdu
set_option maxHeartbeats 1600000 in
theorem at_c (b off n cap i x y : Nat) (w : World) (hn : i + 1 < n) (hm : n ≤ 1000000) (hx : x < 256) (hy : y < 256) (h0 : w.cell? ⟨b, off + i, none⟩ = some (.int .u8 x)) (h1 : w.cell? ⟨b, off + (i + 1), none⟩ = some (.int .u8 y)) :
    Calls Try.prog 41 #[.slice (some ⟨b, off, none⟩) n cap, .int .i64 i] w fun e w' => e = .returned (.int .u16 (256 * x + y : Nat)) ∧ ∃ m, w' = w.drewN m := by
  have hor := or_16 hx hy
  have e1 : IntKind.i64.wrap ((i : Int) + 1) = ((i + 1 : Nat) : Int) := by rw [IntKind.wrap_i64]; omega
  go_enter Try.func41, Try.ntmps41
  go_wp2
  go_quiet (fail)
  go_wp2
  go_ret
  exact ⟨congrArg (fun t : Int => Ending.returned (.int .u16 t)) (show 256 * (x : Int) + y = ((256 * x + y : Nat) : Int) by omega), _, rfl⟩
theorem ws_at (b : List Nat) (k : Nat) (h : k < b.length / 2) : (ws b).getD k 0 = wordAt b (2 * k) := by
  simp [ws, List.getD_eq_getElem?_getD, h]
theorem ws_take (b : List Nat) (k : Nat) (h : k < b.length / 2) : (ws b).take (k + 1) = (ws b).take k ++ [wordAt b (2 * k)] := by
  have hl : k < (ws b).length := by rw [ws_length]; exact h
  rw [List.take_add_one, List.getElem?_eq_getElem hl, ← ws_at b k h, List.getD_eq_getElem?_getD, List.getElem?_eq_getElem hl]
  rfl
theorem made_u16s (n : Nat) : (madeCells (Value.cells (.int .u16 0)) (n * 1)).toList = u16s (List.replicate n 0) := by
  apply List.ext_getElem?
  intro i
  by_cases h : i < n <;> simp [madeCells, Value.cells, u16s, h, Nat.mod_one]
/-- The words so far, in a row of the call's own. -/
def Wording (w wr : World) (g m : Nat) (bs : List Nat) (k : Nat) : Prop := wr.ownsRow w.heap.size 22 1 (.slice (some ⟨g, 0, none⟩) m m) m (u16s ((ws bs).take k ++ List.replicate (m - k) 0)) ∧ Below w.heap.size w wr
theorem wording_step {w wr : World} {g m k t d : Nat} {bs : List Nat} (h : Wording w wr g m bs k) (hk : k < m) (hm : m = bs.length / 2) (ht : t = wordAt bs (2 * k)) :
    Wording w ((wr.drewN d).setCell ⟨g, k, none⟩ (.int .u16 t)) g m bs (k + 1) := by
  have own := h.1
  have hl : ((ws bs).take k).length = k := by rw [List.length_take, ws_length]; omega
  have h' := below_drewN h.2 d
  refine ⟨?_, h'.setCell (p := ⟨g, k, none⟩) (own.lt g rfl).1 _⟩
  have own' : (wr.drewN d).ownsRow w.heap.size 22 1 (.slice (some ⟨g, 0, none⟩) m m) m (u16s ((ws bs).take k ++ List.replicate (m - k) 0)) := own
  have := (own'.stored k (.int .u16 t)).1
  rw [← u16s_set] at this
  rw [ws_take _ _ (by omega), ← ht]
  rw [List.set_append_right _ _ (by omega), hl, Nat.sub_self, show m - k = (m - (k + 1)) + 1 by omega, List.replicate_succ, List.set_cons_zero] at this
  rw [List.append_assoc]
  exact this
set_option maxHeartbeats 1600000 in
theorem words_at (b off n cap : Nat) (bs : List Nat) (w : World) (hl : n = bs.length) (hcap : n ≤ cap) (hsz : n ≤ 1000000) (hb : Bytes bs) (hlies : Lies w b off (u8s bs)) :
    Calls Try.prog 52 #[.slice (some ⟨b, off, none⟩) n cap] w fun e w' => ∃ v', e = .returned v' ∧ w'.ownsRow w.heap.size 22 1 v' (n / 2) (u16s (ws bs)) ∧ Below w.heap.size w w' := by
  obtain ⟨i0, hi, hz0, hz1, hz2⟩ := info_parts Try.infoWord
  have HN : Hid (n = bs.length) := hl
  have HL : Hid (Lies w b off (u8s bs)) := hlies
  obtain ⟨m, hm⟩ : ∃ m, m = n / 2 := ⟨_, rfl⟩
  have hq : (n : Int).tdiv 2 = (m : Int) := by rw [hm, Int.tdiv_eq_ediv_of_nonneg (by omega)]; omega
  have hm2 : 2 * m ≤ n := by omega
  have HM : Hid (m = bs.length / 2) := by rw [hm, hl]; exact rfl
  rw [← hm]
  clear hl hlies hm
  go_enter Try.func52, Try.ntmps52
  go_wp2_with (at_make; refine wpList_make_full _ rfl _ _ 24 rfl w.heap.size 22 i0 (.int .u16 0) 1 Try.underlying24 hi hz0 hz1 _ _ _ _ m rfl rfl rfl rfl (by rw [hz2]; omega) (by unfold maxLen; omega) (Nat.le_refl _) ?_; intro w1 hown1 hgrow1)
  have HP : Hid (Wording w w1 w.heap.size m bs 0) := ⟨by rw [made_u16s] at hown1; exact hown1, (Below.refl _ w).grown hgrow1 (Nat.le_refl _) fun k hk => by cases (show (none : Option Nat) = some k from hk)⟩
  clear hown1 hgrow1
  go_loopw [11] (fun i wr => ∃ k : Nat, k ≤ m ∧ i = .int .i64 k ∧ Wording w wr w.heap.size m bs k) (fun i _ => m - (intOf i).toNat)
  case atStart => exact ⟨0, by omega, rfl, HP⟩
  case round =>
    obtain ⟨k, hk, rfl, HP⟩ := hrel
    by_cases hkm : k < m
    · obtain ⟨x, hx⟩ : ∃ x, x = bs.getD (2 * k) 0 := ⟨_, rfl⟩
      obtain ⟨y, hy⟩ : ∃ y, y = bs.getD (2 * k + 1) 0 := ⟨_, rfl⟩
      have hx8 : x < 256 := by rw [hx]; exact hb.at _
      have hy8 : y < 256 := by rw [hy]; exact hb.at _
      have hlen : 2 * k + 1 < bs.length := by have := (show n = _ from HN); omega
      have c0 := HL.out.u8 (2 * k) (by omega)
      have c1 := HL.out.u8 (2 * k + 1) hlen
      have hc0 : wr.cell? ⟨b, off + 2 * k, none⟩ = some (.int .u8 x) := by rw [hx, HP.2.cell (p := ⟨b, off + 2 * k, none⟩) (lt_of_cell c0)]; exact c0
      have hc1 : wr.cell? ⟨b, off + 2 * k + 1, none⟩ = some (.int .u8 y) := by rw [hy, HP.2.cell (p := ⟨b, off + 2 * k + 1, none⟩) (lt_of_cell c1)]; exact c1
      have own := HP.1
      have hcl : ∃ v, wr.cell? ⟨w.heap.size, k, none⟩ = some v := by
        rw [own.cellAt k (by omega), u16s_at _ k (by rw [List.length_append, List.length_take, List.length_replicate, ws_length, ← (show m = _ from HM)]; omega)]
        exact ⟨_, rfl⟩
      obtain ⟨v0, hcl⟩ := hcl
      have hfz : wr.frozen? ⟨w.heap.size, k, none⟩ = false := own.frozenAt k
      have HR : Hid (∀ d, Wording w ((wr.drewN d).setCell ⟨w.heap.size, k, none⟩ (.int .u16 (256 * x + y : Nat))) w.heap.size m bs (k + 1)) := fun d => wording_step HP hkm HM (by rw [hx, hy]; rfl)
      clear own HP c0 c1 hx hy hlen
      go_wp2_with (go_at_call 51; refine (word_c b (off + 2 * k) _ _ x y wr (by omega) hx8 hy8 hc0 hc1).mono ?_; rintro e w' ⟨rfl, d, hw⟩; subst w')
      go_roundw
      case rel => exact ⟨k + 1, by omega, by go_num, HR.out _⟩
      case measure => simp [intOf]; omega
    · obtain rfl : k = m := by omega
      have HP : Hid (Wording w wr w.heap.size k bs k) := HP
      go_wp2
      go_ret
      have h1 := HP.out.1
      rw [Nat.sub_self, List.replicate_zero, List.append_nil, List.take_of_length_le (by rw [ws_length]; exact Nat.le_of_eq HM.out.symm)] at h1
      exact ⟨_, rfl, h1, HP.out.2⟩
set_option maxHeartbeats 1600000 in
theorem words_none (ao : Option Addr) (cap : Nat) (w : World) :
    Calls Try.prog 52 #[.slice ao 0 cap] w fun e w' => ∃ v', e = .returned v' ∧ w'.ownsRow w.heap.size 22 1 v' 0 (u16s []) ∧ Below w.heap.size w w' := by
  obtain ⟨i0, hi, hz0, hz1, hz2⟩ := info_parts Try.infoWord
  go_enter Try.func52, Try.ntmps52
  go_wp2_with (at_make; refine wpList_make_full _ rfl _ _ 24 rfl w.heap.size 22 i0 (.int .u16 0) 1 Try.underlying24 hi hz0 hz1 _ _ _ _ 0 rfl rfl rfl rfl (by rw [hz2]; omega) (by unfold maxLen; omega) (Nat.le_refl _) ?_; intro w1 hown1 hgrow1)
  have HP : Hid (w1.ownsRow w.heap.size 22 1 (.slice (some ⟨w.heap.size, 0, none⟩) 0 0) 0 (u16s []) ∧ Below w.heap.size w w1) := ⟨by rw [made_u16s] at hown1; exact hown1, (Below.refl _ w).grown hgrow1 (Nat.le_refl _) fun k hk => by cases (show (none : Option Nat) = some k from hk)⟩
  clear hown1 hgrow1
  go_loop [11] (fun i => i = .int .i64 0) (fun _ => 0)
  case atStart => rfl
  case round =>
    obtain rfl := hrel
    go_wp2
    go_ret
    exact ⟨_, rfl, HP.out.1, HP.out.2⟩
theorem words_c {v : Value} {bs : List Nat} {w : World} (hb : Bytes bs) (h : Sl w v (u8s bs)) (hsz : bs.length ≤ 1000000) :
    Calls Try.prog 52 #[v] w fun e w' => ∃ v', e = .returned v' ∧ w'.ownsRow w.heap.size 22 1 v' (ws bs).length (u16s (ws bs)) ∧ Below w.heap.size w w' := by
  rw [ws_length]
  rcases h with ⟨h, ao, cap, rfl, _⟩ | ⟨b, off, cap, rfl, hcap, hc⟩
  · obtain rfl := u8s_nil h
    exact words_none ao cap w
  · rw [u8s_len] at hcap ⊢
    exact words_at b off _ cap bs w rfl hcap hsz hb hc
def Regging (w wr : World) (v : Value) (bs : List Nat) (k : Nat) : Prop := wr.ownsRow w.heap.size 22 1 v k (u16s ((ws bs).take k)) ∧ Below w.heap.size w wr
theorem regging_step {w wr w1 : World} {v v' : Value} {bs : List Nat} {k t d : Nat} {o : Obj} (h : Regging w wr v bs k) (hk : k < bs.length / 2) (ht : t = wordAt bs (2 * k)) (hown : w1.ownsRow w.heap.size 22 1 v' (k + 1) (u16s ((ws bs).take k) ++ [.int .u16 (t : Int)])) (hg : ((wr.drewN d).alloc o).grownBy w1 v.ownBlock) : Regging w w1 v' bs (k + 1) := by
  obtain ⟨h1, h2⟩ := h
  have hs := h2.size
  refine ⟨?_, ((below_drewN h2 d).alloc (by show w.heap.size ≤ wr.heap.size; omega) o).grown hg (by simp; omega) (fun g hg' => (h1.lt g hg').1)⟩
  rw [ws_take _ _ hk, ← ht, u16s_app]
  exact hown
set_option maxHeartbeats 1600000 in
theorem regs_at (b off n cap : Nat) (bs : List Nat) (w : World) (hl : n = bs.length) (hsz : n ≤ 1000000) (hb : Bytes bs) (hlies : Lies w b off (u8s bs)) :
    Calls Try.prog 42 #[.slice (some ⟨b, off, none⟩) n cap] w fun e w' => ∃ v', e = .returned v' ∧ w'.ownsRow w.heap.size 22 1 v' (n / 2) (u16s (ws bs)) ∧ Below w.heap.size w w' := by
  obtain ⟨i0, hi, hz0, hz1, hz2⟩ := info_parts Try.infoWord
  have HN : Hid (n = bs.length) := hl
  have HL : Hid (Lies w b off (u8s bs)) := hlies
  obtain ⟨m, hm⟩ : ∃ m, m = n / 2 := ⟨_, rfl⟩
  have hm2 : 2 * m ≤ n := by omega
  have hm3 : n ≤ 2 * m + 1 := by omega
  have HM : Hid (m = bs.length / 2) := by rw [hm, hl]; exact rfl
  rw [← hm]
  clear hl hlies hm
  go_enter Try.func42, Try.ntmps42
  go_wp2
  go_loopw [3, 4] (fun v i wr => ∃ k : Nat, k ≤ m ∧ i = .int .i64 (2 * k : Nat) ∧ Regging w wr v bs k) (fun _ i _ => 2 * m - (intOf i).toNat)
  case atStart => exact ⟨0, by omega, rfl, World.ownsRow_nil .., Below.refl _ _⟩
  case round =>
    obtain ⟨k, hk, rfl, HP⟩ := hrel
    have hsize : w.heap.size ≤ wr.heap.size := HP.2.size
    by_cases hkm : k < m
    · obtain ⟨x, hx⟩ : ∃ x, x = bs.getD (2 * k) 0 := ⟨_, rfl⟩
      obtain ⟨y, hy⟩ : ∃ y, y = bs.getD (2 * k + 1) 0 := ⟨_, rfl⟩
      have hx8 : x < 256 := by rw [hx]; exact hb.at _
      have hy8 : y < 256 := by rw [hy]; exact hb.at _
      have hlen : 2 * k + 1 < bs.length := by have := (show n = _ from HN); omega
      have c0 := HL.out.u8 (2 * k) (by omega)
      have c1 := HL.out.u8 (2 * k + 1) hlen
      have hc0 : wr.cell? ⟨b, off + 2 * k, none⟩ = some (.int .u8 x) := by rw [hx, HP.2.cell (p := ⟨b, off + 2 * k, none⟩) (lt_of_cell c0)]; exact c0
      have hc1 : wr.cell? ⟨b, off + (2 * k + 1), none⟩ = some (.int .u8 y) := by rw [hy, HP.2.cell (p := ⟨b, off + (2 * k + 1), none⟩) (lt_of_cell c1)]; exact c1
      have HT : Hid (256 * x + y = wordAt bs (2 * k)) := by rw [hx, hy]; exact rfl
      have hkl : Hid (k < bs.length / 2) := by rw [← (show m = _ from HM)]; exact hkm
      have HP : Hid (Regging w wr u3 bs k) := HP
      have hat := at_c b off n cap (2 * k) x y wr (by omega) hsz hx8 hy8 hc0 hc1
      clear c0 c1 hx hy hlen
      go_wp2_with (first | (go_at_call 41; refine hat.mono ?_; rintro e w' ⟨rfl, d, hw⟩; subst w') | (at_builtin; refine wpList_append_own _ rfl (.tmp 12) (.tmp 16) 24 rfl w.heap.size 22 i0 (.int .u16 0) 1 2 Try.underlying24 hi hz0 hz1 hz2 rfl (by decide) _ k _ rfl (World.ownsRow.alloc (w := wr.drewN d) HP.out.1 _) ⟨wr.heap.size, 0, none⟩ 1 1 [.int .u16 (256 * (x : Int) + (y : Int))] rfl rfl (one_cell (wr.drewN d) _ _) (one_int _ _) (by unfold maxLen; omega) (by omega) (by show w.heap.size ≤ ((wr.drewN d).alloc _).heap.size; simp; omega) ?_; intro v' w1 hown' hgrow _))
      have HR : Hid (Regging w w1 v' bs (k + 1)) := regging_step (d := d) HP hkl HT (by rw [show ((256 * x + y : Nat) : Int) = 256 * (x : Int) + y by omega]; exact hown') hgrow
      clear hown' hgrow HP
      go_wp2
      go_roundw
      all_goals first | exact ⟨k + 1, by omega, by go_num, HR⟩ | (simp [intOf]; omega)
    · obtain rfl : k = m := by omega
      have HP : Hid (Regging w wr u3 bs k) := HP
      go_wp2
      go_ret
      have h1 := HP.out.1
      rw [List.take_of_length_le (by rw [ws_length]; exact Nat.le_of_eq HM.out.symm)] at h1
      exact ⟨_, rfl, h1, HP.out.2⟩
set_option maxHeartbeats 1600000 in
theorem regs_none (ao : Option Addr) (cap : Nat) (w : World) :
    Calls Try.prog 42 #[.slice ao 0 cap] w fun e w' => e = .returned (.slice none 0 0) ∧ w' = w := by
  go_enter Try.func42, Try.ntmps42
  go_wp2
  go_loop [3, 4] (fun v i => i = .int .i64 0 ∧ v = .slice none 0 0) (fun _ _ => 0)
  case atStart => exact ⟨rfl, rfl⟩
  case round =>
    obtain ⟨rfl, rfl⟩ := hrel
    go_wp2
    go_ret
    exact ⟨rfl, rfl⟩
theorem regs_c {v : Value} {bs : List Nat} {w : World} (hb : Bytes bs) (h : Sl w v (u8s bs)) (hsz : bs.length ≤ 1000000) :
    Calls Try.prog 42 #[v] w fun e w' => ∃ v', e = .returned v' ∧ w'.ownsRow w.heap.size 22 1 v' (ws bs).length (u16s (ws bs)) ∧ Below w.heap.size w w' := by
  rw [ws_length]
  rcases h with ⟨h, ao, cap, rfl, _⟩ | ⟨b, off, cap, rfl, hcap, hc⟩
  · obtain rfl := u8s_nil h
    refine (regs_none ao cap w).mono ?_
    rintro e w' ⟨rfl, rfl⟩
    exact ⟨_, rfl, World.ownsRow_nil .., Below.refl _ _⟩
  · rw [u8s_len] at hcap ⊢
    exact regs_at b off _ cap bs w rfl hsz hb hc
end Go.Proofs.Ytehbbkdiekgpbaa
