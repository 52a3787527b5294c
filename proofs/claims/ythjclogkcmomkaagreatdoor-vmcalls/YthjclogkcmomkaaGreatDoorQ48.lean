/- The walks of the reference: wraps, operators (stage 21, after stage 1). -/
import Derived.WalkKit
import Derived.WalkSpells
import Derived.WalkLawsBesides
import Derived.Test.YthjclogkcmomkaaGreatDoorQ18
namespace Go.Proofs.YthjclogkcmomkaaGreatDoor
open Go.RowKit
namespace Nm



set_option maxHeartbeats 2000000 in
theorem width_r (k:Int) (w:World):Calls Tryz.prog 38 #[.int .i64 k] w fun e w'=>e=.returned (.int .i64 (wd k))∧Kept w w':=by
  rcases kind_cases k with rfl | rfl | rfl | rfl | rfl | rfl | rfl | rfl | rfl | rfl | rfl | h | h
  rotate_right
  · have hd:decide (k≤11)=false:=decide_eq_false (by omega)
    go_enter Tryz.func38,Tryz.ntmps38
    go_wp2
    go_ret
    exact ⟨ret_int (wd_none (by omega)).symm,Kept.refl _⟩
  all_goals
    go_enter Tryz.func38,Tryz.ntmps38
    go_wp2
    go_ret
  all_goals first | exact ⟨rfl,Kept.refl _⟩ | exact ⟨rfl,(Kept.refl _).alloc _⟩ | exact ⟨ret_int (wd_none (by omega)).symm,Kept.refl _⟩




set_option maxHeartbeats 2000000 in
theorem range_r (k:Int) (w:World):Calls Tryz.prog 39 #[.int .i64 k] w fun e w'=>e=.returned (.tuple #[.int .i64 (lo k),.int .i64 (hi k)])∧Kept w w':=by
  rcases kind_cases k with rfl | rfl | rfl | rfl | rfl | rfl | rfl | rfl | rfl | rfl | rfl | h | h
  rotate_right
  · have hd:decide (k≤11)=false:=decide_eq_false (by omega)
    go_enter Tryz.func39,Tryz.ntmps39
    go_wp2
    go_ret2
    exact ⟨ret_two (lo_none (by omega)).symm (hi_none (by omega)).symm,Kept.refl _⟩
  all_goals
    go_enter Tryz.func39,Tryz.ntmps39
    go_wp2
    try (go_region;all_goals go_wp2)
    all_goals go_ret2
  all_goals first | exact ⟨rfl,(Kept.refl _).alloc _⟩ | exact ⟨rfl,((Kept.refl _).alloc _).drew⟩ | exact ⟨ret_two (lo_none (by omega)).symm (hi_none (by omega)).symm,Kept.refl _⟩




theorem width_at (k v:Int) (h:wd k=v) (w:World):Calls Tryz.prog 38 #[.int .i64 k] w fun e w'=>e=.returned (.int .i64 v)∧Kept w w':=by
  subst h;exact width_r k w
theorem range_at (k u v:Int) (h:lo k=u) (h':hi k=v) (w:World):Calls Tryz.prog 39 #[.int .i64 k] w fun e w'=>e=.returned (.tuple #[.int .i64 u,.int .i64 v])∧Kept w w':=by
  subst h h';exact range_r k w
theorem down8 (n:Int) (h:127 < n % 256):n % 256 - 256=sw 256 n:=by unfold sw;omega
theorem down16 (n:Int) (h:32767 < n % 65536):n % 65536 - 65536=sw 65536 n:=by unfold sw;omega
theorem down32 (n:Int) (h:2147483647 < n % 4294967296):n % 4294967296 - 4294967296=sw 4294967296 n:=by unfold sw;omega
theorem stay8 (n:Int) (h:¬ 127 < n % 256):n % 256=sw 256 n:=by unfold sw;omega
theorem stay16 (n:Int) (h:¬ 32767 < n % 65536):n % 65536=sw 65536 n:=by unfold sw;omega
theorem stay32 (n:Int) (h:¬ 2147483647 < n % 4294967296):n % 4294967296=sw 4294967296 n:=by unfold sw;omega

set_option maxHeartbeats 2000000 in
theorem wrap_r2 (n:Int) (w:World):Calls Tryz.prog 19 #[.int .i64 2,.int .i64 n] w fun e w'=>e=.returned (.int .i64 (wr 2 n))∧Kept w w':=by
  have e:=and8 n
  by_cases h:127 < n % 256
  · go_enter Tryz.func19,Tryz.ntmps19
    go_wp2_with (first | (go_at_call 38;refine (width_at 2 8 rfl _).mono ?_;rintro e w1 ⟨rfl,k1⟩) | (go_at_call 39;refine (range_at 2 (-128) 127 rfl rfl _).mono ?_;rintro e w2 ⟨rfl,k2⟩))
    go_ret
    exact ⟨ret_int (down8 n h),k1.trans k2⟩
  · go_enter Tryz.func19,Tryz.ntmps19
    go_wp2_with (first | (go_at_call 38;refine (width_at 2 8 rfl _).mono ?_;rintro e w1 ⟨rfl,k1⟩) | (go_at_call 39;refine (range_at 2 (-128) 127 rfl rfl _).mono ?_;rintro e w2 ⟨rfl,k2⟩))
    go_ret
    exact ⟨ret_int (stay8 n (by omega)),k1.trans k2⟩

set_option maxHeartbeats 2000000 in
theorem wrap_r3 (n:Int) (w:World):Calls Tryz.prog 19 #[.int .i64 3,.int .i64 n] w fun e w'=>e=.returned (.int .i64 (wr 3 n))∧Kept w w':=by
  have e:=and16 n
  by_cases h:32767 < n % 65536
  · go_enter Tryz.func19,Tryz.ntmps19
    go_wp2_with (first | (go_at_call 38;refine (width_at 3 16 rfl _).mono ?_;rintro e w1 ⟨rfl,k1⟩) | (go_at_call 39;refine (range_at 3 (-32768) 32767 rfl rfl _).mono ?_;rintro e w2 ⟨rfl,k2⟩))
    go_ret
    exact ⟨ret_int (down16 n h),k1.trans k2⟩
  · go_enter Tryz.func19,Tryz.ntmps19
    go_wp2_with (first | (go_at_call 38;refine (width_at 3 16 rfl _).mono ?_;rintro e w1 ⟨rfl,k1⟩) | (go_at_call 39;refine (range_at 3 (-32768) 32767 rfl rfl _).mono ?_;rintro e w2 ⟨rfl,k2⟩))
    go_ret
    exact ⟨ret_int (stay16 n (by omega)),k1.trans k2⟩

set_option maxHeartbeats 2000000 in
theorem wrap_r4 (n:Int) (w:World):Calls Tryz.prog 19 #[.int .i64 4,.int .i64 n] w fun e w'=>e=.returned (.int .i64 (wr 4 n))∧Kept w w':=by
  have e:=and32 n
  by_cases h:2147483647 < n % 4294967296
  · go_enter Tryz.func19,Tryz.ntmps19
    go_wp2_with (first | (go_at_call 38;refine (width_at 4 32 rfl _).mono ?_;rintro e w1 ⟨rfl,k1⟩) | (go_at_call 39;refine (range_at 4 (-2147483648) 2147483647 rfl rfl _).mono ?_;rintro e w2 ⟨rfl,k2⟩))
    go_ret
    exact ⟨ret_int (down32 n h),k1.trans k2⟩
  · go_enter Tryz.func19,Tryz.ntmps19
    go_wp2_with (first | (go_at_call 38;refine (width_at 4 32 rfl _).mono ?_;rintro e w1 ⟨rfl,k1⟩) | (go_at_call 39;refine (range_at 4 (-2147483648) 2147483647 rfl rfl _).mono ?_;rintro e w2 ⟨rfl,k2⟩))
    go_ret
    exact ⟨ret_int (stay32 n (by omega)),k1.trans k2⟩

set_option maxHeartbeats 2000000 in
theorem wrap_r5 (n:Int) (w:World):Calls Tryz.prog 19 #[.int .i64 5,.int .i64 n] w fun e w'=>e=.returned (.int .i64 (wr 5 n))∧Kept w w':=by
  have e:=and8 n
  have h:¬ 255 < n % 256:=by omega
  go_enter Tryz.func19,Tryz.ntmps19
  go_wp2_with (first | (go_at_call 38;refine (width_at 5 8 rfl _).mono ?_;rintro e w1 ⟨rfl,k1⟩) | (go_at_call 39;refine (range_at 5 (0) 255 rfl rfl _).mono ?_;rintro e w2 ⟨rfl,k2⟩))
  go_ret
  exact ⟨rfl,k1.trans k2⟩

set_option maxHeartbeats 2000000 in
theorem wrap_r6 (n:Int) (w:World):Calls Tryz.prog 19 #[.int .i64 6,.int .i64 n] w fun e w'=>e=.returned (.int .i64 (wr 6 n))∧Kept w w':=by
  have e:=and16 n
  have h:¬ 65535 < n % 65536:=by omega
  go_enter Tryz.func19,Tryz.ntmps19
  go_wp2_with (first | (go_at_call 38;refine (width_at 6 16 rfl _).mono ?_;rintro e w1 ⟨rfl,k1⟩) | (go_at_call 39;refine (range_at 6 (0) 65535 rfl rfl _).mono ?_;rintro e w2 ⟨rfl,k2⟩))
  go_ret
  exact ⟨rfl,k1.trans k2⟩

set_option maxHeartbeats 2000000 in
theorem wrap_r7 (n:Int) (w:World):Calls Tryz.prog 19 #[.int .i64 7,.int .i64 n] w fun e w'=>e=.returned (.int .i64 (wr 7 n))∧Kept w w':=by
  have e:=and32 n
  have h:¬ 4294967295 < n % 4294967296:=by omega
  go_enter Tryz.func19,Tryz.ntmps19
  go_wp2_with (first | (go_at_call 38;refine (width_at 7 32 rfl _).mono ?_;rintro e w1 ⟨rfl,k1⟩) | (go_at_call 39;refine (range_at 7 (0) 4294967295 rfl rfl _).mono ?_;rintro e w2 ⟨rfl,k2⟩))
  go_ret
  exact ⟨rfl,k1.trans k2⟩

set_option maxHeartbeats 2000000 in
theorem wrap_r8 (n:Int) (w:World):Calls Tryz.prog 19 #[.int .i64 8,.int .i64 n] w fun e w'=>e=.returned (.int .i64 (wr 8 n))∧Kept w w':=by
  have e:=and8 n
  have h:¬ 255 < n % 256:=by omega
  go_enter Tryz.func19,Tryz.ntmps19
  go_wp2_with (first | (go_at_call 38;refine (width_at 8 8 rfl _).mono ?_;rintro e w1 ⟨rfl,k1⟩) | (go_at_call 39;refine (range_at 8 (0) 255 rfl rfl _).mono ?_;rintro e w2 ⟨rfl,k2⟩))
  go_ret
  exact ⟨rfl,k1.trans k2⟩

set_option maxHeartbeats 2000000 in
theorem wrap_r9 (n:Int) (w:World):Calls Tryz.prog 19 #[.int .i64 9,.int .i64 n] w fun e w'=>e=.returned (.int .i64 (wr 9 n))∧Kept w w':=by
  have e:=and16 n
  have h:¬ 65535 < n % 65536:=by omega
  go_enter Tryz.func19,Tryz.ntmps19
  go_wp2_with (first | (go_at_call 38;refine (width_at 9 16 rfl _).mono ?_;rintro e w1 ⟨rfl,k1⟩) | (go_at_call 39;refine (range_at 9 (0) 65535 rfl rfl _).mono ?_;rintro e w2 ⟨rfl,k2⟩))
  go_ret
  exact ⟨rfl,k1.trans k2⟩

set_option maxHeartbeats 2000000 in
theorem wrap_r10 (n:Int) (w:World):Calls Tryz.prog 19 #[.int .i64 10,.int .i64 n] w fun e w'=>e=.returned (.int .i64 (wr 10 n))∧Kept w w':=by
  have e:=and32 n
  have h:¬ 4294967295 < n % 4294967296:=by omega
  go_enter Tryz.func19,Tryz.ntmps19
  go_wp2_with (first | (go_at_call 38;refine (width_at 10 32 rfl _).mono ?_;rintro e w1 ⟨rfl,k1⟩) | (go_at_call 39;refine (range_at 10 (0) 4294967295 rfl rfl _).mono ?_;rintro e w2 ⟨rfl,k2⟩))
  go_ret
  exact ⟨rfl,k1.trans k2⟩

set_option maxHeartbeats 2000000 in
theorem wrap_r11 (n:Int) (w:World):Calls Tryz.prog 19 #[.int .i64 11,.int .i64 n] w fun e w'=>e=.returned (.int .i64 (wr 11 n))∧Kept w w':=by
  have e:=and32 n
  by_cases h:2147483647 < n % 4294967296
  · go_enter Tryz.func19,Tryz.ntmps19
    go_wp2_with (first | (go_at_call 38;refine (width_at 11 32 rfl _).mono ?_;rintro e w1 ⟨rfl,k1⟩) | (go_at_call 39;refine (range_at 11 (-2147483648) 2147483647 rfl rfl _).mono ?_;rintro e w2 ⟨rfl,k2⟩))
    go_ret
    exact ⟨ret_int (down32 n h),k1.trans k2⟩
  · go_enter Tryz.func19,Tryz.ntmps19
    go_wp2_with (first | (go_at_call 38;refine (width_at 11 32 rfl _).mono ?_;rintro e w1 ⟨rfl,k1⟩) | (go_at_call 39;refine (range_at 11 (-2147483648) 2147483647 rfl rfl _).mono ?_;rintro e w2 ⟨rfl,k2⟩))
    go_ret
    exact ⟨ret_int (stay32 n (by omega)),k1.trans k2⟩

set_option maxHeartbeats 2000000 in
theorem wrap_r (k n:Int) (w:World):Calls Tryz.prog 19 #[.int .i64 k,.int .i64 n] w fun e w'=>e=.returned (.int .i64 (wr k n))∧Kept w w':=by
  rcases kind_cases k with rfl | rfl | rfl | rfl | rfl | rfl | rfl | rfl | rfl | rfl | rfl | h | h
  rotate_right
  · have hd:decide (k≤11)=false:=decide_eq_false (by omega)
    go_enter Tryz.func19,Tryz.ntmps19
    go_wp2
    go_ret
    exact ⟨ret_int (wr_none (by omega) n).symm,Kept.refl _⟩
  · by_cases h:n=0
    · subst h
      go_enter Tryz.func19,Tryz.ntmps19
      go_wp2_with (go_at_call 38;refine (width_at 1 1 rfl _).mono ?_;rintro e w1 ⟨rfl,k1⟩)
      go_ret
      exact ⟨rfl,k1⟩
    · go_enter Tryz.func19,Tryz.ntmps19
      go_wp2_with (go_at_call 38;refine (width_at 1 1 rfl _).mono ?_;rintro e w1 ⟨rfl,k1⟩)
      go_ret
      exact ⟨ret_int (show (1:Int)=wr 1 n by unfold wr;rw [if_pos rfl,if_neg h]),k1⟩
  · exact wrap_r2 n w
  · exact wrap_r3 n w
  · exact wrap_r4 n w
  · exact wrap_r5 n w
  · exact wrap_r6 n w
  · exact wrap_r7 n w
  · exact wrap_r8 n w
  · exact wrap_r9 n w
  · exact wrap_r10 n w
  · exact wrap_r11 n w
  · go_enter Tryz.func19,Tryz.ntmps19
    go_wp2
    go_ret
    exact ⟨ret_int (wr_none (by omega) n).symm,Kept.refl _⟩



theorem scalar_rat (k:Int) (b:Bool) (h:sc k=b) (w:World):Calls Tryz.prog 27 #[.int .i64 k] w fun e w'=>e=.returned (.bool b)∧w'=w:=by
  subst h;exact scalar_r k w
theorem truth_r (b:Bool) (w:World):Calls Tryz.prog 40 #[.bool b] w fun e w'=>e=.returned (.int .i64 (tr b))∧w'=w:=by
  cases b
  all_goals
    go_enter Tryz.func40,Tryz.ntmps40
    go_wp2
    go_ret
    exact ⟨rfl,rfl⟩

set_option maxHeartbeats 2000000 in
theorem apply_rnone (op k a b:Int) (w:World) (hk:sc k=false):Calls Tryz.prog 20 #[.int .i64 op,.int .i64 k,.int .i64 a,.int .i64 b] w fun e w'=>e=.returned (.tuple #[.int .i64 0,.int .i64 0])∧w'=w:=by
  go_enter Tryz.func20,Tryz.ntmps20
  go_wp2_with (go_at_call 27;refine (scalar_rat _ _ hk _).mono ?_;rintro e w' ⟨rfl,rfl⟩)
  go_ret2
  exact ⟨rfl,rfl⟩

set_option maxHeartbeats 2000000 in
theorem apply_rop (op k a b:Int) (w:World) (hk:sc k=true):Calls Tryz.prog 20 #[.int .i64 op,.int .i64 k,.int .i64 a,.int .i64 b] w fun e w'=>e=.returned (.tuple #[.int .i64 (opv op k (wr k a) (wr k b)),.int .i64 (opf op (wr k b))])∧Kept w w':=by
  have k0:=Kept.refl w
  rcases op_cases op with rfl | rfl | rfl | rfl | rfl | rfl | rfl | rfl | rfl | rfl | rfl | rfl | rfl | rfl | h | h
  case' inr.inl=>by_cases hz:wr k b=0
  case' inr.inr.inl=>by_cases hz:wr k b=0
  all_goals
    go_enter Tryz.func20,Tryz.ntmps20
    go_wp2_with (first | (go_at_call 27;refine (scalar_rat _ _ hk _).mono ?_;rintro e w' ⟨rfl,rfl⟩) | (go_at_call 19;refine (wrap_r _ _ _).mono ?_;rintro e w1 ⟨rfl,k1⟩;replace k0:=k0.trans k1;clear k1) | (go_at_call 40;refine (truth_r _ _).mono ?_;rintro e w' ⟨rfl,rfl⟩) | go_in)
    go_ret2
  all_goals first | exact ⟨ret_two rfl rfl,k0⟩ | exact ⟨ret_two (by rw [hz];rfl) (by rw [hz];rfl),k0⟩ | exact ⟨ret_two (opv_div hz _ _).symm (opf_not hz).symm,k0⟩ | exact ⟨ret_two (opv_mod hz _ _).symm (opf_not hz).symm,k0⟩ | exact ⟨ret_two ((wr_zero k).trans (opv_none (by omega) _ _ _).symm) (opf_none (by omega) _).symm,k0⟩ | exact ⟨ret_two (opv_none (by omega) _ _ _).symm (opf_none (by omega) _).symm,k0⟩

theorem apply_r (op k a b:Int) (w:World):Calls Tryz.prog 20 #[.int .i64 op,.int .i64 k,.int .i64 a,.int .i64 b] w fun e w'=>e=.returned (.tuple #[.int .i64 (apv op k a b),.int .i64 (apf op k b)])∧Kept w w':=by
  cases hk:sc k
  · refine (apply_rnone op k a b w hk).mono fun e w' h=>⟨h.1.trans (ret_two ?_ ?_),by rw [h.2];exact Kept.refl _⟩
    · unfold apv;rw [hk];rfl
    · unfold apf;rw [hk];rfl
  · refine (apply_rop op k a b w hk).mono fun e w' h=>⟨h.1.trans (ret_two ?_ ?_),h.2⟩
    · unfold apv;rw [hk];rfl
    · unfold apf;rw [hk];rfl
set_option maxHeartbeats 2000000 in
theorem not_call_r (k a:Int) (w:World):Calls Tryz.prog 21 #[.int .i64 k,.int .i64 a] w fun e w'=>e=.returned (.int .i64 (ntv k a))∧Kept w w':=by
  have k0:=Kept.refl w
  by_cases hk1:k=1
  · subst hk1
    go_enter Tryz.func21,Tryz.ntmps21
    go_wp2_with (go_at_call 19;refine (wrap_r _ _ _).mono ?_;rintro e w1 ⟨rfl,k1⟩;replace k0:=k0.trans k1;clear k1)
    go_ret
    refine ⟨ret_int ?_,k0⟩
    have:=not_r1 a
    have h3:wr 1 a=0 ∨ wr 1 a=1:=by rw [wr1];split <;> simp
    rw [← this];unfold wrap64;omega
  · go_enter Tryz.func21,Tryz.ntmps21
    go_wp2_with (go_at_call 19;refine (wrap_r _ _ _).mono ?_;rintro e w1 ⟨rfl,k1⟩;replace k0:=k0.trans k1;clear k1)
    go_ret
    exact ⟨ret_int (not_r k a hk1),k0⟩
end Nm
end Go.Proofs.YthjclogkcmomkaaGreatDoor
