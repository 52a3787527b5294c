/- Bits moved (stage 21, after stage 1). · Bits moved (stage 21, after stage 1). · Bits moved, of any kind (stage 21, after stage 1). -/
import Derived.Deep.QuietTactic
import Derived.BigQuiet
import Derived.WalkKit
import Derived.WalkSpells
import Derived.WalkLawsBesides
import Derived.Test.YthjclogkcmomkaaGreatDoorQ13
namespace Go.Proofs.YthjclogkcmomkaaGreatDoor
open Go.RowKit
namespace Nm



set_option maxHeartbeats 2000000 in
theorem sh37_SHL_8 (a n:Int) (w:World):Calls Tryz.prog 95 #[.string ⟨#[83,72,76]⟩,.int .i64 8,.int .i64 a,.int .i64 n] w fun e w'=>e=.returned (.int .i64 (shv tSHL 8 a n))∧Kept w w':=by
  have k0:=Kept.refl w
  have hc:(n < 0) ∨ (0≤n∧n < 8) ∨ (n=8) ∨ (8 < n):=by omega
  rcases hc with h | ⟨h,h2⟩ | rfl | h
  · go_enter Tryz.func95,Tryz.ntmps95
    go_wp2_with (first | (go_at_call 58;refine (wrap_n _ _ _).mono ?_;rintro e w' ⟨rfl,hw⟩;subst w') | (go_at_call 72;refine (nwidth_at 8 8 rfl _).mono ?_;rintro e w' ⟨rfl,hw⟩;subst w') | (go_at_call 112;refine (turn_n _ _ _ _ _ (by omega) (by omega) (by omega)).mono ?_;rintro e w1 ⟨rfl,k1⟩;replace k0:=k0.trans k1;clear k1) | go_in)
    go_ret
    exact ⟨ret_int (shl_neg (k:=8) (by decide) a (by omega)),k0⟩
  · go_enter Tryz.func95,Tryz.ntmps95
    go_wp2_with (first | (go_at_call 58;refine (wrap_n _ _ _).mono ?_;rintro e w' ⟨rfl,hw⟩;subst w') | (go_at_call 72;refine (nwidth_at 8 8 rfl _).mono ?_;rintro e w' ⟨rfl,hw⟩;subst w') | (go_at_call 112;refine (turn_n _ _ _ _ _ (by omega) (by omega) (by omega)).mono ?_;rintro e w1 ⟨rfl,k1⟩;replace k0:=k0.trans k1;clear k1) | go_in)
    go_ret
    exact ⟨ret_int (shl_in (k:=8) (by decide) a (by omega) (show n < 8 by omega)),k0⟩
  · go_enter Tryz.func95,Tryz.ntmps95
    go_wp2_with (first | (go_at_call 58;refine (wrap_n _ _ _).mono ?_;rintro e w' ⟨rfl,hw⟩;subst w') | (go_at_call 72;refine (nwidth_at 8 8 rfl _).mono ?_;rintro e w' ⟨rfl,hw⟩;subst w') | (go_at_call 112;refine (turn_n _ _ _ _ _ (by omega) (by omega) (by omega)).mono ?_;rintro e w1 ⟨rfl,k1⟩;replace k0:=k0.trans k1;clear k1) | go_in)
    go_ret
    exact ⟨ret_int (shl_out8 a (show (8:Int)≤8 by omega)),k0⟩
  · go_enter Tryz.func95,Tryz.ntmps95
    go_wp2_with (first | (go_at_call 58;refine (wrap_n _ _ _).mono ?_;rintro e w' ⟨rfl,hw⟩;subst w') | (go_at_call 72;refine (nwidth_at 8 8 rfl _).mono ?_;rintro e w' ⟨rfl,hw⟩;subst w') | (go_at_call 112;refine (turn_n _ _ _ _ _ (by omega) (by omega) (by omega)).mono ?_;rintro e w1 ⟨rfl,k1⟩;replace k0:=k0.trans k1;clear k1) | go_in)
    go_ret
    exact ⟨ret_int (shl_out8 a (show 8≤n by omega)),k0⟩

set_option maxHeartbeats 2000000 in
theorem sh37_SHR_8 (a n:Int) (w:World):Calls Tryz.prog 95 #[.string ⟨#[83,72,82]⟩,.int .i64 8,.int .i64 a,.int .i64 n] w fun e w'=>e=.returned (.int .i64 (shv tSHR 8 a n))∧Kept w w':=by
  have k0:=Kept.refl w
  have hc:(n < 0) ∨ (0≤n∧n < 8) ∨ (n=8) ∨ (8 < n):=by omega
  rcases hc with h | ⟨h,h2⟩ | rfl | h
  · go_enter Tryz.func95,Tryz.ntmps95
    go_wp2_with (first | (go_at_call 58;refine (wrap_n _ _ _).mono ?_;rintro e w' ⟨rfl,hw⟩;subst w') | (go_at_call 72;refine (nwidth_at 8 8 rfl _).mono ?_;rintro e w' ⟨rfl,hw⟩;subst w') | (go_at_call 112;refine (turn_n _ _ _ _ _ (by omega) (by omega) (by omega)).mono ?_;rintro e w1 ⟨rfl,k1⟩;replace k0:=k0.trans k1;clear k1) | go_in)
    go_ret
    exact ⟨ret_int (shr_neg (k:=8) (by decide) a (by omega)),k0⟩
  · go_enter Tryz.func95,Tryz.ntmps95
    go_wp2_with (first | (go_at_call 58;refine (wrap_n _ _ _).mono ?_;rintro e w' ⟨rfl,hw⟩;subst w') | (go_at_call 72;refine (nwidth_at 8 8 rfl _).mono ?_;rintro e w' ⟨rfl,hw⟩;subst w') | (go_at_call 112;refine (turn_n _ _ _ _ _ (by omega) (by omega) (by omega)).mono ?_;rintro e w1 ⟨rfl,k1⟩;replace k0:=k0.trans k1;clear k1) | go_in)
    go_ret
    exact ⟨ret_int (shr_in (k:=8) (by decide) a (by omega) (show n < 8 by omega)),k0⟩
  · go_enter Tryz.func95,Tryz.ntmps95
    go_wp2_with (first | (go_at_call 58;refine (wrap_n _ _ _).mono ?_;rintro e w' ⟨rfl,hw⟩;subst w') | (go_at_call 72;refine (nwidth_at 8 8 rfl _).mono ?_;rintro e w' ⟨rfl,hw⟩;subst w') | (go_at_call 112;refine (turn_n _ _ _ _ _ (by omega) (by omega) (by omega)).mono ?_;rintro e w1 ⟨rfl,k1⟩;replace k0:=k0.trans k1;clear k1) | go_in)
    go_ret
    exact ⟨ret_int (shr_out8 a (show (8:Int)≤8 by omega)),k0⟩
  · go_enter Tryz.func95,Tryz.ntmps95
    go_wp2_with (first | (go_at_call 58;refine (wrap_n _ _ _).mono ?_;rintro e w' ⟨rfl,hw⟩;subst w') | (go_at_call 72;refine (nwidth_at 8 8 rfl _).mono ?_;rintro e w' ⟨rfl,hw⟩;subst w') | (go_at_call 112;refine (turn_n _ _ _ _ _ (by omega) (by omega) (by omega)).mono ?_;rintro e w1 ⟨rfl,k1⟩;replace k0:=k0.trans k1;clear k1) | go_in)
    go_ret
    exact ⟨ret_int (shr_out8 a (show 8≤n by omega)),k0⟩

set_option maxHeartbeats 2000000 in
theorem sh37_ROL_8 (a n:Int) (w:World):Calls Tryz.prog 95 #[.string ⟨#[82,79,76]⟩,.int .i64 8,.int .i64 a,.int .i64 n] w fun e w'=>e=.returned (.int .i64 (shv tROL 8 a n))∧Kept w w':=by
  have k0:=Kept.refl w
  have hc:(n < 0) ∨ (0≤n):=by omega
  rcases hc with h | h
  · go_enter Tryz.func95,Tryz.ntmps95
    go_wp2_with (first | (go_at_call 58;refine (wrap_n _ _ _).mono ?_;rintro e w' ⟨rfl,hw⟩;subst w') | (go_at_call 72;refine (nwidth_at 8 8 rfl _).mono ?_;rintro e w' ⟨rfl,hw⟩;subst w') | (go_at_call 112;refine (turn_n _ _ _ _ _ (by omega) (by omega) (by omega)).mono ?_;rintro e w1 ⟨rfl,k1⟩;replace k0:=k0.trans k1;clear k1) | go_in)
    go_ret
    exact ⟨ret_int (rol_neg (k:=8) (by decide) a (by omega)),k0⟩
  · go_enter Tryz.func95,Tryz.ntmps95
    go_wp2_with (first | (go_at_call 58;refine (wrap_n _ _ _).mono ?_;rintro e w' ⟨rfl,hw⟩;subst w') | (go_at_call 72;refine (nwidth_at 8 8 rfl _).mono ?_;rintro e w' ⟨rfl,hw⟩;subst w') | (go_at_call 112;refine (turn_n _ _ _ _ _ (by omega) (by omega) (by omega)).mono ?_;rintro e w1 ⟨rfl,k1⟩;replace k0:=k0.trans k1;clear k1) | go_in)
    go_ret
    exact ⟨ret_int (rol_in (k:=8) (by decide) a (by omega)),k0⟩

set_option maxHeartbeats 2000000 in
theorem sh37_ROR_8 (a n:Int) (w:World):Calls Tryz.prog 95 #[.string ⟨#[82,79,82]⟩,.int .i64 8,.int .i64 a,.int .i64 n] w fun e w'=>e=.returned (.int .i64 (shv tROR 8 a n))∧Kept w w':=by
  have k0:=Kept.refl w
  have hc:(n < 0) ∨ (0≤n):=by omega
  rcases hc with h | h
  · go_enter Tryz.func95,Tryz.ntmps95
    go_wp2_with (first | (go_at_call 58;refine (wrap_n _ _ _).mono ?_;rintro e w' ⟨rfl,hw⟩;subst w') | (go_at_call 72;refine (nwidth_at 8 8 rfl _).mono ?_;rintro e w' ⟨rfl,hw⟩;subst w') | (go_at_call 112;refine (turn_n _ _ _ _ _ (by omega) (by omega) (by omega)).mono ?_;rintro e w1 ⟨rfl,k1⟩;replace k0:=k0.trans k1;clear k1) | go_in)
    go_ret
    exact ⟨ret_int (ror_nneg (k:=8) (by decide) a (by omega)),k0⟩
  · go_enter Tryz.func95,Tryz.ntmps95
    go_wp2_with (first | (go_at_call 58;refine (wrap_n _ _ _).mono ?_;rintro e w' ⟨rfl,hw⟩;subst w') | (go_at_call 72;refine (nwidth_at 8 8 rfl _).mono ?_;rintro e w' ⟨rfl,hw⟩;subst w') | (go_at_call 112;refine (turn_n _ _ _ _ _ (by omega) (by omega) (by omega)).mono ?_;rintro e w1 ⟨rfl,k1⟩;replace k0:=k0.trans k1;clear k1) | go_in)
    go_ret
    exact ⟨ret_int (ror_n (k:=8) (by decide) a (by omega)),k0⟩


end Nm
end Go.Proofs.YthjclogkcmomkaaGreatDoor
namespace Go.Proofs.YthjclogkcmomkaaGreatDoor
open Go.RowKit
namespace Nm



set_option maxHeartbeats 2000000 in
theorem sh37_SHL_10 (a n:Int) (w:World):Calls Tryz.prog 95 #[.string ⟨#[83,72,76]⟩,.int .i64 10,.int .i64 a,.int .i64 n] w fun e w'=>e=.returned (.int .i64 (shv tSHL 10 a n))∧Kept w w':=by
  have k0:=Kept.refl w
  have hc:(n < 0) ∨ (0≤n∧n < 32) ∨ (n=32) ∨ (32 < n):=by omega
  rcases hc with h | ⟨h,h2⟩ | rfl | h
  · go_enter Tryz.func95,Tryz.ntmps95
    go_wp2_with (first | (go_at_call 58;refine (wrap_n _ _ _).mono ?_;rintro e w' ⟨rfl,hw⟩;subst w') | (go_at_call 72;refine (nwidth_at 10 32 rfl _).mono ?_;rintro e w' ⟨rfl,hw⟩;subst w') | (go_at_call 112;refine (turn_n _ _ _ _ _ (by omega) (by omega) (by omega)).mono ?_;rintro e w1 ⟨rfl,k1⟩;replace k0:=k0.trans k1;clear k1) | go_in)
    go_ret
    exact ⟨ret_int (shl_neg (k:=10) (by decide) a (by omega)),k0⟩
  · go_enter Tryz.func95,Tryz.ntmps95
    go_wp2_with (first | (go_at_call 58;refine (wrap_n _ _ _).mono ?_;rintro e w' ⟨rfl,hw⟩;subst w') | (go_at_call 72;refine (nwidth_at 10 32 rfl _).mono ?_;rintro e w' ⟨rfl,hw⟩;subst w') | (go_at_call 112;refine (turn_n _ _ _ _ _ (by omega) (by omega) (by omega)).mono ?_;rintro e w1 ⟨rfl,k1⟩;replace k0:=k0.trans k1;clear k1) | go_in)
    go_ret
    exact ⟨ret_int (shl_in (k:=10) (by decide) a (by omega) (show n < 32 by omega)),k0⟩
  · go_enter Tryz.func95,Tryz.ntmps95
    go_wp2_with (first | (go_at_call 58;refine (wrap_n _ _ _).mono ?_;rintro e w' ⟨rfl,hw⟩;subst w') | (go_at_call 72;refine (nwidth_at 10 32 rfl _).mono ?_;rintro e w' ⟨rfl,hw⟩;subst w') | (go_at_call 112;refine (turn_n _ _ _ _ _ (by omega) (by omega) (by omega)).mono ?_;rintro e w1 ⟨rfl,k1⟩;replace k0:=k0.trans k1;clear k1) | go_in)
    go_ret
    exact ⟨ret_int (shl_out10 a (show (32:Int)≤32 by omega)),k0⟩
  · go_enter Tryz.func95,Tryz.ntmps95
    go_wp2_with (first | (go_at_call 58;refine (wrap_n _ _ _).mono ?_;rintro e w' ⟨rfl,hw⟩;subst w') | (go_at_call 72;refine (nwidth_at 10 32 rfl _).mono ?_;rintro e w' ⟨rfl,hw⟩;subst w') | (go_at_call 112;refine (turn_n _ _ _ _ _ (by omega) (by omega) (by omega)).mono ?_;rintro e w1 ⟨rfl,k1⟩;replace k0:=k0.trans k1;clear k1) | go_in)
    go_ret
    exact ⟨ret_int (shl_out10 a (show 32≤n by omega)),k0⟩

set_option maxHeartbeats 2000000 in
theorem sh37_SHR_10 (a n:Int) (w:World):Calls Tryz.prog 95 #[.string ⟨#[83,72,82]⟩,.int .i64 10,.int .i64 a,.int .i64 n] w fun e w'=>e=.returned (.int .i64 (shv tSHR 10 a n))∧Kept w w':=by
  have k0:=Kept.refl w
  have hc:(n < 0) ∨ (0≤n∧n < 32) ∨ (n=32) ∨ (32 < n):=by omega
  rcases hc with h | ⟨h,h2⟩ | rfl | h
  · go_enter Tryz.func95,Tryz.ntmps95
    go_wp2_with (first | (go_at_call 58;refine (wrap_n _ _ _).mono ?_;rintro e w' ⟨rfl,hw⟩;subst w') | (go_at_call 72;refine (nwidth_at 10 32 rfl _).mono ?_;rintro e w' ⟨rfl,hw⟩;subst w') | (go_at_call 112;refine (turn_n _ _ _ _ _ (by omega) (by omega) (by omega)).mono ?_;rintro e w1 ⟨rfl,k1⟩;replace k0:=k0.trans k1;clear k1) | go_in)
    go_ret
    exact ⟨ret_int (shr_neg (k:=10) (by decide) a (by omega)),k0⟩
  · go_enter Tryz.func95,Tryz.ntmps95
    go_wp2_with (first | (go_at_call 58;refine (wrap_n _ _ _).mono ?_;rintro e w' ⟨rfl,hw⟩;subst w') | (go_at_call 72;refine (nwidth_at 10 32 rfl _).mono ?_;rintro e w' ⟨rfl,hw⟩;subst w') | (go_at_call 112;refine (turn_n _ _ _ _ _ (by omega) (by omega) (by omega)).mono ?_;rintro e w1 ⟨rfl,k1⟩;replace k0:=k0.trans k1;clear k1) | go_in)
    go_ret
    exact ⟨ret_int (shr_in (k:=10) (by decide) a (by omega) (show n < 32 by omega)),k0⟩
  · go_enter Tryz.func95,Tryz.ntmps95
    go_wp2_with (first | (go_at_call 58;refine (wrap_n _ _ _).mono ?_;rintro e w' ⟨rfl,hw⟩;subst w') | (go_at_call 72;refine (nwidth_at 10 32 rfl _).mono ?_;rintro e w' ⟨rfl,hw⟩;subst w') | (go_at_call 112;refine (turn_n _ _ _ _ _ (by omega) (by omega) (by omega)).mono ?_;rintro e w1 ⟨rfl,k1⟩;replace k0:=k0.trans k1;clear k1) | go_in)
    go_ret
    exact ⟨ret_int (shr_out10 a (show (32:Int)≤32 by omega)),k0⟩
  · go_enter Tryz.func95,Tryz.ntmps95
    go_wp2_with (first | (go_at_call 58;refine (wrap_n _ _ _).mono ?_;rintro e w' ⟨rfl,hw⟩;subst w') | (go_at_call 72;refine (nwidth_at 10 32 rfl _).mono ?_;rintro e w' ⟨rfl,hw⟩;subst w') | (go_at_call 112;refine (turn_n _ _ _ _ _ (by omega) (by omega) (by omega)).mono ?_;rintro e w1 ⟨rfl,k1⟩;replace k0:=k0.trans k1;clear k1) | go_in)
    go_ret
    exact ⟨ret_int (shr_out10 a (show 32≤n by omega)),k0⟩

set_option maxHeartbeats 2000000 in
theorem sh37_ROL_10 (a n:Int) (w:World):Calls Tryz.prog 95 #[.string ⟨#[82,79,76]⟩,.int .i64 10,.int .i64 a,.int .i64 n] w fun e w'=>e=.returned (.int .i64 (shv tROL 10 a n))∧Kept w w':=by
  have k0:=Kept.refl w
  have hc:(n < 0) ∨ (0≤n):=by omega
  rcases hc with h | h
  · go_enter Tryz.func95,Tryz.ntmps95
    go_wp2_with (first | (go_at_call 58;refine (wrap_n _ _ _).mono ?_;rintro e w' ⟨rfl,hw⟩;subst w') | (go_at_call 72;refine (nwidth_at 10 32 rfl _).mono ?_;rintro e w' ⟨rfl,hw⟩;subst w') | (go_at_call 112;refine (turn_n _ _ _ _ _ (by omega) (by omega) (by omega)).mono ?_;rintro e w1 ⟨rfl,k1⟩;replace k0:=k0.trans k1;clear k1) | go_in)
    go_ret
    exact ⟨ret_int (rol_neg (k:=10) (by decide) a (by omega)),k0⟩
  · go_enter Tryz.func95,Tryz.ntmps95
    go_wp2_with (first | (go_at_call 58;refine (wrap_n _ _ _).mono ?_;rintro e w' ⟨rfl,hw⟩;subst w') | (go_at_call 72;refine (nwidth_at 10 32 rfl _).mono ?_;rintro e w' ⟨rfl,hw⟩;subst w') | (go_at_call 112;refine (turn_n _ _ _ _ _ (by omega) (by omega) (by omega)).mono ?_;rintro e w1 ⟨rfl,k1⟩;replace k0:=k0.trans k1;clear k1) | go_in)
    go_ret
    exact ⟨ret_int (rol_in (k:=10) (by decide) a (by omega)),k0⟩

set_option maxHeartbeats 2000000 in
theorem sh37_ROR_10 (a n:Int) (w:World):Calls Tryz.prog 95 #[.string ⟨#[82,79,82]⟩,.int .i64 10,.int .i64 a,.int .i64 n] w fun e w'=>e=.returned (.int .i64 (shv tROR 10 a n))∧Kept w w':=by
  have k0:=Kept.refl w
  have hc:(n < 0) ∨ (0≤n):=by omega
  rcases hc with h | h
  · go_enter Tryz.func95,Tryz.ntmps95
    go_wp2_with (first | (go_at_call 58;refine (wrap_n _ _ _).mono ?_;rintro e w' ⟨rfl,hw⟩;subst w') | (go_at_call 72;refine (nwidth_at 10 32 rfl _).mono ?_;rintro e w' ⟨rfl,hw⟩;subst w') | (go_at_call 112;refine (turn_n _ _ _ _ _ (by omega) (by omega) (by omega)).mono ?_;rintro e w1 ⟨rfl,k1⟩;replace k0:=k0.trans k1;clear k1) | go_in)
    go_ret
    exact ⟨ret_int (ror_nneg (k:=10) (by decide) a (by omega)),k0⟩
  · go_enter Tryz.func95,Tryz.ntmps95
    go_wp2_with (first | (go_at_call 58;refine (wrap_n _ _ _).mono ?_;rintro e w' ⟨rfl,hw⟩;subst w') | (go_at_call 72;refine (nwidth_at 10 32 rfl _).mono ?_;rintro e w' ⟨rfl,hw⟩;subst w') | (go_at_call 112;refine (turn_n _ _ _ _ _ (by omega) (by omega) (by omega)).mono ?_;rintro e w1 ⟨rfl,k1⟩;replace k0:=k0.trans k1;clear k1) | go_in)
    go_ret
    exact ⟨ret_int (ror_n (k:=10) (by decide) a (by omega)),k0⟩


end Nm
end Go.Proofs.YthjclogkcmomkaaGreatDoor
namespace Go.Proofs.YthjclogkcmomkaaGreatDoor
open Go.RowKit
namespace Nm



theorem not_text {s:ByteArray} {l:List UInt8} (h:¬ s=⟨l.toArray⟩):(s.toList == l)=false:=by
  refine beq_eq_false_iff_ne.2 fun q=>h (text_inj ?_)
  rw [q,ByteArray.toList_mk]
set_option maxHeartbeats 2000000 in
theorem shift_n_none (s:ByteArray) (k a n:Int) (w:World) (hk:¬ (k=8 ∨ k=9 ∨ k=10)):Calls Tryz.prog 95 #[.string s,.int .i64 k,.int .i64 a,.int .i64 n] w fun e w'=>e=.returned (.int .i64 0)∧Kept w w':=by
  have k8:(k == 8)=false:=by simp;omega
  have k9:(k == 9)=false:=by simp;omega
  have k10:(k == 10)=false:=by simp;omega
  go_enter Tryz.func95,Tryz.ntmps95
  go_wp2
  go_ret
  exact ⟨rfl,Kept.refl _⟩

set_option maxHeartbeats 2000000 in
theorem shift_n_other8 (s:ByteArray) (a n:Int) (w:World) (h1:(s.toList == [83,72,76])=false) (h2:(s.toList == [83,72,82])=false) (h3:(s.toList == [82,79,76])=false) (h4:(s.toList == [82,79,82])=false):Calls Tryz.prog 95 #[.string s,.int .i64 8,.int .i64 a,.int .i64 n] w fun e w'=>e=.returned (.int .i64 0)∧Kept w w':=by
  have k0:=Kept.refl w
  go_enter Tryz.func95,Tryz.ntmps95
  go_wp2_with (first | (go_at_call 58;refine (wrap_n _ _ _).mono ?_;rintro e w' ⟨rfl,hw⟩;subst w') | (go_at_call 72;refine (nwidth_at 8 8 rfl _).mono ?_;rintro e w' ⟨rfl,hw⟩;subst w') | go_in)
  all_goals go_ret
  all_goals exact ⟨rfl,k0⟩

set_option maxHeartbeats 2000000 in
theorem shift_n_other9 (s:ByteArray) (a n:Int) (w:World) (h1:(s.toList == [83,72,76])=false) (h2:(s.toList == [83,72,82])=false) (h3:(s.toList == [82,79,76])=false) (h4:(s.toList == [82,79,82])=false):Calls Tryz.prog 95 #[.string s,.int .i64 9,.int .i64 a,.int .i64 n] w fun e w'=>e=.returned (.int .i64 0)∧Kept w w':=by
  have k0:=Kept.refl w
  go_enter Tryz.func95,Tryz.ntmps95
  go_wp2_with (first | (go_at_call 58;refine (wrap_n _ _ _).mono ?_;rintro e w' ⟨rfl,hw⟩;subst w') | (go_at_call 72;refine (nwidth_at 9 16 rfl _).mono ?_;rintro e w' ⟨rfl,hw⟩;subst w') | go_in)
  all_goals go_ret
  all_goals exact ⟨rfl,k0⟩

set_option maxHeartbeats 2000000 in
theorem shift_n_other10 (s:ByteArray) (a n:Int) (w:World) (h1:(s.toList == [83,72,76])=false) (h2:(s.toList == [83,72,82])=false) (h3:(s.toList == [82,79,76])=false) (h4:(s.toList == [82,79,82])=false):Calls Tryz.prog 95 #[.string s,.int .i64 10,.int .i64 a,.int .i64 n] w fun e w'=>e=.returned (.int .i64 0)∧Kept w w':=by
  have k0:=Kept.refl w
  go_enter Tryz.func95,Tryz.ntmps95
  go_wp2_with (first | (go_at_call 58;refine (wrap_n _ _ _).mono ?_;rintro e w' ⟨rfl,hw⟩;subst w') | (go_at_call 72;refine (nwidth_at 10 32 rfl _).mono ?_;rintro e w' ⟨rfl,hw⟩;subst w') | go_in)
  all_goals go_ret
  all_goals exact ⟨rfl,k0⟩

theorem shift_n (s:ByteArray) (k a n:Int) (w:World):Calls Tryz.prog 95 #[.string s,.int .i64 k,.int .i64 a,.int .i64 n] w fun e w'=>e=.returned (.int .i64 (shv s k a n))∧Kept w w':=by
  by_cases hk:k=8 ∨ k=9 ∨ k=10
  · by_cases h1:s=tSHL
    · subst h1
      rcases hk with rfl | rfl | rfl
      · exact sh37_SHL_8 a n w
      · exact sh37_SHL_9 a n w
      · exact sh37_SHL_10 a n w
    by_cases h2:s=tSHR
    · subst h2
      rcases hk with rfl | rfl | rfl
      · exact sh37_SHR_8 a n w
      · exact sh37_SHR_9 a n w
      · exact sh37_SHR_10 a n w
    by_cases h3:s=tROL
    · subst h3
      rcases hk with rfl | rfl | rfl
      · exact sh37_ROL_8 a n w
      · exact sh37_ROL_9 a n w
      · exact sh37_ROL_10 a n w
    by_cases h4:s=tROR
    · subst h4
      rcases hk with rfl | rfl | rfl
      · exact sh37_ROR_8 a n w
      · exact sh37_ROR_9 a n w
      · exact sh37_ROR_10 a n w
    rw [shv_other h1 h2 h3 h4]
    have e1:=not_text h1
    have e2:=not_text h2
    have e3:=not_text h3
    have e4:=not_text h4
    rcases hk with rfl | rfl | rfl
    · exact shift_n_other8 s a n w e1 e2 e3 e4
    · exact shift_n_other9 s a n w e1 e2 e3 e4
    · exact shift_n_other10 s a n w e1 e2 e3 e4
  · rw [shv_none s hk]
    exact shift_n_none s k a n w hk

end Nm
end Go.Proofs.YthjclogkcmomkaaGreatDoor
