/- The walks of num: wraps (stage 21, after stage 1). · The machine in plain mathematics (stage 21). · The turn of bits (stage 21, after stage 1). · Bits moved (stage 21, after stage 1). -/
import Derived.WalkKit
import Derived.WalkSpells
import Derived.WalkLawsBesides
import Derived.Deep.QuietTactic
import Derived.BigQuiet
import Derived.Test.YthjclogkcmomkaaGreatDoorQ1
import Derived.Test.YthjclogkcmomkaaGreatDoorQ11
import Derived.Test.YthjclogkcmomkaaGreatDoorQ12
namespace Go.Proofs.YthjclogkcmomkaaGreatDoor
open Go.RowKit
namespace Nm



set_option maxHeartbeats 2000000 in
theorem scalar_n (k:Int) (w:World):Calls Tryz.prog 70 #[.int .i64 k] w fun e w'=>e=.returned (.bool (sc k))∧w'=w:=by
  rcases kind_cases k with rfl | rfl | rfl | rfl | rfl | rfl | rfl | rfl | rfl | rfl | rfl | h | h
  all_goals
    go_enter Tryz.func70,Tryz.ntmps70
    go_wp2
    go_ret
  all_goals first | exact ⟨rfl,rfl⟩ | exact ⟨ret_bool (sc_none (by omega)).symm,rfl⟩

set_option maxHeartbeats 2000000 in
theorem width_n (k:Int) (w:World):Calls Tryz.prog 72 #[.int .i64 k] w fun e w'=>e=.returned (.int .i64 (wd k))∧w'=w:=by
  rcases kind_cases k with rfl | rfl | rfl | rfl | rfl | rfl | rfl | rfl | rfl | rfl | rfl | h | h
  all_goals
    go_enter Tryz.func72,Tryz.ntmps72
    go_wp2
    go_ret
  all_goals first | exact ⟨rfl,rfl⟩ | exact ⟨ret_int (wd_none (by omega)).symm,rfl⟩




set_option maxHeartbeats 1000000 in
theorem wrap_n (k n:Int) (w:World):Calls Tryz.prog 58 #[.int .i64 k,.int .i64 n] w fun e w'=>e=.returned (.int .i64 (wr k n))∧w'=w:=by
  rcases kind_cases k with rfl | rfl | rfl | rfl | rfl | rfl | rfl | rfl | rfl | rfl | rfl | h | h
  · by_cases h:n=0
    · subst h
      go_enter Tryz.func58,Tryz.ntmps58
      go_wp2
      go_ret
      exact ⟨rfl,rfl⟩
    · go_enter Tryz.func58,Tryz.ntmps58
      go_wp2
      go_ret
      exact ⟨ret_int (show (1:Int)=wr 1 n by unfold wr;rw [if_pos rfl,if_neg h]),rfl⟩
  all_goals
    go_enter Tryz.func58,Tryz.ntmps58
    go_wp2
    go_ret
  all_goals first | exact ⟨ret_int (s8 n),rfl⟩ | exact ⟨ret_int (s16 n),rfl⟩ | exact ⟨ret_int (s32 n),rfl⟩ | exact ⟨ret_int (u8 n),rfl⟩ | exact ⟨ret_int (u16 n),rfl⟩ | exact ⟨ret_int (u32 n),rfl⟩ | exact ⟨ret_int (wr_none (by omega) n).symm,rfl⟩




theorem scalar_at (k:Int) (b:Bool) (h:sc k=b) (w:World):Calls Tryz.prog 70 #[.int .i64 k] w fun e w'=>e=.returned (.bool b)∧w'=w:=by
  subst h;exact scalar_n k w
theorem truth_n (b:Bool) (w:World):Calls Tryz.prog 71 #[.bool b] w fun e w'=>e=.returned (.int .i64 (tr b))∧w'=w:=by
  cases b
  all_goals
    go_enter Tryz.func71,Tryz.ntmps71
    go_wp2
    go_ret
    exact ⟨rfl,rfl⟩

set_option maxHeartbeats 2000000 in
theorem apply_none (op k a b:Int) (w:World) (hk:sc k=false):Calls Tryz.prog 94 #[.int .i64 op,.int .i64 k,.int .i64 a,.int .i64 b] w fun e w'=>e=.returned (.tuple #[.int .i64 0,.int .i64 0])∧w'=w:=by
  go_enter Tryz.func94,Tryz.ntmps94
  go_wp2_with (go_at_call 70;refine (scalar_at _ _ hk _).mono ?_;rintro e w' ⟨rfl,rfl⟩)
  go_ret2
  exact ⟨rfl,rfl⟩

set_option maxHeartbeats 2000000 in
theorem apply_op (op k a b:Int) (w:World) (hk:sc k=true):Calls Tryz.prog 94 #[.int .i64 op,.int .i64 k,.int .i64 a,.int .i64 b] w fun e w'=>e=.returned (.tuple #[.int .i64 (opv op k (wr k a) (wr k b)),.int .i64 (opf op (wr k b))])∧w'=w:=by
  rcases op_cases op with rfl | rfl | rfl | rfl | rfl | rfl | rfl | rfl | rfl | rfl | rfl | rfl | rfl | rfl | h | h
  case' inr.inl=>by_cases hz:wr k b=0
  case' inr.inr.inl=>by_cases hz:wr k b=0
  all_goals
    go_enter Tryz.func94,Tryz.ntmps94
    go_wp2_with (first | (go_at_call 70;refine (scalar_at _ _ hk _).mono ?_;rintro e w' ⟨rfl,rfl⟩) | (go_at_call 58;refine (wrap_n _ _ _).mono ?_;rintro e w' ⟨rfl,rfl⟩) | (go_at_call 71;refine (truth_n _ _).mono ?_;rintro e w' ⟨rfl,rfl⟩) | go_in)
    go_ret2
  all_goals first | exact ⟨ret_two rfl rfl,rfl⟩ | exact ⟨ret_two (by rw [hz];rfl) (by rw [hz];rfl),rfl⟩ | exact ⟨ret_two (opv_div hz _ _).symm (opf_not hz).symm,rfl⟩ | exact ⟨ret_two (opv_mod hz _ _).symm (opf_not hz).symm,rfl⟩ | exact ⟨ret_two ((wr_zero k).trans (opv_none (by omega) _ _ _).symm) (opf_none (by omega) _).symm,rfl⟩ | exact ⟨ret_two (opv_none (by omega) _ _ _).symm (opf_none (by omega) _).symm,rfl⟩

theorem apply_n (op k a b:Int) (w:World):Calls Tryz.prog 94 #[.int .i64 op,.int .i64 k,.int .i64 a,.int .i64 b] w fun e w'=>e=.returned (.tuple #[.int .i64 (apv op k a b),.int .i64 (apf op k b)])∧w'=w:=by
  cases hk:sc k
  · refine (apply_none op k a b w hk).mono fun e w' h=>⟨h.1.trans (ret_two ?_ ?_),h.2⟩
    · unfold apv;rw [hk];rfl
    · unfold apf;rw [hk];rfl
  · refine (apply_op op k a b w hk).mono fun e w' h=>⟨h.1.trans (ret_two ?_ ?_),h.2⟩
    · unfold apv;rw [hk];rfl
    · unfold apf;rw [hk];rfl
set_option maxHeartbeats 2000000 in
theorem neg_n (k a:Int) (w:World):Calls Tryz.prog 90 #[.int .i64 k,.int .i64 a] w fun e w'=>e=.returned (.int .i64 (ngv k a))∧w'=w:=by
  go_enter Tryz.func90,Tryz.ntmps90
  go_wp2_with (go_at_call 58;refine (wrap_n _ _ _).mono ?_;rintro e w' ⟨rfl,rfl⟩)
  go_ret
  exact ⟨rfl,rfl⟩
set_option maxHeartbeats 2000000 in
theorem not_call_n (k a:Int) (w:World):Calls Tryz.prog 91 #[.int .i64 k,.int .i64 a] w fun e w'=>e=.returned (.int .i64 (ntv k a))∧w'=w:=by
  by_cases hk1:k=1
  · subst hk1
    go_enter Tryz.func91,Tryz.ntmps91
    go_wp2_with (first | (go_at_call 58;refine (wrap_n _ _ _).mono ?_;rintro e w' ⟨rfl,rfl⟩) | (go_at_call 71;refine (truth_n _ _).mono ?_;rintro e w' ⟨rfl,rfl⟩))
    go_ret
    exact ⟨rfl,rfl⟩
  · go_enter Tryz.func91,Tryz.ntmps91
    go_wp2_with (first | (go_at_call 58;refine (wrap_n _ _ _).mono ?_;rintro e w' ⟨rfl,rfl⟩) | (go_at_call 71;refine (truth_n _ _).mono ?_;rintro e w' ⟨rfl,rfl⟩))
    go_ret
    exact ⟨ret_int (not_n k a hk1),rfl⟩
end Nm
end Go.Proofs.YthjclogkcmomkaaGreatDoor
namespace Go.Proofs.YthjclogkcmomkaaGreatDoor
open Go.RowKit
open Fb Cod Nm
namespace Vmx
/-- Where a scan stands: the next instruction, the cells, the stack (the last number first), the steps. -/
structure St where
  pc:Nat
  cs:List Int
  sk:List Int
  st:Nat
structure Res where
  s:St
  f:Option Int
abbrev Res.go (s:St):Res:=⟨s,none⟩
abbrev Res.stop (s:St) (f:Int):Res:=⟨s,some f⟩
theorem Res.go_eq (s t:St):(Res.go s=Res.go t)=(s=t):=by simp
theorem Res.stop_eq (s t:St) (f g:Int):(Res.stop s f=Res.stop t g)=(s=t∧f=g):=by simp
/-- The number of a block's name. -/
def kno (s:ByteArray):Nat:=(List.range 10).findIdx (fun k=>s.toList == nml k)
def nI (k:Nat):Nat:=(pI k).length
def nO (k:Nat):Nat:=(pO k).length
/-- A block's call over the cells from a on. -/
def rsAt (k:Nat) (cs:List Int) (a:Nat) (now:Int):Rs :=
  stp k ((cs.drop a).take (nI k)) ((cs.drop (a+nI k)).take (nO k)) (cs.getD (a+nI k+nO k) 0) (cs.getD (a+nI k+nO k+1) 0) (cs.getD (a+nI k+nO k+2) 0) now
def lay (cs:List Int) (a:Nat) (l:List Int):List Int:=cs.take a ++ l ++ cs.drop (a+l.length)
def cal (k:Nat) (cs:List Int) (a:Nat) (now:Int):List Int :=
  lay cs (a+nI k) ((rsAt k cs a now).o ++ [(rsAt k cs a now).k0,(rsAt k cs a now).k1,(rsAt k cs a now).k2])
def absv (k a:Int):Int:=if wr k a < 0 then ngv k (wr k a) else wr k a
def outb (x:Ins) (a:Int):Bool:=decide (a < x.c) || decide (x.c+x.b - 1 < a)
abbrev cl (x:Ins) (a:Int):Nat:=x.a.toNat+(a - x.c).toNat
/-- One instruction. -/
def ex1 (K:List Int) (now most:Int) (x:Ins) (s:St):Res :=
  match x.op.toNat with
  | 1=>.go ⟨s.pc+1,s.cs,wr x.a x.c :: s.sk,s.st⟩
  | 2=>.go ⟨s.pc+1,s.cs,s.cs.getD x.a.toNat 0 :: s.sk,s.st⟩
  | 3=>.go ⟨s.pc+1,s.cs.set x.a.toNat (wr (K.getD x.a.toNat 0) (s.sk.getD 0 0)),s.sk.drop 1,s.st⟩
  | 4=>if outb x (s.sk.getD 0 0) then .stop s 2 else .go ⟨s.pc+1,s.cs,s.cs.getD (cl x (s.sk.getD 0 0)) 0 :: s.sk.drop 1,s.st⟩
  | 5=>if outb x (s.sk.getD 0 0) then .stop s 2 else .go ⟨s.pc+1,s.cs,s.sk.getD 0 0 :: s.sk.drop 1,s.st⟩
  | 6=>if outb x (s.sk.getD 1 0) then .stop s 2 else .go ⟨s.pc+1,s.cs.set (cl x (s.sk.getD 1 0)) (wr (K.getD (cl x (s.sk.getD 1 0)) 0) (s.sk.getD 0 0)),s.sk.drop 2,s.st⟩
  | 7=>.go ⟨s.pc+1,s.cs,ngv x.a (s.sk.getD 0 0) :: s.sk.drop 1,s.st⟩
  | 8=>.go ⟨s.pc+1,s.cs,ntv x.a (s.sk.getD 0 0) :: s.sk.drop 1,s.st⟩
  | 9=>if apf x.b x.a (s.sk.getD 0 0)=0 then .go ⟨s.pc+1,s.cs,apv x.b x.a (s.sk.getD 1 0) (s.sk.getD 0 0) :: s.sk.drop 2,s.st⟩ else .stop s (apf x.b x.a (s.sk.getD 0 0))
  | 10=>.go ⟨s.pc+1,s.cs,wr x.b (wr x.a (s.sk.getD 0 0)) :: s.sk.drop 1,s.st⟩
  | 11=>.go ⟨s.pc+1,s.cs,shv x.name x.a (s.sk.getD 1 0) (s.sk.getD 0 0) :: s.sk.drop 2,s.st⟩
  | 12=>.go ⟨s.pc+1,s.cs,absv x.a (s.sk.getD 0 0) :: s.sk.drop 1,s.st⟩
  | 13=>.go ⟨s.pc+1,s.cs,min (s.sk.getD 1 0) (s.sk.getD 0 0) :: s.sk.drop 2,s.st⟩
  | 14=>.go ⟨s.pc+1,s.cs,max (s.sk.getD 1 0) (s.sk.getD 0 0) :: s.sk.drop 2,s.st⟩
  | 15=>.go ⟨s.pc+1,s.cs,(if s.sk.getD 2 0=0 then s.sk.getD 1 0 else s.sk.getD 0 0) :: s.sk.drop 3,s.st⟩
  | 16=>.go ⟨s.pc+1,s.cs,s.sk.getD 0 0 :: s.sk,s.st⟩
  | 17=>.go ⟨s.pc+1,s.cs,s.sk.drop 1,s.st⟩
  | 18=>.go ⟨x.a.toNat,s.cs,s.sk,s.st⟩
  | 19=>.go ⟨if s.sk.getD 0 0=0 then x.a.toNat else s.pc+1,s.cs,s.sk.drop 1,s.st⟩
  | 20=>.go ⟨if s.sk.getD 0 0=0 then s.pc+1 else x.a.toNat,s.cs,s.sk.drop 1,s.st⟩
  | 21=>if most≤(s.st:Int) then .stop s 3 else .go ⟨s.pc+1,s.cs,s.sk,s.st+1⟩
  | 22=>.go ⟨s.pc+1,cal (kno x.name) s.cs x.a.toNat now,s.sk,s.st⟩
  | 24=>.go ⟨s.pc+1,s.cs,s.sk.getD x.a.toNat 0 :: s.sk,s.st⟩
  | _=>.stop s 0
/-- So many instructions. -/
def exn (K:List Int) (L:List Ins) (now most:Int):Nat→St→St × Int
  | 0,s=>(s,3)
  | n+1,s=>match L[s.pc]? with
    | none=>(s,0)
    | some x=>match ex1 K now most x s with
      | ⟨t,none⟩=>exn K L now most n t
      | ⟨t,some f⟩=>(t,f)
/-- What a scan stands on: it was come to; the cells are as many as there are kinds; small numbers. -/
def sml (x:Int):Prop:=-2147483648≤x∧x≤4294967295
structure Okv (K:List Int) (L:List Ins) (s:St):Prop where
  reach:Cod.Reach L (s.pc,s.sk.length)
  len:s.cs.length=K.length
  csm:∀ x,x ∈ s.cs→sml x
  ssm:∀ x,x ∈ s.sk→sml x
end Vmx
end Go.Proofs.YthjclogkcmomkaaGreatDoor
namespace Go.Proofs.YthjclogkcmomkaaGreatDoor
open Go.RowKit
namespace Nm
theorem nwidth_at (k v:Int) (h:wd k=v) (w:World):Calls Tryz.prog 72 #[.int .i64 k] w fun e w'=>e=.returned (.int .i64 v)∧w'=w:=by
  subst h;exact width_n k w



theorem kept_draws {a w:World} (h:Kept a w) (n:Nat):Kept a (w.drewN n):=⟨h.os,h.tape,h.output,h.size,h.block⟩
set_option maxHeartbeats 2000000 in
theorem turn_n (k x m W:Int) (w:World) (h0:0≤m) (h1:m≤W) (h2:W≤32):Calls Tryz.prog 112 #[.int .i64 k,.int .i64 x,.int .i64 m,.int .i64 W] w fun e w'=>e=.returned (.int .i64 (wr k (bits .or .i64 (wrap64 (x * 2 ^ m.toNat)) (x / 2 ^ (W - m).toNat))))∧Kept w w':=by
  go_enter Tryz.func112,Tryz.ntmps112
  go_wp2_with fail
  go_quiet ((go_at_call 58;exact Calls.quiet_of_same (wrap_n _ _ _)))
  go_wp2
  go_ret
  exact ⟨rfl,kept_draws (Kept.refl _) nq⟩


end Nm
end Go.Proofs.YthjclogkcmomkaaGreatDoor
namespace Go.Proofs.YthjclogkcmomkaaGreatDoor
open Go.RowKit
namespace Nm



set_option maxHeartbeats 2000000 in
theorem sh37_SHL_9 (a n:Int) (w:World):Calls Tryz.prog 95 #[.string ⟨#[83,72,76]⟩,.int .i64 9,.int .i64 a,.int .i64 n] w fun e w'=>e=.returned (.int .i64 (shv tSHL 9 a n))∧Kept w w':=by
  have k0:=Kept.refl w
  have hc:(n < 0) ∨ (0≤n∧n < 16) ∨ (n=16) ∨ (16 < n):=by omega
  rcases hc with h | ⟨h,h2⟩ | rfl | h
  · go_enter Tryz.func95,Tryz.ntmps95
    go_wp2_with (first | (go_at_call 58;refine (wrap_n _ _ _).mono ?_;rintro e w' ⟨rfl,hw⟩;subst w') | (go_at_call 72;refine (nwidth_at 9 16 rfl _).mono ?_;rintro e w' ⟨rfl,hw⟩;subst w') | (go_at_call 112;refine (turn_n _ _ _ _ _ (by omega) (by omega) (by omega)).mono ?_;rintro e w1 ⟨rfl,k1⟩;replace k0:=k0.trans k1;clear k1) | go_in)
    go_ret
    exact ⟨ret_int (shl_neg (k:=9) (by decide) a (by omega)),k0⟩
  · go_enter Tryz.func95,Tryz.ntmps95
    go_wp2_with (first | (go_at_call 58;refine (wrap_n _ _ _).mono ?_;rintro e w' ⟨rfl,hw⟩;subst w') | (go_at_call 72;refine (nwidth_at 9 16 rfl _).mono ?_;rintro e w' ⟨rfl,hw⟩;subst w') | (go_at_call 112;refine (turn_n _ _ _ _ _ (by omega) (by omega) (by omega)).mono ?_;rintro e w1 ⟨rfl,k1⟩;replace k0:=k0.trans k1;clear k1) | go_in)
    go_ret
    exact ⟨ret_int (shl_in (k:=9) (by decide) a (by omega) (show n < 16 by omega)),k0⟩
  · go_enter Tryz.func95,Tryz.ntmps95
    go_wp2_with (first | (go_at_call 58;refine (wrap_n _ _ _).mono ?_;rintro e w' ⟨rfl,hw⟩;subst w') | (go_at_call 72;refine (nwidth_at 9 16 rfl _).mono ?_;rintro e w' ⟨rfl,hw⟩;subst w') | (go_at_call 112;refine (turn_n _ _ _ _ _ (by omega) (by omega) (by omega)).mono ?_;rintro e w1 ⟨rfl,k1⟩;replace k0:=k0.trans k1;clear k1) | go_in)
    go_ret
    exact ⟨ret_int (shl_out9 a (show (16:Int)≤16 by omega)),k0⟩
  · go_enter Tryz.func95,Tryz.ntmps95
    go_wp2_with (first | (go_at_call 58;refine (wrap_n _ _ _).mono ?_;rintro e w' ⟨rfl,hw⟩;subst w') | (go_at_call 72;refine (nwidth_at 9 16 rfl _).mono ?_;rintro e w' ⟨rfl,hw⟩;subst w') | (go_at_call 112;refine (turn_n _ _ _ _ _ (by omega) (by omega) (by omega)).mono ?_;rintro e w1 ⟨rfl,k1⟩;replace k0:=k0.trans k1;clear k1) | go_in)
    go_ret
    exact ⟨ret_int (shl_out9 a (show 16≤n by omega)),k0⟩

set_option maxHeartbeats 2000000 in
theorem sh37_SHR_9 (a n:Int) (w:World):Calls Tryz.prog 95 #[.string ⟨#[83,72,82]⟩,.int .i64 9,.int .i64 a,.int .i64 n] w fun e w'=>e=.returned (.int .i64 (shv tSHR 9 a n))∧Kept w w':=by
  have k0:=Kept.refl w
  have hc:(n < 0) ∨ (0≤n∧n < 16) ∨ (n=16) ∨ (16 < n):=by omega
  rcases hc with h | ⟨h,h2⟩ | rfl | h
  · go_enter Tryz.func95,Tryz.ntmps95
    go_wp2_with (first | (go_at_call 58;refine (wrap_n _ _ _).mono ?_;rintro e w' ⟨rfl,hw⟩;subst w') | (go_at_call 72;refine (nwidth_at 9 16 rfl _).mono ?_;rintro e w' ⟨rfl,hw⟩;subst w') | (go_at_call 112;refine (turn_n _ _ _ _ _ (by omega) (by omega) (by omega)).mono ?_;rintro e w1 ⟨rfl,k1⟩;replace k0:=k0.trans k1;clear k1) | go_in)
    go_ret
    exact ⟨ret_int (shr_neg (k:=9) (by decide) a (by omega)),k0⟩
  · go_enter Tryz.func95,Tryz.ntmps95
    go_wp2_with (first | (go_at_call 58;refine (wrap_n _ _ _).mono ?_;rintro e w' ⟨rfl,hw⟩;subst w') | (go_at_call 72;refine (nwidth_at 9 16 rfl _).mono ?_;rintro e w' ⟨rfl,hw⟩;subst w') | (go_at_call 112;refine (turn_n _ _ _ _ _ (by omega) (by omega) (by omega)).mono ?_;rintro e w1 ⟨rfl,k1⟩;replace k0:=k0.trans k1;clear k1) | go_in)
    go_ret
    exact ⟨ret_int (shr_in (k:=9) (by decide) a (by omega) (show n < 16 by omega)),k0⟩
  · go_enter Tryz.func95,Tryz.ntmps95
    go_wp2_with (first | (go_at_call 58;refine (wrap_n _ _ _).mono ?_;rintro e w' ⟨rfl,hw⟩;subst w') | (go_at_call 72;refine (nwidth_at 9 16 rfl _).mono ?_;rintro e w' ⟨rfl,hw⟩;subst w') | (go_at_call 112;refine (turn_n _ _ _ _ _ (by omega) (by omega) (by omega)).mono ?_;rintro e w1 ⟨rfl,k1⟩;replace k0:=k0.trans k1;clear k1) | go_in)
    go_ret
    exact ⟨ret_int (shr_out9 a (show (16:Int)≤16 by omega)),k0⟩
  · go_enter Tryz.func95,Tryz.ntmps95
    go_wp2_with (first | (go_at_call 58;refine (wrap_n _ _ _).mono ?_;rintro e w' ⟨rfl,hw⟩;subst w') | (go_at_call 72;refine (nwidth_at 9 16 rfl _).mono ?_;rintro e w' ⟨rfl,hw⟩;subst w') | (go_at_call 112;refine (turn_n _ _ _ _ _ (by omega) (by omega) (by omega)).mono ?_;rintro e w1 ⟨rfl,k1⟩;replace k0:=k0.trans k1;clear k1) | go_in)
    go_ret
    exact ⟨ret_int (shr_out9 a (show 16≤n by omega)),k0⟩

set_option maxHeartbeats 2000000 in
theorem sh37_ROL_9 (a n:Int) (w:World):Calls Tryz.prog 95 #[.string ⟨#[82,79,76]⟩,.int .i64 9,.int .i64 a,.int .i64 n] w fun e w'=>e=.returned (.int .i64 (shv tROL 9 a n))∧Kept w w':=by
  have k0:=Kept.refl w
  have hc:(n < 0) ∨ (0≤n):=by omega
  rcases hc with h | h
  · go_enter Tryz.func95,Tryz.ntmps95
    go_wp2_with (first | (go_at_call 58;refine (wrap_n _ _ _).mono ?_;rintro e w' ⟨rfl,hw⟩;subst w') | (go_at_call 72;refine (nwidth_at 9 16 rfl _).mono ?_;rintro e w' ⟨rfl,hw⟩;subst w') | (go_at_call 112;refine (turn_n _ _ _ _ _ (by omega) (by omega) (by omega)).mono ?_;rintro e w1 ⟨rfl,k1⟩;replace k0:=k0.trans k1;clear k1) | go_in)
    go_ret
    exact ⟨ret_int (rol_neg (k:=9) (by decide) a (by omega)),k0⟩
  · go_enter Tryz.func95,Tryz.ntmps95
    go_wp2_with (first | (go_at_call 58;refine (wrap_n _ _ _).mono ?_;rintro e w' ⟨rfl,hw⟩;subst w') | (go_at_call 72;refine (nwidth_at 9 16 rfl _).mono ?_;rintro e w' ⟨rfl,hw⟩;subst w') | (go_at_call 112;refine (turn_n _ _ _ _ _ (by omega) (by omega) (by omega)).mono ?_;rintro e w1 ⟨rfl,k1⟩;replace k0:=k0.trans k1;clear k1) | go_in)
    go_ret
    exact ⟨ret_int (rol_in (k:=9) (by decide) a (by omega)),k0⟩

set_option maxHeartbeats 2000000 in
theorem sh37_ROR_9 (a n:Int) (w:World):Calls Tryz.prog 95 #[.string ⟨#[82,79,82]⟩,.int .i64 9,.int .i64 a,.int .i64 n] w fun e w'=>e=.returned (.int .i64 (shv tROR 9 a n))∧Kept w w':=by
  have k0:=Kept.refl w
  have hc:(n < 0) ∨ (0≤n):=by omega
  rcases hc with h | h
  · go_enter Tryz.func95,Tryz.ntmps95
    go_wp2_with (first | (go_at_call 58;refine (wrap_n _ _ _).mono ?_;rintro e w' ⟨rfl,hw⟩;subst w') | (go_at_call 72;refine (nwidth_at 9 16 rfl _).mono ?_;rintro e w' ⟨rfl,hw⟩;subst w') | (go_at_call 112;refine (turn_n _ _ _ _ _ (by omega) (by omega) (by omega)).mono ?_;rintro e w1 ⟨rfl,k1⟩;replace k0:=k0.trans k1;clear k1) | go_in)
    go_ret
    exact ⟨ret_int (ror_nneg (k:=9) (by decide) a (by omega)),k0⟩
  · go_enter Tryz.func95,Tryz.ntmps95
    go_wp2_with (first | (go_at_call 58;refine (wrap_n _ _ _).mono ?_;rintro e w' ⟨rfl,hw⟩;subst w') | (go_at_call 72;refine (nwidth_at 9 16 rfl _).mono ?_;rintro e w' ⟨rfl,hw⟩;subst w') | (go_at_call 112;refine (turn_n _ _ _ _ _ (by omega) (by omega) (by omega)).mono ?_;rintro e w1 ⟨rfl,k1⟩;replace k0:=k0.trans k1;clear k1) | go_in)
    go_ret
    exact ⟨ret_int (ror_n (k:=9) (by decide) a (by omega)),k0⟩


end Nm
end Go.Proofs.YthjclogkcmomkaaGreatDoor
