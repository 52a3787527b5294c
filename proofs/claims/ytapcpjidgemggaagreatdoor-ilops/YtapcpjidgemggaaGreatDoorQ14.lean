/- Whether a text, or a number, is one of some: the library's Contains, by its contracts (stage 14). -/
import Derived.Test.YtapcpjidgemggaaGreatDoorProg
import Derived.Shelf.Slices.Turned
import Derived.KernelRfl
namespace Go.Proofs.YtapcpjidgemggaaGreatDoor
open Go.Shelf
/-- Which numbers of ours the library's names have. -/
def renC:Ren where
  f:=fun
    | 109=>151
    | 110=>121
    | 107=>83
    | 108=>126
    | n=>n
  t:=fun
    | 0=>0
    | 3=>3
    | 4=>4
    | 9=>9
    | 31=>23
    | 28=>148
    | n=>n
  g:=fun
    | n=>n
theorem renC_n110:Lays.n110 Tryz.prog renC where
  mixed:=by kernel_rfl
  f109:=Tryz.func151.trans (congrArg some (by kernel_rfl))
  f110:=Tryz.func121.trans (congrArg some (by kernel_rfl))
  t0:=by kernel_rfl
  a0:=fun w=>by kernel_rfl
  z0:=fun w=>by kernel_rfl
  v0:=fun w=>by kernel_rfl
  t3:=by kernel_rfl
  a3:=fun w=>by kernel_rfl
  z3:=fun w=>by kernel_rfl
  v3:=fun w=>by kernel_rfl
  t4:=by kernel_rfl
  a4:=fun w=>by kernel_rfl
  z4:=fun w=>by kernel_rfl
  v4:=fun w=>by kernel_rfl
  t9:=by kernel_rfl
  a9:=fun w=>by kernel_rfl
  z9:=fun w=>by kernel_rfl
  v9:=fun w=>by kernel_rfl
  t31:=by kernel_rfl
  a31:=fun w=>by kernel_rfl
  z31:=fun w=>by kernel_rfl
  v31:=fun w=>by kernel_rfl
theorem renC_n107:Lays.n107 Tryz.prog renC where
  mixed:=by kernel_rfl
  f107:=Tryz.func83.trans (congrArg some (by kernel_rfl))
  f108:=Tryz.func126.trans (congrArg some (by kernel_rfl))
  t0:=by kernel_rfl
  a0:=fun w=>by kernel_rfl
  z0:=fun w=>by kernel_rfl
  v0:=fun w=>by kernel_rfl
  t3:=by kernel_rfl
  a3:=fun w=>by kernel_rfl
  z3:=fun w=>by kernel_rfl
  v3:=fun w=>by kernel_rfl
  t4:=by kernel_rfl
  a4:=fun w=>by kernel_rfl
  z4:=fun w=>by kernel_rfl
  v4:=fun w=>by kernel_rfl
  t28:=by kernel_rfl
  a28:=fun w=>by kernel_rfl
  z28:=fun w=>by kernel_rfl
  v28:=fun w=>by kernel_rfl
theorem hasText (b:Nat) (zs:List ByteArray) (n c:Nat) (hn:n=zs.length) (x:ByteArray) (w:World) (hbig:zs.length≤9223372036854775807) (hc:∀ j,j < zs.length→w.cell? ⟨b,j,none⟩=some (.string (zs.getD j ByteArray.empty))) (v:Bool) (hv:v=true ↔ x ∈ zs) :
    Calls Tryz.prog 121 #[.slice (some ⟨b,0,none⟩) n c,.string x] w fun e w'=>e=.returned (.bool v)∧w'=w:=by
  subst hn
  have h:=Any.slices_Contains_string renC_n110 b 0 zs.length c zs x w (Nat.le_refl _) hbig (fun j hj=>by rw [Nat.zero_add];exact hc j hj)
  have e:Lib.containsS (zs.take zs.length) x=v:=by
    rw [List.take_length,Bool.eq_iff_iff,Lib.containsS_iff,hv]
  rw [e] at h
  exact h
theorem hasNum (b:Nat) (zs:List Int) (c:Nat) (x:Int) (w:World) (hbig:zs.length≤9223372036854775807) (hc:∀ j,j < zs.length→w.cell? ⟨b,j,none⟩=some (.int .i64 (zs.getD j 0))) :
    Calls Tryz.prog 83 #[.slice (some ⟨b,0,none⟩) zs.length c,.int .i64 x] w fun e w'=>e=.returned (.bool (zs.contains x))∧w'=w:=by
  have h:=Any.slices_Contains_int renC_n107 b 0 zs.length c zs x w (Nat.le_refl _) hbig (fun j hj=>by rw [Nat.zero_add];exact hc j hj)
  rw [List.take_length] at h
  exact h
end Go.Proofs.YtapcpjidgemggaaGreatDoor
