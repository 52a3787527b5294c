/- The walks of types' Block, Pins, Pin (stage 21). · The walks of small functions: bit, wrap, machineOf (stage 21, after stage 17). -/
import Derived.Test.YthjclogkcmomkaaGreatDoorQ2
import Derived.Test.YthjclogkcmomkaaGreatDoorQ4
namespace Go.Proofs.YthjclogkcmomkaaGreatDoor
open Go.RowKit
open Fb
theorem kdf_app (q:List UInt8):∀ (a b:List (List UInt8 × Int)),(∀ p,p ∈ a→p.2 ≠ 0)→kdf q (a ++ b)=if kdf q a=0 then kdf q b else kdf q a
  | [],b,_=>by simp [kdf]
  | p :: a,b,h=>by
    have ih:=kdf_app q a b (fun r hr=>h r (by simp [hr]))
    show (if p.1=q then p.2 else kdf q (a ++ b))=if (if p.1=q then p.2 else kdf q a)=0 then kdf q b else (if p.1=q then p.2 else kdf q a)
    by_cases e:p.1=q
    · rw [if_pos e,if_pos e,if_neg (h p (by simp))]
    · rw [if_neg e,if_neg e,ih]
theorem pI_ne (k:Nat) (hk:k < 10):∀ p,p ∈ pI k→p.2 ≠ 0:=by
  match k,hk with
  | 0,_=>decide
  | 1,_=>decide
  | 2,_=>decide
  | 3,_=>decide
  | 4,_=>decide
  | 5,_=>decide
  | 6,_=>decide
  | 7,_=>decide
  | 8,_=>decide
  | 9,_=>decide
/-- Two arrays of pins in blocks of their own. -/
theorem two_pins (w1:World) (a b:List Value):Lies ((w1.alloc (.cells a.toArray 217)).alloc (.cells b.toArray 217)) w1.heap.size 0 a∧Lies ((w1.alloc (.cells a.toArray 217)).alloc (.cells b.toArray 217)) (w1.heap.size+1) 0 b∧Below w1.heap.size w1 ((w1.alloc (.cells a.toArray 217)).alloc (.cells b.toArray 217)):=by
  refine ⟨(lies_new w1 a _).below (below_new1 _ _),?_,below_and (below_new1 _ _) (below_new1 _ _)⟩
  have:=lies_new (w1.alloc (.cells a.toArray 217)) b 217
  rwa [World.size_alloc] at this
set_option maxHeartbeats 800000 in
theorem pin_c (k:Nat) (hk:k < 10) (q:List UInt8) (w:World):Calls Tryz.prog 129 #[.string (nm k),.string (tx q)] w fun e w'=>e=.returned (.int .i64 (kdf q (pI k ++ pO k)))∧Below w.heap.size w w':=by
  have PO:=hid_as (pinsOf_c k hk w)
  have HI:=hid_as (pI_pn k hk)
  have HO:=hid_as (pO_pn k hk)
  have HA:=hid_as (kdf_app q (pI k) (pO k) (pI_ne k hk))
  obtain ⟨s0,s1,s2,s3,s4,k0,k1,k2,k3,k4,e1⟩:=p5_shape (pI_pn k hk)
  obtain ⟨r0,r1,r2,r3,r4,j0,j1,j2,j3,j4,e2⟩:=p5_shape (pO_pn k hk)
  have TP:=hid_as (fun W:World=>two_pins W (p5 (pI k)) (p5 (pO k)))
  have CI:=hid_as (fun (W:World) (g:Nat) (h:Lies W g 0 (p5 (pI k)))=>kindOf_c (w:=W) (g:=g) q HI.out h)
  have CO:=hid_as (fun (W:World) (g:Nat) (h:Lies W g 0 (p5 (pO k)))=>kindOf_c (w:=W) (g:=g) q HO.out h)
  rw [e1,e2] at PO TP
  rw [e1] at CI
  rw [e2] at CO
  obtain ⟨a,ha⟩:∃ a,a=kdf q (pI k):=⟨_,rfl⟩
  obtain ⟨b,hb⟩:∃ b,b=kdf q (pO k):=⟨_,rfl⟩
  obtain ⟨c,hc⟩:∃ c,c=kdf q (pI k ++ pO k):=⟨_,rfl⟩
  rw [← ha] at CI
  rw [← hb] at CO
  rw [← ha,← hb,← hc] at HA
  rw [← hc]
  clear e1 e2 HI HO ha hb hc
  by_cases h0:a=0
  · subst h0
    have HA2:Hid (b=c):=by have:=HA.out;rw [if_pos rfl] at this;exact this.symm
    clear HA
    go_enter Tryz.func129,Tryz.ntmps129
    go_wp2_with fail
    refine PO.out.mono ?_
    rintro e w1 ⟨rfl,b1⟩
    have B1:=hid_as b1
    have T1:=hid_as (TP.out w1)
    clear b1
    go_wp2_with fail
    refine (CI.out _ _ T1.out.1).mono ?_
    rintro e w2 ⟨rfl,hw⟩
    subst w2
    go_wp2_with fail
    refine (CO.out _ _ T1.out.2.1).mono ?_
    rintro e w2 ⟨rfl,hw⟩
    subst w2
    go_wp2
    go_ret
    exact ⟨ret_int HA2.out,below_and B1.out T1.out.2.2⟩
  · have HA2:Hid (a=c):=by have:=HA.out;rw [if_neg h0] at this;exact this.symm
    clear HA CO
    go_enter Tryz.func129,Tryz.ntmps129
    go_wp2_with fail
    refine PO.out.mono ?_
    rintro e w1 ⟨rfl,b1⟩
    have B1:=hid_as b1
    have T1:=hid_as (TP.out w1)
    clear b1
    go_wp2_with fail
    refine (CI.out _ _ T1.out.1).mono ?_
    rintro e w2 ⟨rfl,hw⟩
    subst w2
    go_wp2
    go_ret
    exact ⟨ret_int HA2.out,below_and B1.out T1.out.2.2⟩
set_option maxHeartbeats 800000 in
theorem pins_c (k:Nat) (hk:k < 10) (w:World):Calls Tryz.prog 106 #[.string (nm k)] w fun e w'=>∃ v u,e=.returned (.tuple #[v,u])∧w'.ownsRow w.heap.size 9 1 v (pI k).length (strs (pI k))∧w'.ownsRow w.heap.size 9 1 u (pO k).length (strs (pO k))∧Below w.heap.size w w':=by
  have PO:=hid_as (pinsOf_c k hk w)
  have HI:=hid_as (pI_pn k hk)
  have HO:=hid_as (pO_pn k hk)
  obtain ⟨s0,s1,s2,s3,s4,k0,k1,k2,k3,k4,e1⟩:=p5_shape (pI_pn k hk)
  obtain ⟨r0,r1,r2,r3,r4,j0,j1,j2,j3,j4,e2⟩:=p5_shape (pO_pn k hk)
  have TP:=hid_as (fun W:World=>two_pins W (p5 (pI k)) (p5 (pO k)))
  have CI:=hid_as (fun (W:World) (g:Nat) (h:Lies W g 0 (p5 (pI k)))=>names_c (w:=W) (g:=g) HI.out h)
  have CO:=hid_as (fun (W:World) (g:Nat) (h:Lies W g 0 (p5 (pO k)))=>names_c (w:=W) (g:=g) HO.out h)
  rw [e1,e2] at PO TP
  rw [e1] at CI
  rw [e2] at CO
  clear e1 e2 HI HO
  generalize (pI k).length=n at *
  generalize (pO k).length=m at *
  go_enter Tryz.func106,Tryz.ntmps106
  go_wp2_with fail
  refine PO.out.mono ?_
  rintro e w1 ⟨rfl,b1⟩
  have B1:=hid_as b1
  have T1:=hid_as (TP.out w1)
  clear b1
  go_wp2_with fail
  refine (CI.out _ _ T1.out.1).mono ?_
  rintro e w2 ⟨v,rfl,ov,b2⟩
  have OV:=hid_as ov
  have B2:=hid_as b2
  have L2:=hid_as (T1.out.2.1.below b2)
  clear ov b2
  go_wp2_with fail
  refine (CO.out _ _ L2.out).mono ?_
  rintro e w3 ⟨u,rfl,ou,b3⟩
  have B4:=below_and B1.out T1.out.2.2
  have R:Hid (w3.ownsRow w.heap.size 9 1 v n (strs (pI k))∧w3.ownsRow w.heap.size 9 1 u m (strs (pO k))∧Below w.heap.size w w3):=⟨own_base (own_below OV.out b3 (Nat.le_refl _)) B4.size,own_base ou (Nat.le_trans B4.size B2.out.size),below_and B4 (below_and B2.out b3)⟩
  clear CI CO OV B2 L2 ou b3 B4
  go_wp2
  go_ret2
  exact ⟨_,_,rfl,R.out⟩
theorem block_yes (k:Nat) (hk:k < 10) (w:World):Calls Tryz.prog 139 #[.string (nm k)] w fun e w'=>e=.returned (.bool true)∧Below w.heap.size w w':=by
  have PO:=hid_as (pinsOf_c k hk w)
  have HI:=hid_as (pI_pn k hk)
  obtain ⟨s0,s1,s2,s3,s4,k0,k1,k2,k3,k4,e1⟩:=p5_shape (pI_pn k hk)
  obtain ⟨r0,r1,r2,r3,r4,j0,j1,j2,j3,j4,e2⟩:=p5_shape (pO_pn k hk)
  have TP:=hid_as (fun W:World=>two_pins W (p5 (pI k)) (p5 (pO k)))
  have CI:=hid_as (fun (W:World) (g:Nat) (h:Lies W g 0 (p5 (pI k)))=>count_c (w:=W) (g:=g) HI.out h)
  rw [e1,e2] at PO TP
  rw [e1] at CI
  have h0:=pI_pos k hk
  have h0':(0:Int) < ((pI k).length:Int):=by omega
  clear e1 e2 HI
  generalize (pI k).length=n at *
  go_enter Tryz.func139,Tryz.ntmps139
  go_wp2_with fail
  refine PO.out.mono ?_
  rintro e w1 ⟨rfl,b1⟩
  have B1:=hid_as b1
  have T1:=hid_as (TP.out w1)
  clear b1
  go_wp2_with fail
  refine (CI.out _ _ T1.out.1).mono ?_
  rintro e w2 ⟨rfl,hw⟩
  subst w2
  go_wp2
  go_ret
  exact ⟨rfl,below_and B1.out T1.out.2.2⟩
theorem block_no (s:ByteArray) (h:Nob s) (w:World):Calls Tryz.prog 139 #[.string s] w fun e w'=>e=.returned (.bool false)∧Below w.heap.size w w':=by
  have PO:=hid_as (pinsOf_none s h w)
  have TP:=hid_as (fun W:World=>two_pins W (p5 []) (p5 []))
  have CI:=hid_as (fun (W:World) (g:Nat) (h:Lies W g 0 (p5 []))=>count_c (w:=W) (g:=g) pn_nil h)
  rw [show p5 []=[Value.string ⟨#[]⟩,.int .i64 0,.string ⟨#[]⟩,.int .i64 0,.string ⟨#[]⟩,.int .i64 0,.string ⟨#[]⟩,.int .i64 0,.string ⟨#[]⟩,.int .i64 0] from rfl] at PO TP CI
  clear h
  go_enter Tryz.func139,Tryz.ntmps139
  go_wp2_with fail
  refine PO.out.mono ?_
  rintro e w1 ⟨rfl,b1⟩
  have B1:=hid_as b1
  have T1:=hid_as (TP.out w1)
  clear b1
  go_wp2_with fail
  refine (CI.out _ _ T1.out.1).mono ?_
  rintro e w2 ⟨rfl,hw⟩
  subst w2
  go_wp2
  go_ret
  exact ⟨rfl,below_and B1.out T1.out.2.2⟩
end Go.Proofs.YthjclogkcmomkaaGreatDoor
namespace Go.Proofs.YthjclogkcmomkaaGreatDoor
open Go.RowKit
open Fb
theorem bit_c (b:Bool) (w:World):Calls Tryz.prog 130 #[.bool b] w fun e w'=>e=.returned (.int .i64 (b01 b))∧w'=w:=by
  cases b
  · go_enter Tryz.func130,Tryz.ntmps130
    go_wp2
    go_ret
    exact ⟨rfl,rfl⟩
  · go_enter Tryz.func130,Tryz.ntmps130
    go_wp2
    go_ret
    exact ⟨rfl,rfl⟩
theorem i16_is0 (n:Int):IntKind.i16.wrap n=w16 n:=by
  simp only [IntKind.wrap,IntKind.bits,IntKind.signed,w16]
  simp
  omega
theorem i16_is (n:Int):wrap64 (IntKind.i16.wrap n)=w16 n:=by
  rw [i16_is0];unfold w16 wrap64;omega
theorem i32_is (n:Int):wrap64 (wrap32 n)=w32 n:=by unfold wrap64 wrap32 w32;omega
set_option maxHeartbeats 400000 in
theorem wrap_bool (n:Int) (w:World):Calls Tryz.prog 108 #[.int .i64 1,.int .i64 n] w fun e w'=>e=.returned (.int .i64 (b01 (tr n)))∧w'=w:=by
  cases h:tr n with
  | false =>
    have h1:(n != 0)=false:=h
    have C:=hid_as (bit_c false w)
    have h:=hid_as h
    go_enter Tryz.func108,Tryz.ntmps108
    go_wp2_with (go_at_call 130;refine C.out.mono ?_;rintro e w' ⟨rfl,hw⟩;subst w')
    go_ret
    exact ⟨rfl,rfl⟩
  | true =>
    have h1:(n != 0)=true:=h
    have C:=hid_as (bit_c true w)
    have h:=hid_as h
    go_enter Tryz.func108,Tryz.ntmps108
    go_wp2_with (go_at_call 130;refine C.out.mono ?_;rintro e w' ⟨rfl,hw⟩;subst w')
    go_ret
    exact ⟨rfl,rfl⟩
set_option maxHeartbeats 400000 in
theorem wrap_int (n:Int) (w:World):Calls Tryz.prog 108 #[.int .i64 3,.int .i64 n] w fun e w'=>e=.returned (.int .i64 (w16 n))∧w'=w:=by
  have h:=hid_as (i16_is n)
  go_enter Tryz.func108,Tryz.ntmps108
  go_wp2
  go_ret
  exact ⟨ret_int h.out,rfl⟩
set_option maxHeartbeats 400000 in
theorem wrap_else (k n:Int) (h1:(k == 1)=false) (h3:(k == 3)=false) (w:World):Calls Tryz.prog 108 #[.int .i64 k,.int .i64 n] w fun e w'=>e=.returned (.int .i64 (w32 n))∧w'=w:=by
  have h:=hid_as (i32_is n)
  go_enter Tryz.func108,Tryz.ntmps108
  go_wp2
  go_ret
  exact ⟨ret_int h.out,rfl⟩
theorem wrap_c (k n:Int) (w:World):Calls Tryz.prog 108 #[.int .i64 k,.int .i64 n] w fun e w'=>e=.returned (.int .i64 (wkd k n))∧w'=w:=by
  unfold wkd
  by_cases h1:k=1
  · subst h1;rw [if_pos rfl];exact wrap_bool n w
  · rw [if_neg h1]
    by_cases h3:k=3
    · subst h3;rw [if_pos rfl];exact wrap_int n w
    · rw [if_neg h3];exact wrap_else k n (by rw [beq_eq_false_iff_ne];exact h1) (by rw [beq_eq_false_iff_ne];exact h3) w
open Fb
set_option maxHeartbeats 400000 in
theorem mach_0 (w:World):Calls Tryz.prog 105 #[.string (nm 0)] w fun e w'=>e=.returned (.iface 211 (.agg #[]))∧w'=w:=by
  unfold nm nml tx
  go_enter Tryz.func105,Tryz.ntmps105
  go_wp2
  go_ret
  exact ⟨rfl,rfl⟩
set_option maxHeartbeats 400000 in
theorem mach_1 (w:World):Calls Tryz.prog 105 #[.string (nm 1)] w fun e w'=>e=.returned (.iface 212 (.agg #[]))∧w'=w:=by
  unfold nm nml tx
  go_enter Tryz.func105,Tryz.ntmps105
  go_wp2
  go_ret
  exact ⟨rfl,rfl⟩
set_option maxHeartbeats 400000 in
theorem mach_2 (w:World):Calls Tryz.prog 105 #[.string (nm 2)] w fun e w'=>e=.returned (.iface 213 (.agg #[]))∧w'=w:=by
  unfold nm nml tx
  go_enter Tryz.func105,Tryz.ntmps105
  go_wp2
  go_ret
  exact ⟨rfl,rfl⟩
set_option maxHeartbeats 400000 in
theorem mach_3 (w:World):Calls Tryz.prog 105 #[.string (nm 3)] w fun e w'=>e=.returned (.iface 208 (.agg #[]))∧w'=w:=by
  unfold nm nml tx
  go_enter Tryz.func105,Tryz.ntmps105
  go_wp2
  go_ret
  exact ⟨rfl,rfl⟩
set_option maxHeartbeats 400000 in
theorem mach_4 (w:World):Calls Tryz.prog 105 #[.string (nm 4)] w fun e w'=>e=.returned (.iface 209 (.agg #[]))∧w'=w:=by
  unfold nm nml tx
  go_enter Tryz.func105,Tryz.ntmps105
  go_wp2
  go_ret
  exact ⟨rfl,rfl⟩
set_option maxHeartbeats 400000 in
theorem mach_5 (w:World):Calls Tryz.prog 105 #[.string (nm 5)] w fun e w'=>e=.returned (.iface 210 (.agg #[]))∧w'=w:=by
  unfold nm nml tx
  go_enter Tryz.func105,Tryz.ntmps105
  go_wp2
  go_ret
  exact ⟨rfl,rfl⟩
set_option maxHeartbeats 400000 in
theorem mach_6 (w:World):Calls Tryz.prog 105 #[.string (nm 6)] w fun e w'=>e=.returned (.iface 204 (.agg #[]))∧w'=w:=by
  unfold nm nml tx
  go_enter Tryz.func105,Tryz.ntmps105
  go_wp2
  go_ret
  exact ⟨rfl,rfl⟩
set_option maxHeartbeats 400000 in
theorem mach_7 (w:World):Calls Tryz.prog 105 #[.string (nm 7)] w fun e w'=>e=.returned (.iface 205 (.agg #[]))∧w'=w:=by
  unfold nm nml tx
  go_enter Tryz.func105,Tryz.ntmps105
  go_wp2
  go_ret
  exact ⟨rfl,rfl⟩
set_option maxHeartbeats 400000 in
theorem mach_8 (w:World):Calls Tryz.prog 105 #[.string (nm 8)] w fun e w'=>e=.returned (.iface 206 (.agg #[]))∧w'=w:=by
  unfold nm nml tx
  go_enter Tryz.func105,Tryz.ntmps105
  go_wp2
  go_ret
  exact ⟨rfl,rfl⟩
set_option maxHeartbeats 400000 in
theorem mach_9 (w:World):Calls Tryz.prog 105 #[.string (nm 9)] w fun e w'=>e=.returned (.iface 207 (.agg #[]))∧w'=w:=by
  unfold nm nml tx
  go_enter Tryz.func105,Tryz.ntmps105
  go_wp2
  go_ret
  exact ⟨rfl,rfl⟩
open Fb
open Fb
end Go.Proofs.YthjclogkcmomkaaGreatDoor
