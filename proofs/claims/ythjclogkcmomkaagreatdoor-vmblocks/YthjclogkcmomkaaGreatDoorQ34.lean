/- The walks of element (stage 21). -/
import Derived.Test.YthjclogkcmomkaaGreatDoorQ33
namespace Go.Proofs.YthjclogkcmomkaaGreatDoor
open Go.RowKit
open Fb Cod Nm Vmx
/-- An index's numbers. -/
structure Ix (A N:Nat) (c y:Int) (D i:Nat):Prop where
  n0:1≤N
  n9:N≤256
  a9:A≤4096
  c0:-2147483648≤c
  c9:c≤2147483648
  y0:y=c+D
  dn:D < N
  i0:i=A+D
set_option maxHeartbeats 800000 in
set_option maxRecDepth 100000 in
theorem el_4_out {B:Nat} {w:World} {g cb lb lo:Nat} {va:Option Addr} {kn kc:Nat} {la:Option Addr} {ln lc:Nat} {K:List Int} {L:List Ins} {now most:Int} {S:List Int} {pc st:Nat} {cs r:List Int} {A N:Nat} {c:Int} {nm:ByteArray} {y:Int} (M:Mc B w va kn kc la ln lc K L) (X:Xc B w lb lo ⟨4,A,N,c,nm⟩) (h:Sc B w g cb (.slice va kn kc) (.slice la ln lc) now most S ⟨pc,cs,y :: r,st⟩) (hn0:1≤N) (hn9:N≤256) (hc0:-2147483648≤c) (hc9:c≤2147483648) (ho:y < c ∨ c+((N:Int) - 1) < y) :
    Calls Tryz.prog 78 #[.pointer (some ⟨g,0,none⟩),.pointer (some ⟨lb,lo,none⟩)] w fun e w'=>e=.returned (.int .i64 2)∧(∃ S',Sc B w' g cb (.slice va kn kc) (.slice la ln lc) now most S' ⟨pc,cs,r,st⟩)∧Below B w w':=by
  have P1:=hid_as (pop_c h)
  have XX:=hid_as X
  have MM:=hid_as M
  have q1:IntKind.i64.wrap ((N:Int) - 1)=(N:Int) - 1:=by rw [IntKind.wrap_i64];omega
  have q2:IntKind.i64.wrap (c+((N:Int) - 1))=c+((N:Int) - 1):=by rw [IntKind.wrap_i64];omega
  clear h X M hn0 hn9 hc0 hc9
  by_cases h1:y < c
  · go_enter Tryz.func78,Tryz.ntmps78
    have y0:=XX.out.y0
    go_wp2_with fail
    refine P1.out.mono ?_
    rintro e w1 ⟨rfl,s1,b1⟩
    have B1:=hid_as b1
    have X1:=hid_as (XX.out.below b1)
    have S1:=hid_as s1
    clear b1 s1 y0
    have y0:=X1.out.y0
    have y1:=X1.out.y1
    have y2:=X1.out.y2
    have y3:=X1.out.y3
    go_wp2
    go_quiet (fail)
    go_wp2
    go_ret
    exact ⟨rfl,⟨_,S1.out.drew _⟩,below_dn B1.out S1.out _⟩
  · have h2:c+((N:Int) - 1) < y:=by rcases ho with h | h;exact absurd h h1;exact h
    clear ho
    go_enter Tryz.func78,Tryz.ntmps78
    have y0:=XX.out.y0
    go_wp2_with fail
    refine P1.out.mono ?_
    rintro e w1 ⟨rfl,s1,b1⟩
    have B1:=hid_as b1
    have X1:=hid_as (XX.out.below b1)
    have S1:=hid_as s1
    clear b1 s1 y0
    have y0:=X1.out.y0
    have y1:=X1.out.y1
    have y2:=X1.out.y2
    have y3:=X1.out.y3
    go_wp2
    go_quiet (fail)
    go_wp2
    go_ret
    exact ⟨rfl,⟨_,S1.out.drew _⟩,below_dn B1.out S1.out _⟩
set_option maxHeartbeats 800000 in
set_option maxRecDepth 100000 in
theorem el_5_out {B:Nat} {w:World} {g cb lb lo:Nat} {va:Option Addr} {kn kc:Nat} {la:Option Addr} {ln lc:Nat} {K:List Int} {L:List Ins} {now most:Int} {S:List Int} {pc st:Nat} {cs r:List Int} {A N:Nat} {c:Int} {nm:ByteArray} {y:Int} (M:Mc B w va kn kc la ln lc K L) (X:Xc B w lb lo ⟨5,A,N,c,nm⟩) (h:Sc B w g cb (.slice va kn kc) (.slice la ln lc) now most S ⟨pc,cs,y :: r,st⟩) (hn0:1≤N) (hn9:N≤256) (hc0:-2147483648≤c) (hc9:c≤2147483648) (ho:y < c ∨ c+((N:Int) - 1) < y) :
    Calls Tryz.prog 78 #[.pointer (some ⟨g,0,none⟩),.pointer (some ⟨lb,lo,none⟩)] w fun e w'=>e=.returned (.int .i64 2)∧(∃ S',Sc B w' g cb (.slice va kn kc) (.slice la ln lc) now most S' ⟨pc,cs,r,st⟩)∧Below B w w':=by
  have P1:=hid_as (pop_c h)
  have XX:=hid_as X
  have MM:=hid_as M
  have q1:IntKind.i64.wrap ((N:Int) - 1)=(N:Int) - 1:=by rw [IntKind.wrap_i64];omega
  have q2:IntKind.i64.wrap (c+((N:Int) - 1))=c+((N:Int) - 1):=by rw [IntKind.wrap_i64];omega
  clear h X M hn0 hn9 hc0 hc9
  by_cases h1:y < c
  · go_enter Tryz.func78,Tryz.ntmps78
    have y0:=XX.out.y0
    go_wp2_with fail
    refine P1.out.mono ?_
    rintro e w1 ⟨rfl,s1,b1⟩
    have B1:=hid_as b1
    have X1:=hid_as (XX.out.below b1)
    have S1:=hid_as s1
    clear b1 s1 y0
    have y0:=X1.out.y0
    have y1:=X1.out.y1
    have y2:=X1.out.y2
    have y3:=X1.out.y3
    go_wp2
    go_quiet (fail)
    go_wp2
    go_ret
    exact ⟨rfl,⟨_,S1.out.drew _⟩,below_dn B1.out S1.out _⟩
  · have h2:c+((N:Int) - 1) < y:=by rcases ho with h | h;exact absurd h h1;exact h
    clear ho
    go_enter Tryz.func78,Tryz.ntmps78
    have y0:=XX.out.y0
    go_wp2_with fail
    refine P1.out.mono ?_
    rintro e w1 ⟨rfl,s1,b1⟩
    have B1:=hid_as b1
    have X1:=hid_as (XX.out.below b1)
    have S1:=hid_as s1
    clear b1 s1 y0
    have y0:=X1.out.y0
    have y1:=X1.out.y1
    have y2:=X1.out.y2
    have y3:=X1.out.y3
    go_wp2
    go_quiet (fail)
    go_wp2
    go_ret
    exact ⟨rfl,⟨_,S1.out.drew _⟩,below_dn B1.out S1.out _⟩
set_option maxHeartbeats 800000 in
set_option maxRecDepth 100000 in
theorem el_6_out {B:Nat} {w:World} {g cb lb lo:Nat} {va:Option Addr} {kn kc:Nat} {la:Option Addr} {ln lc:Nat} {K:List Int} {L:List Ins} {now most:Int} {S:List Int} {pc st:Nat} {cs r:List Int} {A N:Nat} {c:Int} {nm:ByteArray} {n y:Int} (M:Mc B w va kn kc la ln lc K L) (X:Xc B w lb lo ⟨6,A,N,c,nm⟩) (h:Sc B w g cb (.slice va kn kc) (.slice la ln lc) now most S ⟨pc,cs,n :: y :: r,st⟩) (hn0:1≤N) (hn9:N≤256) (hc0:-2147483648≤c) (hc9:c≤2147483648) (ho:y < c ∨ c+((N:Int) - 1) < y) :
    Calls Tryz.prog 78 #[.pointer (some ⟨g,0,none⟩),.pointer (some ⟨lb,lo,none⟩)] w fun e w'=>e=.returned (.int .i64 2)∧(∃ S',Sc B w' g cb (.slice va kn kc) (.slice la ln lc) now most S' ⟨pc,cs,r,st⟩)∧Below B w w':=by
  have P1:=hid_as (pop_c h)
  have XX:=hid_as X
  have MM:=hid_as M
  have q1:IntKind.i64.wrap ((N:Int) - 1)=(N:Int) - 1:=by rw [IntKind.wrap_i64];omega
  have q2:IntKind.i64.wrap (c+((N:Int) - 1))=c+((N:Int) - 1):=by rw [IntKind.wrap_i64];omega
  clear h X M hn0 hn9 hc0 hc9
  by_cases h1:y < c
  · go_enter Tryz.func78,Tryz.ntmps78
    have y0:=XX.out.y0
    go_wp2_with fail
    refine P1.out.mono ?_
    rintro e w1 ⟨rfl,s1,b1⟩
    have B1:=hid_as b1
    have X1:=hid_as (XX.out.below b1)
    have S1:=hid_as s1
    clear b1 s1 y0
    have P2:=hid_as (pop_c S1.out)
    go_wp2_with fail
    refine P2.out.mono ?_
    rintro e w2 ⟨rfl,s2,b2⟩
    have B2:=hid_as (B1.out.trans b2)
    have X2:=hid_as (X1.out.below b2)
    have S2:=hid_as s2
    clear b2 s2
    have y0:=X2.out.y0
    have y1:=X2.out.y1
    have y2:=X2.out.y2
    have y3:=X2.out.y3
    go_wp2
    go_quiet (fail)
    go_wp2
    go_ret
    exact ⟨rfl,⟨_,S2.out.drew _⟩,below_dn B2.out S2.out _⟩
  · have h2:c+((N:Int) - 1) < y:=by rcases ho with h | h;exact absurd h h1;exact h
    clear ho
    go_enter Tryz.func78,Tryz.ntmps78
    have y0:=XX.out.y0
    go_wp2_with fail
    refine P1.out.mono ?_
    rintro e w1 ⟨rfl,s1,b1⟩
    have B1:=hid_as b1
    have X1:=hid_as (XX.out.below b1)
    have S1:=hid_as s1
    clear b1 s1 y0
    have P2:=hid_as (pop_c S1.out)
    go_wp2_with fail
    refine P2.out.mono ?_
    rintro e w2 ⟨rfl,s2,b2⟩
    have B2:=hid_as (B1.out.trans b2)
    have X2:=hid_as (X1.out.below b2)
    have S2:=hid_as s2
    clear b2 s2
    have y0:=X2.out.y0
    have y1:=X2.out.y1
    have y2:=X2.out.y2
    have y3:=X2.out.y3
    go_wp2
    go_quiet (fail)
    go_wp2
    go_ret
    exact ⟨rfl,⟨_,S2.out.drew _⟩,below_dn B2.out S2.out _⟩
set_option maxHeartbeats 800000 in
set_option maxRecDepth 100000 in
theorem el_4_in {B:Nat} {w:World} {g cb lb lo:Nat} {va:Option Addr} {kn kc:Nat} {la:Option Addr} {ln lc:Nat} {K:List Int} {L:List Ins} {now most:Int} {S:List Int} {pc st:Nat} {cs r:List Int} {A N D i:Nat} {c:Int} {nm:ByteArray} {y:Int} (M:Mc B w va kn kc la ln lc K L) (X:Xc B w lb lo ⟨4,A,N,c,nm⟩) (h:Sc B w g cb (.slice va kn kc) (.slice la ln lc) now most S ⟨pc,cs,y :: r,st⟩) (I:Ix A N c y D i) (hi:i < K.length) (hc:cs.length=K.length) (k9:K.length≤4096) (hl:r.length < 256) :
    Calls Tryz.prog 78 #[.pointer (some ⟨g,0,none⟩),.pointer (some ⟨lb,lo,none⟩)] w fun e w'=>e=.returned (.int .i64 0)∧(∃ S',Sc B w' g cb (.slice va kn kc) (.slice la ln lc) now most S' ⟨pc,cs,cs.getD i 0 :: r,st⟩)∧Below B w w':=by
  have P1:=hid_as (pop_c h)
  have XX:=hid_as X
  have MM:=hid_as M
  have q1:IntKind.i64.wrap ((N:Int) - 1)=(N:Int) - 1:=by rw [IntKind.wrap_i64];have:=I.n0;have:=I.n9;omega
  have q2:IntKind.i64.wrap (c+((N:Int) - 1))=c+((N:Int) - 1):=by rw [IntKind.wrap_i64];have:=I.n0;have:=I.n9;have:=I.c0;have:=I.c9;omega
  have q3:IntKind.i64.wrap (y - c)=(D:Int):=by rw [IntKind.wrap_i64];have:=I.n9;have:=I.y0;have:=I.dn;omega
  have q4:IntKind.i64.wrap ((A:Int)+(D:Int))=(i:Int):=by rw [IntKind.wrap_i64];have:=I.n9;have:=I.a9;have:=I.i0;have:=I.dn;omega
  have h1:¬ y < c:=by have:=I.y0;omega
  have h2:¬ c+((N:Int) - 1) < y:=by have:=I.y0;have:=I.dn;omega
  have h3:(i:Int) < (cs.length:Int):=by omega
  have h4:(0:Int)≤(i:Int):=by omega
  have HCI:Hid (i < cs.length):=by show i < cs.length;omega
  clear h X M I hi hc
  go_enter Tryz.func78,Tryz.ntmps78
  have y0:=XX.out.y0
  go_wp2_with fail
  refine P1.out.mono ?_
  rintro e w1 ⟨rfl,s1,b1⟩
  have B1:=hid_as b1
  have X1:=hid_as (XX.out.below b1)
  have S1:=hid_as s1
  clear b1 s1 y0
  have y0:=X1.out.y0
  have y1:=X1.out.y1
  have y2:=X1.out.y2
  have y3:=X1.out.y3
  go_wp2
  go_quiet (fail)
  generalize hw5:w1.drewN nq=w5 at *
  have S5:=hid_as ((S1.out.drew nq))
  rw [hw5] at S5
  have B5:Hid (Below B w w5):=by rw [← hw5];exact below_dn B1.out S1.out nq
  have X5:=hid_as (XX.out.below B5.out)
  clear y0 y1 y2 y3
  have y0:=X5.out.y0
  have y1:=X5.out.y1
  have y2:=X5.out.y2
  have y3:=X5.out.y3
  go_wp2
  go_quiet (fail)
  generalize hw6:w5.drewN nq=w6 at *
  have S6:=hid_as (S5.out.drew nq)
  rw [hw6] at S6
  have B6:Hid (Below B w w6):=by rw [← hw6];exact below_dn B5.out S5.out nq
  have X6:=hid_as (XX.out.below B6.out)
  clear y0 y1 y2 y3 hw5 hw6
  have y0:=X6.out.y0
  simp only [Exit.then]
  have c2:=S6.out.c2
  have cc:=S6.out.cel_at HCI.out
  generalize hv:cs.getD i 0=v at *
  dsimp only at c2
  go_wp2_with fail
  refine (push_c v S6.out hl).mono ?_
  rintro e w9 ⟨rfl,s9,b9⟩
  have S9:=hid_as s9
  have B9:=hid_as (B6.out.trans b9)
  clear s9 b9
  go_wp2
  go_ret
  subst hv
  exact ⟨rfl,S9.out,B9.out⟩
set_option maxHeartbeats 800000 in
set_option maxRecDepth 100000 in
theorem el_5_in {B:Nat} {w:World} {g cb lb lo:Nat} {va:Option Addr} {kn kc:Nat} {la:Option Addr} {ln lc:Nat} {K:List Int} {L:List Ins} {now most:Int} {S:List Int} {pc st:Nat} {cs r:List Int} {A N D i:Nat} {c:Int} {nm:ByteArray} {y:Int} (M:Mc B w va kn kc la ln lc K L) (X:Xc B w lb lo ⟨5,A,N,c,nm⟩) (h:Sc B w g cb (.slice va kn kc) (.slice la ln lc) now most S ⟨pc,cs,y :: r,st⟩) (I:Ix A N c y D i) (hi:i < K.length) (hc:cs.length=K.length) (k9:K.length≤4096) (hl:r.length < 256) :
    Calls Tryz.prog 78 #[.pointer (some ⟨g,0,none⟩),.pointer (some ⟨lb,lo,none⟩)] w fun e w'=>e=.returned (.int .i64 0)∧(∃ S',Sc B w' g cb (.slice va kn kc) (.slice la ln lc) now most S' ⟨pc,cs,y :: r,st⟩)∧Below B w w':=by
  have P1:=hid_as (pop_c h)
  have XX:=hid_as X
  have MM:=hid_as M
  have q1:IntKind.i64.wrap ((N:Int) - 1)=(N:Int) - 1:=by rw [IntKind.wrap_i64];have:=I.n0;have:=I.n9;omega
  have q2:IntKind.i64.wrap (c+((N:Int) - 1))=c+((N:Int) - 1):=by rw [IntKind.wrap_i64];have:=I.n0;have:=I.n9;have:=I.c0;have:=I.c9;omega
  have q3:IntKind.i64.wrap (y - c)=(D:Int):=by rw [IntKind.wrap_i64];have:=I.n9;have:=I.y0;have:=I.dn;omega
  have q4:IntKind.i64.wrap ((A:Int)+(D:Int))=(i:Int):=by rw [IntKind.wrap_i64];have:=I.n9;have:=I.a9;have:=I.i0;have:=I.dn;omega
  have h1:¬ y < c:=by have:=I.y0;omega
  have h2:¬ c+((N:Int) - 1) < y:=by have:=I.y0;have:=I.dn;omega
  have h3:(i:Int) < (cs.length:Int):=by omega
  have h4:(0:Int)≤(i:Int):=by omega
  have HCI:Hid (i < cs.length):=by show i < cs.length;omega
  clear h X M I hi hc
  go_enter Tryz.func78,Tryz.ntmps78
  have y0:=XX.out.y0
  go_wp2_with fail
  refine P1.out.mono ?_
  rintro e w1 ⟨rfl,s1,b1⟩
  have B1:=hid_as b1
  have X1:=hid_as (XX.out.below b1)
  have S1:=hid_as s1
  clear b1 s1 y0
  have y0:=X1.out.y0
  have y1:=X1.out.y1
  have y2:=X1.out.y2
  have y3:=X1.out.y3
  go_wp2
  go_quiet (fail)
  generalize hw5:w1.drewN nq=w5 at *
  have S5:=hid_as ((S1.out.drew nq))
  rw [hw5] at S5
  have B5:Hid (Below B w w5):=by rw [← hw5];exact below_dn B1.out S1.out nq
  have X5:=hid_as (XX.out.below B5.out)
  clear y0 y1 y2 y3
  have y0:=X5.out.y0
  have y1:=X5.out.y1
  have y2:=X5.out.y2
  have y3:=X5.out.y3
  go_wp2
  go_quiet (fail)
  generalize hw6:w5.drewN nq=w6 at *
  have S6:=hid_as (S5.out.drew nq)
  rw [hw6] at S6
  have B6:Hid (Below B w w6):=by rw [← hw6];exact below_dn B5.out S5.out nq
  have X6:=hid_as (XX.out.below B6.out)
  clear y0 y1 y2 y3 hw5 hw6
  have y0:=X6.out.y0
  simp only [Exit.then]
  go_wp2_with fail
  refine (push_c y S6.out hl).mono ?_
  rintro e w9 ⟨rfl,s9,b9⟩
  have S9:=hid_as s9
  have B9:=hid_as (B6.out.trans b9)
  clear s9 b9
  go_wp2
  go_ret
  exact ⟨rfl,S9.out,B9.out⟩
set_option maxHeartbeats 800000 in
set_option maxRecDepth 100000 in
theorem el_6_in {B:Nat} {w:World} {g cb lb lo:Nat} {va:Option Addr} {kn kc:Nat} {la:Option Addr} {ln lc:Nat} {K:List Int} {L:List Ins} {now most:Int} {S:List Int} {pc st:Nat} {cs r:List Int} {A N D i:Nat} {c:Int} {nm:ByteArray} {n y:Int} (M:Mc B w va kn kc la ln lc K L) (X:Xc B w lb lo ⟨6,A,N,c,nm⟩) (h:Sc B w g cb (.slice va kn kc) (.slice la ln lc) now most S ⟨pc,cs,n :: y :: r,st⟩) (I:Ix A N c y D i) (hi:i < K.length) (hc:cs.length=K.length) (k9:K.length≤4096) :
    Calls Tryz.prog 78 #[.pointer (some ⟨g,0,none⟩),.pointer (some ⟨lb,lo,none⟩)] w fun e w'=>e=.returned (.int .i64 0)∧(∃ S',Sc B w' g cb (.slice va kn kc) (.slice la ln lc) now most S' ⟨pc,cs.set i (wr (K.getD i 0) n),r,st⟩)∧Below B w w':=by
  have P1:=hid_as (pop_c h)
  have XX:=hid_as X
  have MM:=hid_as M
  have q1:IntKind.i64.wrap ((N:Int) - 1)=(N:Int) - 1:=by rw [IntKind.wrap_i64];have:=I.n0;have:=I.n9;omega
  have q2:IntKind.i64.wrap (c+((N:Int) - 1))=c+((N:Int) - 1):=by rw [IntKind.wrap_i64];have:=I.n0;have:=I.n9;have:=I.c0;have:=I.c9;omega
  have q3:IntKind.i64.wrap (y - c)=(D:Int):=by rw [IntKind.wrap_i64];have:=I.n9;have:=I.y0;have:=I.dn;omega
  have q4:IntKind.i64.wrap ((A:Int)+(D:Int))=(i:Int):=by rw [IntKind.wrap_i64];have:=I.n9;have:=I.a9;have:=I.i0;have:=I.dn;omega
  have h1:¬ y < c:=by have:=I.y0;omega
  have h2:¬ c+((N:Int) - 1) < y:=by have:=I.y0;have:=I.dn;omega
  have h3:(i:Int) < (cs.length:Int):=by omega
  have h4:(0:Int)≤(i:Int):=by omega
  have HI:=hid_as hi
  have HC:=hid_as hc
  have HCI:Hid (i < cs.length):=by show i < cs.length;omega
  clear h X M I
  go_enter Tryz.func78,Tryz.ntmps78
  have y0:=XX.out.y0
  go_wp2_with fail
  refine P1.out.mono ?_
  rintro e w1 ⟨rfl,s1,b1⟩
  have B1:=hid_as b1
  have X1:=hid_as (XX.out.below b1)
  have S1:=hid_as s1
  clear b1 s1 y0
  have P2:=hid_as (pop_c S1.out)
  go_wp2_with fail
  refine P2.out.mono ?_
  rintro e w2 ⟨rfl,s2,b2⟩
  have B2:=hid_as (B1.out.trans b2)
  have X2:=hid_as (X1.out.below b2)
  have S2:=hid_as s2
  clear b2 s2
  have y0:=X2.out.y0
  have y1:=X2.out.y1
  have y2:=X2.out.y2
  have y3:=X2.out.y3
  go_wp2
  go_quiet (fail)
  generalize hw5:w2.drewN nq=w5 at *
  have S5:=hid_as ((S2.out.drew nq))
  rw [hw5] at S5
  have B5:Hid (Below B w w5):=by rw [← hw5];exact below_dn B2.out S2.out nq
  have X5:=hid_as (XX.out.below B5.out)
  clear y0 y1 y2 y3
  have y0:=X5.out.y0
  have y1:=X5.out.y1
  have y2:=X5.out.y2
  have y3:=X5.out.y3
  go_wp2
  go_quiet (fail)
  generalize hw6:w5.drewN nq=w6 at *
  have S6:=hid_as (S5.out.drew nq)
  rw [hw6] at S6
  have B6:Hid (Below B w w6):=by rw [← hw6];exact below_dn B5.out S5.out nq
  have X6:=hid_as (XX.out.below B6.out)
  clear y0 y1 y2 y3 hw5 hw6
  have y0:=X6.out.y0
  simp only [Exit.then]
  go_wp2_with fail
  refine (store_c i n (MM.out.below B6.out) S6.out hi hc k9).mono ?_
  rintro e w9 ⟨rfl,s9,b9⟩
  have S9:=hid_as s9
  have B9:=hid_as (B6.out.trans b9)
  clear s9 b9
  go_wp2
  go_ret
  exact ⟨rfl,⟨_,S9.out⟩,B9.out⟩
end Go.Proofs.YthjclogkcmomkaaGreatDoor
