/- The walk of do, of any instruction (stage 21). -/
import Derived.Test.YthjclogkcmomkaaGreatDoorQ35
namespace Go.Proofs.YthjclogkcmomkaaGreatDoor
open Go.RowKit
open Fb Cod Nm Vmx
theorem sk1 {l:List Int} (h:1≤l.length):∃ y r,l=y :: r:=by
  match l,h with
  | y :: r,_=>exact ⟨y,r,rfl⟩
theorem sk2 {l:List Int} (h:2≤l.length):∃ y z r,l=y :: z :: r:=by
  match l,h with
  | y :: z :: r,_=>exact ⟨y,z,r,rfl⟩
theorem sk3 {l:List Int} (h:3≤l.length):∃ y z u r,l=y :: z :: u :: r:=by
  match l,h with
  | y :: z :: u :: r,_=>exact ⟨y,z,u,r,rfl⟩
theorem nm_toList (k:Nat):(Fb.nm k).toList=nml k:=by
  show (ByteArray.mk (nml k).toArray).toList=_
  rw [ByteArray.toList_mk]
theorem ix_or {A N:Nat} {c y:Int} (h1:1≤N) (h2:N≤256) (h3:A≤4096) (h4:-2147483648≤c) (h5:c≤2147483648):(y < c ∨ c+((N:Int) - 1) < y) ∨ ∃ D i,Ix A N c y D i:=by
  by_cases h:y < c ∨ c+((N:Int) - 1) < y
  · exact Or.inl h
  · exact Or.inr ⟨(y - c).toNat,A+(y - c).toNat,h1,h2,h3,h4,h5,by omega,by omega,rfl⟩
/-- Where a scan stands: so many numbers taken off, so many put on. -/
theorem tp_of {a b c:Int} {na:ByteArray} (n:Nat) (hn:n ≠ 24) (sk:List Int) (h1:(Ins.mk n a b c na).t≤sk.length) (h2:(Ins.mk n a b c na).dl sk.length≤256):tk n≤sk.length∧sk.length - tk n+pt n≤256:=by
  have e:more (Ins.mk n a b c na)=0:=by
    unfold more
    rw [if_neg (by show ¬ (n:Int)=24;omega)]
  unfold Ins.dl Ins.t Ins.p at h2
  unfold Ins.t at h1
  rw [e] at h1 h2
  exact ⟨h1,h2⟩
set_option maxHeartbeats 400000 in
theorem dos_1 {B:Nat} {w:World} {g cb lb lo:Nat} {va:Option Addr} {kn kc:Nat} {la:Option Addr} {ln lc:Nat} {K:List Int} {now most:Int} {S:List Int} {pc st:Nat} {cs sk:List Int} {a b c:Int} {na:ByteArray} (X:Xc B w lb lo ⟨(1:Nat),a,b,c,na⟩) (h:Sc B w g cb (.slice va kn kc) (.slice la ln lc) now most S ⟨pc+1,cs,sk,st⟩) (h1:(Ins.mk (1:Nat) a b c na).t≤sk.length) (h2:(Ins.mk (1:Nat) a b c na).dl sk.length≤256) :
    Calls Tryz.prog 60 #[.pointer (some ⟨g,0,none⟩),.pointer (some ⟨lb,lo,none⟩)] w (Did B w g cb (.slice va kn kc) (.slice la ln lc) now most K ⟨(1:Nat),a,b,c,na⟩ ⟨pc,cs,sk,st⟩):=by
  obtain ⟨t1,t2⟩:=tp_of 1 (by decide) sk h1 h2
  have u1:tk 1=0:=rfl
  have u2:pt 1=1:=rfl
  rw [u1] at t1
  rw [u1,u2] at t2
  exact do_1 X h (by omega)
set_option maxHeartbeats 400000 in
theorem dos_2 {B:Nat} {w:World} {g cb lb lo:Nat} {va:Option Addr} {kn kc:Nat} {la:Option Addr} {ln lc:Nat} {K:List Int} {L:List Ins} {now most:Int} {S:List Int} {pc st:Nat} {cs sk:List Int} {a b c:Int} {na:ByteArray} (X:Xc B w lb lo ⟨(2:Nat),a,b,c,na⟩) (h:Sc B w g cb (.slice va kn kc) (.slice la ln lc) now most S ⟨pc+1,cs,sk,st⟩) (hr:rgt K L.length ⟨(2:Nat),a,b,c,na⟩=true) (hc:cs.length=K.length) (h1:(Ins.mk (2:Nat) a b c na).t≤sk.length) (h2:(Ins.mk (2:Nat) a b c na).dl sk.length≤256) :
    Calls Tryz.prog 60 #[.pointer (some ⟨g,0,none⟩),.pointer (some ⟨lb,lo,none⟩)] w (Did B w g cb (.slice va kn kc) (.slice la ln lc) now most K ⟨(2:Nat),a,b,c,na⟩ ⟨pc,cs,sk,st⟩):=by
  obtain ⟨t1,t2⟩:=tp_of 2 (by decide) sk h1 h2
  have u1:tk 2=0:=rfl
  have u2:pt 2=1:=rfl
  rw [u1] at t1
  rw [u1,u2] at t2
  have hp:0≤a∧a≤(K.length:Int) - 1:=by simpa [rgt] using hr
  obtain ⟨A,rfl⟩:∃ A:Nat,a=A:=⟨a.toNat,by omega⟩
  exact do_2 X h (by omega) (by omega)
set_option maxHeartbeats 400000 in
theorem dos_3 {B:Nat} {w:World} {g cb lb lo:Nat} {va:Option Addr} {kn kc:Nat} {la:Option Addr} {ln lc:Nat} {K:List Int} {L:List Ins} {now most:Int} {S:List Int} {pc st:Nat} {cs sk:List Int} {a b c:Int} {na:ByteArray} (M:Mc B w va kn kc la ln lc K L) (X:Xc B w lb lo ⟨(3:Nat),a,b,c,na⟩) (h:Sc B w g cb (.slice va kn kc) (.slice la ln lc) now most S ⟨pc+1,cs,sk,st⟩) (hr:rgt K L.length ⟨(3:Nat),a,b,c,na⟩=true) (hc:cs.length=K.length) (k9:K.length≤4096) (h1:(Ins.mk (3:Nat) a b c na).t≤sk.length) :
    Calls Tryz.prog 60 #[.pointer (some ⟨g,0,none⟩),.pointer (some ⟨lb,lo,none⟩)] w (Did B w g cb (.slice va kn kc) (.slice la ln lc) now most K ⟨(3:Nat),a,b,c,na⟩ ⟨pc,cs,sk,st⟩):=by
  have t1:1≤sk.length:=h1
  have hp:0≤a∧a≤(K.length:Int) - 1:=by simpa [rgt] using hr
  obtain ⟨A,rfl⟩:∃ A:Nat,a=A:=⟨a.toNat,by omega⟩
  obtain ⟨y,r,rfl⟩:=sk1 t1
  exact do_3 M X h (by omega) hc k9
set_option maxHeartbeats 400000 in
theorem dos_4 {B:Nat} {w:World} {g cb lb lo:Nat} {va:Option Addr} {kn kc:Nat} {la:Option Addr} {ln lc:Nat} {K:List Int} {L:List Ins} {now most:Int} {S:List Int} {pc st:Nat} {cs sk:List Int} {a b c:Int} {na:ByteArray} (M:Mc B w va kn kc la ln lc K L) (X:Xc B w lb lo ⟨(4:Nat),a,b,c,na⟩) (h:Sc B w g cb (.slice va kn kc) (.slice la ln lc) now most S ⟨pc+1,cs,sk,st⟩) (hr:rgt K L.length ⟨(4:Nat),a,b,c,na⟩=true) (hc:cs.length=K.length) (k9:K.length≤4096) (h1:(Ins.mk (4:Nat) a b c na).t≤sk.length) (h2:(Ins.mk (4:Nat) a b c na).dl sk.length≤256) :
    Calls Tryz.prog 60 #[.pointer (some ⟨g,0,none⟩),.pointer (some ⟨lb,lo,none⟩)] w (Did B w g cb (.slice va kn kc) (.slice la ln lc) now most K ⟨(4:Nat),a,b,c,na⟩ ⟨pc,cs,sk,st⟩):=by
  obtain ⟨t1,t2⟩:=tp_of 4 (by decide) sk h1 h2
  have u1:tk 4=1:=rfl
  have u2:pt 4=1:=rfl
  rw [u1] at t1
  rw [u1,u2] at t2
  have hp:aris K ⟨4,a,b,c,na⟩=true:=by simpa [rgt] using hr
  obtain ⟨⟨b1,b2⟩,⟨a1,a2⟩,_,c1,c2⟩:=(aris_parts K _).1 hp
  dsimp only at b1 b2 a1 a2 c1 c2
  obtain ⟨A,rfl⟩:∃ A:Nat,a=A:=⟨a.toNat,by omega⟩
  obtain ⟨N,rfl⟩:∃ N:Nat,b=N:=⟨b.toNat,by omega⟩
  obtain ⟨y,r,rfl⟩:=sk1 t1
  rw [List.length_cons] at t2
  rcases ix_or (A:=A) (N:=N) (c:=c) (y:=y) (by omega) (by omega) (by omega) (by omega) (by omega) with ho | ⟨D,i,I⟩
  · exact do_4_out M X h (by omega) (by omega) (by omega) (by omega) ho
  · have e1:=I.i0
    have e2:=I.dn
    exact do_4_in M X h I (by omega) hc k9 (by omega)
set_option maxHeartbeats 400000 in
theorem dos_5 {B:Nat} {w:World} {g cb lb lo:Nat} {va:Option Addr} {kn kc:Nat} {la:Option Addr} {ln lc:Nat} {K:List Int} {L:List Ins} {now most:Int} {S:List Int} {pc st:Nat} {cs sk:List Int} {a b c:Int} {na:ByteArray} (M:Mc B w va kn kc la ln lc K L) (X:Xc B w lb lo ⟨(5:Nat),a,b,c,na⟩) (h:Sc B w g cb (.slice va kn kc) (.slice la ln lc) now most S ⟨pc+1,cs,sk,st⟩) (hr:rgt K L.length ⟨(5:Nat),a,b,c,na⟩=true) (hc:cs.length=K.length) (k9:K.length≤4096) (h1:(Ins.mk (5:Nat) a b c na).t≤sk.length) (h2:(Ins.mk (5:Nat) a b c na).dl sk.length≤256) :
    Calls Tryz.prog 60 #[.pointer (some ⟨g,0,none⟩),.pointer (some ⟨lb,lo,none⟩)] w (Did B w g cb (.slice va kn kc) (.slice la ln lc) now most K ⟨(5:Nat),a,b,c,na⟩ ⟨pc,cs,sk,st⟩):=by
  obtain ⟨t1,t2⟩:=tp_of 5 (by decide) sk h1 h2
  have u1:tk 5=1:=rfl
  have u2:pt 5=1:=rfl
  rw [u1] at t1
  rw [u1,u2] at t2
  have hp:aris K ⟨5,a,b,c,na⟩=true:=by simpa [rgt] using hr
  obtain ⟨⟨b1,b2⟩,⟨a1,a2⟩,_,c1,c2⟩:=(aris_parts K _).1 hp
  dsimp only at b1 b2 a1 a2 c1 c2
  obtain ⟨A,rfl⟩:∃ A:Nat,a=A:=⟨a.toNat,by omega⟩
  obtain ⟨N,rfl⟩:∃ N:Nat,b=N:=⟨b.toNat,by omega⟩
  obtain ⟨y,r,rfl⟩:=sk1 t1
  rw [List.length_cons] at t2
  rcases ix_or (A:=A) (N:=N) (c:=c) (y:=y) (by omega) (by omega) (by omega) (by omega) (by omega) with ho | ⟨D,i,I⟩
  · exact do_5_out M X h (by omega) (by omega) (by omega) (by omega) ho
  · have e1:=I.i0
    have e2:=I.dn
    exact do_5_in M X h I (by omega) hc k9 (by omega)
set_option maxHeartbeats 400000 in
theorem dos_6 {B:Nat} {w:World} {g cb lb lo:Nat} {va:Option Addr} {kn kc:Nat} {la:Option Addr} {ln lc:Nat} {K:List Int} {L:List Ins} {now most:Int} {S:List Int} {pc st:Nat} {cs sk:List Int} {a b c:Int} {na:ByteArray} (M:Mc B w va kn kc la ln lc K L) (X:Xc B w lb lo ⟨(6:Nat),a,b,c,na⟩) (h:Sc B w g cb (.slice va kn kc) (.slice la ln lc) now most S ⟨pc+1,cs,sk,st⟩) (hr:rgt K L.length ⟨(6:Nat),a,b,c,na⟩=true) (hc:cs.length=K.length) (k9:K.length≤4096) (h1:(Ins.mk (6:Nat) a b c na).t≤sk.length) :
    Calls Tryz.prog 60 #[.pointer (some ⟨g,0,none⟩),.pointer (some ⟨lb,lo,none⟩)] w (Did B w g cb (.slice va kn kc) (.slice la ln lc) now most K ⟨(6:Nat),a,b,c,na⟩ ⟨pc,cs,sk,st⟩):=by
  have t1:2≤sk.length:=h1
  have hp:aris K ⟨6,a,b,c,na⟩=true:=by simpa [rgt] using hr
  obtain ⟨⟨b1,b2⟩,⟨a1,a2⟩,_,c1,c2⟩:=(aris_parts K _).1 hp
  dsimp only at b1 b2 a1 a2 c1 c2
  obtain ⟨A,rfl⟩:∃ A:Nat,a=A:=⟨a.toNat,by omega⟩
  obtain ⟨N,rfl⟩:∃ N:Nat,b=N:=⟨b.toNat,by omega⟩
  obtain ⟨n,y,r,rfl⟩:=sk2 t1
  rcases ix_or (A:=A) (N:=N) (c:=c) (y:=y) (by omega) (by omega) (by omega) (by omega) (by omega) with ho | ⟨D,i,I⟩
  · exact do_6_out M X h (by omega) (by omega) (by omega) (by omega) ho
  · have e1:=I.i0
    have e2:=I.dn
    exact do_6_in M X h I (by omega) hc k9
set_option maxHeartbeats 400000 in
theorem dos_7 {B:Nat} {w:World} {g cb lb lo:Nat} {va:Option Addr} {kn kc:Nat} {la:Option Addr} {ln lc:Nat} {K:List Int} {now most:Int} {S:List Int} {pc st:Nat} {cs sk:List Int} {a b c:Int} {na:ByteArray} (X:Xc B w lb lo ⟨(7:Nat),a,b,c,na⟩) (h:Sc B w g cb (.slice va kn kc) (.slice la ln lc) now most S ⟨pc+1,cs,sk,st⟩) (h1:(Ins.mk (7:Nat) a b c na).t≤sk.length) (h2:(Ins.mk (7:Nat) a b c na).dl sk.length≤256) :
    Calls Tryz.prog 60 #[.pointer (some ⟨g,0,none⟩),.pointer (some ⟨lb,lo,none⟩)] w (Did B w g cb (.slice va kn kc) (.slice la ln lc) now most K ⟨(7:Nat),a,b,c,na⟩ ⟨pc,cs,sk,st⟩):=by
  obtain ⟨t1,t2⟩:=tp_of 7 (by decide) sk h1 h2
  have u1:tk 7=1:=rfl
  have u2:pt 7=1:=rfl
  rw [u1] at t1
  rw [u1,u2] at t2
  obtain ⟨y,r,rfl⟩:=sk1 t1
  rw [List.length_cons] at t2
  exact do_7 X h (by omega)
set_option maxHeartbeats 400000 in
theorem dos_8 {B:Nat} {w:World} {g cb lb lo:Nat} {va:Option Addr} {kn kc:Nat} {la:Option Addr} {ln lc:Nat} {K:List Int} {now most:Int} {S:List Int} {pc st:Nat} {cs sk:List Int} {a b c:Int} {na:ByteArray} (X:Xc B w lb lo ⟨(8:Nat),a,b,c,na⟩) (h:Sc B w g cb (.slice va kn kc) (.slice la ln lc) now most S ⟨pc+1,cs,sk,st⟩) (h1:(Ins.mk (8:Nat) a b c na).t≤sk.length) (h2:(Ins.mk (8:Nat) a b c na).dl sk.length≤256) :
    Calls Tryz.prog 60 #[.pointer (some ⟨g,0,none⟩),.pointer (some ⟨lb,lo,none⟩)] w (Did B w g cb (.slice va kn kc) (.slice la ln lc) now most K ⟨(8:Nat),a,b,c,na⟩ ⟨pc,cs,sk,st⟩):=by
  obtain ⟨t1,t2⟩:=tp_of 8 (by decide) sk h1 h2
  have u1:tk 8=1:=rfl
  have u2:pt 8=1:=rfl
  rw [u1] at t1
  rw [u1,u2] at t2
  obtain ⟨y,r,rfl⟩:=sk1 t1
  rw [List.length_cons] at t2
  exact do_8 X h (by omega)
set_option maxHeartbeats 400000 in
theorem dos_12 {B:Nat} {w:World} {g cb lb lo:Nat} {va:Option Addr} {kn kc:Nat} {la:Option Addr} {ln lc:Nat} {K:List Int} {now most:Int} {S:List Int} {pc st:Nat} {cs sk:List Int} {a b c:Int} {na:ByteArray} (X:Xc B w lb lo ⟨(12:Nat),a,b,c,na⟩) (h:Sc B w g cb (.slice va kn kc) (.slice la ln lc) now most S ⟨pc+1,cs,sk,st⟩) (h1:(Ins.mk (12:Nat) a b c na).t≤sk.length) (h2:(Ins.mk (12:Nat) a b c na).dl sk.length≤256) :
    Calls Tryz.prog 60 #[.pointer (some ⟨g,0,none⟩),.pointer (some ⟨lb,lo,none⟩)] w (Did B w g cb (.slice va kn kc) (.slice la ln lc) now most K ⟨(12:Nat),a,b,c,na⟩ ⟨pc,cs,sk,st⟩):=by
  obtain ⟨t1,t2⟩:=tp_of 12 (by decide) sk h1 h2
  have u1:tk 12=1:=rfl
  have u2:pt 12=1:=rfl
  rw [u1] at t1
  rw [u1,u2] at t2
  obtain ⟨y,r,rfl⟩:=sk1 t1
  rw [List.length_cons] at t2
  exact do_12 X h (by omega)
set_option maxHeartbeats 400000 in
theorem dos_10 {B:Nat} {w:World} {g cb lb lo:Nat} {va:Option Addr} {kn kc:Nat} {la:Option Addr} {ln lc:Nat} {K:List Int} {now most:Int} {S:List Int} {pc st:Nat} {cs sk:List Int} {a b c:Int} {na:ByteArray} (X:Xc B w lb lo ⟨(10:Nat),a,b,c,na⟩) (h:Sc B w g cb (.slice va kn kc) (.slice la ln lc) now most S ⟨pc+1,cs,sk,st⟩) (h1:(Ins.mk (10:Nat) a b c na).t≤sk.length) (h2:(Ins.mk (10:Nat) a b c na).dl sk.length≤256) :
    Calls Tryz.prog 60 #[.pointer (some ⟨g,0,none⟩),.pointer (some ⟨lb,lo,none⟩)] w (Did B w g cb (.slice va kn kc) (.slice la ln lc) now most K ⟨(10:Nat),a,b,c,na⟩ ⟨pc,cs,sk,st⟩):=by
  obtain ⟨t1,t2⟩:=tp_of 10 (by decide) sk h1 h2
  have u1:tk 10=1:=rfl
  have u2:pt 10=1:=rfl
  rw [u1] at t1
  rw [u1,u2] at t2
  obtain ⟨y,r,rfl⟩:=sk1 t1
  rw [List.length_cons] at t2
  exact do_10 X h (by omega)
set_option maxHeartbeats 400000 in
theorem dos_9 {B:Nat} {w:World} {g cb lb lo:Nat} {va:Option Addr} {kn kc:Nat} {la:Option Addr} {ln lc:Nat} {K:List Int} {now most:Int} {S:List Int} {pc st:Nat} {cs sk:List Int} {a b c:Int} {na:ByteArray} (X:Xc B w lb lo ⟨(9:Nat),a,b,c,na⟩) (h:Sc B w g cb (.slice va kn kc) (.slice la ln lc) now most S ⟨pc+1,cs,sk,st⟩) (h1:(Ins.mk (9:Nat) a b c na).t≤sk.length) (h2:(Ins.mk (9:Nat) a b c na).dl sk.length≤256) :
    Calls Tryz.prog 60 #[.pointer (some ⟨g,0,none⟩),.pointer (some ⟨lb,lo,none⟩)] w (Did B w g cb (.slice va kn kc) (.slice la ln lc) now most K ⟨(9:Nat),a,b,c,na⟩ ⟨pc,cs,sk,st⟩):=by
  obtain ⟨t1,t2⟩:=tp_of 9 (by decide) sk h1 h2
  have u1:tk 9=2:=rfl
  have u2:pt 9=1:=rfl
  rw [u1] at t1
  rw [u1,u2] at t2
  obtain ⟨y,z,r,rfl⟩:=sk2 t1
  simp only [List.length_cons] at t2
  exact do_9 X h (by omega)
set_option maxHeartbeats 400000 in
theorem dos_11 {B:Nat} {w:World} {g cb lb lo:Nat} {va:Option Addr} {kn kc:Nat} {la:Option Addr} {ln lc:Nat} {K:List Int} {now most:Int} {S:List Int} {pc st:Nat} {cs sk:List Int} {a b c:Int} {na:ByteArray} (X:Xc B w lb lo ⟨(11:Nat),a,b,c,na⟩) (h:Sc B w g cb (.slice va kn kc) (.slice la ln lc) now most S ⟨pc+1,cs,sk,st⟩) (h1:(Ins.mk (11:Nat) a b c na).t≤sk.length) (h2:(Ins.mk (11:Nat) a b c na).dl sk.length≤256) :
    Calls Tryz.prog 60 #[.pointer (some ⟨g,0,none⟩),.pointer (some ⟨lb,lo,none⟩)] w (Did B w g cb (.slice va kn kc) (.slice la ln lc) now most K ⟨(11:Nat),a,b,c,na⟩ ⟨pc,cs,sk,st⟩):=by
  obtain ⟨t1,t2⟩:=tp_of 11 (by decide) sk h1 h2
  have u1:tk 11=2:=rfl
  have u2:pt 11=1:=rfl
  rw [u1] at t1
  rw [u1,u2] at t2
  obtain ⟨y,z,r,rfl⟩:=sk2 t1
  simp only [List.length_cons] at t2
  exact do_11 X h (by omega)
set_option maxHeartbeats 400000 in
theorem dos_13 {B:Nat} {w:World} {g cb lb lo:Nat} {va:Option Addr} {kn kc:Nat} {la:Option Addr} {ln lc:Nat} {K:List Int} {now most:Int} {S:List Int} {pc st:Nat} {cs sk:List Int} {a b c:Int} {na:ByteArray} (X:Xc B w lb lo ⟨(13:Nat),a,b,c,na⟩) (h:Sc B w g cb (.slice va kn kc) (.slice la ln lc) now most S ⟨pc+1,cs,sk,st⟩) (h1:(Ins.mk (13:Nat) a b c na).t≤sk.length) (h2:(Ins.mk (13:Nat) a b c na).dl sk.length≤256) :
    Calls Tryz.prog 60 #[.pointer (some ⟨g,0,none⟩),.pointer (some ⟨lb,lo,none⟩)] w (Did B w g cb (.slice va kn kc) (.slice la ln lc) now most K ⟨(13:Nat),a,b,c,na⟩ ⟨pc,cs,sk,st⟩):=by
  obtain ⟨t1,t2⟩:=tp_of 13 (by decide) sk h1 h2
  have u1:tk 13=2:=rfl
  have u2:pt 13=1:=rfl
  rw [u1] at t1
  rw [u1,u2] at t2
  obtain ⟨y,z,r,rfl⟩:=sk2 t1
  simp only [List.length_cons] at t2
  exact do_13 X h (by omega)
set_option maxHeartbeats 400000 in
theorem dos_14 {B:Nat} {w:World} {g cb lb lo:Nat} {va:Option Addr} {kn kc:Nat} {la:Option Addr} {ln lc:Nat} {K:List Int} {now most:Int} {S:List Int} {pc st:Nat} {cs sk:List Int} {a b c:Int} {na:ByteArray} (X:Xc B w lb lo ⟨(14:Nat),a,b,c,na⟩) (h:Sc B w g cb (.slice va kn kc) (.slice la ln lc) now most S ⟨pc+1,cs,sk,st⟩) (h1:(Ins.mk (14:Nat) a b c na).t≤sk.length) (h2:(Ins.mk (14:Nat) a b c na).dl sk.length≤256) :
    Calls Tryz.prog 60 #[.pointer (some ⟨g,0,none⟩),.pointer (some ⟨lb,lo,none⟩)] w (Did B w g cb (.slice va kn kc) (.slice la ln lc) now most K ⟨(14:Nat),a,b,c,na⟩ ⟨pc,cs,sk,st⟩):=by
  obtain ⟨t1,t2⟩:=tp_of 14 (by decide) sk h1 h2
  have u1:tk 14=2:=rfl
  have u2:pt 14=1:=rfl
  rw [u1] at t1
  rw [u1,u2] at t2
  obtain ⟨y,z,r,rfl⟩:=sk2 t1
  simp only [List.length_cons] at t2
  exact do_14 X h (by omega)
set_option maxHeartbeats 400000 in
theorem dos_15 {B:Nat} {w:World} {g cb lb lo:Nat} {va:Option Addr} {kn kc:Nat} {la:Option Addr} {ln lc:Nat} {K:List Int} {now most:Int} {S:List Int} {pc st:Nat} {cs sk:List Int} {a b c:Int} {na:ByteArray} (X:Xc B w lb lo ⟨(15:Nat),a,b,c,na⟩) (h:Sc B w g cb (.slice va kn kc) (.slice la ln lc) now most S ⟨pc+1,cs,sk,st⟩) (h1:(Ins.mk (15:Nat) a b c na).t≤sk.length) (h2:(Ins.mk (15:Nat) a b c na).dl sk.length≤256) :
    Calls Tryz.prog 60 #[.pointer (some ⟨g,0,none⟩),.pointer (some ⟨lb,lo,none⟩)] w (Did B w g cb (.slice va kn kc) (.slice la ln lc) now most K ⟨(15:Nat),a,b,c,na⟩ ⟨pc,cs,sk,st⟩):=by
  obtain ⟨t1,t2⟩:=tp_of 15 (by decide) sk h1 h2
  have u1:tk 15=3:=rfl
  have u2:pt 15=1:=rfl
  rw [u1] at t1
  rw [u1,u2] at t2
  obtain ⟨y,z,u,r,rfl⟩:=sk3 t1
  simp only [List.length_cons] at t2
  exact do_15 X h (by omega)
set_option maxHeartbeats 400000 in
theorem dos_16 {B:Nat} {w:World} {g cb lb lo:Nat} {va:Option Addr} {kn kc:Nat} {la:Option Addr} {ln lc:Nat} {K:List Int} {now most:Int} {S:List Int} {pc st:Nat} {cs sk:List Int} {a b c:Int} {na:ByteArray} (X:Xc B w lb lo ⟨(16:Nat),a,b,c,na⟩) (h:Sc B w g cb (.slice va kn kc) (.slice la ln lc) now most S ⟨pc+1,cs,sk,st⟩) (h1:(Ins.mk (16:Nat) a b c na).t≤sk.length) (h2:(Ins.mk (16:Nat) a b c na).dl sk.length≤256) :
    Calls Tryz.prog 60 #[.pointer (some ⟨g,0,none⟩),.pointer (some ⟨lb,lo,none⟩)] w (Did B w g cb (.slice va kn kc) (.slice la ln lc) now most K ⟨(16:Nat),a,b,c,na⟩ ⟨pc,cs,sk,st⟩):=by
  obtain ⟨t1,t2⟩:=tp_of 16 (by decide) sk h1 h2
  have u1:tk 16=1:=rfl
  have u2:pt 16=2:=rfl
  rw [u1] at t1
  rw [u1,u2] at t2
  obtain ⟨y,r,rfl⟩:=sk1 t1
  simp only [List.length_cons] at t2
  exact do_16 X h (by omega)
set_option maxHeartbeats 400000 in
theorem dos_17 {B:Nat} {w:World} {g cb lb lo:Nat} {va:Option Addr} {kn kc:Nat} {la:Option Addr} {ln lc:Nat} {K:List Int} {now most:Int} {S:List Int} {pc st:Nat} {cs sk:List Int} {a b c:Int} {na:ByteArray} (X:Xc B w lb lo ⟨(17:Nat),a,b,c,na⟩) (h:Sc B w g cb (.slice va kn kc) (.slice la ln lc) now most S ⟨pc+1,cs,sk,st⟩) (h1:(Ins.mk (17:Nat) a b c na).t≤sk.length) :
    Calls Tryz.prog 60 #[.pointer (some ⟨g,0,none⟩),.pointer (some ⟨lb,lo,none⟩)] w (Did B w g cb (.slice va kn kc) (.slice la ln lc) now most K ⟨(17:Nat),a,b,c,na⟩ ⟨pc,cs,sk,st⟩):=by
  have t1:1≤sk.length:=h1
  obtain ⟨y,r,rfl⟩:=sk1 t1
  exact do_17 X h
set_option maxHeartbeats 400000 in
theorem dos_22 {B:Nat} {w:World} {g cb lb lo:Nat} {va:Option Addr} {kn kc:Nat} {la:Option Addr} {ln lc:Nat} {K:List Int} {L:List Ins} {now most:Int} {S:List Int} {pc st:Nat} {cs sk:List Int} {a b c:Int} {na:ByteArray} (X:Xc B w lb lo ⟨(22:Nat),a,b,c,na⟩) (h:Sc B w g cb (.slice va kn kc) (.slice la ln lc) now most S ⟨pc+1,cs,sk,st⟩) (hr:rgt K L.length ⟨(22:Nat),a,b,c,na⟩=true) (hc:cs.length=K.length) (k9:K.length≤4096) :
    Calls Tryz.prog 60 #[.pointer (some ⟨g,0,none⟩),.pointer (some ⟨lb,lo,none⟩)] w (Did B w g cb (.slice va kn kc) (.slice la ln lc) now most K ⟨(22:Nat),a,b,c,na⟩ ⟨pc,cs,sk,st⟩):=by
  have hb:blk K ⟨22,a,b,c,na⟩=true:=by simpa [rgt] using hr
  obtain ⟨q1,q2,q3,q4,_⟩:=blk_at hb
  dsimp only at q1 q2 q3 q4
  obtain ⟨A,rfl⟩:∃ A:Nat,a=A:=⟨a.toNat,by omega⟩
  exact do_22 X h q1 (text_inj (q2.trans (nm_toList _).symm)) rfl (by rw [hc];exact q4) (by omega)
set_option maxHeartbeats 400000 in
theorem dos_24 {B:Nat} {w:World} {g cb lb lo:Nat} {va:Option Addr} {kn kc:Nat} {la:Option Addr} {ln lc:Nat} {K:List Int} {L:List Ins} {now most:Int} {S:List Int} {pc st:Nat} {cs sk:List Int} {a b c:Int} {na:ByteArray} (X:Xc B w lb lo ⟨(24:Nat),a,b,c,na⟩) (h:Sc B w g cb (.slice va kn kc) (.slice la ln lc) now most S ⟨pc+1,cs,sk,st⟩) (hr:rgt K L.length ⟨(24:Nat),a,b,c,na⟩=true) (h1:(Ins.mk (24:Nat) a b c na).t≤sk.length) (h2:(Ins.mk (24:Nat) a b c na).dl sk.length≤256) :
    Calls Tryz.prog 60 #[.pointer (some ⟨g,0,none⟩),.pointer (some ⟨lb,lo,none⟩)] w (Did B w g cb (.slice va kn kc) (.slice la ln lc) now most K ⟨(24:Nat),a,b,c,na⟩ ⟨pc,cs,sk,st⟩):=by
  have hp:0≤a∧a < 256:=by simpa [rgt] using hr
  obtain ⟨A,rfl⟩:∃ A:Nat,a=A:=⟨a.toNat,by omega⟩
  have t1:1+A≤sk.length:=h1
  have t2:sk.length - (1+A)+(2+A)≤256:=h2
  exact do_24 X h (by omega) (by omega)
set_option maxHeartbeats 400000 in
/-- Do, of any instruction that doesn't jump, step, or end. -/
theorem do_c {B:Nat} {w:World} {g cb lb lo:Nat} {va:Option Addr} {kn kc:Nat} {la:Option Addr} {ln lc:Nat} {K:List Int} {L:List Ins} {now most:Int} {S:List Int} {s:St} {x:Ins} (M:Mc B w va kn kc la ln lc K L) (X:Xc B w lb lo x) (h:Sc B w g cb (.slice va kn kc) (.slice la ln lc) now most S ⟨s.pc+1,s.cs,s.sk,s.st⟩) (hr:rgt K L.length x=true) (hc:s.cs.length=K.length) (k9:K.length≤4096) (h1:x.t≤s.sk.length) (h2:x.dl s.sk.length≤256) (j18:x.op ≠ 18) (j19:x.op ≠ 19) (j20:x.op ≠ 20) (j21:x.op ≠ 21) (j23:x.op ≠ 23) :
    Calls Tryz.prog 60 #[.pointer (some ⟨g,0,none⟩),.pointer (some ⟨lb,lo,none⟩)] w (Did B w g cb (.slice va kn kc) (.slice la ln lc) now most K x s):=by
  have g0:=rgt_ok hr
  have hlo:=g0.lo
  have hhi:=g0.hi
  obtain ⟨op,a,b,c,na⟩:=x
  obtain ⟨pc,cs,sk,st⟩:=s
  dsimp only at *
  obtain ⟨n,rfl⟩:∃ n:Nat,op=n:=⟨op.toNat,by omega⟩
  have n1:1≤n:=by omega
  have n2:n≤24:=by omega
  match n,n1,n2 with
  | 1,_,_=>exact dos_1 X h h1 h2
  | 2,_,_=>exact dos_2 X h hr hc h1 h2
  | 3,_,_=>exact dos_3 M X h hr hc k9 h1
  | 4,_,_=>exact dos_4 M X h hr hc k9 h1 h2
  | 5,_,_=>exact dos_5 M X h hr hc k9 h1 h2
  | 6,_,_=>exact dos_6 M X h hr hc k9 h1
  | 7,_,_=>exact dos_7 X h h1 h2
  | 8,_,_=>exact dos_8 X h h1 h2
  | 9,_,_=>exact dos_9 X h h1 h2
  | 10,_,_=>exact dos_10 X h h1 h2
  | 11,_,_=>exact dos_11 X h h1 h2
  | 12,_,_=>exact dos_12 X h h1 h2
  | 13,_,_=>exact dos_13 X h h1 h2
  | 14,_,_=>exact dos_14 X h h1 h2
  | 15,_,_=>exact dos_15 X h h1 h2
  | 16,_,_=>exact dos_16 X h h1 h2
  | 17,_,_=>exact dos_17 X h h1
  | 18,_,_=>exact absurd rfl j18
  | 19,_,_=>exact absurd rfl j19
  | 20,_,_=>exact absurd rfl j20
  | 21,_,_=>exact absurd rfl j21
  | 22,_,_=>exact dos_22 X h hr hc k9
  | 23,_,_=>exact absurd rfl j23
  | 24,_,_=>exact dos_24 X h hr h1 h2
end Go.Proofs.YthjclogkcmomkaaGreatDoor
