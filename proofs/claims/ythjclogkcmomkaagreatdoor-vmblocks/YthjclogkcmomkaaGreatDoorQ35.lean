/- The walks of do, an instruction each (stage 21). -/
import Derived.Test.YthjclogkcmomkaaGreatDoorQ34
import Derived.Test.YthjclogkcmomkaaGreatDoorQ31
namespace Go.Proofs.YthjclogkcmomkaaGreatDoor
open Go.RowKit
open Fb Cod Nm Vmx
/-- What do tells of an instruction: the next state, or a fault. -/
def Did (B:Nat) (w:World) (g cb:Nat) (kv lv:Value) (now most:Int) (K:List Int) (x:Ins) (s:St) (e:Ending) (w':World):Prop :=
  Below B w w'∧((∃ t S',ex1 K now most x s=.go t∧e=.returned (.int .i64 0)∧Sc B w' g cb kv lv now most S' t) ∨ (∃ f S' sk',ex1 K now most x s=.stop s f∧f ≠ 0∧e=.returned (.int .i64 f)∧Sc B w' g cb kv lv now most S' ⟨s.pc+1,s.cs,sk',s.st⟩))
theorem outb_in {A N:Nat} {c y:Int} {D i:Nat} (I:Ix A N c y D i) (k:Int) (na:ByteArray):outb ⟨k,A,N,c,na⟩ y=false∧cl ⟨k,A,N,c,na⟩ y=i:=by
  have:=I.n0
  have:=I.y0
  have:=I.dn
  have:=I.i0
  constructor
  · unfold outb
    rw [decide_eq_false (show ¬ y < c by omega),decide_eq_false (show ¬ c+(N:Int) - 1 < y by omega)]
    rfl
  · show (A:Int).toNat+(y - c).toNat=i
    omega
theorem outb_out {A N:Nat} {c y:Int} (ho:y < c ∨ c+((N:Int) - 1) < y) (k:Int) (na:ByteArray):outb ⟨k,A,N,c,na⟩ y=true:=by
  unfold outb
  rcases ho with h | h
  · rw [decide_eq_true h];rfl
  · rw [decide_eq_true (show c+(N:Int) - 1 < y by omega),Bool.or_true]
set_option maxHeartbeats 800000 in
set_option maxRecDepth 100000 in
theorem do_1 {B:Nat} {w:World} {g cb lb lo:Nat} {va:Option Addr} {kn kc:Nat} {la:Option Addr} {ln lc:Nat} {K:List Int} {now most:Int} {S:List Int} {pc st:Nat} {cs r:List Int} {a b:Int} {c:Int} {na:ByteArray} (X:Xc B w lb lo ⟨1,a,b,c,na⟩) (h:Sc B w g cb (.slice va kn kc) (.slice la ln lc) now most S ⟨pc+1,cs,r,st⟩) (hl:r.length < 256) :
    Calls Tryz.prog 60 #[.pointer (some ⟨g,0,none⟩),.pointer (some ⟨lb,lo,none⟩)] w (Did B w g cb (.slice va kn kc) (.slice la ln lc) now most K ⟨1,a,b,c,na⟩ ⟨pc,cs,r,st⟩):=by
  have y0:=X.y0
  have y1:=X.y1
  have y2:=X.y2
  have y3:=X.y3
  have y4:=X.y4
  dsimp only at y0 y1 y2 y3 y4
  have WN:=hid_as (fun W:World=>wrap_n a c W)
  have PU:Hid (Calls Tryz.prog 74 #[.pointer (some ⟨g,0,none⟩),.int .i64 (wr a c)] w.drew fun e w'=>e=.returned (.tuple #[])∧(∃ A',Sc B w' g cb (.slice va kn kc) (.slice la ln lc) now most A' ⟨pc+1,cs,wr a c :: r,st⟩)∧Below B w w'∧(w'.cell? ⟨lb,lo+1,none⟩=some (.int .i64 a)∧w'.cell? ⟨lb,lo+3,none⟩=some (.int .i64 c))):=(push_c (wr a c) (h.heap (W:=w.drew) rfl) hl).mono (fun e w' q=>⟨q.1,q.2.1,((below_dn (Below.refl B w) h 1).trans q.2.2),(X.below ((below_dn (Below.refl B w) h 1).trans q.2.2)).y1,(X.below ((below_dn (Below.refl B w) h 1).trans q.2.2)).y3⟩)
  have EX:Hid (ex1 K now most ⟨1,a,b,c,na⟩ ⟨pc,cs,r,st⟩=.go ⟨pc+1,cs,wr a c :: r,st⟩):=rfl
  generalize wr a c=v at *
  clear h X
  go_enter Tryz.func60,Tryz.ntmps60
  go_wp2
  go_region_held3 (fun W=>W.cell? ⟨lb,lo+1,none⟩=some (.int .i64 a)∧W.cell? ⟨lb,lo+3,none⟩=some (.int .i64 c)) (first | exact ⟨y1,y3⟩ | assumption | go_keep) (first | ((go_at_call 58;(with_reducible refine (WN.out _).mono ?_);rintro e w' ⟨rfl,hw⟩;subst w')) | ((go_at_call 74;(with_reducible refine PU.out.mono ?_);rintro e w9 ⟨rfl,⟨A9,s9⟩,b9,z9⟩)))
  (try simp only [Exit.inBlock,Exit.then])
  have S9:=hid_as s9
  have B9:=hid_as b9
  clear s9 b9
  go_wp2
  go_ret
  exact ⟨B9.out,Or.inl ⟨_,_,EX.out,rfl,S9.out⟩⟩
set_option maxHeartbeats 800000 in
set_option maxRecDepth 100000 in
theorem do_2 {B:Nat} {w:World} {g cb lb lo:Nat} {va:Option Addr} {kn kc:Nat} {la:Option Addr} {ln lc:Nat} {K:List Int} {now most:Int} {S:List Int} {pc st:Nat} {cs r:List Int} {A:Nat} {b:Int} {c:Int} {na:ByteArray} (X:Xc B w lb lo ⟨2,A,b,c,na⟩) (h:Sc B w g cb (.slice va kn kc) (.slice la ln lc) now most S ⟨pc+1,cs,r,st⟩) (hl:r.length < 256) (hA:A < cs.length) :
    Calls Tryz.prog 60 #[.pointer (some ⟨g,0,none⟩),.pointer (some ⟨lb,lo,none⟩)] w (Did B w g cb (.slice va kn kc) (.slice la ln lc) now most K ⟨2,A,b,c,na⟩ ⟨pc,cs,r,st⟩):=by
  have y0:=X.y0
  have y1:=X.y1
  have y2:=X.y2
  have y3:=X.y3
  have y4:=X.y4
  dsimp only at y0 y1 y2 y3 y4
  have c2:=h.c2
  have cc:=h.cel_at hA
  dsimp only at c2 cc
  have i1:(A:Int) < (cs.length:Int):=by omega
  have i0:(0:Int)≤(A:Int):=by omega
  have EX:Hid (ex1 K now most ⟨2,A,b,c,na⟩ ⟨pc,cs,r,st⟩=.go ⟨pc+1,cs,cs.getD A 0 :: r,st⟩):=rfl
  obtain ⟨v,hv⟩:∃ v,v=cs.getD A 0:=⟨_,rfl⟩
  rw [← hv] at cc EX
  obtain ⟨m,hm⟩:∃ m,m=cs.length:=⟨_,rfl⟩
  rw [← hm] at c2 i1
  have PU:Hid (Calls Tryz.prog 74 #[.pointer (some ⟨g,0,none⟩),.int .i64 v] w.drew fun e w'=>e=.returned (.tuple #[])∧(∃ A',Sc B w' g cb (.slice va kn kc) (.slice la ln lc) now most A' ⟨pc+1,cs,v :: r,st⟩)∧Below B w w'∧(w'.cell? ⟨g,2,none⟩=some (.slice (some ⟨cb,0,none⟩) m m)∧w'.cell? ⟨lb,lo+1,none⟩=some (.int .i64 (A:Int))∧w'.cell? ⟨cb,A,none⟩=some (.int .i64 v))):=(push_c v (h.heap (W:=w.drew) rfl) hl).mono (fun e w' q=>⟨q.1,q.2.1,((below_dn (Below.refl B w) h 1).trans q.2.2),by
    obtain ⟨A',s9⟩:=q.2.1
    have z2:=s9.c2
    dsimp only at z2
    rw [← hm] at z2
    refine ⟨z2,(X.below ((below_dn (Below.refl B w) h 1).trans q.2.2)).y1,?_⟩
    rw [hv]
    exact s9.cel_at hA⟩)
  clear h X hv hm hA
  go_enter Tryz.func60,Tryz.ntmps60
  go_wp2
  go_region_held3 (fun W=>W.cell? ⟨g,2,none⟩=some (.slice (some ⟨cb,0,none⟩) m m)∧W.cell? ⟨lb,lo+1,none⟩=some (.int .i64 (A:Int))∧W.cell? ⟨cb,A,none⟩=some (.int .i64 v)) (first | exact ⟨c2,y1,cc⟩ | assumption | go_keep) ((go_at_call 74;(with_reducible refine PU.out.mono ?_);rintro e w9 ⟨rfl,⟨A9,s9⟩,b9,z9⟩))
  (try simp only [Exit.inBlock,Exit.then])
  have S9:=hid_as s9
  have B9:=hid_as b9
  clear s9 b9
  go_wp2
  go_ret
  exact ⟨B9.out,Or.inl ⟨_,_,EX.out,rfl,S9.out⟩⟩
set_option maxHeartbeats 800000 in
set_option maxRecDepth 100000 in
theorem do_3 {B:Nat} {w:World} {g cb lb lo:Nat} {va:Option Addr} {kn kc:Nat} {la:Option Addr} {ln lc:Nat} {K:List Int} {L:List Ins} {now most:Int} {S:List Int} {pc st:Nat} {cs r:List Int} {A:Nat} {b y:Int} {c:Int} {na:ByteArray} (M:Mc B w va kn kc la ln lc K L) (X:Xc B w lb lo ⟨3,A,b,c,na⟩) (h:Sc B w g cb (.slice va kn kc) (.slice la ln lc) now most S ⟨pc+1,cs,y :: r,st⟩) (hA:A < K.length) (hc:cs.length=K.length) (k9:K.length≤4096) :
    Calls Tryz.prog 60 #[.pointer (some ⟨g,0,none⟩),.pointer (some ⟨lb,lo,none⟩)] w (Did B w g cb (.slice va kn kc) (.slice la ln lc) now most K ⟨3,A,b,c,na⟩ ⟨pc,cs,y :: r,st⟩):=by
  have y0:=X.y0
  have y1:=X.y1
  have y2:=X.y2
  have y3:=X.y3
  have y4:=X.y4
  dsimp only at y0 y1 y2 y3 y4
  have EX:Hid (ex1 K now most ⟨3,A,b,c,na⟩ ⟨pc,cs,y :: r,st⟩=.go ⟨pc+1,cs.set A (wr (K.getD A 0) y),r,st⟩):=rfl
  have P2:Hid (Calls Tryz.prog 59 #[.pointer (some ⟨g,0,none⟩)] w.drew fun e w'=>e=.returned (.int .i64 y)∧Sc B w' g cb (.slice va kn kc) (.slice la ln lc) now most S ⟨pc+1,cs,r,st⟩∧Below B w w'∧w'.cell? ⟨lb,lo+1,none⟩=some (.int .i64 (A:Int))):=(pop_c (h.heap (W:=w.drew) rfl)).mono (fun e w' q=>⟨q.1,q.2.1,((below_dn (Below.refl B w) h 1).trans q.2.2),(X.below ((below_dn (Below.refl B w) h 1).trans q.2.2)).y1⟩)
  have ST:Hid (∀ W:World,Below B w W→Sc B W g cb (.slice va kn kc) (.slice la ln lc) now most S ⟨pc+1,cs,r,st⟩→Calls Tryz.prog 75 #[.pointer (some ⟨g,0,none⟩),.int .i64 (A:Int),.int .i64 y] W fun e w'=>e=.returned (.tuple #[])∧Sc B w' g cb (.slice va kn kc) (.slice la ln lc) now most S ⟨pc+1,cs.set A (wr (K.getD A 0) y),r,st⟩∧Below B w w'∧w'.cell? ⟨lb,lo+1,none⟩=some (.int .i64 (A:Int))):=fun W hb hs=>(store_c A y (M.below hb) hs hA hc k9).mono (fun e w' q=>⟨q.1,q.2.1,hb.trans q.2.2,(X.below (hb.trans q.2.2)).y1⟩)
  clear h X M hA hc k9
  go_enter Tryz.func60,Tryz.ntmps60
  go_wp2
  go_region_held3 (fun W=>W.cell? ⟨lb,lo+1,none⟩=some (.int .i64 (A:Int))) (first | exact y1 | assumption | go_keep) (first | ((go_at_call 59;(with_reducible refine P2.out.mono ?_);rintro e w2 ⟨rfl,s2,b2,z2⟩)) | ((go_at_call 75;(with_reducible refine (ST.out _ b2 s2).mono ?_);rintro e w9 ⟨rfl,s9,b9,z9⟩)))
  (try simp only [Exit.inBlock,Exit.then])
  have S9:=hid_as s9
  have B9:=hid_as b9
  clear s9 b9
  go_wp2
  go_ret
  exact ⟨B9.out,Or.inl ⟨_,_,EX.out,rfl,S9.out⟩⟩
set_option maxHeartbeats 800000 in
set_option maxRecDepth 100000 in
theorem do_16 {B:Nat} {w:World} {g cb lb lo:Nat} {va:Option Addr} {kn kc:Nat} {la:Option Addr} {ln lc:Nat} {K:List Int} {now most:Int} {S:List Int} {pc st:Nat} {cs r:List Int} {a b y:Int} {c:Int} {na:ByteArray} (X:Xc B w lb lo ⟨16,a,b,c,na⟩) (h:Sc B w g cb (.slice va kn kc) (.slice la ln lc) now most S ⟨pc+1,cs,y :: r,st⟩) (hl:r.length+1 < 256) :
    Calls Tryz.prog 60 #[.pointer (some ⟨g,0,none⟩),.pointer (some ⟨lb,lo,none⟩)] w (Did B w g cb (.slice va kn kc) (.slice la ln lc) now most K ⟨16,a,b,c,na⟩ ⟨pc,cs,y :: r,st⟩):=by
  have y0:=X.y0
  have y1:=X.y1
  have y2:=X.y2
  have y3:=X.y3
  have y4:=X.y4
  dsimp only at y0 y1 y2 y3 y4
  have EX:Hid (ex1 K now most ⟨16,a,b,c,na⟩ ⟨pc,cs,y :: r,st⟩=.go ⟨pc+1,cs,y :: y :: r,st⟩):=rfl
  have UN:Hid (Calls Tryz.prog 76 #[.pointer (some ⟨g,0,none⟩),.int .i64 0] w fun e w'=>e=.returned (.int .i64 (y))∧Sc B w' g cb (.slice va kn kc) (.slice la ln lc) now most S ⟨pc+1,cs,y :: r,st⟩∧Below B w w'):=(under_c 0 h (by show 0 < r.length+1;omega)).mono (fun e w' q=>⟨q.1,h.below q.2.below,q.2.below.mono h.wB⟩)
  have PU:Hid (∀ W:World,Below B w W→Sc B W g cb (.slice va kn kc) (.slice la ln lc) now most S ⟨pc+1,cs,y :: r,st⟩→Calls Tryz.prog 74 #[.pointer (some ⟨g,0,none⟩),.int .i64 (y)] W fun e w'=>e=.returned (.tuple #[])∧(∃ A',Sc B w' g cb (.slice va kn kc) (.slice la ln lc) now most A' ⟨pc+1,cs,y :: y :: r,st⟩)∧Below B w w'):=fun W hb hs=>(push_c (y) hs (by show r.length+1 < 256;exact hl)).mono (fun e w' q=>⟨q.1,q.2.1,hb.trans q.2.2⟩)
  clear h X
  go_enter Tryz.func60,Tryz.ntmps60
  go_wp2_with fail
  refine UN.out.mono ?_
  rintro e w2 ⟨rfl,s2,b2⟩
  have P3:=hid_as (PU.out w2 b2 s2)
  clear s2 b2
  go_wp2_with fail
  refine P3.out.mono ?_
  rintro e w9 ⟨rfl,⟨A9,s9⟩,b9⟩
  have S9:=hid_as s9
  have B9:=hid_as b9
  clear s9 b9
  go_wp2
  go_ret
  exact ⟨B9.out,Or.inl ⟨_,_,EX.out,rfl,S9.out⟩⟩
set_option maxHeartbeats 800000 in
set_option maxRecDepth 100000 in
theorem do_24 {B:Nat} {w:World} {g cb lb lo:Nat} {va:Option Addr} {kn kc:Nat} {la:Option Addr} {ln lc:Nat} {K:List Int} {now most:Int} {S:List Int} {pc st:Nat} {cs r:List Int} {A:Nat} {b:Int} {c:Int} {na:ByteArray} (X:Xc B w lb lo ⟨24,A,b,c,na⟩) (h:Sc B w g cb (.slice va kn kc) (.slice la ln lc) now most S ⟨pc+1,cs,r,st⟩) (hl:r.length < 256) (hA:A < r.length) :
    Calls Tryz.prog 60 #[.pointer (some ⟨g,0,none⟩),.pointer (some ⟨lb,lo,none⟩)] w (Did B w g cb (.slice va kn kc) (.slice la ln lc) now most K ⟨24,A,b,c,na⟩ ⟨pc,cs,r,st⟩):=by
  have y0:=X.y0
  have y1:=X.y1
  have y2:=X.y2
  have y3:=X.y3
  have y4:=X.y4
  dsimp only at y0 y1 y2 y3 y4
  have EX:Hid (ex1 K now most ⟨24,A,b,c,na⟩ ⟨pc,cs,r,st⟩=.go ⟨pc+1,cs,r.getD A 0 :: r,st⟩):=rfl
  have UN:Hid (Calls Tryz.prog 76 #[.pointer (some ⟨g,0,none⟩),.int .i64 (A:Int)] w fun e w'=>e=.returned (.int .i64 (r.getD A 0))∧Sc B w' g cb (.slice va kn kc) (.slice la ln lc) now most S ⟨pc+1,cs,r,st⟩∧Below B w w'):=(under_c A h hA).mono (fun e w' q=>⟨q.1,h.below q.2.below,q.2.below.mono h.wB⟩)
  have PU:Hid (∀ W:World,Below B w W→Sc B W g cb (.slice va kn kc) (.slice la ln lc) now most S ⟨pc+1,cs,r,st⟩→Calls Tryz.prog 74 #[.pointer (some ⟨g,0,none⟩),.int .i64 (r.getD A 0)] W fun e w'=>e=.returned (.tuple #[])∧(∃ A',Sc B w' g cb (.slice va kn kc) (.slice la ln lc) now most A' ⟨pc+1,cs,r.getD A 0 :: r,st⟩)∧Below B w w'):=fun W hb hs=>(push_c (r.getD A 0) hs hl).mono (fun e w' q=>⟨q.1,q.2.1,hb.trans q.2.2⟩)
  clear h X
  generalize r.getD A 0=v at *
  go_enter Tryz.func60,Tryz.ntmps60
  go_wp2_with fail
  refine UN.out.mono ?_
  rintro e w2 ⟨rfl,s2,b2⟩
  have P3:=hid_as (PU.out w2 b2 s2)
  clear s2 b2
  go_wp2_with fail
  refine P3.out.mono ?_
  rintro e w9 ⟨rfl,⟨A9,s9⟩,b9⟩
  have S9:=hid_as s9
  have B9:=hid_as b9
  clear s9 b9
  go_wp2
  go_ret
  exact ⟨B9.out,Or.inl ⟨_,_,EX.out,rfl,S9.out⟩⟩
set_option maxHeartbeats 800000 in
set_option maxRecDepth 100000 in
theorem do_17 {B:Nat} {w:World} {g cb lb lo:Nat} {va:Option Addr} {kn kc:Nat} {la:Option Addr} {ln lc:Nat} {K:List Int} {now most:Int} {S:List Int} {pc st:Nat} {cs r:List Int} {a b y:Int} {c:Int} {na:ByteArray} (X:Xc B w lb lo ⟨17,a,b,c,na⟩) (h:Sc B w g cb (.slice va kn kc) (.slice la ln lc) now most S ⟨pc+1,cs,y :: r,st⟩)  :
    Calls Tryz.prog 60 #[.pointer (some ⟨g,0,none⟩),.pointer (some ⟨lb,lo,none⟩)] w (Did B w g cb (.slice va kn kc) (.slice la ln lc) now most K ⟨17,a,b,c,na⟩ ⟨pc,cs,y :: r,st⟩):=by
  have y0:=X.y0
  have y1:=X.y1
  have y2:=X.y2
  have y3:=X.y3
  have y4:=X.y4
  dsimp only at y0 y1 y2 y3 y4
  have EX:Hid (ex1 K now most ⟨17,a,b,c,na⟩ ⟨pc,cs,y :: r,st⟩=.go ⟨pc+1,cs,r,st⟩):=rfl
  have P2:=hid_as (pop_c h)
  clear h X
  go_enter Tryz.func60,Tryz.ntmps60
  go_wp2_with fail
  refine P2.out.mono ?_
  rintro e w9 ⟨rfl,s9,b9⟩
  have S9:=hid_as s9
  have B9:=hid_as b9
  clear s9 b9
  go_wp2
  go_ret
  exact ⟨B9.out,Or.inl ⟨_,_,EX.out,rfl,S9.out⟩⟩
set_option maxHeartbeats 800000 in
set_option maxRecDepth 100000 in
theorem do_22 {B:Nat} {w:World} {g cb lb lo:Nat} {va:Option Addr} {kn kc:Nat} {la:Option Addr} {ln lc:Nat} {K:List Int} {now most:Int} {S:List Int} {pc st:Nat} {cs r:List Int} {A k:Nat} {b:Int} {c:Int} {na:ByteArray} (X:Xc B w lb lo ⟨22,A,b,c,na⟩) (h:Sc B w g cb (.slice va kn kc) (.slice la ln lc) now most S ⟨pc+1,cs,r,st⟩) (hk:k < 10) (hn:na=Fb.nm k) (hno:kno na=k) (hA:A+nI k+nO k+3≤cs.length) (h9:cs.length≤4096) :
    Calls Tryz.prog 60 #[.pointer (some ⟨g,0,none⟩),.pointer (some ⟨lb,lo,none⟩)] w (Did B w g cb (.slice va kn kc) (.slice la ln lc) now most K ⟨22,A,b,c,na⟩ ⟨pc,cs,r,st⟩):=by
  have y0:=X.y0
  have y1:=X.y1
  have y2:=X.y2
  have y3:=X.y3
  have y4:=X.y4
  dsimp only at y0 y1 y2 y3 y4
  have EX:Hid (ex1 K now most ⟨22,A,b,c,na⟩ ⟨pc,cs,r,st⟩=.go ⟨pc+1,cal k cs A now,r,st⟩):=by rw [← hno];rfl
  rw [hn] at y4
  have CA:Hid (Calls Tryz.prog 77 #[.pointer (some ⟨g,0,none⟩),.string (Fb.nm k),.int .i64 (A:Int)] w.drew fun e w'=>e=.returned (.tuple #[])∧Sc B w' g cb (.slice va kn kc) (.slice la ln lc) now most S ⟨pc+1,cal k cs A now,r,st⟩∧Below B w w'∧(w'.cell? ⟨lb,lo+4,none⟩=some (.string (Fb.nm k))∧w'.cell? ⟨lb,lo+1,none⟩=some (.int .i64 (A:Int)))):=(call_c k A hk (h.heap (W:=w.drew) rfl) hA h9).mono (fun e w' q=>⟨q.1,q.2.1,((below_dn (Below.refl B w) h 1).trans q.2.2),by rw [← hn];exact (X.below ((below_dn (Below.refl B w) h 1).trans q.2.2)).y4,(X.below ((below_dn (Below.refl B w) h 1).trans q.2.2)).y1⟩)
  clear h X hA h9 hno hn
  go_enter Tryz.func60,Tryz.ntmps60
  go_wp2
  go_region_held3 (fun W=>W.cell? ⟨lb,lo+4,none⟩=some (.string (Fb.nm k))∧W.cell? ⟨lb,lo+1,none⟩=some (.int .i64 (A:Int))) (first | exact ⟨y4,y1⟩ | assumption | go_keep) ((go_at_call 77;(with_reducible refine CA.out.mono ?_);rintro e w9 ⟨rfl,s9,b9,z9⟩))
  (try simp only [Exit.inBlock,Exit.then])
  have S9:=hid_as s9
  have B9:=hid_as b9
  clear s9 b9
  go_wp2
  go_ret
  exact ⟨B9.out,Or.inl ⟨_,_,EX.out,rfl,S9.out⟩⟩
set_option maxHeartbeats 800000 in
set_option maxRecDepth 100000 in
theorem do_4_in {B:Nat} {w:World} {g cb lb lo:Nat} {va:Option Addr} {kn kc:Nat} {la:Option Addr} {ln lc:Nat} {K:List Int} {L:List Ins} {now most:Int} {S:List Int} {pc st:Nat} {cs r:List Int} {A N D i:Nat} {y:Int} {c:Int} {na:ByteArray} (M:Mc B w va kn kc la ln lc K L) (X:Xc B w lb lo ⟨4,A,N,c,na⟩) (h:Sc B w g cb (.slice va kn kc) (.slice la ln lc) now most S ⟨pc+1,cs,y :: r,st⟩) (I:Ix A N c y D i) (hi:i < K.length) (hc:cs.length=K.length) (k9:K.length≤4096) (hl:r.length < 256) :
    Calls Tryz.prog 60 #[.pointer (some ⟨g,0,none⟩),.pointer (some ⟨lb,lo,none⟩)] w (Did B w g cb (.slice va kn kc) (.slice la ln lc) now most K ⟨4,A,N,c,na⟩ ⟨pc,cs,y :: r,st⟩):=by
  have y0:=X.y0
  have y1:=X.y1
  have y2:=X.y2
  have y3:=X.y3
  have y4:=X.y4
  dsimp only at y0 y1 y2 y3 y4
  have EX:Hid (ex1 K now most ⟨4,A,N,c,na⟩ ⟨pc,cs,y :: r,st⟩=.go ⟨pc+1,cs,cs.getD i 0 :: r,st⟩):=by
    show (if outb ⟨4,A,N,c,na⟩ y then Res.stop ⟨pc,cs,y :: r,st⟩ 2 else Res.go ⟨pc+1,cs,cs.getD (cl ⟨4,A,N,c,na⟩ y) 0 :: r,st⟩)=_
    rw [(outb_in I 4 na).1,if_neg (by decide),(outb_in I 4 na).2]
  have EL:=hid_as (el_4_in M X h I hi hc k9 hl)
  clear h X M I hi hc k9
  go_enter Tryz.func60,Tryz.ntmps60
  go_wp2_with fail
  refine EL.out.mono ?_
  rintro e w9 ⟨rfl,⟨A9,s9⟩,b9⟩
  have S9:=hid_as s9
  have B9:=hid_as b9
  clear s9 b9
  go_wp2
  go_ret
  exact ⟨B9.out,Or.inl ⟨_,_,EX.out,rfl,S9.out⟩⟩
set_option maxHeartbeats 800000 in
set_option maxRecDepth 100000 in
theorem do_4_out {B:Nat} {w:World} {g cb lb lo:Nat} {va:Option Addr} {kn kc:Nat} {la:Option Addr} {ln lc:Nat} {K:List Int} {L:List Ins} {now most:Int} {S:List Int} {pc st:Nat} {cs r:List Int} {A N:Nat} {y:Int} {c:Int} {na:ByteArray} (M:Mc B w va kn kc la ln lc K L) (X:Xc B w lb lo ⟨4,A,N,c,na⟩) (h:Sc B w g cb (.slice va kn kc) (.slice la ln lc) now most S ⟨pc+1,cs,y :: r,st⟩) (hn0:1≤N) (hn9:N≤256) (hc0:-2147483648≤c) (hc9:c≤2147483648) (ho:y < c ∨ c+((N:Int) - 1) < y) :
    Calls Tryz.prog 60 #[.pointer (some ⟨g,0,none⟩),.pointer (some ⟨lb,lo,none⟩)] w (Did B w g cb (.slice va kn kc) (.slice la ln lc) now most K ⟨4,A,N,c,na⟩ ⟨pc,cs,y :: r,st⟩):=by
  have y0:=X.y0
  have y1:=X.y1
  have y2:=X.y2
  have y3:=X.y3
  have y4:=X.y4
  dsimp only at y0 y1 y2 y3 y4
  have EX:Hid (ex1 K now most ⟨4,A,N,c,na⟩ ⟨pc,cs,y :: r,st⟩=.stop ⟨pc,cs,y :: r,st⟩ 2):=by
    show (if outb ⟨4,A,N,c,na⟩ y then Res.stop ⟨pc,cs,y :: r,st⟩ 2 else _)=_
    rw [outb_out ho,if_pos rfl]
  have NE:=hid_as (show (2:Int) ≠ 0 by decide)
  have EL:=hid_as (el_4_out M X h hn0 hn9 hc0 hc9 ho)
  clear h X M ho hn0 hn9 hc0 hc9
  go_enter Tryz.func60,Tryz.ntmps60
  go_wp2_with fail
  refine EL.out.mono ?_
  rintro e w9 ⟨rfl,⟨A9,s9⟩,b9⟩
  have S9:=hid_as s9
  have B9:=hid_as b9
  clear s9 b9
  go_wp2
  go_ret
  exact ⟨B9.out,Or.inr ⟨_,_,_,EX.out,NE.out,rfl,S9.out⟩⟩
set_option maxHeartbeats 800000 in
set_option maxRecDepth 100000 in
theorem do_5_in {B:Nat} {w:World} {g cb lb lo:Nat} {va:Option Addr} {kn kc:Nat} {la:Option Addr} {ln lc:Nat} {K:List Int} {L:List Ins} {now most:Int} {S:List Int} {pc st:Nat} {cs r:List Int} {A N D i:Nat} {y:Int} {c:Int} {na:ByteArray} (M:Mc B w va kn kc la ln lc K L) (X:Xc B w lb lo ⟨5,A,N,c,na⟩) (h:Sc B w g cb (.slice va kn kc) (.slice la ln lc) now most S ⟨pc+1,cs,y :: r,st⟩) (I:Ix A N c y D i) (hi:i < K.length) (hc:cs.length=K.length) (k9:K.length≤4096) (hl:r.length < 256) :
    Calls Tryz.prog 60 #[.pointer (some ⟨g,0,none⟩),.pointer (some ⟨lb,lo,none⟩)] w (Did B w g cb (.slice va kn kc) (.slice la ln lc) now most K ⟨5,A,N,c,na⟩ ⟨pc,cs,y :: r,st⟩):=by
  have y0:=X.y0
  have y1:=X.y1
  have y2:=X.y2
  have y3:=X.y3
  have y4:=X.y4
  dsimp only at y0 y1 y2 y3 y4
  have EX:Hid (ex1 K now most ⟨5,A,N,c,na⟩ ⟨pc,cs,y :: r,st⟩=.go ⟨pc+1,cs,y :: r,st⟩):=by
    show (if outb ⟨5,A,N,c,na⟩ y then Res.stop ⟨pc,cs,y :: r,st⟩ 2 else Res.go ⟨pc+1,cs,y :: r,st⟩)=_
    rw [(outb_in I 5 na).1,if_neg (by decide)]
  have EL:=hid_as (el_5_in M X h I hi hc k9 hl)
  clear h X M I hi hc k9
  go_enter Tryz.func60,Tryz.ntmps60
  go_wp2_with fail
  refine EL.out.mono ?_
  rintro e w9 ⟨rfl,⟨A9,s9⟩,b9⟩
  have S9:=hid_as s9
  have B9:=hid_as b9
  clear s9 b9
  go_wp2
  go_ret
  exact ⟨B9.out,Or.inl ⟨_,_,EX.out,rfl,S9.out⟩⟩
set_option maxHeartbeats 800000 in
set_option maxRecDepth 100000 in
theorem do_5_out {B:Nat} {w:World} {g cb lb lo:Nat} {va:Option Addr} {kn kc:Nat} {la:Option Addr} {ln lc:Nat} {K:List Int} {L:List Ins} {now most:Int} {S:List Int} {pc st:Nat} {cs r:List Int} {A N:Nat} {y:Int} {c:Int} {na:ByteArray} (M:Mc B w va kn kc la ln lc K L) (X:Xc B w lb lo ⟨5,A,N,c,na⟩) (h:Sc B w g cb (.slice va kn kc) (.slice la ln lc) now most S ⟨pc+1,cs,y :: r,st⟩) (hn0:1≤N) (hn9:N≤256) (hc0:-2147483648≤c) (hc9:c≤2147483648) (ho:y < c ∨ c+((N:Int) - 1) < y) :
    Calls Tryz.prog 60 #[.pointer (some ⟨g,0,none⟩),.pointer (some ⟨lb,lo,none⟩)] w (Did B w g cb (.slice va kn kc) (.slice la ln lc) now most K ⟨5,A,N,c,na⟩ ⟨pc,cs,y :: r,st⟩):=by
  have y0:=X.y0
  have y1:=X.y1
  have y2:=X.y2
  have y3:=X.y3
  have y4:=X.y4
  dsimp only at y0 y1 y2 y3 y4
  have EX:Hid (ex1 K now most ⟨5,A,N,c,na⟩ ⟨pc,cs,y :: r,st⟩=.stop ⟨pc,cs,y :: r,st⟩ 2):=by
    show (if outb ⟨5,A,N,c,na⟩ y then Res.stop ⟨pc,cs,y :: r,st⟩ 2 else _)=_
    rw [outb_out ho,if_pos rfl]
  have NE:=hid_as (show (2:Int) ≠ 0 by decide)
  have EL:=hid_as (el_5_out M X h hn0 hn9 hc0 hc9 ho)
  clear h X M ho hn0 hn9 hc0 hc9
  go_enter Tryz.func60,Tryz.ntmps60
  go_wp2_with fail
  refine EL.out.mono ?_
  rintro e w9 ⟨rfl,⟨A9,s9⟩,b9⟩
  have S9:=hid_as s9
  have B9:=hid_as b9
  clear s9 b9
  go_wp2
  go_ret
  exact ⟨B9.out,Or.inr ⟨_,_,_,EX.out,NE.out,rfl,S9.out⟩⟩
set_option maxHeartbeats 800000 in
set_option maxRecDepth 100000 in
theorem do_6_in {B:Nat} {w:World} {g cb lb lo:Nat} {va:Option Addr} {kn kc:Nat} {la:Option Addr} {ln lc:Nat} {K:List Int} {L:List Ins} {now most:Int} {S:List Int} {pc st:Nat} {cs r:List Int} {A N D i:Nat} {n y:Int} {c:Int} {na:ByteArray} (M:Mc B w va kn kc la ln lc K L) (X:Xc B w lb lo ⟨6,A,N,c,na⟩) (h:Sc B w g cb (.slice va kn kc) (.slice la ln lc) now most S ⟨pc+1,cs,n :: y :: r,st⟩) (I:Ix A N c y D i) (hi:i < K.length) (hc:cs.length=K.length) (k9:K.length≤4096) :
    Calls Tryz.prog 60 #[.pointer (some ⟨g,0,none⟩),.pointer (some ⟨lb,lo,none⟩)] w (Did B w g cb (.slice va kn kc) (.slice la ln lc) now most K ⟨6,A,N,c,na⟩ ⟨pc,cs,n :: y :: r,st⟩):=by
  have y0:=X.y0
  have y1:=X.y1
  have y2:=X.y2
  have y3:=X.y3
  have y4:=X.y4
  dsimp only at y0 y1 y2 y3 y4
  have EX:Hid (ex1 K now most ⟨6,A,N,c,na⟩ ⟨pc,cs,n :: y :: r,st⟩=.go ⟨pc+1,cs.set i (wr (K.getD i 0) n),r,st⟩):=by
    show (if outb ⟨6,A,N,c,na⟩ y then Res.stop ⟨pc,cs,n :: y :: r,st⟩ 2 else Res.go ⟨pc+1,cs.set (cl ⟨6,A,N,c,na⟩ y) (wr (K.getD (cl ⟨6,A,N,c,na⟩ y) 0) n),r,st⟩)=_
    rw [(outb_in I 6 na).1,if_neg (by decide),(outb_in I 6 na).2]
  have EL:=hid_as (el_6_in M X h I hi hc k9)
  clear h X M I hi hc k9
  go_enter Tryz.func60,Tryz.ntmps60
  go_wp2_with fail
  refine EL.out.mono ?_
  rintro e w9 ⟨rfl,⟨A9,s9⟩,b9⟩
  have S9:=hid_as s9
  have B9:=hid_as b9
  clear s9 b9
  go_wp2
  go_ret
  exact ⟨B9.out,Or.inl ⟨_,_,EX.out,rfl,S9.out⟩⟩
set_option maxHeartbeats 800000 in
set_option maxRecDepth 100000 in
theorem do_6_out {B:Nat} {w:World} {g cb lb lo:Nat} {va:Option Addr} {kn kc:Nat} {la:Option Addr} {ln lc:Nat} {K:List Int} {L:List Ins} {now most:Int} {S:List Int} {pc st:Nat} {cs r:List Int} {A N:Nat} {n y:Int} {c:Int} {na:ByteArray} (M:Mc B w va kn kc la ln lc K L) (X:Xc B w lb lo ⟨6,A,N,c,na⟩) (h:Sc B w g cb (.slice va kn kc) (.slice la ln lc) now most S ⟨pc+1,cs,n :: y :: r,st⟩) (hn0:1≤N) (hn9:N≤256) (hc0:-2147483648≤c) (hc9:c≤2147483648) (ho:y < c ∨ c+((N:Int) - 1) < y) :
    Calls Tryz.prog 60 #[.pointer (some ⟨g,0,none⟩),.pointer (some ⟨lb,lo,none⟩)] w (Did B w g cb (.slice va kn kc) (.slice la ln lc) now most K ⟨6,A,N,c,na⟩ ⟨pc,cs,n :: y :: r,st⟩):=by
  have y0:=X.y0
  have y1:=X.y1
  have y2:=X.y2
  have y3:=X.y3
  have y4:=X.y4
  dsimp only at y0 y1 y2 y3 y4
  have EX:Hid (ex1 K now most ⟨6,A,N,c,na⟩ ⟨pc,cs,n :: y :: r,st⟩=.stop ⟨pc,cs,n :: y :: r,st⟩ 2):=by
    show (if outb ⟨6,A,N,c,na⟩ y then Res.stop ⟨pc,cs,n :: y :: r,st⟩ 2 else _)=_
    rw [outb_out ho,if_pos rfl]
  have NE:=hid_as (show (2:Int) ≠ 0 by decide)
  have EL:=hid_as (el_6_out M X h hn0 hn9 hc0 hc9 ho)
  clear h X M ho hn0 hn9 hc0 hc9
  go_enter Tryz.func60,Tryz.ntmps60
  go_wp2_with fail
  refine EL.out.mono ?_
  rintro e w9 ⟨rfl,⟨A9,s9⟩,b9⟩
  have S9:=hid_as s9
  have B9:=hid_as b9
  clear s9 b9
  go_wp2
  go_ret
  exact ⟨B9.out,Or.inr ⟨_,_,_,EX.out,NE.out,rfl,S9.out⟩⟩
set_option maxHeartbeats 800000 in
set_option maxRecDepth 100000 in
theorem do_7 {B:Nat} {w:World} {g cb lb lo:Nat} {va:Option Addr} {kn kc:Nat} {la:Option Addr} {ln lc:Nat} {K:List Int} {now most:Int} {S:List Int} {pc st:Nat} {cs r:List Int} {a b y:Int} {c:Int} {na:ByteArray} (X:Xc B w lb lo ⟨7,a,b,c,na⟩) (h:Sc B w g cb (.slice va kn kc) (.slice la ln lc) now most S ⟨pc+1,cs,y :: r,st⟩) (hl:r.length < 256) :
    Calls Tryz.prog 60 #[.pointer (some ⟨g,0,none⟩),.pointer (some ⟨lb,lo,none⟩)] w (Did B w g cb (.slice va kn kc) (.slice la ln lc) now most K ⟨7,a,b,c,na⟩ ⟨pc,cs,y :: r,st⟩):=by
  have y0:=X.y0
  have y1:=X.y1
  have y2:=X.y2
  have y3:=X.y3
  have y4:=X.y4
  dsimp only at y0 y1 y2 y3 y4
  have EX:Hid (ex1 K now most ⟨7,a,b,c,na⟩ ⟨pc,cs,y :: r,st⟩=.go ⟨pc+1,cs,(ngv a y) :: r,st⟩):=rfl
  have EL:=hid_as (reckon_7 X h hl)
  unfold Rk at EL
  clear h X
  go_enter Tryz.func60,Tryz.ntmps60
  go_wp2_with fail
  refine EL.out.mono ?_
  rintro e w9 ⟨rfl,⟨A9,s9⟩,b9⟩
  have S9:=hid_as s9
  have B9:=hid_as b9
  clear s9 b9
  go_wp2
  go_ret
  exact ⟨B9.out,Or.inl ⟨_,_,EX.out,rfl,S9.out⟩⟩
set_option maxHeartbeats 800000 in
set_option maxRecDepth 100000 in
theorem do_8 {B:Nat} {w:World} {g cb lb lo:Nat} {va:Option Addr} {kn kc:Nat} {la:Option Addr} {ln lc:Nat} {K:List Int} {now most:Int} {S:List Int} {pc st:Nat} {cs r:List Int} {a b y:Int} {c:Int} {na:ByteArray} (X:Xc B w lb lo ⟨8,a,b,c,na⟩) (h:Sc B w g cb (.slice va kn kc) (.slice la ln lc) now most S ⟨pc+1,cs,y :: r,st⟩) (hl:r.length < 256) :
    Calls Tryz.prog 60 #[.pointer (some ⟨g,0,none⟩),.pointer (some ⟨lb,lo,none⟩)] w (Did B w g cb (.slice va kn kc) (.slice la ln lc) now most K ⟨8,a,b,c,na⟩ ⟨pc,cs,y :: r,st⟩):=by
  have y0:=X.y0
  have y1:=X.y1
  have y2:=X.y2
  have y3:=X.y3
  have y4:=X.y4
  dsimp only at y0 y1 y2 y3 y4
  have EX:Hid (ex1 K now most ⟨8,a,b,c,na⟩ ⟨pc,cs,y :: r,st⟩=.go ⟨pc+1,cs,(ntv a y) :: r,st⟩):=rfl
  have EL:=hid_as (reckon_8 X h hl)
  unfold Rk at EL
  clear h X
  go_enter Tryz.func60,Tryz.ntmps60
  go_wp2_with fail
  refine EL.out.mono ?_
  rintro e w9 ⟨rfl,⟨A9,s9⟩,b9⟩
  have S9:=hid_as s9
  have B9:=hid_as b9
  clear s9 b9
  go_wp2
  go_ret
  exact ⟨B9.out,Or.inl ⟨_,_,EX.out,rfl,S9.out⟩⟩
set_option maxHeartbeats 800000 in
set_option maxRecDepth 100000 in
theorem do_9 {B:Nat} {w:World} {g cb lb lo:Nat} {va:Option Addr} {kn kc:Nat} {la:Option Addr} {ln lc:Nat} {K:List Int} {now most:Int} {S:List Int} {pc st:Nat} {cs r:List Int} {a b y z:Int} {c:Int} {na:ByteArray} (X:Xc B w lb lo ⟨9,a,b,c,na⟩) (h:Sc B w g cb (.slice va kn kc) (.slice la ln lc) now most S ⟨pc+1,cs,y :: z :: r,st⟩) (hl:r.length < 256) :
    Calls Tryz.prog 60 #[.pointer (some ⟨g,0,none⟩),.pointer (some ⟨lb,lo,none⟩)] w (Did B w g cb (.slice va kn kc) (.slice la ln lc) now most K ⟨9,a,b,c,na⟩ ⟨pc,cs,y :: z :: r,st⟩):=by
  have y0:=X.y0
  have y1:=X.y1
  have y2:=X.y2
  have y3:=X.y3
  have y4:=X.y4
  dsimp only at y0 y1 y2 y3 y4
  have EL:=hid_as (reckon_9 X h hl)
  unfold Rk at EL
  have E0:ex1 K now most ⟨9,a,b,c,na⟩ ⟨pc,cs,y :: z :: r,st⟩=if apf b a y=0 then Res.go ⟨pc+1,cs,apv b a z y :: r,st⟩ else Res.stop ⟨pc,cs,y :: z :: r,st⟩ (apf b a y):=rfl
  clear h X
  by_cases h0:apf b a y=0
  · rw [if_pos h0] at E0
    have EX:=hid_as E0
    rw [h0] at EL
    clear E0
    go_enter Tryz.func60,Tryz.ntmps60
    go_wp2_with fail
    refine EL.out.mono ?_
    rintro e w9 ⟨rfl,⟨A9,s9⟩,b9⟩
    have S9:=hid_as s9
    have B9:=hid_as b9
    clear s9 b9
    go_wp2
    go_ret
    exact ⟨B9.out,Or.inl ⟨_,_,EX.out,rfl,S9.out⟩⟩
  · rw [if_neg h0] at E0
    have EX:=hid_as E0
    have NE:=hid_as h0
    clear E0
    go_enter Tryz.func60,Tryz.ntmps60
    go_wp2_with fail
    refine EL.out.mono ?_
    rintro e w9 ⟨rfl,⟨A9,s9⟩,b9⟩
    have S9:=hid_as s9
    have B9:=hid_as b9
    clear s9 b9
    go_wp2
    go_ret
    exact ⟨B9.out,Or.inr ⟨_,_,_,EX.out,NE.out,rfl,S9.out⟩⟩
set_option maxHeartbeats 800000 in
set_option maxRecDepth 100000 in
theorem do_10 {B:Nat} {w:World} {g cb lb lo:Nat} {va:Option Addr} {kn kc:Nat} {la:Option Addr} {ln lc:Nat} {K:List Int} {now most:Int} {S:List Int} {pc st:Nat} {cs r:List Int} {a b y:Int} {c:Int} {na:ByteArray} (X:Xc B w lb lo ⟨10,a,b,c,na⟩) (h:Sc B w g cb (.slice va kn kc) (.slice la ln lc) now most S ⟨pc+1,cs,y :: r,st⟩) (hl:r.length < 256) :
    Calls Tryz.prog 60 #[.pointer (some ⟨g,0,none⟩),.pointer (some ⟨lb,lo,none⟩)] w (Did B w g cb (.slice va kn kc) (.slice la ln lc) now most K ⟨10,a,b,c,na⟩ ⟨pc,cs,y :: r,st⟩):=by
  have y0:=X.y0
  have y1:=X.y1
  have y2:=X.y2
  have y3:=X.y3
  have y4:=X.y4
  dsimp only at y0 y1 y2 y3 y4
  have EX:Hid (ex1 K now most ⟨10,a,b,c,na⟩ ⟨pc,cs,y :: r,st⟩=.go ⟨pc+1,cs,(wr b (wr a y)) :: r,st⟩):=rfl
  have EL:=hid_as (reckon_10 X h hl)
  unfold Rk at EL
  clear h X
  go_enter Tryz.func60,Tryz.ntmps60
  go_wp2_with fail
  refine EL.out.mono ?_
  rintro e w9 ⟨rfl,⟨A9,s9⟩,b9⟩
  have S9:=hid_as s9
  have B9:=hid_as b9
  clear s9 b9
  go_wp2
  go_ret
  exact ⟨B9.out,Or.inl ⟨_,_,EX.out,rfl,S9.out⟩⟩
set_option maxHeartbeats 800000 in
set_option maxRecDepth 100000 in
theorem do_11 {B:Nat} {w:World} {g cb lb lo:Nat} {va:Option Addr} {kn kc:Nat} {la:Option Addr} {ln lc:Nat} {K:List Int} {now most:Int} {S:List Int} {pc st:Nat} {cs r:List Int} {a b y z:Int} {c:Int} {na:ByteArray} (X:Xc B w lb lo ⟨11,a,b,c,na⟩) (h:Sc B w g cb (.slice va kn kc) (.slice la ln lc) now most S ⟨pc+1,cs,y :: z :: r,st⟩) (hl:r.length < 256) :
    Calls Tryz.prog 60 #[.pointer (some ⟨g,0,none⟩),.pointer (some ⟨lb,lo,none⟩)] w (Did B w g cb (.slice va kn kc) (.slice la ln lc) now most K ⟨11,a,b,c,na⟩ ⟨pc,cs,y :: z :: r,st⟩):=by
  have y0:=X.y0
  have y1:=X.y1
  have y2:=X.y2
  have y3:=X.y3
  have y4:=X.y4
  dsimp only at y0 y1 y2 y3 y4
  have EX:Hid (ex1 K now most ⟨11,a,b,c,na⟩ ⟨pc,cs,y :: z :: r,st⟩=.go ⟨pc+1,cs,(shv na a z y) :: r,st⟩):=rfl
  have EL:=hid_as (reckon_11 X h hl)
  unfold Rk at EL
  clear h X
  go_enter Tryz.func60,Tryz.ntmps60
  go_wp2_with fail
  refine EL.out.mono ?_
  rintro e w9 ⟨rfl,⟨A9,s9⟩,b9⟩
  have S9:=hid_as s9
  have B9:=hid_as b9
  clear s9 b9
  go_wp2
  go_ret
  exact ⟨B9.out,Or.inl ⟨_,_,EX.out,rfl,S9.out⟩⟩
set_option maxHeartbeats 800000 in
set_option maxRecDepth 100000 in
theorem do_12 {B:Nat} {w:World} {g cb lb lo:Nat} {va:Option Addr} {kn kc:Nat} {la:Option Addr} {ln lc:Nat} {K:List Int} {now most:Int} {S:List Int} {pc st:Nat} {cs r:List Int} {a b y:Int} {c:Int} {na:ByteArray} (X:Xc B w lb lo ⟨12,a,b,c,na⟩) (h:Sc B w g cb (.slice va kn kc) (.slice la ln lc) now most S ⟨pc+1,cs,y :: r,st⟩) (hl:r.length < 256) :
    Calls Tryz.prog 60 #[.pointer (some ⟨g,0,none⟩),.pointer (some ⟨lb,lo,none⟩)] w (Did B w g cb (.slice va kn kc) (.slice la ln lc) now most K ⟨12,a,b,c,na⟩ ⟨pc,cs,y :: r,st⟩):=by
  have y0:=X.y0
  have y1:=X.y1
  have y2:=X.y2
  have y3:=X.y3
  have y4:=X.y4
  dsimp only at y0 y1 y2 y3 y4
  have EX:Hid (ex1 K now most ⟨12,a,b,c,na⟩ ⟨pc,cs,y :: r,st⟩=.go ⟨pc+1,cs,(absv a y) :: r,st⟩):=rfl
  have EL:=hid_as (reckon_12 X h hl)
  unfold Rk at EL
  clear h X
  go_enter Tryz.func60,Tryz.ntmps60
  go_wp2_with fail
  refine EL.out.mono ?_
  rintro e w9 ⟨rfl,⟨A9,s9⟩,b9⟩
  have S9:=hid_as s9
  have B9:=hid_as b9
  clear s9 b9
  go_wp2
  go_ret
  exact ⟨B9.out,Or.inl ⟨_,_,EX.out,rfl,S9.out⟩⟩
set_option maxHeartbeats 800000 in
set_option maxRecDepth 100000 in
theorem do_13 {B:Nat} {w:World} {g cb lb lo:Nat} {va:Option Addr} {kn kc:Nat} {la:Option Addr} {ln lc:Nat} {K:List Int} {now most:Int} {S:List Int} {pc st:Nat} {cs r:List Int} {a b y z:Int} {c:Int} {na:ByteArray} (X:Xc B w lb lo ⟨13,a,b,c,na⟩) (h:Sc B w g cb (.slice va kn kc) (.slice la ln lc) now most S ⟨pc+1,cs,y :: z :: r,st⟩) (hl:r.length < 256) :
    Calls Tryz.prog 60 #[.pointer (some ⟨g,0,none⟩),.pointer (some ⟨lb,lo,none⟩)] w (Did B w g cb (.slice va kn kc) (.slice la ln lc) now most K ⟨13,a,b,c,na⟩ ⟨pc,cs,y :: z :: r,st⟩):=by
  have y0:=X.y0
  have y1:=X.y1
  have y2:=X.y2
  have y3:=X.y3
  have y4:=X.y4
  dsimp only at y0 y1 y2 y3 y4
  have EX:Hid (ex1 K now most ⟨13,a,b,c,na⟩ ⟨pc,cs,y :: z :: r,st⟩=.go ⟨pc+1,cs,(min z y) :: r,st⟩):=rfl
  have EL:=hid_as (reckon_13 X h hl)
  unfold Rk at EL
  clear h X
  go_enter Tryz.func60,Tryz.ntmps60
  go_wp2_with fail
  refine EL.out.mono ?_
  rintro e w9 ⟨rfl,⟨A9,s9⟩,b9⟩
  have S9:=hid_as s9
  have B9:=hid_as b9
  clear s9 b9
  go_wp2
  go_ret
  exact ⟨B9.out,Or.inl ⟨_,_,EX.out,rfl,S9.out⟩⟩
set_option maxHeartbeats 800000 in
set_option maxRecDepth 100000 in
theorem do_14 {B:Nat} {w:World} {g cb lb lo:Nat} {va:Option Addr} {kn kc:Nat} {la:Option Addr} {ln lc:Nat} {K:List Int} {now most:Int} {S:List Int} {pc st:Nat} {cs r:List Int} {a b y z:Int} {c:Int} {na:ByteArray} (X:Xc B w lb lo ⟨14,a,b,c,na⟩) (h:Sc B w g cb (.slice va kn kc) (.slice la ln lc) now most S ⟨pc+1,cs,y :: z :: r,st⟩) (hl:r.length < 256) :
    Calls Tryz.prog 60 #[.pointer (some ⟨g,0,none⟩),.pointer (some ⟨lb,lo,none⟩)] w (Did B w g cb (.slice va kn kc) (.slice la ln lc) now most K ⟨14,a,b,c,na⟩ ⟨pc,cs,y :: z :: r,st⟩):=by
  have y0:=X.y0
  have y1:=X.y1
  have y2:=X.y2
  have y3:=X.y3
  have y4:=X.y4
  dsimp only at y0 y1 y2 y3 y4
  have EX:Hid (ex1 K now most ⟨14,a,b,c,na⟩ ⟨pc,cs,y :: z :: r,st⟩=.go ⟨pc+1,cs,(max z y) :: r,st⟩):=rfl
  have EL:=hid_as (reckon_14 X h hl)
  unfold Rk at EL
  clear h X
  go_enter Tryz.func60,Tryz.ntmps60
  go_wp2_with fail
  refine EL.out.mono ?_
  rintro e w9 ⟨rfl,⟨A9,s9⟩,b9⟩
  have S9:=hid_as s9
  have B9:=hid_as b9
  clear s9 b9
  go_wp2
  go_ret
  exact ⟨B9.out,Or.inl ⟨_,_,EX.out,rfl,S9.out⟩⟩
set_option maxHeartbeats 800000 in
set_option maxRecDepth 100000 in
theorem do_15 {B:Nat} {w:World} {g cb lb lo:Nat} {va:Option Addr} {kn kc:Nat} {la:Option Addr} {ln lc:Nat} {K:List Int} {now most:Int} {S:List Int} {pc st:Nat} {cs r:List Int} {a b y z u:Int} {c:Int} {na:ByteArray} (X:Xc B w lb lo ⟨15,a,b,c,na⟩) (h:Sc B w g cb (.slice va kn kc) (.slice la ln lc) now most S ⟨pc+1,cs,y :: z :: u :: r,st⟩) (hl:r.length < 256) :
    Calls Tryz.prog 60 #[.pointer (some ⟨g,0,none⟩),.pointer (some ⟨lb,lo,none⟩)] w (Did B w g cb (.slice va kn kc) (.slice la ln lc) now most K ⟨15,a,b,c,na⟩ ⟨pc,cs,y :: z :: u :: r,st⟩):=by
  have y0:=X.y0
  have y1:=X.y1
  have y2:=X.y2
  have y3:=X.y3
  have y4:=X.y4
  dsimp only at y0 y1 y2 y3 y4
  have EX:Hid (ex1 K now most ⟨15,a,b,c,na⟩ ⟨pc,cs,y :: z :: u :: r,st⟩=.go ⟨pc+1,cs,(if u=0 then z else y) :: r,st⟩):=rfl
  have EL:=hid_as (reckon_15 X h hl)
  unfold Rk at EL
  clear h X
  go_enter Tryz.func60,Tryz.ntmps60
  go_wp2_with fail
  refine EL.out.mono ?_
  rintro e w9 ⟨rfl,⟨A9,s9⟩,b9⟩
  have S9:=hid_as s9
  have B9:=hid_as b9
  clear s9 b9
  go_wp2
  go_ret
  exact ⟨B9.out,Or.inl ⟨_,_,EX.out,rfl,S9.out⟩⟩
end Go.Proofs.YthjclogkcmomkaaGreatDoor
