/- The walks of reckon, an instruction each (stage 21). -/
import Derived.Test.YthjclogkcmomkaaGreatDoorQ30
import Derived.Test.YthjclogkcmomkaaGreatDoorQ32
namespace Go.Proofs.YthjclogkcmomkaaGreatDoor
open Go.RowKit
open Fb Cod Nm Vmx
/-- An instruction in memory, below B. -/
def Xc (B:Nat) (w:World) (lb lo:Nat) (x:Ins):Prop:=lb < B∧∀ j u,x.cs[j]?=some u→w.cell? ⟨lb,lo+j,none⟩=some u
theorem Xc.below {B:Nat} {w u:World} {lb lo:Nat} {x:Ins} (h:Xc B w lb lo x) (k:Below B w u):Xc B u lb lo x :=
  ⟨h.1,fun j v hv=>(k.cell (p:=⟨lb,lo+j,none⟩) h.1).trans (h.2 j v hv)⟩
theorem Xc.y0 {B:Nat} {w:World} {lb lo:Nat} {x:Ins} (h:Xc B w lb lo x):w.cell? ⟨lb,lo,none⟩=some (.int .i64 x.op):=h.2 0 _ rfl
theorem Xc.y1 {B:Nat} {w:World} {lb lo:Nat} {x:Ins} (h:Xc B w lb lo x):w.cell? ⟨lb,lo+1,none⟩=some (.int .i64 x.a):=h.2 1 _ rfl
theorem Xc.y2 {B:Nat} {w:World} {lb lo:Nat} {x:Ins} (h:Xc B w lb lo x):w.cell? ⟨lb,lo+2,none⟩=some (.int .i64 x.b):=h.2 2 _ rfl
theorem Xc.y3 {B:Nat} {w:World} {lb lo:Nat} {x:Ins} (h:Xc B w lb lo x):w.cell? ⟨lb,lo+3,none⟩=some (.int .i64 x.c):=h.2 3 _ rfl
theorem Xc.y4 {B:Nat} {w:World} {lb lo:Nat} {x:Ins} (h:Xc B w lb lo x):w.cell? ⟨lb,lo+4,none⟩=some (.string x.name):=h.2 4 _ rfl
theorem convert_n (k m a:Int) (w:World):Calls Tryz.prog 93 #[.int .i64 k,.int .i64 m,.int .i64 a] w fun e w'=>e=.returned (.int .i64 (wr m (wr k a)))∧w'=w:=by
  have W1:=hid_as (wrap_n k a w)
  have W2:=hid_as (wrap_n m (wr k a) w)
  generalize wr k a=x at *
  go_enter Tryz.func93,Tryz.ntmps93
  go_wp2_with fail
  refine W1.out.mono ?_
  rintro e w' ⟨rfl,hw⟩
  subst w'
  go_wp2_with fail
  refine W2.out.mono ?_
  rintro e w' ⟨rfl,hw⟩
  subst w'
  go_wp2
  go_ret
  exact ⟨rfl,rfl⟩
theorem Sc.keptB {B:Nat} {a w u:World} {g cb:Nat} {kv lv:Value} {now most:Int} {A:List Int} {s:St} (h:Sc B w g cb kv lv now most A s) (hb:Below B a w) (k:Kept w u):Sc B u g cb kv lv now most A s∧Below B a u:=by
  have q:Below w.heap.size w u:=⟨k.os,k.tape,k.output,k.size,k.block⟩
  exact ⟨h.below q,hb.trans (q.mono h.wB)⟩
/-- What reckon tells: the fault; the number is put on. -/
def Rk (B:Nat) (w:World) (g cb:Nat) (kv lv:Value) (now most:Int) (pc st:Nat) (cs r:List Int) (v f:Int) (e:Ending) (w':World):Prop :=
  e=.returned (.int .i64 f)∧(∃ A',Sc B w' g cb kv lv now most A' ⟨pc,cs,v :: r,st⟩)∧Below B w w'
set_option maxHeartbeats 400000 in
set_option maxRecDepth 100000 in
theorem reckon_7 {B:Nat} {w:World} {g cb lb lo:Nat} {kv lv:Value} {now most:Int} {A:List Int} {pc st:Nat} {cs r:List Int} {a b c:Int} {nm:ByteArray} {y:Int} (X:Xc B w lb lo ⟨7,a,b,c,nm⟩) (h:Sc B w g cb kv lv now most A ⟨pc,cs,y :: r,st⟩) (hl:r.length < 256) :
    Calls Tryz.prog 79 #[.pointer (some ⟨g,0,none⟩),.pointer (some ⟨lb,lo,none⟩)] w (Rk B w g cb kv lv now most pc st cs r (ngv a y) (0)):=by
  have P1:=hid_as (pop_c h)
  have XX:=hid_as X
  have CF:=hid_as (fun W:World=>neg_n a y W)
  obtain ⟨v,hv⟩:∃ v,v=ngv a y:=⟨_,rfl⟩
  rw [← hv] at CF ⊢
  clear hv
  clear h X
  go_enter Tryz.func79,Tryz.ntmps79
  go_wp2_with fail
  refine P1.out.mono ?_
  rintro e w1 ⟨rfl,s1,b1⟩
  have B1:=hid_as b1
  have X1:=hid_as (XX.out.below b1)
  have S1:=hid_as s1
  have y0:=X1.out.y0
  have y1:=X1.out.y1
  have y2:=X1.out.y2
  have y4:=X1.out.y4
  clear b1 s1
  go_wp2_with (go_at_call 90;refine (CF.out _).mono ?_;rintro e w' ⟨rfl,hw⟩;subst w')
  refine (push_c v S1.out hl).mono ?_
  rintro e w9 ⟨rfl,s9,b9⟩
  have S9:=hid_as s9
  have B9:=hid_as (B1.out.trans b9)
  clear s9 b9
  go_wp2
  go_ret
  exact ⟨rfl,S9.out,B9.out⟩
set_option maxHeartbeats 400000 in
set_option maxRecDepth 100000 in
theorem reckon_8 {B:Nat} {w:World} {g cb lb lo:Nat} {kv lv:Value} {now most:Int} {A:List Int} {pc st:Nat} {cs r:List Int} {a b c:Int} {nm:ByteArray} {y:Int} (X:Xc B w lb lo ⟨8,a,b,c,nm⟩) (h:Sc B w g cb kv lv now most A ⟨pc,cs,y :: r,st⟩) (hl:r.length < 256) :
    Calls Tryz.prog 79 #[.pointer (some ⟨g,0,none⟩),.pointer (some ⟨lb,lo,none⟩)] w (Rk B w g cb kv lv now most pc st cs r (ntv a y) (0)):=by
  have P1:=hid_as (pop_c h)
  have XX:=hid_as X
  have CF:=hid_as (fun W:World=>not_call_n a y W)
  obtain ⟨v,hv⟩:∃ v,v=ntv a y:=⟨_,rfl⟩
  rw [← hv] at CF ⊢
  clear hv
  clear h X
  go_enter Tryz.func79,Tryz.ntmps79
  go_wp2_with fail
  refine P1.out.mono ?_
  rintro e w1 ⟨rfl,s1,b1⟩
  have B1:=hid_as b1
  have X1:=hid_as (XX.out.below b1)
  have S1:=hid_as s1
  have y0:=X1.out.y0
  have y1:=X1.out.y1
  have y2:=X1.out.y2
  have y4:=X1.out.y4
  clear b1 s1
  go_wp2_with (go_at_call 91;refine (CF.out _).mono ?_;rintro e w' ⟨rfl,hw⟩;subst w')
  refine (push_c v S1.out hl).mono ?_
  rintro e w9 ⟨rfl,s9,b9⟩
  have S9:=hid_as s9
  have B9:=hid_as (B1.out.trans b9)
  clear s9 b9
  go_wp2
  go_ret
  exact ⟨rfl,S9.out,B9.out⟩
set_option maxHeartbeats 400000 in
set_option maxRecDepth 100000 in
theorem reckon_12 {B:Nat} {w:World} {g cb lb lo:Nat} {kv lv:Value} {now most:Int} {A:List Int} {pc st:Nat} {cs r:List Int} {a b c:Int} {nm:ByteArray} {y:Int} (X:Xc B w lb lo ⟨12,a,b,c,nm⟩) (h:Sc B w g cb kv lv now most A ⟨pc,cs,y :: r,st⟩) (hl:r.length < 256) :
    Calls Tryz.prog 79 #[.pointer (some ⟨g,0,none⟩),.pointer (some ⟨lb,lo,none⟩)] w (Rk B w g cb kv lv now most pc st cs r (absv a y) (0)):=by
  have P1:=hid_as (pop_c h)
  have XX:=hid_as X
  have CF:=hid_as (fun W:World=>abs_c a y W)
  obtain ⟨v,hv⟩:∃ v,v=absv a y:=⟨_,rfl⟩
  rw [← hv] at CF ⊢
  clear hv
  clear h X
  go_enter Tryz.func79,Tryz.ntmps79
  go_wp2_with fail
  refine P1.out.mono ?_
  rintro e w1 ⟨rfl,s1,b1⟩
  have B1:=hid_as b1
  have X1:=hid_as (XX.out.below b1)
  have S1:=hid_as s1
  have y0:=X1.out.y0
  have y1:=X1.out.y1
  have y2:=X1.out.y2
  have y4:=X1.out.y4
  clear b1 s1
  go_wp2_with (go_at_call 92;refine (CF.out _).mono ?_;rintro e w' ⟨rfl,hw⟩;subst w')
  refine (push_c v S1.out hl).mono ?_
  rintro e w9 ⟨rfl,s9,b9⟩
  have S9:=hid_as s9
  have B9:=hid_as (B1.out.trans b9)
  clear s9 b9
  go_wp2
  go_ret
  exact ⟨rfl,S9.out,B9.out⟩
set_option maxHeartbeats 400000 in
set_option maxRecDepth 100000 in
theorem reckon_10 {B:Nat} {w:World} {g cb lb lo:Nat} {kv lv:Value} {now most:Int} {A:List Int} {pc st:Nat} {cs r:List Int} {a b c:Int} {nm:ByteArray} {y:Int} (X:Xc B w lb lo ⟨10,a,b,c,nm⟩) (h:Sc B w g cb kv lv now most A ⟨pc,cs,y :: r,st⟩) (hl:r.length < 256) :
    Calls Tryz.prog 79 #[.pointer (some ⟨g,0,none⟩),.pointer (some ⟨lb,lo,none⟩)] w (Rk B w g cb kv lv now most pc st cs r (wr b (wr a y)) (0)):=by
  have P1:=hid_as (pop_c h)
  have XX:=hid_as X
  have CF:=hid_as (fun W:World=>convert_n a b y W)
  obtain ⟨v,hv⟩:∃ v,v=wr b (wr a y):=⟨_,rfl⟩
  rw [← hv] at CF ⊢
  clear hv
  clear h X
  go_enter Tryz.func79,Tryz.ntmps79
  go_wp2_with fail
  refine P1.out.mono ?_
  rintro e w1 ⟨rfl,s1,b1⟩
  have B1:=hid_as b1
  have X1:=hid_as (XX.out.below b1)
  have S1:=hid_as s1
  have y0:=X1.out.y0
  have y1:=X1.out.y1
  have y2:=X1.out.y2
  have y4:=X1.out.y4
  clear b1 s1
  go_wp2
  go_region_held3 (fun W=>W.cell? ⟨lb,lo+1,none⟩=some (.int .i64 a)∧W.cell? ⟨lb,lo+2,none⟩=some (.int .i64 b)) (first | exact ⟨y1,y2⟩ | go_keep) ((go_at_call 93;(with_reducible refine (CF.out _).mono ?_);rintro e w' ⟨rfl,hw⟩;subst w'))
  (try simp only [Exit.inBlock,Exit.then])
  go_wp2_with fail
  refine (push_c v (S1.out.heap (W:=w1.drew) rfl) hl).mono ?_
  rintro e w9 ⟨rfl,s9,b9⟩
  have S9:=hid_as s9
  have B9:=hid_as ((below_dn B1.out S1.out 1).trans b9)
  clear s9 b9
  go_wp2
  go_ret
  exact ⟨rfl,S9.out,B9.out⟩
set_option maxHeartbeats 400000 in
set_option maxRecDepth 100000 in
theorem reckon_9 {B:Nat} {w:World} {g cb lb lo:Nat} {kv lv:Value} {now most:Int} {A:List Int} {pc st:Nat} {cs r:List Int} {a b c:Int} {nm:ByteArray} {y z:Int} (X:Xc B w lb lo ⟨9,a,b,c,nm⟩) (h:Sc B w g cb kv lv now most A ⟨pc,cs,y :: z :: r,st⟩) (hl:r.length < 256) :
    Calls Tryz.prog 79 #[.pointer (some ⟨g,0,none⟩),.pointer (some ⟨lb,lo,none⟩)] w (Rk B w g cb kv lv now most pc st cs r (apv b a z y) (apf b a y)):=by
  have P1:=hid_as (pop_c h)
  have XX:=hid_as X
  have CF:=hid_as (fun W:World=>apply_n b a z y W)
  obtain ⟨v,hv⟩:∃ v,v=apv b a z y:=⟨_,rfl⟩
  rw [← hv] at CF ⊢
  clear hv
  obtain ⟨f,hf⟩:∃ f,f=apf b a y:=⟨_,rfl⟩
  rw [← hf] at CF ⊢
  clear hf
  clear h X
  go_enter Tryz.func79,Tryz.ntmps79
  go_wp2_with fail
  refine P1.out.mono ?_
  rintro e w1 ⟨rfl,s1,b1⟩
  have B1:=hid_as b1
  have X1:=hid_as (XX.out.below b1)
  have S1:=hid_as s1
  have y0:=X1.out.y0
  have y1:=X1.out.y1
  have y2:=X1.out.y2
  have y4:=X1.out.y4
  clear b1 s1
  have P2:Hid (Calls Tryz.prog 59 #[.pointer (some ⟨g,0,none⟩)] w1.drew fun e w'=>e=.returned (.int .i64 z)∧Sc B w' g cb kv lv now most A ⟨pc,cs,r,st⟩∧Below B w w'∧(w'.cell? ⟨lb,lo+1,none⟩=some (.int .i64 a)∧w'.cell? ⟨lb,lo+2,none⟩=some (.int .i64 b))):=(pop_c (S1.out.heap (W:=w1.drew) rfl)).mono (fun e w' q=>⟨q.1,q.2.1,(below_dn B1.out S1.out 1).trans q.2.2,by
    have X2:=hid_as (X1.out.below ((below_dn (Below.refl B w1) S1.out 1).trans q.2.2))
    exact ⟨(X2.out.y1),(X2.out.y2)⟩⟩)
  go_wp2
  go_region_held3 (fun W=>W.cell? ⟨lb,lo+1,none⟩=some (.int .i64 a)∧W.cell? ⟨lb,lo+2,none⟩=some (.int .i64 b)) (first | exact ⟨y1,y2⟩ | assumption | go_keep) (first | ((go_at_call 59;(with_reducible refine P2.out.mono ?_);rintro e w2 ⟨rfl,s2,b2,z2⟩)) | ((go_at_call 94;(with_reducible refine (CF.out _).mono ?_);rintro e w' ⟨rfl,hw⟩;subst w')))
  (try simp only [Exit.inBlock,Exit.then])
  go_wp2_with fail
  refine (push_c v s2 hl).mono ?_
  rintro e w9 ⟨rfl,s9,b9⟩
  have S9:=hid_as s9
  have B9:=hid_as (b2.trans b9)
  clear s9 b9
  go_wp2
  go_ret
  exact ⟨rfl,S9.out,B9.out⟩
set_option maxHeartbeats 400000 in
set_option maxRecDepth 100000 in
theorem reckon_11 {B:Nat} {w:World} {g cb lb lo:Nat} {kv lv:Value} {now most:Int} {A:List Int} {pc st:Nat} {cs r:List Int} {a b c:Int} {nm:ByteArray} {y z:Int} (X:Xc B w lb lo ⟨11,a,b,c,nm⟩) (h:Sc B w g cb kv lv now most A ⟨pc,cs,y :: z :: r,st⟩) (hl:r.length < 256) :
    Calls Tryz.prog 79 #[.pointer (some ⟨g,0,none⟩),.pointer (some ⟨lb,lo,none⟩)] w (Rk B w g cb kv lv now most pc st cs r (shv nm a z y) (0)):=by
  have P1:=hid_as (pop_c h)
  have XX:=hid_as X
  have CF:=hid_as (fun W:World=>shift_n nm a z y W)
  obtain ⟨v,hv⟩:∃ v,v=shv nm a z y:=⟨_,rfl⟩
  rw [← hv] at CF ⊢
  clear hv
  clear h X
  go_enter Tryz.func79,Tryz.ntmps79
  go_wp2_with fail
  refine P1.out.mono ?_
  rintro e w1 ⟨rfl,s1,b1⟩
  have B1:=hid_as b1
  have X1:=hid_as (XX.out.below b1)
  have S1:=hid_as s1
  have y0:=X1.out.y0
  have y1:=X1.out.y1
  have y2:=X1.out.y2
  have y4:=X1.out.y4
  clear b1 s1
  have CG:Hid (∀ W:World,Below B w W→B≤W.heap.size→Calls Tryz.prog 95 #[.string nm,.int .i64 a,.int .i64 z,.int .i64 y] W fun e w'=>e=.returned (.int .i64 v)∧Kept W w'∧(w'.cell? ⟨lb,lo+1,none⟩=some (.int .i64 a)∧w'.cell? ⟨lb,lo+4,none⟩=some (.string nm))):=fun W hb hs=>(CF.out W).mono (fun e w' q=>⟨q.1,q.2,by
    have q2:Below W.heap.size W w':=q.2
    have X2:=hid_as (XX.out.below (hb.trans (q2.mono hs)))
    exact ⟨(X2.out.y1),(X2.out.y4)⟩⟩)
  have P2:Hid (Calls Tryz.prog 59 #[.pointer (some ⟨g,0,none⟩)] w1.drew fun e w'=>e=.returned (.int .i64 z)∧Sc B w' g cb kv lv now most A ⟨pc,cs,r,st⟩∧Below B w w'∧(w'.cell? ⟨lb,lo+1,none⟩=some (.int .i64 a)∧w'.cell? ⟨lb,lo+4,none⟩=some (.string nm))):=(pop_c (S1.out.heap (W:=w1.drew) rfl)).mono (fun e w' q=>⟨q.1,q.2.1,(below_dn B1.out S1.out 1).trans q.2.2,by
    have X2:=hid_as (X1.out.below ((below_dn (Below.refl B w1) S1.out 1).trans q.2.2))
    exact ⟨(X2.out.y1),(X2.out.y4)⟩⟩)
  go_wp2
  go_region_held3 (fun W=>W.cell? ⟨lb,lo+1,none⟩=some (.int .i64 a)∧W.cell? ⟨lb,lo+4,none⟩=some (.string nm)) (first | exact ⟨y1,y4⟩ | assumption | go_keep) (first | ((go_at_call 59;(with_reducible refine P2.out.mono ?_);rintro e w2 ⟨rfl,s2,b2,z2⟩)) | ((go_at_call 95;(with_reducible refine (CG.out _ (by assumption) (by have:=Sc.wB (by assumption);assumption)).mono ?_);rintro e w3 ⟨rfl,k3,z3⟩)))
  (try simp only [Exit.inBlock,Exit.then])
  have q3:=Sc.keptB s2 b2 k3
  go_wp2_with fail
  refine (push_c v q3.1 hl).mono ?_
  rintro e w9 ⟨rfl,s9,b9⟩
  have S9:=hid_as s9
  have B9:=hid_as (q3.2.trans b9)
  clear s9 b9
  go_wp2
  go_ret
  exact ⟨rfl,S9.out,B9.out⟩
set_option maxHeartbeats 400000 in
set_option maxRecDepth 100000 in
theorem reckon_13 {B:Nat} {w:World} {g cb lb lo:Nat} {kv lv:Value} {now most:Int} {A:List Int} {pc st:Nat} {cs r:List Int} {a b c:Int} {nm:ByteArray} {y z:Int} (X:Xc B w lb lo ⟨13,a,b,c,nm⟩) (h:Sc B w g cb kv lv now most A ⟨pc,cs,y :: z :: r,st⟩) (hl:r.length < 256) :
    Calls Tryz.prog 79 #[.pointer (some ⟨g,0,none⟩),.pointer (some ⟨lb,lo,none⟩)] w (Rk B w g cb kv lv now most pc st cs r (min z y) (0)):=by
  obtain ⟨v,hv⟩:∃ v,v=min z y:=⟨_,rfl⟩
  rw [← hv]
  rcases (by omega:z≤y ∨ y < z) with hzy | hzy
  · have HV:z=v:=by rw [hv];omega
    clear hv
    have P1:=hid_as (pop_c h)
    have XX:=hid_as X
    have HW:=hid_as HV
    clear h X HV
    go_enter Tryz.func79,Tryz.ntmps79
    go_wp2_with fail
    refine P1.out.mono ?_
    rintro e w1 ⟨rfl,s1,b1⟩
    have B1:=hid_as b1
    have X1:=hid_as (XX.out.below b1)
    have S1:=hid_as s1
    have y0:=X1.out.y0
    have y1:=X1.out.y1
    have y2:=X1.out.y2
    have y4:=X1.out.y4
    clear b1 s1
    have P2:=hid_as (pop_c S1.out)
    go_wp2_with fail
    refine P2.out.mono ?_
    rintro e w2 ⟨rfl,s2,b2⟩
    have S2:=hid_as s2
    have B2:=hid_as (B1.out.trans b2)
    clear s2 b2
    go_wp2_with fail
    refine (push_c z S2.out hl).mono ?_
    rintro e w9 ⟨rfl,s9,b9⟩
    have S9:=hid_as s9
    have B9:=hid_as (B2.out.trans b9)
    clear s9 b9
    go_wp2
    go_ret
    rw [← HW.out]
    exact ⟨rfl,S9.out,B9.out⟩
  · have HV:y=v:=by rw [hv];omega
    clear hv
    have P1:=hid_as (pop_c h)
    have XX:=hid_as X
    have HW:=hid_as HV
    clear h X HV
    go_enter Tryz.func79,Tryz.ntmps79
    go_wp2_with fail
    refine P1.out.mono ?_
    rintro e w1 ⟨rfl,s1,b1⟩
    have B1:=hid_as b1
    have X1:=hid_as (XX.out.below b1)
    have S1:=hid_as s1
    have y0:=X1.out.y0
    have y1:=X1.out.y1
    have y2:=X1.out.y2
    have y4:=X1.out.y4
    clear b1 s1
    have P2:=hid_as (pop_c S1.out)
    go_wp2_with fail
    refine P2.out.mono ?_
    rintro e w2 ⟨rfl,s2,b2⟩
    have S2:=hid_as s2
    have B2:=hid_as (B1.out.trans b2)
    clear s2 b2
    go_wp2_with fail
    refine (push_c y S2.out hl).mono ?_
    rintro e w9 ⟨rfl,s9,b9⟩
    have S9:=hid_as s9
    have B9:=hid_as (B2.out.trans b9)
    clear s9 b9
    go_wp2
    go_ret
    rw [← HW.out]
    exact ⟨rfl,S9.out,B9.out⟩
set_option maxHeartbeats 400000 in
set_option maxRecDepth 100000 in
theorem reckon_14 {B:Nat} {w:World} {g cb lb lo:Nat} {kv lv:Value} {now most:Int} {A:List Int} {pc st:Nat} {cs r:List Int} {a b c:Int} {nm:ByteArray} {y z:Int} (X:Xc B w lb lo ⟨14,a,b,c,nm⟩) (h:Sc B w g cb kv lv now most A ⟨pc,cs,y :: z :: r,st⟩) (hl:r.length < 256) :
    Calls Tryz.prog 79 #[.pointer (some ⟨g,0,none⟩),.pointer (some ⟨lb,lo,none⟩)] w (Rk B w g cb kv lv now most pc st cs r (max z y) (0)):=by
  obtain ⟨v,hv⟩:∃ v,v=max z y:=⟨_,rfl⟩
  rw [← hv]
  rcases (by omega:y≤z ∨ z < y) with hzy | hzy
  · have HV:z=v:=by rw [hv];omega
    clear hv
    have P1:=hid_as (pop_c h)
    have XX:=hid_as X
    have HW:=hid_as HV
    clear h X HV
    go_enter Tryz.func79,Tryz.ntmps79
    go_wp2_with fail
    refine P1.out.mono ?_
    rintro e w1 ⟨rfl,s1,b1⟩
    have B1:=hid_as b1
    have X1:=hid_as (XX.out.below b1)
    have S1:=hid_as s1
    have y0:=X1.out.y0
    have y1:=X1.out.y1
    have y2:=X1.out.y2
    have y4:=X1.out.y4
    clear b1 s1
    have P2:=hid_as (pop_c S1.out)
    go_wp2_with fail
    refine P2.out.mono ?_
    rintro e w2 ⟨rfl,s2,b2⟩
    have S2:=hid_as s2
    have B2:=hid_as (B1.out.trans b2)
    clear s2 b2
    go_wp2_with fail
    refine (push_c z S2.out hl).mono ?_
    rintro e w9 ⟨rfl,s9,b9⟩
    have S9:=hid_as s9
    have B9:=hid_as (B2.out.trans b9)
    clear s9 b9
    go_wp2
    go_ret
    rw [← HW.out]
    exact ⟨rfl,S9.out,B9.out⟩
  · have HV:y=v:=by rw [hv];omega
    clear hv
    have P1:=hid_as (pop_c h)
    have XX:=hid_as X
    have HW:=hid_as HV
    clear h X HV
    go_enter Tryz.func79,Tryz.ntmps79
    go_wp2_with fail
    refine P1.out.mono ?_
    rintro e w1 ⟨rfl,s1,b1⟩
    have B1:=hid_as b1
    have X1:=hid_as (XX.out.below b1)
    have S1:=hid_as s1
    have y0:=X1.out.y0
    have y1:=X1.out.y1
    have y2:=X1.out.y2
    have y4:=X1.out.y4
    clear b1 s1
    have P2:=hid_as (pop_c S1.out)
    go_wp2_with fail
    refine P2.out.mono ?_
    rintro e w2 ⟨rfl,s2,b2⟩
    have S2:=hid_as s2
    have B2:=hid_as (B1.out.trans b2)
    clear s2 b2
    go_wp2_with fail
    refine (push_c y S2.out hl).mono ?_
    rintro e w9 ⟨rfl,s9,b9⟩
    have S9:=hid_as s9
    have B9:=hid_as (B2.out.trans b9)
    clear s9 b9
    go_wp2
    go_ret
    rw [← HW.out]
    exact ⟨rfl,S9.out,B9.out⟩
set_option maxHeartbeats 400000 in
set_option maxRecDepth 100000 in
theorem reckon_15 {B:Nat} {w:World} {g cb lb lo:Nat} {kv lv:Value} {now most:Int} {A:List Int} {pc st:Nat} {cs r:List Int} {a b c:Int} {nm:ByteArray} {y z u:Int} (X:Xc B w lb lo ⟨15,a,b,c,nm⟩) (h:Sc B w g cb kv lv now most A ⟨pc,cs,y :: z :: u :: r,st⟩) (hl:r.length < 256) :
    Calls Tryz.prog 79 #[.pointer (some ⟨g,0,none⟩),.pointer (some ⟨lb,lo,none⟩)] w (Rk B w g cb kv lv now most pc st cs r (if u=0 then z else y) (0)):=by
  have P1:=hid_as (pop_c h)
  have XX:=hid_as X
  obtain ⟨v,hv⟩:∃ v,v=if u=0 then z else y:=⟨_,rfl⟩
  rw [← hv]
  have HV:=hid_as hv
  clear hv
  clear h X
  go_enter Tryz.func79,Tryz.ntmps79
  go_wp2_with fail
  refine P1.out.mono ?_
  rintro e w1 ⟨rfl,s1,b1⟩
  have B1:=hid_as b1
  have X1:=hid_as (XX.out.below b1)
  have S1:=hid_as s1
  have y0:=X1.out.y0
  have y1:=X1.out.y1
  have y2:=X1.out.y2
  have y4:=X1.out.y4
  clear b1 s1
  have P2:=hid_as (choose_c y S1.out)
  rw [← HV.out] at P2
  go_wp2_with fail
  refine P2.out.mono ?_
  rintro e w2 ⟨rfl,s2,b2⟩
  have S2:=hid_as s2
  have B2:=hid_as (B1.out.trans b2)
  clear s2 b2
  go_wp2_with fail
  refine (push_c v S2.out hl).mono ?_
  rintro e w9 ⟨rfl,s9,b9⟩
  have S9:=hid_as s9
  have B9:=hid_as (B2.out.trans b9)
  clear s9 b9
  go_wp2
  go_ret
  exact ⟨rfl,S9.out,B9.out⟩
end Go.Proofs.YthjclogkcmomkaaGreatDoor
