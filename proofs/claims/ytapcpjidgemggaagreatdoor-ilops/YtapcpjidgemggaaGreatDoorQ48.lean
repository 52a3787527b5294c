/- A program (stage 13). -/
import Derived.Test.YtapcpjidgemggaaGreatDoorQ47
namespace Go.Proofs.YtapcpjidgemggaaGreatDoor
open Go.RowKit
open Adr Lx Sx
theorem own_len {base e s:Nat} {W:World} {a:Option Addr} {b c n:Nat} {xs:List Value} (o:W.ownsRow base e s (.slice a b c) n xs):b=n:=by
  rcases o.2 with ⟨h1,h2⟩ | ⟨_,_,_,h1,_⟩
  · simp only [Value.slice.injEq] at h1
    omega
  · simp only [Value.slice.injEq] at h1
    exact h1.2.1
/-- What the reading of a program leaves: its name, how many variables, which statements. -/
def qP:World→List UInt8 × Nat × List Nat→Value→World→Prop:=fun W r v w'=>∃ (sa:Option Addr) (sb sc:Nat) (va:Option Addr) (vc:Nat) (ba:Option Addr) (bc:Nat) (xs:List Value),v=.agg #[.string (tx r.1),.slice sa sb sc,.slice va r.2.1 vc,.bool false,.slice ba r.2.2.length bc,.slice none 0 0]∧w'.ownsRow W.heap.size 114 13 (.slice ba r.2.2.length bc) r.2.2.length xs∧∀ j o,r.2.2[j]?=some o→xs[j * 13]?=some (.int .i64 (o:Int))
theorem own_put6 {base e n g:Nat} {W:World} {v:Value} {m:Nat} {xs:List Value} (o:W.ownsRow base e n v m xs) (hg:g < base) (x0 x1 x2 x3 x4 x5:Value):((((((W.setCell ⟨g,0,none⟩ x0).setCell ⟨g,1,none⟩ x1).setCell ⟨g,2,none⟩ x2).setCell ⟨g,3,none⟩ x3).setCell ⟨g,4,none⟩ x4).setCell ⟨g,5,none⟩ x5).ownsRow base e n v m xs :=
  own_set (own_set (own_set (own_set (own_set (own_set o hg) hg) hg) hg) hg) hg
theorem own_low {b b' e s n:Nat} {W:World} {v:Value} {xs:List Value} (o:W.ownsRow b e s v n xs) (h:b'≤b):W.ownsRow b' e s v n xs:=by
  refine ⟨o.1,?_⟩
  rcases o.2 with h' | ⟨g,cap,cur,rfl,hb',r⟩
  · exact Or.inl h'
  · exact Or.inr ⟨g,cap,cur,rfl,by omega,r⟩
set_option maxHeartbeats 4000000 in
set_option maxRecDepth 100000 in
theorem p_program {w:World} {rb tb cap:Nat} {T:TL} (h:Rd w rb tb cap T 0):Calls Tryz.prog 43 #[.pointer (some ⟨rb,0,none⟩)] w fun e w'=>Outc rb tb cap T 0 w (prg T) (qP w) e w':=by
  have hrl:=h.rlt
  have htl:=h.lt
  have hwf:=h.wf.1
  have B0:Hid (Bk ((w.alloc (.cells #[.string ⟨#[]⟩,.slice none 0 0,.slice none 0 0,.bool false,.slice none 0 0,.slice none 0 0] 33)).alloc (.cells #[.string ⟨#[]⟩,.slice none 0 0,.slice none 0 0,.bool false,.slice none 0 0,.slice none 0 0] 33)) w.heap.size #[.string ⟨#[]⟩,.slice none 0 0,.slice none 0 0,.bool false,.slice none 0 0,.slice none 0 0]):=hid_as ((Bk.fresh w #[.string ⟨#[]⟩,.slice none 0 0,.slice none 0 0,.bool false,.slice none 0 0,.slice none 0 0] 33).alloc _)
  have V0:Hid (Bk ((w.alloc (.cells #[.string ⟨#[]⟩,.slice none 0 0,.slice none 0 0,.bool false,.slice none 0 0,.slice none 0 0] 33)).alloc (.cells #[.string ⟨#[]⟩,.slice none 0 0,.slice none 0 0,.bool false,.slice none 0 0,.slice none 0 0] 33)) (w.heap.size+1) #[.string ⟨#[]⟩,.slice none 0 0,.slice none 0 0,.bool false,.slice none 0 0,.slice none 0 0]):=by
    have q:=Bk.fresh (w.alloc (.cells #[.string ⟨#[]⟩,.slice none 0 0,.slice none 0 0,.bool false,.slice none 0 0,.slice none 0 0] 33)) #[.string ⟨#[]⟩,.slice none 0 0,.slice none 0 0,.bool false,.slice none 0 0,.slice none 0 0] 33
    rw [World.size_alloc] at q
    exact hid_as q
  have K0:=hid_as (((Kp.refl rb w).alloc (.cells #[.string ⟨#[]⟩,.slice none 0 0,.slice none 0 0,.bool false,.slice none 0 0,.slice none 0 0] 33)).alloc (.cells #[.string ⟨#[]⟩,.slice none 0 0,.slice none 0 0,.bool false,.slice none 0 0,.slice none 0 0] 33))
  have H:=hid_as ((h.alloc (.cells #[.string ⟨#[]⟩,.slice none 0 0,.slice none 0 0,.bool false,.slice none 0 0,.slice none 0 0] 33)).alloc (.cells #[.string ⟨#[]⟩,.slice none 0 0,.slice none 0 0,.bool false,.slice none 0 0,.slice none 0 0] 33))
  have em:prg T=th (rp (isT T [84,89,80,69]) (fun _ k=>upT T [69,78,68,95,84,89,80,69] (fun _ m=>stru T m) () (k+1)) (T.length+1) () 0) (fun _ a=>th (xp T [80,82,79,71,82,65,77] a) fun _ b=>th (tof T 2 b) fun t c=>th (rp (isT T [86,65,82]) (fun n k=>upT T [69,78,68,95,86,65,82] (fun n m=>th (dcl T m) fun _ z=>ok (n+1) z) n (rtn T (k+1))) (T.length+1) 0 c) (fun n d=>th (sms T 32 d) fun l e=>th (xp T [69,78,68,95,80,82,79,71,82,65,77] e) fun _ f=>th (endT T f) fun _ g=>ok (t.1.text,n,l) g)):=rfl
  generalize prg T=M at *
  have M0:=hid_as em
  have F3:=fd3
  have SC:Hid (∀ W i,Rd W rb tb cap T i→Calls Tryz.prog 86 #[.pointer (some ⟨rb,0,none⟩)] W fun e w'=>Outc rb tb cap T i W (stru T i) (qStruct W) e w'):=fun _ _ H=>p_structType H
  have SS:Hid (∀ W i,Rd W rb tb cap T i→Calls Tryz.prog 90 #[.pointer (some ⟨rb,0,none⟩),.int .i64 1] W fun e w'=>Outc rb tb cap T i W (sms T 32 i) (qSs W) e w'):=p_stmts 32 1 rfl
  have EC:Hid (∀ W i,Rd W rb tb cap T i→Calls Tryz.prog 91 #[.pointer (some ⟨rb,0,none⟩)] W fun e w'=>Outc rb tb cap T i W (endT T i) (qU W) e w'):=end_c
  have DT:Hid (∀ W i,Rd W rb tb cap T i→Calls Tryz.prog 89 #[.pointer (some ⟨rb,0,none⟩),.bool true] W fun e w'=>Outc rb tb cap T i W (dcl T i) (qVar W) e w'):=p_decl true
  have DF:Hid (∀ W i,Rd W rb tb cap T i→Calls Tryz.prog 89 #[.pointer (some ⟨rb,0,none⟩),.bool false] W fun e w'=>Outc rb tb cap T i W (dcl T i) (qVar W) e w'):=p_decl false
  have NC:Hid (∀ W i,Rd W rb tb cap T i→Calls Tryz.prog 88 #[.pointer (some ⟨rb,0,none⟩)] W fun e w'=>Outc rb tb cap T i W (tof T 2 i) (qT W) e w'):=name_c
  have C1:Hid (∀ W i,Rd W rb tb cap T i→Calls Tryz.prog 87 #[.pointer (some ⟨rb,0,none⟩),.string ⟨#[80,82,79,71,82,65,77]⟩] W fun e w'=>Outc rb tb cap T i W (xp T [80,82,79,71,82,65,77] i) (qU W) e w'):=expect_c ⟨#[80,82,79,71,82,65,77]⟩ (by decide)
  have C2:Hid (∀ W i,Rd W rb tb cap T i→Calls Tryz.prog 87 #[.pointer (some ⟨rb,0,none⟩),.string ⟨#[69,78,68,95,80,82,79,71,82,65,77]⟩] W fun e w'=>Outc rb tb cap T i W (xp T [69,78,68,95,80,82,79,71,82,65,77] i) (qU W) e w'):=expect_c ⟨#[69,78,68,95,80,82,79,71,82,65,77]⟩ (by decide)
  clear h em
  go_enter Tryz.func43,Tryz.ntmps43
  go_wp2
  go_loopw [] (fun wr=>∃ (k f n:Nat) (xs:List Value) (a:Option Addr) (b c:Nat),T.length < k+f∧n≤k+1∧Hid (Rd wr rb tb cap T k)∧Hid (Kp rb w wr)∧Hid (Bk wr w.heap.size #[.string ⟨#[]⟩,.slice none 0 0,.slice none 0 0,.bool false,.slice none 0 0,.slice none 0 0])∧Hid (Bk wr (w.heap.size+1) #[.string ⟨#[]⟩,.slice a b c,.slice none 0 0,.bool false,.slice none 0 0,.slice none 0 0])∧Hid (wr.ownsRow (w.heap.size+2) 72 3 (.slice a b c) n xs)∧Hid (M=th (rp (isT T [84,89,80,69]) (fun _ k=>upT T [69,78,68,95,84,89,80,69] (fun _ m=>stru T m) () (k+1)) f () k) (fun _ a=>th (xp T [80,82,79,71,82,65,77] a) fun _ b=>th (tof T 2 b) fun t c=>th (rp (isT T [86,65,82]) (fun n k=>upT T [69,78,68,95,86,65,82] (fun n m=>th (dcl T m) fun _ z=>ok (n+1) z) n (rtn T (k+1))) (T.length+1) 0 c) (fun n d=>th (sms T 32 d) fun l e=>th (xp T [69,78,68,95,80,82,79,71,82,65,77] e) fun _ f=>th (endT T f) fun _ g=>ok (t.1.text,n,l) g)))) (fun wr=>T.length - rdn rb wr)
  case atStart=>exact ⟨0,T.length+1,0,[],none,0,0,by omega,by omega,H,K0,B0,V0,hid_as (World.ownsRow_nil _ _ _ _),M0⟩
  case round =>
    clear B0 V0 K0 H M0
    obtain ⟨k,f,n,xs,a,b,c,hf,htn,hR,hK,hB,hV,hO,hM⟩:=hrel
    have hatk:=hid_as hR.out.rdn
    have hklk:=hR.out.ir
    have z0k:=hK.out.size
    have y0k:=hV.out.lt
    obtain ⟨f,rfl⟩:∃ f',f=f'+1:=⟨f - 1,by omega⟩
    cases hc:isT T [84,89,80,69] k with
    | true =>
      have A1:Hid (∀ W,Rd W rb tb cap T (k)→Calls Tryz.prog 85 #[.pointer (some ⟨rb,0,none⟩),.string ⟨#[84,89,80,69]⟩] W fun e w'=>e=.returned (.bool true)∧Kp rb W w'∧Rd w' rb tb cap T (k+1)):=fun W H=>accept_y H ⟨#[84,89,80,69]⟩ hc (by decide)
      have Mr:Hid (M=th (rp (fun k=>!isT T [69,78,68,95,84,89,80,69] k) (fun _ m=>stru T m) (T.length+1) () (k+1)) (fun a k'=>th (rp (isT T [84,89,80,69]) (fun _ k=>upT T [69,78,68,95,84,89,80,69] (fun _ m=>stru T m) () (k+1)) f a (k'+1)) (fun _ a=>th (xp T [80,82,79,71,82,65,77] a) fun _ b=>th (tof T 2 b) fun t c=>th (rp (isT T [86,65,82]) (fun n k=>upT T [69,78,68,95,86,65,82] (fun n m=>th (dcl T m) fun _ z=>ok (n+1) z) n (rtn T (k+1))) (T.length+1) 0 c) (fun n d=>th (sms T 32 d) fun l e=>th (xp T [69,78,68,95,80,82,79,71,82,65,77] e) fun _ f=>th (endT T f) fun _ g=>ok (t.1.text,n,l) g)))):=(by have q:=rp_yes hM.out hc;unfold upT at q;rw [th_th] at q;exact hid_as q)
      clear hM hc
      go_wp2_with (first
        | (go_at_call 85;(with_reducible refine (A1.out _ hR.out).mono ?_);rintro e w4 ⟨rfl,k4,r4⟩;have R4:=hid_as r4;have K4:=hid_as ((hK.out).trans k4);have B4:=hid_as (hB.out.kp k4 (by omega));have V4:=hid_as (hV.out.kp k4 (by omega));have z4:=K4.out.size;have q4:=k4.size;(try rw [World.size_alloc] at q4);have J4:=hid_as k4;clear k4 r4))
      go_loopw [] (fun wr=>∃ (j f2 n:Nat) (xs:List Value) (a:Option Addr) (b c:Nat),T.length < j+f2∧k < j∧n≤j+1∧Hid (Rd wr rb tb cap T j)∧Hid (Kp rb w wr)∧Hid (Bk wr w.heap.size #[.string ⟨#[]⟩,.slice none 0 0,.slice none 0 0,.bool false,.slice none 0 0,.slice none 0 0])∧Hid (Bk wr (w.heap.size+1) #[.string ⟨#[]⟩,.slice a b c,.slice none 0 0,.bool false,.slice none 0 0,.slice none 0 0])∧Hid (wr.ownsRow (w.heap.size+2) 72 3 (.slice a b c) n xs)∧Hid (M=th (rp (fun k=>!isT T [69,78,68,95,84,89,80,69] k) (fun _ m=>stru T m) f2 () j) (fun a k'=>th (rp (isT T [84,89,80,69]) (fun _ k=>upT T [69,78,68,95,84,89,80,69] (fun _ m=>stru T m) () (k+1)) f a (k'+1)) (fun _ a=>th (xp T [80,82,79,71,82,65,77] a) fun _ b=>th (tof T 2 b) fun t c=>th (rp (isT T [86,65,82]) (fun n k=>upT T [69,78,68,95,86,65,82] (fun n m=>th (dcl T m) fun _ z=>ok (n+1) z) n (rtn T (k+1))) (T.length+1) 0 c) (fun n d=>th (sms T 32 d) fun l e=>th (xp T [69,78,68,95,80,82,79,71,82,65,77] e) fun _ f=>th (endT T f) fun _ g=>ok (t.1.text,n,l) g))))) (fun wr=>T.length - rdn rb wr)
      case atStart=>exact ⟨k+1,T.length+1,n,xs,a,b,c,by omega,by omega,by omega,R4,K4,B4,V4,hid_as (own_kp hO.out J4.out (by omega)),Mr⟩
      case round =>
        clear R4 K4 B4 V4 J4 z4 q4 Mr hR hK hB hV hO y0k z0k htn
        obtain ⟨j,f2,n,xs,a,b,c,hf2,hkj,hnj,hR,hK,hB,hV,hO,hM⟩:=hrel
        have hatj:=hid_as hR.out.rdn
        have hklj:=hR.out.ir
        have z0j:=hK.out.size
        have y0j:=hV.out.lt
        obtain ⟨f2,rfl⟩:∃ f',f2=f'+1:=⟨f2 - 1,by omega⟩
        cases hc:isT T [69,78,68,95,84,89,80,69] j with
        | true =>
          have A2:Hid (∀ W,Rd W rb tb cap T (j)→Calls Tryz.prog 85 #[.pointer (some ⟨rb,0,none⟩),.string ⟨#[69,78,68,95,84,89,80,69]⟩] W fun e w'=>e=.returned (.bool true)∧Kp rb W w'∧Rd w' rb tb cap T (j+1)):=fun W H=>accept_y H ⟨#[69,78,68,95,84,89,80,69]⟩ hc (by decide)
          have Mr:=hid_as (rp_not hM.out (show (fun k=>!isT T [69,78,68,95,84,89,80,69] k) j=false by show (!isT T [69,78,68,95,84,89,80,69] j)=false;rw [hc];rfl))
          clear hM hc
          go_wp2_with (first
            | (go_at_call 85;(with_reducible refine (A2.out _ hR.out).mono ?_);rintro e w4 ⟨rfl,k4,r4⟩;have R4:=hid_as r4;have K4:=hid_as ((hK.out).trans k4);have B4:=hid_as (hB.out.kp k4 (by omega));have V4:=hid_as (hV.out.kp k4 (by omega));have z4:=K4.out.size;have q4:=k4.size;(try rw [World.size_alloc] at q4);have J4:=hid_as k4;clear k4 r4))
          go_roundw
          case rel=>exact ⟨j+1,f,n,xs,a,b,c,by omega,by omega,R4,K4,B4,V4,hid_as (own_kp hO.out J4.out (by omega)),Mr⟩
          case measure=>rw [R4.out.rdn,hatk.out];omega
        | false =>
          have A2:Hid (∀ W,Rd W rb tb cap T (j)→Calls Tryz.prog 85 #[.pointer (some ⟨rb,0,none⟩),.string ⟨#[69,78,68,95,84,89,80,69]⟩] W fun e w'=>e=.returned (.bool false)∧Below W.heap.size W w'):=fun W H=>accept_n H ⟨#[69,78,68,95,84,89,80,69]⟩ hc
          have Mr:=hid_as (rp_yes hM.out (show (fun k=>!isT T [69,78,68,95,84,89,80,69] k) j=true by show (!isT T [69,78,68,95,84,89,80,69] j)=true;rw [hc];rfl))
          clear hM hc
          go_wp2_with (first
            | (go_at_call 85;(with_reducible refine (A2.out _ hR.out).mono ?_);rintro e w4 ⟨rfl,b4⟩;have R4:=hid_as ((hR.out).below b4);have K4:=hid_as ((hK.out).below b4);have B4:=hid_as (hB.out.below b4);have V4:=hid_as (hV.out.below b4);have z4:=K4.out.size;have q4:=b4.size;(try rw [World.size_alloc] at q4);have J4:=hid_as (kp_of_below (rb:=rb) b4);clear b4;have y4:=V4.out.lt;have V4d:=hid_as V4.out.drew;obtain ⟨g0,g1,g2,g3,g4,g5⟩:=bk6 V4d.out;have gf:=V4d.out.fr))
          go_region_law (first
            | refine step_append_run rfl (.tmp 11) (.tmp 14) 28 28 rfl (.slice a b c) (.slice (some ⟨w5.heap.size,0,none⟩) 1 1) (by first | (simp [Act.eval];done) | (simp [Act.eval,Act.put];done)) (by first | (simp [Act.eval];done) | (simp [Act.eval,Act.put];done)) _ _ hr6.out ?_
            | (go_simp;go_wp2_with (go_at_call 86;(with_reducible refine (SC.out _ j R4.out.drew).mono ?_);rintro e w5 ⟨k5,⟨_,i5,_,m5,rfl,⟨x5_0,a5_1,b5_1,c5_1,x5_2,rfl⟩,r5,l5⟩ | ⟨n5,i5,m5,rfl⟩⟩;rotate_left;exact And.intro rfl (Outc.stop Mr.out m5 ((K4.out.drew).trans k5));have hlt:=(fw_stru T j).of m5;have R5:=hid_as r5;have K5:=hid_as ((K4.out.drew).trans k5);have M5:=hid_as (th_go Mr.out m5);have B5:=hid_as ((B4.out.drew).kp k5 (by omega));have V5:=hid_as ((V4.out.drew).kp k5 (by omega));have z5:=K5.out.size;have q5:=k5.size;(try rw [World.size_alloc] at q5);have J5:=hid_as k5;clear k5 r5 m5;clear g0 g1 g2 g3 g4 g5 gf;have y5:=V5.out.lt;have O5:=hid_as (own_kp hO.out (J4.out.drew.trans J5.out) (by omega));obtain ⟨v6,w6,hr6,ho6,hg6,_⟩:=push_at (cs:=#[.string x5_0,.slice a5_1 b5_1 c5_1,.int .i64 x5_2]) Tryz.underlying28 infoStruct rfl (by decide) (by decide) O5.out (by omega) (by omega) rfl (by intro u hu;simp at hu;rcases hu with rfl | rfl | rfl <;> rfl);have K6:=hid_as ((K5.out.alloc (.cells #[.string x5_0,.slice a5_1 b5_1 c5_1,.int .i64 x5_2] 72)).grown hg6 (fun k hk=>Nat.le_trans (by omega) (World.ownsRow.lt O5.out k hk).1));have R6:=hid_as ((R5.out.alloc (.cells #[.string x5_0,.slice a5_1 b5_1 c5_1,.int .i64 x5_2] 72)).grown hg6 (fun e=>by have:=(World.ownsRow.lt O5.out rb e).1;omega) (fun e=>by have:=(World.ownsRow.lt O5.out tb e).1;omega));have B6:=hid_as ((B5.out.alloc (.cells #[.string x5_0,.slice a5_1 b5_1 c5_1,.int .i64 x5_2] 72)).grown hg6 (fun e=>by have:=(World.ownsRow.lt O5.out _ e).1;omega));have V6:=hid_as ((V5.out.alloc (.cells #[.string x5_0,.slice a5_1 b5_1 c5_1,.int .i64 x5_2] 72)).grown hg6 (fun e=>by have:=(World.ownsRow.lt O5.out _ e).1;omega));have z6:=K6.out.size;replace hr6:=hid_as hr6;replace ho6:=hid_as ho6;clear hg6;obtain ⟨a6,b6,c6,rfl⟩:=own_shape ho6.out;obtain ⟨g0,g1,g2,g3,g4,g5⟩:=bk6 V5.out;have gf:=V5.out.fr;have gg0:=fun o=>(bk6 (V5.out.alloc o)).1;have gg1:=fun o=>(bk6 (V5.out.alloc o)).2.1;have gg2:=fun o=>(bk6 (V5.out.alloc o)).2.2.1;have gg3:=fun o=>(bk6 (V5.out.alloc o)).2.2.2.1;have gg4:=fun o=>(bk6 (V5.out.alloc o)).2.2.2.2.1;have gg5:=fun o=>(bk6 (V5.out.alloc o)).2.2.2.2.2;have ggf:=fun o=>(V5.out.alloc o).fr;obtain ⟨v0,v1,v2,v3,v4,v5⟩:=bk6 V6.out;have vf:=V6.out.fr)))
          all_goals
            have Rm:=R6.out.other (b:=w.heap.size+1) (by omega) (by omega) 1 (.slice a6 b6 c6)
            have Km:=K6.out.set (g:=w.heap.size+1) (by omega) 1 (.slice a6 b6 c6)
            have Bm:=B6.out.other (b:=w.heap.size+1) 1 (.slice a6 b6 c6) (by omega)
            have Vm:=V6.out.set 1 (.slice a6 b6 c6)
            simp only [List.setIfInBounds_toArray,List.set_cons_zero,List.set_cons_succ] at Vm
            have Om:=own_set (g:=w.heap.size+1) (j:=1) (x:=.slice a6 b6 c6) ho6.out (by omega)
            go_wp2
            go_roundw
            case rel=>exact ⟨i5,f2,n+1,_,a6,b6,c6,by omega,by omega,by omega,hid_as Rm,hid_as Km,hid_as Bm,hid_as Vm,hid_as Om,M5⟩
            case measure=>rw [Rm.rdn,hatj.out];omega
    | false =>
      have A1:Hid (∀ W,Rd W rb tb cap T (k)→Calls Tryz.prog 85 #[.pointer (some ⟨rb,0,none⟩),.string ⟨#[84,89,80,69]⟩] W fun e w'=>e=.returned (.bool false)∧Below W.heap.size W w'):=fun W H=>accept_n H ⟨#[84,89,80,69]⟩ hc
      have Mr:=hid_as (rp_not hM.out hc)
      clear hM hc
      go_wp2_with (first
        | (go_at_call 85;(with_reducible refine (A1.out _ hR.out).mono ?_);rintro e w4 ⟨rfl,b4⟩;have R4:=hid_as ((hR.out).below b4);have K4:=hid_as ((hK.out).below b4);have B4:=hid_as (hB.out.below b4);have V4:=hid_as (hV.out.below b4);have z4:=K4.out.size;have q4:=b4.size;(try rw [World.size_alloc] at q4);have J4:=hid_as (kp_of_below (rb:=rb) b4);clear b4)
        | (go_at_call 87;(with_reducible refine (C1.out _ k R4.out).mono ?_);rintro e w5 ⟨k5,⟨_,i5,_,m5,rfl,rfl,r5,l5⟩ | ⟨n5,i5,m5,rfl⟩⟩;rotate_left;exact And.intro rfl (Outc.stop Mr.out m5 ((K4.out).trans k5));have R5:=hid_as r5;have K5:=hid_as ((K4.out).trans k5);have M5:=hid_as (th_go Mr.out m5);have B5:=hid_as (B4.out.kp k5 (by omega));have V5:=hid_as (V4.out.kp k5 (by omega));have z5:=K5.out.size;have q5:=k5.size;(try rw [World.size_alloc] at q5);have J5:=hid_as k5;clear k5 r5 m5)
        | (go_at_call 88;(with_reducible refine (NC.out _ i5 R5.out).mono ?_);rintro e w6 ⟨k6,⟨⟨⟨taN,tkN,tnN,ttN⟩,plN⟩,i6,_,m6,rfl,rfl,r6,l6⟩ | ⟨n6,i6,m6,rfl⟩⟩;rotate_left;exact And.intro rfl (Outc.stop M5.out m6 ((K5.out).trans k6));have R6:=hid_as r6;have K6:=hid_as ((K5.out).trans k6);have M6:=hid_as (th_go M5.out m6);have B6:=hid_as (B5.out.kp k6 (by omega));have V6:=hid_as (V5.out.kp k6 (by omega));have z6:=K6.out.size;have q6:=k6.size;(try rw [World.size_alloc] at q6);have J6:=hid_as k6;clear k6 r6 m6;unfold tv;have y6:=V6.out.lt;obtain ⟨g0,g1,g2,g3,g4,g5⟩:=bk6 V6.out;have gf:=V6.out.fr))
      have Rn:=R6.out.other (b:=w.heap.size+1) (by omega) (by omega) 0 (.string (tx ttN))
      have Kn:=K6.out.set (g:=w.heap.size+1) (by omega) 0 (.string (tx ttN))
      have Bn:=B6.out.other (b:=w.heap.size+1) 0 (.string (tx ttN)) (by omega)
      have Vn:=V6.out.set 0 (.string (tx ttN))
      simp only [List.setIfInBounds_toArray,List.set_cons_zero] at Vn
      obtain ⟨sa,ha⟩:∃ q,q=a:=⟨_,rfl⟩
      obtain ⟨sb,hbb⟩:∃ q,q=b:=⟨_,rfl⟩
      obtain ⟨sc,hcc⟩:∃ q,q=c:=⟨_,rfl⟩
      rw [← ha,← hbb,← hcc] at Vn
      go_loopw [] (fun wr=>∃ (k f n:Nat) (xs:List Value) (a:Option Addr) (b c:Nat),T.length < k+f∧n≤k+1∧Hid (Rd wr rb tb cap T k)∧Hid (Kp rb w wr)∧Hid (Bk wr w.heap.size #[.string ⟨#[]⟩,.slice none 0 0,.slice none 0 0,.bool false,.slice none 0 0,.slice none 0 0])∧Hid (Bk wr (w.heap.size+1) #[.string (tx ttN),.slice sa sb sc,.slice a b c,.bool false,.slice none 0 0,.slice none 0 0])∧Hid (wr.ownsRow (w.heap.size+2) 111 10 (.slice a b c) n xs)∧Hid (M=th (rp (isT T [86,65,82]) (fun n k=>upT T [69,78,68,95,86,65,82] (fun n m=>th (dcl T m) fun _ z=>ok (n+1) z) n (rtn T (k+1))) f n k) (fun n d=>th (sms T 32 d) fun l e=>th (xp T [69,78,68,95,80,82,79,71,82,65,77] e) fun _ f=>th (endT T f) fun _ g=>ok (ttN,n,l) g))) (fun wr=>T.length - rdn rb wr)
      case atStart=>exact ⟨i6,T.length+1,0,[],none,0,0,by omega,by omega,hid_as Rn,hid_as Kn,hid_as Bn,hid_as Vn,hid_as (World.ownsRow_nil _ _ _ _),M6⟩
      case round =>
        clear Rn Kn Bn Vn ha hbb hcc R4 R5 R6 K4 K5 K6 B4 B5 B6 V4 V5 V6 M5 M6 Mr hR hK hB hV hO hatk hf htn J4 J5 J6 z4 z5 z6 q4 q5 q6 y0k z0k hklk g0 g1 g2 g3 g4 g5 gf y6 A1
        obtain ⟨k,f,n,xs,a,b,c,hf,htn,hR,hK,hB,hV,hO,hM⟩:=hrel
        have hatk:=hid_as hR.out.rdn
        have hklk:=hR.out.ir
        have z0k:=hK.out.size
        have y0k:=hV.out.lt
        obtain ⟨f,rfl⟩:∃ f',f=f'+1:=⟨f - 1,by omega⟩
        cases hc:isT T [86,65,82] k with
        | true =>
          have A1:Hid (∀ W,Rd W rb tb cap T (k)→Calls Tryz.prog 85 #[.pointer (some ⟨rb,0,none⟩),.string ⟨#[86,65,82]⟩] W fun e w'=>e=.returned (.bool true)∧Kp rb W w'∧Rd w' rb tb cap T (k+1)):=fun W H=>accept_y H ⟨#[86,65,82]⟩ hc (by decide)
          cases hq:isT T [82,69,84,65,73,78] (k+1) with
          | true =>
            have hrt:rtn T (k+1)=k+1+1:=by unfold rtn;rw [hq];rfl
            have Mr:Hid (M=th (rp (fun k=>!isT T [69,78,68,95,86,65,82] k) (fun n m=>th (dcl T m) fun _ z=>ok (n+1) z) (T.length+1) n (k+1+1)) (fun n k'=>th (rp (isT T [86,65,82]) (fun n k=>upT T [69,78,68,95,86,65,82] (fun n m=>th (dcl T m) fun _ z=>ok (n+1) z) n (rtn T (k+1))) f n (k'+1)) (fun n d=>th (sms T 32 d) fun l e=>th (xp T [69,78,68,95,80,82,79,71,82,65,77] e) fun _ f=>th (endT T f) fun _ g=>ok (ttN,n,l) g))):=(by have q:=rp_yes hM.out hc;unfold upT at q;rw [th_th,hrt] at q;exact hid_as q)
            clear hM hc hrt
            have A3:Hid (∀ W,Rd W rb tb cap T (k+1)→Calls Tryz.prog 85 #[.pointer (some ⟨rb,0,none⟩),.string ⟨#[82,69,84,65,73,78]⟩] W fun e w'=>e=.returned (.bool true)∧Kp rb W w'∧Rd w' rb tb cap T (k+1+1)):=fun W H=>accept_y H ⟨#[82,69,84,65,73,78]⟩ hq (by decide)
            clear hq
            go_wp2_with (first
              | (go_at_call 85;(with_reducible refine (A1.out _ hR.out).mono ?_);rintro e w2 ⟨rfl,k2,r2⟩;have R2:=hid_as r2;have K2:=hid_as ((hK.out).trans k2);have B2:=hid_as (hB.out.kp k2 (by omega));have V2:=hid_as (hV.out.kp k2 (by omega));have z2:=K2.out.size;have q2:=k2.size;(try rw [World.size_alloc] at q2);have J2:=hid_as k2;clear k2 r2)
              | (go_at_call 85;(with_reducible refine (A3.out _ R2.out).mono ?_);rintro e w3 ⟨rfl,k3,r3⟩;have R3:=hid_as r3;have K3:=hid_as ((K2.out).trans k3);have B3:=hid_as (B2.out.kp k3 (by omega));have V3:=hid_as (V2.out.kp k3 (by omega));have z3:=K3.out.size;have q3:=k3.size;(try rw [World.size_alloc] at q3);have J3:=hid_as k3;clear k3 r3))
            have R4x:=R3
            have K4x:=K3
            have B4x:=B3
            have V4x:=V3
            have O4x:=hid_as (own_kp hO.out (J2.out.trans J3.out) (by omega))
            clear R2 R3 K2 K3 B2 B3 V2 V3 J2 J3
            go_loopw [] (fun wr=>∃ (j f2 n:Nat) (xs:List Value) (a:Option Addr) (b c:Nat),T.length < j+f2∧k < j∧n≤j+1∧Hid (Rd wr rb tb cap T j)∧Hid (Kp rb w wr)∧Hid (Bk wr w.heap.size #[.string ⟨#[]⟩,.slice none 0 0,.slice none 0 0,.bool false,.slice none 0 0,.slice none 0 0])∧Hid (Bk wr (w.heap.size+1) #[.string (tx ttN),.slice sa sb sc,.slice a b c,.bool false,.slice none 0 0,.slice none 0 0])∧Hid (wr.ownsRow (w.heap.size+2) 111 10 (.slice a b c) n xs)∧Hid (M=th (rp (fun k=>!isT T [69,78,68,95,86,65,82] k) (fun n m=>th (dcl T m) fun _ z=>ok (n+1) z) f2 n j) (fun n k'=>th (rp (isT T [86,65,82]) (fun n k=>upT T [69,78,68,95,86,65,82] (fun n m=>th (dcl T m) fun _ z=>ok (n+1) z) n (rtn T (k+1))) f n (k'+1)) (fun n d=>th (sms T 32 d) fun l e=>th (xp T [69,78,68,95,80,82,79,71,82,65,77] e) fun _ f=>th (endT T f) fun _ g=>ok (ttN,n,l) g)))) (fun wr=>T.length - rdn rb wr)
            case atStart=>exact ⟨k+1+1,T.length+1,n,xs,a,b,c,by omega,by omega,by omega,R4x,K4x,B4x,V4x,O4x,Mr⟩
            case round =>
              clear R4x K4x B4x V4x O4x Mr hR hK hB hV hO y0k z0k htn
              obtain ⟨j,f2,n,xs,a,b,c,hf2,hkj,hnj,hR,hK,hB,hV,hO,hM⟩:=hrel
              have hatj:=hid_as hR.out.rdn
              have hklj:=hR.out.ir
              have z0j:=hK.out.size
              have y0j:=hV.out.lt
              obtain ⟨f2,rfl⟩:∃ f',f2=f'+1:=⟨f2 - 1,by omega⟩
              cases hc:isT T [69,78,68,95,86,65,82] j with
              | true =>
                have A2:Hid (∀ W,Rd W rb tb cap T (j)→Calls Tryz.prog 85 #[.pointer (some ⟨rb,0,none⟩),.string ⟨#[69,78,68,95,86,65,82]⟩] W fun e w'=>e=.returned (.bool true)∧Kp rb W w'∧Rd w' rb tb cap T (j+1)):=fun W H=>accept_y H ⟨#[69,78,68,95,86,65,82]⟩ hc (by decide)
                have Mr:=hid_as (rp_not hM.out (show (fun k=>!isT T [69,78,68,95,86,65,82] k) j=false by show (!isT T [69,78,68,95,86,65,82] j)=false;rw [hc];rfl))
                clear hM hc
                go_wp2_with (first
                  | (go_at_call 85;(with_reducible refine (A2.out _ hR.out).mono ?_);rintro e w4 ⟨rfl,k4,r4⟩;have R4:=hid_as r4;have K4:=hid_as ((hK.out).trans k4);have B4:=hid_as (hB.out.kp k4 (by omega));have V4:=hid_as (hV.out.kp k4 (by omega));have z4:=K4.out.size;have q4:=k4.size;(try rw [World.size_alloc] at q4);have J4:=hid_as k4;clear k4 r4))
                go_roundw
                case rel=>exact ⟨j+1,f,n,xs,a,b,c,by omega,by omega,R4,K4,B4,V4,hid_as (own_kp hO.out J4.out (by omega)),Mr⟩
                case measure=>rw [R4.out.rdn,hatk.out];omega
              | false =>
                have A2:Hid (∀ W,Rd W rb tb cap T (j)→Calls Tryz.prog 85 #[.pointer (some ⟨rb,0,none⟩),.string ⟨#[69,78,68,95,86,65,82]⟩] W fun e w'=>e=.returned (.bool false)∧Below W.heap.size W w'):=fun W H=>accept_n H ⟨#[69,78,68,95,86,65,82]⟩ hc
                have Mr:Hid (M=th (dcl T j) fun _ z=>th (rp (fun k=>!isT T [69,78,68,95,86,65,82] k) (fun n m=>th (dcl T m) fun _ z=>ok (n+1) z) f2 (n+1) z) (fun n k'=>th (rp (isT T [86,65,82]) (fun n k=>upT T [69,78,68,95,86,65,82] (fun n m=>th (dcl T m) fun _ z=>ok (n+1) z) n (rtn T (k+1))) f n (k'+1)) (fun n d=>th (sms T 32 d) fun l e=>th (xp T [69,78,68,95,80,82,79,71,82,65,77] e) fun _ f=>th (endT T f) fun _ g=>ok (ttN,n,l) g))):=(by have q:=rp_yes hM.out (show (fun k=>!isT T [69,78,68,95,86,65,82] k) j=true by show (!isT T [69,78,68,95,86,65,82] j)=true;rw [hc];rfl);rw [th_th] at q;exact hid_as q)
                clear hM hc
                go_wp2_with (first
                  | (go_at_call 85;(with_reducible refine (A2.out _ hR.out).mono ?_);rintro e w4 ⟨rfl,b4⟩;have R4:=hid_as ((hR.out).below b4);have K4:=hid_as ((hK.out).below b4);have B4:=hid_as (hB.out.below b4);have V4:=hid_as (hV.out.below b4);have z4:=K4.out.size;have q4:=b4.size;(try rw [World.size_alloc] at q4);have J4:=hid_as (kp_of_below (rb:=rb) b4);clear b4;have y4:=V4.out.lt;have V4d:=hid_as V4.out.drew;obtain ⟨g0,g1,g2,g3,g4,g5⟩:=bk6 V4d.out;have gf:=V4d.out.fr))
                go_region_law (first
                  | refine step_append_run rfl (.tmp 31) (.tmp 35) 29 29 rfl (.slice a b c) (.slice (some ⟨w5.heap.size,0,none⟩) 1 1) (by first | (simp [Act.eval];done) | (simp [Act.eval,Act.put];done)) (by first | (simp [Act.eval];done) | (simp [Act.eval,Act.put];done)) _ _ hr6.out ?_
                  | (go_simp;go_wp2_with (go_at_call 89;(with_reducible refine (DT.out _ j R4.out.drew).mono ?_);rintro e w5 ⟨k5,⟨_,i5,_,m5,rfl,⟨x5_0,x5_1,x5_2,x5_3,x5_4,x5_5,x5_6,x5_7,a5_8,b5_8,c5_8,x5_9,rfl⟩,r5,l5⟩ | ⟨n5,i5,m5,rfl⟩⟩;rotate_left;exact And.intro rfl (Outc.stop Mr.out m5 ((K4.out.drew).trans k5));have hlt:=(fw_dcl T j).of m5;have R5:=hid_as r5;have K5:=hid_as ((K4.out.drew).trans k5);have M5:=hid_as (th_go Mr.out m5);have B5:=hid_as ((B4.out.drew).kp k5 (by omega));have V5:=hid_as ((V4.out.drew).kp k5 (by omega));have z5:=K5.out.size;have q5:=k5.size;(try rw [World.size_alloc] at q5);have J5:=hid_as k5;clear k5 r5 m5;clear g0 g1 g2 g3 g4 g5 gf;have y5:=V5.out.lt;have O5:=hid_as (own_kp hO.out (J4.out.drew.trans J5.out) (by omega));obtain ⟨v6,w6,hr6,ho6,hg6,_⟩:=push_at (cs:=#[.string x5_0,.int .i64 x5_1,.int .i64 x5_2,.int .i64 x5_3,.int .i64 x5_4,.string x5_5,.bool x5_6,.string x5_7,.slice a5_8 b5_8 c5_8,.int .i64 x5_9]) Tryz.underlying29 infoVar rfl (by decide) (by decide) O5.out (by omega) (by omega) rfl (by intro u hu;simp at hu;rcases hu with rfl | rfl | rfl | rfl | rfl | rfl | rfl | rfl | rfl | rfl <;> rfl);have K6:=hid_as ((K5.out.alloc (.cells #[.string x5_0,.int .i64 x5_1,.int .i64 x5_2,.int .i64 x5_3,.int .i64 x5_4,.string x5_5,.bool x5_6,.string x5_7,.slice a5_8 b5_8 c5_8,.int .i64 x5_9] 111)).grown hg6 (fun k hk=>Nat.le_trans (by omega) (World.ownsRow.lt O5.out k hk).1));have R6:=hid_as ((R5.out.alloc (.cells #[.string x5_0,.int .i64 x5_1,.int .i64 x5_2,.int .i64 x5_3,.int .i64 x5_4,.string x5_5,.bool x5_6,.string x5_7,.slice a5_8 b5_8 c5_8,.int .i64 x5_9] 111)).grown hg6 (fun e=>by have:=(World.ownsRow.lt O5.out rb e).1;omega) (fun e=>by have:=(World.ownsRow.lt O5.out tb e).1;omega));have B6:=hid_as ((B5.out.alloc (.cells #[.string x5_0,.int .i64 x5_1,.int .i64 x5_2,.int .i64 x5_3,.int .i64 x5_4,.string x5_5,.bool x5_6,.string x5_7,.slice a5_8 b5_8 c5_8,.int .i64 x5_9] 111)).grown hg6 (fun e=>by have:=(World.ownsRow.lt O5.out _ e).1;omega));have V6:=hid_as ((V5.out.alloc (.cells #[.string x5_0,.int .i64 x5_1,.int .i64 x5_2,.int .i64 x5_3,.int .i64 x5_4,.string x5_5,.bool x5_6,.string x5_7,.slice a5_8 b5_8 c5_8,.int .i64 x5_9] 111)).grown hg6 (fun e=>by have:=(World.ownsRow.lt O5.out _ e).1;omega));have z6:=K6.out.size;replace hr6:=hid_as hr6;replace ho6:=hid_as ho6;clear hg6;obtain ⟨a6,b6,c6,rfl⟩:=own_shape ho6.out;obtain ⟨g0,g1,g2,g3,g4,g5⟩:=bk6 V5.out;have gf:=V5.out.fr;have gg0:=fun o=>(bk6 (V5.out.alloc o)).1;have gg1:=fun o=>(bk6 (V5.out.alloc o)).2.1;have gg2:=fun o=>(bk6 (V5.out.alloc o)).2.2.1;have gg3:=fun o=>(bk6 (V5.out.alloc o)).2.2.2.1;have gg4:=fun o=>(bk6 (V5.out.alloc o)).2.2.2.2.1;have gg5:=fun o=>(bk6 (V5.out.alloc o)).2.2.2.2.2;have ggf:=fun o=>(V5.out.alloc o).fr;obtain ⟨v0,v1,v2,v3,v4,v5⟩:=bk6 V6.out;have vf:=V6.out.fr)))
                all_goals
                  have Rm:=R6.out.other (b:=w.heap.size+1) (by omega) (by omega) 2 (.slice a6 b6 c6)
                  have Km:=K6.out.set (g:=w.heap.size+1) (by omega) 2 (.slice a6 b6 c6)
                  have Bm:=B6.out.other (b:=w.heap.size+1) 2 (.slice a6 b6 c6) (by omega)
                  have Vm:=V6.out.set 2 (.slice a6 b6 c6)
                  simp only [List.setIfInBounds_toArray,List.set_cons_zero,List.set_cons_succ] at Vm
                  have Om:=own_set (g:=w.heap.size+1) (j:=2) (x:=.slice a6 b6 c6) ho6.out (by omega)
                  go_wp2
                  go_roundw
                  case rel=>exact ⟨i5,f2,n+1,_,a6,b6,c6,by omega,by omega,by omega,hid_as Rm,hid_as Km,hid_as Bm,hid_as Vm,hid_as Om,M5⟩
                  case measure=>rw [Rm.rdn,hatj.out];omega
          | false =>
            have hrt:rtn T (k+1)=k+1:=by unfold rtn;rw [hq];rfl
            have Mr:Hid (M=th (rp (fun k=>!isT T [69,78,68,95,86,65,82] k) (fun n m=>th (dcl T m) fun _ z=>ok (n+1) z) (T.length+1) n (k+1)) (fun n k'=>th (rp (isT T [86,65,82]) (fun n k=>upT T [69,78,68,95,86,65,82] (fun n m=>th (dcl T m) fun _ z=>ok (n+1) z) n (rtn T (k+1))) f n (k'+1)) (fun n d=>th (sms T 32 d) fun l e=>th (xp T [69,78,68,95,80,82,79,71,82,65,77] e) fun _ f=>th (endT T f) fun _ g=>ok (ttN,n,l) g))):=(by have q:=rp_yes hM.out hc;unfold upT at q;rw [th_th,hrt] at q;exact hid_as q)
            clear hM hc hrt
            have A3:Hid (∀ W,Rd W rb tb cap T (k+1)→Calls Tryz.prog 85 #[.pointer (some ⟨rb,0,none⟩),.string ⟨#[82,69,84,65,73,78]⟩] W fun e w'=>e=.returned (.bool false)∧Below W.heap.size W w'):=fun W H=>accept_n H ⟨#[82,69,84,65,73,78]⟩ hq
            clear hq
            go_wp2_with (first
              | (go_at_call 85;(with_reducible refine (A1.out _ hR.out).mono ?_);rintro e w2 ⟨rfl,k2,r2⟩;have R2:=hid_as r2;have K2:=hid_as ((hK.out).trans k2);have B2:=hid_as (hB.out.kp k2 (by omega));have V2:=hid_as (hV.out.kp k2 (by omega));have z2:=K2.out.size;have q2:=k2.size;(try rw [World.size_alloc] at q2);have J2:=hid_as k2;clear k2 r2)
              | (go_at_call 85;(with_reducible refine (A3.out _ R2.out).mono ?_);rintro e w3 ⟨rfl,b3⟩;have R3:=hid_as ((R2.out).below b3);have K3:=hid_as ((K2.out).below b3);have B3:=hid_as (B2.out.below b3);have V3:=hid_as (V2.out.below b3);have z3:=K3.out.size;have q3:=b3.size;(try rw [World.size_alloc] at q3);have J3:=hid_as (kp_of_below (rb:=rb) b3);clear b3))
            have R4x:=R3
            have K4x:=K3
            have B4x:=B3
            have V4x:=V3
            have O4x:=hid_as (own_kp hO.out (J2.out.trans J3.out) (by omega))
            clear R2 R3 K2 K3 B2 B3 V2 V3 J2 J3
            go_loopw [] (fun wr=>∃ (j f2 n:Nat) (xs:List Value) (a:Option Addr) (b c:Nat),T.length < j+f2∧k < j∧n≤j+1∧Hid (Rd wr rb tb cap T j)∧Hid (Kp rb w wr)∧Hid (Bk wr w.heap.size #[.string ⟨#[]⟩,.slice none 0 0,.slice none 0 0,.bool false,.slice none 0 0,.slice none 0 0])∧Hid (Bk wr (w.heap.size+1) #[.string (tx ttN),.slice sa sb sc,.slice a b c,.bool false,.slice none 0 0,.slice none 0 0])∧Hid (wr.ownsRow (w.heap.size+2) 111 10 (.slice a b c) n xs)∧Hid (M=th (rp (fun k=>!isT T [69,78,68,95,86,65,82] k) (fun n m=>th (dcl T m) fun _ z=>ok (n+1) z) f2 n j) (fun n k'=>th (rp (isT T [86,65,82]) (fun n k=>upT T [69,78,68,95,86,65,82] (fun n m=>th (dcl T m) fun _ z=>ok (n+1) z) n (rtn T (k+1))) f n (k'+1)) (fun n d=>th (sms T 32 d) fun l e=>th (xp T [69,78,68,95,80,82,79,71,82,65,77] e) fun _ f=>th (endT T f) fun _ g=>ok (ttN,n,l) g)))) (fun wr=>T.length - rdn rb wr)
            case atStart=>exact ⟨k+1,T.length+1,n,xs,a,b,c,by omega,by omega,by omega,R4x,K4x,B4x,V4x,O4x,Mr⟩
            case round =>
              clear R4x K4x B4x V4x O4x Mr hR hK hB hV hO y0k z0k htn
              obtain ⟨j,f2,n,xs,a,b,c,hf2,hkj,hnj,hR,hK,hB,hV,hO,hM⟩:=hrel
              have hatj:=hid_as hR.out.rdn
              have hklj:=hR.out.ir
              have z0j:=hK.out.size
              have y0j:=hV.out.lt
              obtain ⟨f2,rfl⟩:∃ f',f2=f'+1:=⟨f2 - 1,by omega⟩
              cases hc:isT T [69,78,68,95,86,65,82] j with
              | true =>
                have A2:Hid (∀ W,Rd W rb tb cap T (j)→Calls Tryz.prog 85 #[.pointer (some ⟨rb,0,none⟩),.string ⟨#[69,78,68,95,86,65,82]⟩] W fun e w'=>e=.returned (.bool true)∧Kp rb W w'∧Rd w' rb tb cap T (j+1)):=fun W H=>accept_y H ⟨#[69,78,68,95,86,65,82]⟩ hc (by decide)
                have Mr:=hid_as (rp_not hM.out (show (fun k=>!isT T [69,78,68,95,86,65,82] k) j=false by show (!isT T [69,78,68,95,86,65,82] j)=false;rw [hc];rfl))
                clear hM hc
                go_wp2_with (first
                  | (go_at_call 85;(with_reducible refine (A2.out _ hR.out).mono ?_);rintro e w4 ⟨rfl,k4,r4⟩;have R4:=hid_as r4;have K4:=hid_as ((hK.out).trans k4);have B4:=hid_as (hB.out.kp k4 (by omega));have V4:=hid_as (hV.out.kp k4 (by omega));have z4:=K4.out.size;have q4:=k4.size;(try rw [World.size_alloc] at q4);have J4:=hid_as k4;clear k4 r4))
                go_roundw
                case rel=>exact ⟨j+1,f,n,xs,a,b,c,by omega,by omega,R4,K4,B4,V4,hid_as (own_kp hO.out J4.out (by omega)),Mr⟩
                case measure=>rw [R4.out.rdn,hatk.out];omega
              | false =>
                have A2:Hid (∀ W,Rd W rb tb cap T (j)→Calls Tryz.prog 85 #[.pointer (some ⟨rb,0,none⟩),.string ⟨#[69,78,68,95,86,65,82]⟩] W fun e w'=>e=.returned (.bool false)∧Below W.heap.size W w'):=fun W H=>accept_n H ⟨#[69,78,68,95,86,65,82]⟩ hc
                have Mr:Hid (M=th (dcl T j) fun _ z=>th (rp (fun k=>!isT T [69,78,68,95,86,65,82] k) (fun n m=>th (dcl T m) fun _ z=>ok (n+1) z) f2 (n+1) z) (fun n k'=>th (rp (isT T [86,65,82]) (fun n k=>upT T [69,78,68,95,86,65,82] (fun n m=>th (dcl T m) fun _ z=>ok (n+1) z) n (rtn T (k+1))) f n (k'+1)) (fun n d=>th (sms T 32 d) fun l e=>th (xp T [69,78,68,95,80,82,79,71,82,65,77] e) fun _ f=>th (endT T f) fun _ g=>ok (ttN,n,l) g))):=(by have q:=rp_yes hM.out (show (fun k=>!isT T [69,78,68,95,86,65,82] k) j=true by show (!isT T [69,78,68,95,86,65,82] j)=true;rw [hc];rfl);rw [th_th] at q;exact hid_as q)
                clear hM hc
                go_wp2_with (first
                  | (go_at_call 85;(with_reducible refine (A2.out _ hR.out).mono ?_);rintro e w4 ⟨rfl,b4⟩;have R4:=hid_as ((hR.out).below b4);have K4:=hid_as ((hK.out).below b4);have B4:=hid_as (hB.out.below b4);have V4:=hid_as (hV.out.below b4);have z4:=K4.out.size;have q4:=b4.size;(try rw [World.size_alloc] at q4);have J4:=hid_as (kp_of_below (rb:=rb) b4);clear b4;have y4:=V4.out.lt;have V4d:=hid_as V4.out.drew;obtain ⟨g0,g1,g2,g3,g4,g5⟩:=bk6 V4d.out;have gf:=V4d.out.fr))
                go_region_law (first
                  | refine step_append_run rfl (.tmp 31) (.tmp 35) 29 29 rfl (.slice a b c) (.slice (some ⟨w5.heap.size,0,none⟩) 1 1) (by first | (simp [Act.eval];done) | (simp [Act.eval,Act.put];done)) (by first | (simp [Act.eval];done) | (simp [Act.eval,Act.put];done)) _ _ hr6.out ?_
                  | (go_simp;go_wp2_with (go_at_call 89;(with_reducible refine (DF.out _ j R4.out.drew).mono ?_);rintro e w5 ⟨k5,⟨_,i5,_,m5,rfl,⟨x5_0,x5_1,x5_2,x5_3,x5_4,x5_5,x5_6,x5_7,a5_8,b5_8,c5_8,x5_9,rfl⟩,r5,l5⟩ | ⟨n5,i5,m5,rfl⟩⟩;rotate_left;exact And.intro rfl (Outc.stop Mr.out m5 ((K4.out.drew).trans k5));have hlt:=(fw_dcl T j).of m5;have R5:=hid_as r5;have K5:=hid_as ((K4.out.drew).trans k5);have M5:=hid_as (th_go Mr.out m5);have B5:=hid_as ((B4.out.drew).kp k5 (by omega));have V5:=hid_as ((V4.out.drew).kp k5 (by omega));have z5:=K5.out.size;have q5:=k5.size;(try rw [World.size_alloc] at q5);have J5:=hid_as k5;clear k5 r5 m5;clear g0 g1 g2 g3 g4 g5 gf;have y5:=V5.out.lt;have O5:=hid_as (own_kp hO.out (J4.out.drew.trans J5.out) (by omega));obtain ⟨v6,w6,hr6,ho6,hg6,_⟩:=push_at (cs:=#[.string x5_0,.int .i64 x5_1,.int .i64 x5_2,.int .i64 x5_3,.int .i64 x5_4,.string x5_5,.bool x5_6,.string x5_7,.slice a5_8 b5_8 c5_8,.int .i64 x5_9]) Tryz.underlying29 infoVar rfl (by decide) (by decide) O5.out (by omega) (by omega) rfl (by intro u hu;simp at hu;rcases hu with rfl | rfl | rfl | rfl | rfl | rfl | rfl | rfl | rfl | rfl <;> rfl);have K6:=hid_as ((K5.out.alloc (.cells #[.string x5_0,.int .i64 x5_1,.int .i64 x5_2,.int .i64 x5_3,.int .i64 x5_4,.string x5_5,.bool x5_6,.string x5_7,.slice a5_8 b5_8 c5_8,.int .i64 x5_9] 111)).grown hg6 (fun k hk=>Nat.le_trans (by omega) (World.ownsRow.lt O5.out k hk).1));have R6:=hid_as ((R5.out.alloc (.cells #[.string x5_0,.int .i64 x5_1,.int .i64 x5_2,.int .i64 x5_3,.int .i64 x5_4,.string x5_5,.bool x5_6,.string x5_7,.slice a5_8 b5_8 c5_8,.int .i64 x5_9] 111)).grown hg6 (fun e=>by have:=(World.ownsRow.lt O5.out rb e).1;omega) (fun e=>by have:=(World.ownsRow.lt O5.out tb e).1;omega));have B6:=hid_as ((B5.out.alloc (.cells #[.string x5_0,.int .i64 x5_1,.int .i64 x5_2,.int .i64 x5_3,.int .i64 x5_4,.string x5_5,.bool x5_6,.string x5_7,.slice a5_8 b5_8 c5_8,.int .i64 x5_9] 111)).grown hg6 (fun e=>by have:=(World.ownsRow.lt O5.out _ e).1;omega));have V6:=hid_as ((V5.out.alloc (.cells #[.string x5_0,.int .i64 x5_1,.int .i64 x5_2,.int .i64 x5_3,.int .i64 x5_4,.string x5_5,.bool x5_6,.string x5_7,.slice a5_8 b5_8 c5_8,.int .i64 x5_9] 111)).grown hg6 (fun e=>by have:=(World.ownsRow.lt O5.out _ e).1;omega));have z6:=K6.out.size;replace hr6:=hid_as hr6;replace ho6:=hid_as ho6;clear hg6;obtain ⟨a6,b6,c6,rfl⟩:=own_shape ho6.out;obtain ⟨g0,g1,g2,g3,g4,g5⟩:=bk6 V5.out;have gf:=V5.out.fr;have gg0:=fun o=>(bk6 (V5.out.alloc o)).1;have gg1:=fun o=>(bk6 (V5.out.alloc o)).2.1;have gg2:=fun o=>(bk6 (V5.out.alloc o)).2.2.1;have gg3:=fun o=>(bk6 (V5.out.alloc o)).2.2.2.1;have gg4:=fun o=>(bk6 (V5.out.alloc o)).2.2.2.2.1;have gg5:=fun o=>(bk6 (V5.out.alloc o)).2.2.2.2.2;have ggf:=fun o=>(V5.out.alloc o).fr;obtain ⟨v0,v1,v2,v3,v4,v5⟩:=bk6 V6.out;have vf:=V6.out.fr)))
                all_goals
                  have Rm:=R6.out.other (b:=w.heap.size+1) (by omega) (by omega) 2 (.slice a6 b6 c6)
                  have Km:=K6.out.set (g:=w.heap.size+1) (by omega) 2 (.slice a6 b6 c6)
                  have Bm:=B6.out.other (b:=w.heap.size+1) 2 (.slice a6 b6 c6) (by omega)
                  have Vm:=V6.out.set 2 (.slice a6 b6 c6)
                  simp only [List.setIfInBounds_toArray,List.set_cons_zero,List.set_cons_succ] at Vm
                  have Om:=own_set (g:=w.heap.size+1) (j:=2) (x:=.slice a6 b6 c6) ho6.out (by omega)
                  go_wp2
                  go_roundw
                  case rel=>exact ⟨i5,f2,n+1,_,a6,b6,c6,by omega,by omega,by omega,hid_as Rm,hid_as Km,hid_as Bm,hid_as Vm,hid_as Om,M5⟩
                  case measure=>rw [Rm.rdn,hatj.out];omega
        | false =>
          have A1:Hid (∀ W,Rd W rb tb cap T (k)→Calls Tryz.prog 85 #[.pointer (some ⟨rb,0,none⟩),.string ⟨#[86,65,82]⟩] W fun e w'=>e=.returned (.bool false)∧Below W.heap.size W w'):=fun W H=>accept_n H ⟨#[86,65,82]⟩ hc
          have Mr:=hid_as (rp_not hM.out hc)
          obtain rfl:=own_len hO.out
          clear hM hc
          go_wp2_with (first
            | (go_at_call 85;(with_reducible refine (A1.out _ hR.out).mono ?_);rintro e w2 ⟨rfl,b2⟩;have R2:=hid_as ((hR.out).below b2);have K2:=hid_as ((hK.out).below b2);have B2:=hid_as (hB.out.below b2);have V2:=hid_as (hV.out.below b2);have z2:=K2.out.size;have q2:=b2.size;(try rw [World.size_alloc] at q2);have J2:=hid_as (kp_of_below (rb:=rb) b2);clear b2;have y2:=V2.out.lt)
            | (go_at_call 90;(with_reducible refine (SS.out _ k R2.out).mono ?_);rintro e w3 ⟨k3,⟨ops,i3,_,m3,rfl,⟨a3,b3,c3,ys,rfl,os3,op3⟩,r3,l3⟩ | ⟨n3,i3,m3,rfl⟩⟩;rotate_left;exact And.intro rfl (Outc.stop Mr.out m3 ((K2.out).trans k3));have R3:=hid_as r3;have K3:=hid_as ((K2.out).trans k3);have M3:=hid_as (th_go Mr.out m3);have B3:=hid_as (B2.out.kp k3 (by omega));have V3:=hid_as (V2.out.kp k3 (by omega));have z3:=K3.out.size;have q3:=k3.size;(try rw [World.size_alloc] at q3);have J3:=hid_as k3;clear k3 r3 m3;have y3:=V3.out.lt;obtain rfl:=own_len os3;replace os3:=hid_as os3;replace op3:=hid_as op3;have VX:Hid (Bk (w3.setCell ⟨w.heap.size+1,4,none⟩ (.slice a3 ops.length c3)) (w.heap.size+1) #[.string (tx ttN),.slice sa sb sc,.slice a b c,.bool false,.slice a3 ops.length c3,.slice none 0 0]):=(by have q:=V3.out.set 4 (.slice a3 ops.length c3);simp only [List.setIfInBounds_toArray,List.set_cons_zero,List.set_cons_succ] at q;exact hid_as q);have OX:=hid_as (own_set (g:=w.heap.size+1) (j:=4) (x:=.slice a3 ops.length c3) os3.out (by omega));obtain ⟨g0,g1,g2,g3,g4,g5⟩:=bk6 V3.out;have gf:=V3.out.fr)
            | (go_at_call 87;(with_reducible refine (C2.out _ i3 (R3.out.other (b:=w.heap.size+1) (by omega) (by omega) _ _)).mono ?_);rintro e w4 ⟨k4,⟨_,i4,_,m4,rfl,rfl,r4,l4⟩ | ⟨n4,i4,m4,rfl⟩⟩;rotate_left;exact And.intro rfl (Outc.stop M3.out m4 ((K3.out.set (g:=w.heap.size+1) (by omega) _ _).trans k4));have R4:=hid_as r4;have K4:=hid_as ((K3.out.set (g:=w.heap.size+1) (by omega) _ _).trans k4);have M4:=hid_as (th_go M3.out m4);have B4:=hid_as ((B3.out.other (b:=w.heap.size+1) 4 (.slice a3 ops.length c3) (by omega)).kp k4 (by omega));have V4:=hid_as (VX.out.kp k4 (by omega));have z4:=K4.out.size;have q4:=k4.size;(try rw [World.size_alloc] at q4);have J4:=hid_as k4;clear k4 r4 m4;have O4:=hid_as (own_kp OX.out J4.out (by omega)))
            | (go_at_call 91;(with_reducible refine (EC.out _ i4 R4.out).mono ?_);rintro e w5 ⟨k5,⟨_,i5,_,m5,rfl,rfl,r5,l5⟩ | ⟨n5,i5,m5,rfl⟩⟩;rotate_left;exact And.intro rfl (Outc.stop M4.out m5 ((K4.out).trans k5));have R5:=hid_as r5;have K5:=hid_as ((K4.out).trans k5);have M5:=hid_as (th_go M4.out m5);have B5:=hid_as (B4.out.kp k5 (by omega));have V5:=hid_as (V4.out.kp k5 (by omega));have z5:=K5.out.size;have q5:=k5.size;(try rw [World.size_alloc] at q5);have J5:=hid_as k5;clear k5 r5 m5;clear g0 g1 g2 g3 g4 g5 gf;have O5:=hid_as (own_kp O4.out J5.out (by omega));obtain ⟨s0,s1,s2,s3,s4,s5⟩:=bk6 B5.out;have sf:=B5.out.fr;obtain ⟨u0,u1,u2,u3,u4,u5⟩:=bk6 V5.out;have uf:=V5.out.fr))
          exact bodyPost_ret (v:=.agg #[.string (tx ttN),.slice sa sb sc,.slice a b c,.bool false,.slice a3 ops.length c3,.slice none 0 0]) (by simp [results,Tryz.results43,go_sem,s0,s1,s2,s3,s4,s5]) rfl ⟨K5.out.put6 (by omega) _ _ _ _ _ _,Or.inl ⟨(ttN,b,ops),_,_,M5.out,rfl,⟨sa,sb,sc,a,c,a3,c3,ys,rfl,own_low (own_put6 O5.out (by omega) _ _ _ _ _ _) (by omega),op3.out⟩,R5.out.put6 (by omega) (by omega) _ _ _ _ _ _,Nat.zero_le _⟩⟩
end Go.Proofs.YtapcpjidgemggaaGreatDoor
