/- Instruction List, read (stage 14). -/
import Derived.Test.YtapcpjidgemggaaGreatDoorQ50
namespace Go.Proofs.YtapcpjidgemggaaGreatDoor
open Go.RowKit
open Adr Lx Sx
open Ilx (Ps Wl)
theorem Ir.put6 {w:World} {rb tb cap:Nat} {X:ByteArray} {T:TL} {A:Nat→Prop} {s:Ps} {g:Nat} (r:Ir w rb tb cap X T A s) (hb:g ≠ rb) (hc:g ≠ tb) (ha:¬ A g) (x0 x1 x2 x3 x4 x5:Value):Ir ((((((w.setCell ⟨g,0,none⟩ x0).setCell ⟨g,1,none⟩ x1).setCell ⟨g,2,none⟩ x2).setCell ⟨g,3,none⟩ x3).setCell ⟨g,4,none⟩ x4).setCell ⟨g,5,none⟩ x5) rb tb cap X T A s:=((((((r.other hb hc ha 0 x0).other hb hc ha 1 x1).other hb hc ha 2 x2).other hb hc ha 3 x3).other hb hc ha 4 x4).other hb hc ha 5 x5)
theorem Ov.set6 {S:Nat→Prop} (w:World) {g:Nat} (hg:¬ S g) (a b c d e f:Value):Ov S S w ((((((w.setCell ⟨g,0,none⟩ a).setCell ⟨g,1,none⟩ b).setCell ⟨g,2,none⟩ c).setCell ⟨g,3,none⟩ d).setCell ⟨g,4,none⟩ e).setCell ⟨g,5,none⟩ f):=((((((Ov.set w hg 0 a).trans (Ov.set _ hg 1 b)).trans (Ov.set _ hg 2 c)).trans (Ov.set _ hg 3 d)).trans (Ov.set _ hg 4 e)).trans (Ov.set _ hg 5 f))
/-- A reader that was just made. -/
theorem Jr.start {w:World} {g cap:Nat} {X:ByteArray} {T:TL} (hT:Tabs w) (hg:g < w.heap.size) (hl:Laid w g T) (hs:X.size≤60000) (hX:toks X.data.toList true=(T,none)) (hc:T.length≤cap):Jr (w.alloc (.cells #[.string X,.slice (some ⟨g,0,none⟩) T.length cap,.nilIface] 60)) w.heap.size g cap X T (fun x=>w.heap.size < x) ⟨T,none⟩ (w.alloc (.cells #[.string X,.slice (some ⟨g,0,none⟩) T.length cap,.nilIface] 60)):=by
  have h5:=hT.five
  have hlen:T.length≤1000000:=by
    unfold toks at hX
    by_cases hb:65536 < X.data.toList.length
    · rw [if_pos hb] at hX;cases (Prod.mk.inj hX).2
    · rw [if_neg hb] at hX
      obtain ⟨h1,_⟩:=Prod.mk.inj hX
      have:=scn_len true X.data.toList.length X.data.toList 0 []
      rw [← h1,List.length_append,List.length_singleton]
      simp only [List.length_nil] at this
      omega
  have hwl:=(toks_all hX).2.1
  have hpos:=List.length_pos_iff.2 hwl.ne
  refine ⟨Kp.refl _ _,⟨⟨0,.nilIface,rfl,hpos,?_,rfl⟩,?_,by rw [World.size_alloc];omega,by omega,hwl,hlen,hc,fun q=>Nat.lt_irrefl _ q⟩,hT.below (below_new1 w _),fun x hx=>by rw [World.size_alloc] at hx;show w.heap.size < x;omega,by omega,by omega,hX⟩
  · rw [Nat.zero_mul,Nat.sub_zero,Nat.sub_zero]
    exact Bk.fresh w _ _
  · intro j u hj
    exact ((below_new1 w _).cell (p:=⟨g,j,none⟩) hg).trans (hl j u hj)
theorem tokens_yes9 {s:ByteArray} {L:List (Tk × Nat)} (h:toks s.data.toList true=(L,none)) (hs9:s.size≤1000000) (w:World) (hT:Tabs w):Calls Tryz.prog 15 #[.string s,.bool true] w fun e w'=>∃ g cap,e=.returned (.tuple #[.slice (some ⟨g,0,none⟩) L.length cap,.nilIface])∧w.heap.size≤g∧g < w'.heap.size∧(Laid w' g L∧L.length≤cap)∧Below w.heap.size w w':=by
  have hp:=toks_pos h
  refine (tokens_c s true w hT hs9).mono ?_
  intro e w' t
  rw [h] at t
  obtain ⟨⟨v,he,hv⟩,hB⟩:=t
  obtain ⟨g,cap,rfl,h1,h2,h3⟩:=hv.laid hp
  refine ⟨g,cap,he,h1,h2,⟨h3,?_⟩,hB⟩
  rcases hv.2 with ⟨e1,_⟩ | ⟨g',cap',cur,e1,_,_,hn,_⟩
  · cases e1
  · cases e1;exact hn
theorem drew_cell (W:World) (a:Addr):W.drew.cell? a=W.cell? a:=rfl
set_option maxHeartbeats 4000000 in
set_option maxRecDepth 100000 in
theorem ilp_e (X:ByteArray) (w:World) (hT:Tabs w) (hs:X.size≤60000) {T:TL} (hX:toks X.data.toList true=(T,none)) {a n:Nat} (h1:(Ilx.cod (Ilx.hed T)).1.e=some (a,n)):Calls Tryz.prog 8 #[.string X] w fun e w'=>∃ g:Nat,e=.returned (.tuple #[.agg #[.string ⟨#[]⟩,.slice none 0 0,.slice none 0 0,.bool false,.slice none 0 0,.slice none 0 0],.iface 78 (.pointer (some ⟨g,0,none⟩))])∧w.heap.size≤g∧g < w'.heap.size∧w'.cell? ⟨g,0,none⟩=some (.int .i64 a)∧w'.cell? ⟨g,1,none⟩=some (.int .i64 n)∧Below w.heap.size w w':=by
  have hph:=Ilx.wl_phd (toks_all hX).2.1
  have hq:=(head_toks hX hph.1 hph.2.ne).1
  rw [← Lib.size_eq] at hq
  have T0:=hid_as (hT.below (below_new1 w (.cells #[.string ⟨#[]⟩,.slice none 0 0,.slice none 0 0,.bool false,.slice none 0 0,.slice none 0 0] 33)))
  have B0:=hid_as (Bk.fresh w #[.string ⟨#[]⟩,.slice none 0 0,.slice none 0 0,.bool false,.slice none 0 0,.slice none 0 0] 33)
  have K0:=hid_as (below_new1 w (.cells #[.string ⟨#[]⟩,.slice none 0 0,.slice none 0 0,.bool false,.slice none 0 0,.slice none 0 0] 33))
  have C:=hid_as (tokens_yes9 hX (by omega) _ T0.out)
  have HX:=hid_as hX
  have HS:=hid_as hs
  have HD:=hid_as (fun (W V:World) (rb tb cap:Nat) (J:Jr V rb tb cap X T (fun x=>rb < x) ⟨T,none⟩ W)=>j_head J)
  have CD:=hid_as (fun (W V:World) (rb tb cap:Nat) (J:Jr V rb tb cap X T (fun x=>rb < x) (Ilx.hed T) W)=>j_code J)
  have COD:Hid (Ilx.code T=(Ilx.cod (Ilx.hed T)).2):=hid_as (by unfold Ilx.code;exact rfl)
  generalize Ilx.cod (Ilx.hed T)=co at *
  obtain ⟨sc',cl⟩:=co
  simp only at h1 CD COD
  have H1:=hid_as h1
  clear hT hph hX h1
  generalize Ilx.hed T=hs' at *
  go_enter Tryz.func8,Tryz.ntmps8
  go_upto_region 5 with (first
    | (go_at_call 15;(with_reducible refine C.out.mono ?_);rintro e w1 ⟨g,cp,rfl,hg1,hg2,ld,b1⟩;have T1:=hid_as (T0.out.below b1);have B1:=hid_as (B0.out.below b1);have K1:=hid_as (below_and K0.out b1);have LD:=hid_as ld;rw [World.size_alloc] at hg1;have z1:=b1.size;rw [World.size_alloc] at z1;clear b1 ld))
  have J2:=hid_as (Jr.start T1.out hg2 LD.out.1 HS.out HX.out LD.out.2)
  have B2:=hid_as (B1.out.alloc (.cells #[.string X,.slice (some ⟨g,0,none⟩) T.length cp,.nilIface] 60))
  have K2:=hid_as (below_and K1.out (below_new1 w1 (.cells #[.string X,.slice (some ⟨g,0,none⟩) T.length cp,.nilIface] 60)))
  have z2:(w1.alloc (.cells #[.string X,.slice (some ⟨g,0,none⟩) T.length cp,.nilIface] 60)).heap.size=w1.heap.size+1:=World.size_alloc _ _
  generalize w1.alloc (.cells #[.string X,.slice (some ⟨g,0,none⟩) T.length cp,.nilIface] 60)=W2 at *
  generalize w1.heap.size=rb at *
  clear C T0 B0 K0 T1 B1 K1 LD
  have hrl:rb < W2.heap.size:=by omega
  have bw:∀ W,Kp rb W2 W→Below w.heap.size w W:=fun W k=>Below.trans K2.out (kp_new k ⟨by omega,by omega⟩)
  replace bw:=hid_as bw
  go_upto_region 7 with (first
    | (go_at_call 16;(with_reducible refine (HD.out _ _ _ _ _ J2.out).mono ?_);rintro e w3 ⟨rfl,k3,j3⟩;have J3:=hid_as j3;have B3:=hid_as (B2.out.kp k3 (by omega));have z3:=k3.size;(try rw [World.size_alloc] at z3);have K3:=hid_as k3;clear k3 j3)
    | (go_at_call 17;(with_reducible refine (CD.out _ _ _ _ _ J3.out).mono ?_);rintro e w4 ⟨lp,ln,lc,rfl,e4,k4,j4⟩;have J4:=hid_as j4;have B4:=hid_as (B3.out.kp k4 (by omega));have z4:=k4.size;(try rw [World.size_alloc] at z4);have K4:=hid_as k4;clear k4 j4;have E4:=hid_as e4;clear e4))
  obtain ⟨ri,rv,_,_,rbk,rev⟩:=J4.out.r.own
  have rvs:Hid (Ev w4 (fun x=>rb < x) sc'.e rv):=hid_as rev
  obtain ⟨r0,r1,r2⟩:=bk3 rbk
  obtain ⟨s0,s1,s2,s3,s4,s5⟩:=bk6 B4.out
  have sf:=B4.out.fr
  clear rbk rev
  rw [H1.out] at rvs
  obtain ⟨ge,rfl,ga,gl,c0,c1⟩:=rvs.out
  have ga:rb < ge:=ga
  replace c0:=hid_as c0
  replace c1:=hid_as c1
  clear rvs
  go_wp2
  go_region
  all_goals go_wp2
  all_goals
    obtain ⟨x0,x1,x2,x3,x4,x5⟩:=bk6 (B4.out.put6 (.string ⟨#[]⟩) (.slice none 0 0) (.slice none 0 0) (.bool false) (.slice none 0 0) (.slice none 0 0))
    refine bodyPost_ret (v:=.tuple #[.agg #[.string ⟨#[]⟩,.slice none 0 0,.slice none 0 0,.bool false,.slice none 0 0,.slice none 0 0],.iface 78 (.pointer (some ⟨ge,0,none⟩))]) (by simp [results,Tryz.results8,go_sem,x0,x1,x2,x3,x4,x5]) rfl ⟨ge,rfl,by omega,by simp [World.setCell];exact gl,?_,?_,?_⟩
    · rw [drew_cell]
      exact (K6 w4 w.heap.size ge 0 _ _ _ _ _ _ (by omega)).trans c0.out
    · rw [drew_cell]
      exact (K6 w4 w.heap.size ge 1 _ _ _ _ _ _ (by omega)).trans c1.out
    · exact (below_six (bw.out _ J4.out.k) (Nat.le_refl _) _ _ _ _ _ _).drew
set_option maxHeartbeats 4000000 in
set_option maxRecDepth 100000 in
theorem ilp_y (X:ByteArray) (w:World) (hT:Tabs w) (hs:X.size≤60000) {T:TL} (hX:toks X.data.toList true=(T,none)) (h1:(Ilx.cod (Ilx.hed T)).1.e=none) {nm:List UInt8} {nv:Nat} {l:List Nat} (h2:(prg (Ilx.hdE T (Ilx.phd T).2)).v=some (nm,nv,l)):Calls Tryz.prog 8 #[.string X] w fun e w'=>∃ (sa:Option Addr) (sb sc:Nat) (va:Option Addr) (vc:Nat) (ba:Option Addr) (bb bc:Nat) (lp:Option Addr) (ln lc:Nat),e=.returned (.tuple #[.agg #[.string (tx nm),.slice sa sb sc,.slice va nv vc,.bool true,.slice ba bb bc,.slice lp ln lc],.nilIface])∧Sl 5 Pi (fun x=>w.heap.size≤x) w' lp ln lc (Ilx.code T)∧Below w.heap.size w w':=by
  have hph:=Ilx.wl_phd (toks_all hX).2.1
  have hq:=(head_toks hX hph.1 hph.2.ne).1
  rw [← Lib.size_eq] at hq
  have T0:=hid_as (hT.below (below_new1 w (.cells #[.string ⟨#[]⟩,.slice none 0 0,.slice none 0 0,.bool false,.slice none 0 0,.slice none 0 0] 33)))
  have B0:=hid_as (Bk.fresh w #[.string ⟨#[]⟩,.slice none 0 0,.slice none 0 0,.bool false,.slice none 0 0,.slice none 0 0] 33)
  have K0:=hid_as (below_new1 w (.cells #[.string ⟨#[]⟩,.slice none 0 0,.slice none 0 0,.bool false,.slice none 0 0,.slice none 0 0] 33))
  have C:=hid_as (tokens_yes9 hX (by omega) _ T0.out)
  have HX:=hid_as hX
  have HS:=hid_as hs
  have HD:=hid_as (fun (W V:World) (rb tb cap:Nat) (J:Jr V rb tb cap X T (fun x=>rb < x) ⟨T,none⟩ W)=>j_head J)
  have CD:=hid_as (fun (W V:World) (rb tb cap:Nat) (J:Jr V rb tb cap X T (fun x=>rb < x) (Ilx.hed T) W)=>j_code J)
  have p3:=headE_toks hX hph.1 hph.2.ne (by omega)
  have hst:(X.extract 0 (Ilx.hd (Ilx.phd T).2).2 ++ ⟨#[10,69,78,68,95,80,82,79,71,82,65,77]⟩).data.toList=X.data.toList.take (Ilx.hd (Ilx.phd T).2).2 ++ 10 :: [69,78,68,95,80,82,79,71,82,65,77]:=by
    rw [tx_extract,List.drop_zero,Nat.sub_zero]
    have e:=tx_app (X.data.toList.take (Ilx.hd (Ilx.phd T).2).2) (10 :: [69,78,68,95,80,82,79,71,82,65,77])
    rw [show tx (10 :: [69,78,68,95,80,82,79,71,82,65,77])=⟨#[10,69,78,68,95,80,82,79,71,82,65,77]⟩ from rfl] at e
    rw [e,tx_list]
  rw [← hst] at p3
  have hss:(X.extract 0 (Ilx.hd (Ilx.phd T).2).2 ++ ⟨#[10,69,78,68,95,80,82,79,71,82,65,77]⟩).size≤900000:=by
    rw [Lib.size_eq,hst,List.length_append,List.length_take,← Lib.size_eq]
    show min _ X.size+12≤900000
    omega
  have hsl:(X.extract 0 (Ilx.hd (Ilx.phd T).2).2).size≤60000:=by rw [ByteArray.size_extract];omega
  have hm:=gd_ok h2 (prg_gd _)
  have PS:=hid_as (fun (W:World) (hW:Tabs W)=>parse_yes _ W hW hss p3 hm)
  have COD:Hid (Ilx.code T=(Ilx.cod (Ilx.hed T)).2):=hid_as (by unfold Ilx.code;exact rfl)
  generalize Ilx.cod (Ilx.hed T)=co at *
  obtain ⟨sc',cl⟩:=co
  simp only at h1 CD COD
  have H1:=hid_as h1
  clear hT hph hX h1 p3 hst hm h2
  generalize Ilx.hed T=hs' at *
  generalize X.extract 0 (Ilx.hd (Ilx.phd T).2).2=xh at *
  go_enter Tryz.func8,Tryz.ntmps8
  go_upto_region 5 with (first
    | (go_at_call 15;(with_reducible refine C.out.mono ?_);rintro e w1 ⟨g,cp,rfl,hg1,hg2,ld,b1⟩;have T1:=hid_as (T0.out.below b1);have B1:=hid_as (B0.out.below b1);have K1:=hid_as (below_and K0.out b1);have LD:=hid_as ld;rw [World.size_alloc] at hg1;have z1:=b1.size;rw [World.size_alloc] at z1;clear b1 ld))
  have J2:=hid_as (Jr.start T1.out hg2 LD.out.1 HS.out HX.out LD.out.2)
  have B2:=hid_as (B1.out.alloc (.cells #[.string X,.slice (some ⟨g,0,none⟩) T.length cp,.nilIface] 60))
  have K2:=hid_as (below_and K1.out (below_new1 w1 (.cells #[.string X,.slice (some ⟨g,0,none⟩) T.length cp,.nilIface] 60)))
  have z2:(w1.alloc (.cells #[.string X,.slice (some ⟨g,0,none⟩) T.length cp,.nilIface] 60)).heap.size=w1.heap.size+1:=World.size_alloc _ _
  generalize w1.alloc (.cells #[.string X,.slice (some ⟨g,0,none⟩) T.length cp,.nilIface] 60)=W2 at *
  generalize w1.heap.size=rb at *
  clear C T0 B0 K0 T1 B1 K1 LD
  have hrl:rb < W2.heap.size:=by omega
  have bw:∀ W,Kp rb W2 W→Below w.heap.size w W:=fun W k=>Below.trans K2.out (kp_new k ⟨by omega,by omega⟩)
  replace bw:=hid_as bw
  go_upto_region 7 with (first
    | (go_at_call 16;(with_reducible refine (HD.out _ _ _ _ _ J2.out).mono ?_);rintro e w3 ⟨rfl,k3,j3⟩;have J3:=hid_as j3;have B3:=hid_as (B2.out.kp k3 (by omega));have z3:=k3.size;(try rw [World.size_alloc] at z3);have K3:=hid_as k3;clear k3 j3)
    | (go_at_call 17;(with_reducible refine (CD.out _ _ _ _ _ J3.out).mono ?_);rintro e w4 ⟨lp,ln,lc,rfl,e4,k4,j4⟩;have J4:=hid_as j4;have B4:=hid_as (B3.out.kp k4 (by omega));have z4:=k4.size;(try rw [World.size_alloc] at z4);have K4:=hid_as k4;clear k4 j4;have E4:=hid_as e4;clear e4))
  obtain ⟨ri,rv,_,_,rbk,rev⟩:=J4.out.r.own
  have rvs:Hid (Ev w4 (fun x=>rb < x) sc'.e rv):=hid_as rev
  obtain ⟨r0,r1,r2⟩:=bk3 rbk
  obtain ⟨s0,s1,s2,s3,s4,s5⟩:=bk6 B4.out
  have sf:=B4.out.fr
  clear rbk rev
  rw [H1.out] at rvs
  obtain rfl:rv=.nilIface:=rvs.out
  clear rvs
  have hcat:¬ 9223372036854775807 < xh.size+12:=by omega
  have hcat2:¬ 9223372036854775807 < xh.size+(⟨#[10,69,78,68,95,80,82,79,71,82,65,77]⟩:ByteArray).size:=by show ¬ 9223372036854775807 < xh.size+12;omega
  go_upto_region 12 with (first
    | (go_at_call 18;(with_reducible refine (PS.out _ J4.out.t).mono ?_);rintro e w5 ⟨sa,sb,sc,va,vc,ba,bc,xs,rfl,_,_,b5⟩;have B5:=hid_as (B4.out.below b5);have z5:=b5.size;have KB5:=hid_as b5;clear b5 s0 s1 s2 s3 s4 s5 sf))
  have z4:=J4.out.k.size
  have BP:=hid_as (Bk.fresh w5 #[.string (tx nm),.slice sa sb sc,.slice va nv vc,.bool false,.slice ba l.length bc,.slice none 0 0] 33)
  have B6:=hid_as (B5.out.alloc (.cells #[.string (tx nm),.slice sa sb sc,.slice va nv vc,.bool false,.slice ba l.length bc,.slice none 0 0] 33))
  have KB6:=hid_as (below_and KB5.out (below_new1 w5 (.cells #[.string (tx nm),.slice sa sb sc,.slice va nv vc,.bool false,.slice ba l.length bc,.slice none 0 0] 33)))
  obtain ⟨pb,hpb⟩:∃ pb,pb=w5.heap.size:=⟨_,rfl⟩
  rw [← hpb] at BP ⊢
  replace hpb:=hid_as hpb
  have hpw:w4.heap.size≤pb:=by have:=hpb.out;omega
  generalize w5.alloc (.cells #[.string (tx nm),.slice sa sb sc,.slice va nv vc,.bool false,.slice ba l.length bc,.slice none 0 0] 33)=W6 at *
  obtain ⟨t0,t1,t2,t3,t4,t5⟩:=bk6 BP.out
  have tf:=BP.out.fr
  obtain ⟨s0,s1,s2,s3,s4,s5⟩:=bk6 B6.out
  have sf:=B6.out.fr
  have hz6:=BP.out.lt
  go_wp2
  have BQ:Bk ((W6.setCell ⟨pb,3,none⟩ (.bool true)).setCell ⟨pb,5,none⟩ (.slice lp ln lc)) w.heap.size #[.string ⟨#[]⟩,.slice none 0 0,.slice none 0 0,.bool false,.slice none 0 0,.slice none 0 0]:=(B6.out.other (b:=pb) 3 (.bool true) (by omega)).other (b:=pb) 5 (.slice lp ln lc) (by omega)
  obtain ⟨x0,x1,x2,x3,x4,x5⟩:=bk6 (BQ.put6 (.string (tx nm)) (.slice sa sb sc) (.slice va nv vc) (.bool true) (.slice ba l.length bc) (.slice lp ln lc))
  refine bodyPost_ret (v:=.tuple #[.agg #[.string (tx nm),.slice sa sb sc,.slice va nv vc,.bool true,.slice ba l.length bc,.slice lp ln lc],.nilIface]) (by simp [results,Tryz.results8,go_sem,x0,x1,x2,x3,x4,x5]) rfl ⟨_,_,_,_,_,_,_,_,_,_,_,rfl,?_,?_⟩
  · rw [COD.out]
    have o1:Ov (fun x=>w3.heap.size≤x) (fun x=>w.heap.size < x∧x ≠ pb) w4 W6:=(Ov.into (S':=fun x=>w.heap.size < x∧x ≠ pb) fun x (hx:w3.heap.size≤x) hl=>⟨by omega,by omega⟩).trans (Ov.below KB6.out)
    have o2:=((o1.trans (Ov.set _ (fun h=>h.2 rfl) 3 (.bool true))).trans (Ov.set _ (fun h=>h.2 rfl) 5 (.slice lp ln lc))).trans (Ov.set6 _ (fun h=>Nat.lt_irrefl _ h.1) (.string (tx nm)) (.slice sa sb sc) (.slice va nv vc) (.bool true) (.slice ba l.length bc) (.slice lp ln lc))
    exact E4.out.keepK (P:=Pi) (fun _ _ _ _ o _ _=>Pi.ov o) (o2.trans (Ov.into fun x hx _=>Nat.le_of_lt hx.1))
  · exact below_six (((below_and (bw.out _ J4.out.k) (KB6.out)).setCell (p:=⟨pb,3,none⟩) (by show _≤pb;omega) _).setCell (p:=⟨pb,5,none⟩) (by show _≤pb;omega) _) (Nat.le_refl _) _ _ _ _ _ _
end Go.Proofs.YtapcpjidgemggaaGreatDoor
