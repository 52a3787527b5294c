/- The reader of Instruction List: what stands ahead of the instructions (stage 14). -/
import Derived.Test.YtapcpjidgemggaaGreatDoorQ41
import Derived.Test.YtapcpjidgemggaaGreatDoorQ49
namespace Go.Proofs.YtapcpjidgemggaaGreatDoor
open Go.RowKit
open Adr Lx Sx
open Ilx (Ps Wl)
/-- A block of one's own has turned. -/
theorem Jr.other {v w:World} {rb tb cap:Nat} {X:ByteArray} {T:TL} {A:Nat→Prop} {s:Ps} {w':World} {g:Nat} (J:Jr v rb tb cap X T A s w) (k:Kp g w w') (hv:rb < v.heap.size) (ht:tb < v.heap.size) (hg:v.heap.size≤g) (hn:¬ A g):Jr v rb tb cap X T A s w':=by
  have k1:=J.k
  have hr:=J.hr
  have hl:=J.r.rlt
  refine ⟨⟨k.os.trans k1.os,k.tape.trans k1.tape,k.output.trans k1.output,Nat.le_trans k1.size k.size,fun j h1 h2=>(k.block j (Nat.lt_of_lt_of_le h1 k1.size) (by omega)).trans (k1.block j h1 h2)⟩,J.r.keep k.size (k.block rb hl (by omega)) (k.block tb J.r.lt (by omega)) (fun b hb hbl=>k.block b hbl (fun e=>hn (e ▸ hb))),J.t.keep (fun b hb=>k.block b (by omega) (by omega)),fun x hx=>J.a x (by have:=k.size;omega),hr,J.sz,J.tk⟩
set_option maxHeartbeats 4000000 in
set_option maxRecDepth 100000 in
theorem ihead_a {v w:World} {rb tb cap:Nat} {X:ByteArray} {T:TL} {A:Nat→Prop} (J:Jr v rb tb cap X T A ⟨T,none⟩ w) {m:List UInt8 × Nat × List Nat} (h1:(prg (Ilx.hdT T (Ilx.phd T).2)).v=some m):Calls Tryz.prog 16 #[.pointer (some ⟨rb,0,none⟩)] w fun e w'=>e=.returned (.string (X.extract 0 (Ilx.hd (Ilx.phd T).2).2))∧Kp rb w w'∧Jr v rb tb cap X T A (⟨(Ilx.phd T).2,none⟩) w':=by
  have JJ:=hid_as J
  have J0:=hid_as J.here
  have hrl:=J.rlt
  have htl:=J.r.lt
  have hna:=hid_as J.r.na
  have hX:=J.sz
  have hph:=Ilx.wl_phd J.r.wl
  obtain ⟨p2,p3⟩:=head_toks J.tk hph.1 hph.2.ne
  rw [← Lib.size_eq] at p2
  rw [show X.data.toList.take (Ilx.hd (Ilx.phd T).2).2=(X.data.toList.drop 0).take ((Ilx.hd (Ilx.phd T).2).2 - 0) by rw [List.drop_zero,Nat.sub_zero],← tx_list ((X.data.toList.drop 0).take ((Ilx.hd (Ilx.phd T).2).2 - 0)),← tx_extract] at p3
  have hps:(X.extract 0 (Ilx.hd (Ilx.phd T).2).2).size≤900000:=by rw [ByteArray.size_extract];omega
  have hpl:(X.extract 0 (Ilx.hd (Ilx.phd T).2).2).size=(Ilx.hd (Ilx.phd T).2).2:=by rw [ByteArray.size_extract];omega
  have hm:=gd_ok h1 (prg_gd _)
  obtain ⟨nm,nv,l⟩:=m
  have PS:=hid_as (fun (W:World) (hW:Tabs W)=>parse_yes (X.extract 0 (Ilx.hd (Ilx.phd T).2).2) W hW hps p3 hm)
  have PH:=hid_as (fun W (J:Jr w rb tb cap X T A ⟨T,none⟩ W)=>j_passHead J)
  have NW:=hid_as (fun W (J:Jr w rb tb cap X T A ⟨(Ilx.phd T).2,none⟩ W)=>j_now J)
  have RF:=hid_as (fun W wb (J:Jr w rb tb cap X T (fun x=>A x∧x ≠ wb) ⟨(Ilx.phd T).2,none⟩ W) a n=>irefuse_c J.r J.a a n)
  have F4:=fd4
  generalize (Ilx.phd T).1=wh at *
  generalize (Ilx.phd T).2=L at *
  clear J hph p3 hm h1
  generalize Ilx.hd L=t0 at *
  obtain ⟨⟨ta,tk,tn,tt⟩,q⟩:=t0
  simp only at PS p2 hps hpl
  go_enter Tryz.func16,Tryz.ntmps16
  go_upto_region 2 with (first
    | (go_at_call 33;(with_reducible refine (PH.out _ J0.out).mono ?_);rintro e w1 ⟨rfl,k1,j1⟩;have J1:=hid_as j1;have z1:=k1.size;(try rw [World.size_alloc] at z1);have K1:=hid_as k1;clear k1 j1))
  have r0:w1.cell? ⟨rb,0,none⟩=some (.string X):=by
    obtain ⟨i,ev,_,_,bk,_⟩:=J1.out.r.own
    exact (bk3 bk).1
  have hr1:rb < w1.heap.size:=J1.out.rlt
  have N1:Hid (∀ W,Below w1.heap.size w1 W→Calls Tryz.prog 34 #[.pointer (some ⟨rb,0,none⟩)] W fun e w'=>e=.returned (.agg #[.int .i64 ta,.int .i64 tk,.int .i64 tn,.string (tx tt),.int .i64 q])∧Kp rb w1 w'∧Jr w rb tb cap X T A ⟨L,none⟩ w'∧w'.cell? ⟨rb,0,none⟩=some (.string X)):=hid_as fun W kW=>(NW.out W (J1.out.bl kW)).mono fun e w' hw=>by
    obtain ⟨u,e1,⟨_,_,_,_,_,t1,rfl⟩,k2,j2⟩:=hw
    cases t1
    obtain ⟨i,ev,_,_,bk,_⟩:=j2.r.own
    exact ⟨e1,(Kp.of kW).trans k2,j2,(bk3 bk).1⟩
  go_region_held3 (fun W=>W.cell? ⟨rb,0,none⟩=some (.string X)) (first | exact r0 | exact c2) (first
    | (go_at_call 34;(with_reducible refine (N1.out _ ?_).mono ?_);(focus (repeat (first | with_reducible exact Below.refl _ _ | refine Below.drew ?_)));rintro e w2 ⟨rfl,k2,j2,c2⟩;have J2:=hid_as j2;have z2:=k2.size;clear k2 j2))
  have hw2:w.heap.size≤w2.heap.size:=J2.out.k.size
  have J3:=hid_as (J2.out.box (.cells #[.pointer none] 78))
  have B3:=hid_as (Bk.fresh w2 #[.pointer none] 78)
  clear r0 hr1 c2 N1
  have AN:=hid_as as_nil
  go_wp2_with (first
    | (go_at_call 18;(with_reducible refine (PS.out _ J3.out.t).mono ?_);rintro e w4 ⟨sa,sb,sc,va,vc,ba,bc,xs,rfl,_,_,b4⟩;have J4:=hid_as (J3.out.bl b4);clear b4)
    | (go_at_call 26;(with_reducible refine (AN.out _ _).mono ?_);rintro e w5 ⟨rfl,rfl⟩))
  go_ret
  have j:=J4.out.alloc (.cells #[.string (tx nm),.slice sa sb sc,.slice va nv vc,.bool false,.slice ba l.length bc,.slice none 0 0] 33)
  exact ⟨rfl,j.k,JJ.out.nx j.k (j.r.unbox hna.out)⟩
set_option maxHeartbeats 4000000 in
set_option maxRecDepth 100000 in
theorem ihead_b {v w:World} {rb tb cap:Nat} {X:ByteArray} {T:TL} {A:Nat→Prop} (J:Jr v rb tb cap X T A ⟨T,none⟩ w) (h1:(prg (Ilx.hdT T (Ilx.phd T).2)).v=none) (h2:(Ilx.phd T).1=true) (h3:¬ ca (Ilx.hdT T (Ilx.phd T).2) (prg (Ilx.hdT T (Ilx.phd T).2)).k < (Ilx.hd (Ilx.phd T).2).2):Calls Tryz.prog 16 #[.pointer (some ⟨rb,0,none⟩)] w fun e w'=>e=.returned (.string (X.extract 0 (Ilx.hd (Ilx.phd T).2).2))∧Kp rb w w'∧Jr v rb tb cap X T A (⟨(Ilx.phd T).2,none⟩) w':=by
  have JJ:=hid_as J
  have J0:=hid_as J.here
  have hrl:=J.rlt
  have htl:=J.r.lt
  have hna:=hid_as J.r.na
  have hX:=J.sz
  have hph:=Ilx.wl_phd J.r.wl
  obtain ⟨p2,p3⟩:=head_toks J.tk hph.1 hph.2.ne
  rw [← Lib.size_eq] at p2
  rw [show X.data.toList.take (Ilx.hd (Ilx.phd T).2).2=(X.data.toList.drop 0).take ((Ilx.hd (Ilx.phd T).2).2 - 0) by rw [List.drop_zero,Nat.sub_zero],← tx_list ((X.data.toList.drop 0).take ((Ilx.hd (Ilx.phd T).2).2 - 0)),← tx_extract] at p3
  have hps:(X.extract 0 (Ilx.hd (Ilx.phd T).2).2).size≤900000:=by rw [ByteArray.size_extract];omega
  have hpl:(X.extract 0 (Ilx.hd (Ilx.phd T).2).2).size=(Ilx.hd (Ilx.phd T).2).2:=by rw [ByteArray.size_extract];omega
  have hm:=gd_no h1
  have hcl:=toks_ca p3 (prg (Ilx.hdT T (Ilx.phd T).2)).k
  have PS:=hid_as (fun (W:World) (hW:Tabs W)=>parse_no (X.extract 0 (Ilx.hd (Ilx.phd T).2).2) W hW hps p3 hm)
  have PH:=hid_as (fun W (J:Jr w rb tb cap X T A ⟨T,none⟩ W)=>j_passHead J)
  have NW:=hid_as (fun W (J:Jr w rb tb cap X T A ⟨(Ilx.phd T).2,none⟩ W)=>j_now J)
  have RF:=hid_as (fun W wb (J:Jr w rb tb cap X T (fun x=>A x∧x ≠ wb) ⟨(Ilx.phd T).2,none⟩ W) a n=>irefuse_c J.r J.a a n)
  have F4:=fd4
  generalize ca (Ilx.hdT T (Ilx.phd T).2) (prg (Ilx.hdT T (Ilx.phd T).2)).k=ea at *
  generalize (prg (Ilx.hdT T (Ilx.phd T).2)).e=en at *
  rw [h2] at PH
  generalize (Ilx.phd T).2=L at *
  clear J hph p3 hm h1 h2
  generalize Ilx.hd L=t0 at *
  obtain ⟨⟨ta,tk,tn,tt⟩,q⟩:=t0
  simp only at PS p2 hps hpl h3
  have g3:¬ (ea:Int) < q:=by omega
  replace h3:=hid_as h3
  go_enter Tryz.func16,Tryz.ntmps16
  go_upto_region 2 with (first
    | (go_at_call 33;(with_reducible refine (PH.out _ J0.out).mono ?_);rintro e w1 ⟨rfl,k1,j1⟩;have J1:=hid_as j1;have z1:=k1.size;(try rw [World.size_alloc] at z1);have K1:=hid_as k1;clear k1 j1))
  have r0:w1.cell? ⟨rb,0,none⟩=some (.string X):=by
    obtain ⟨i,ev,_,_,bk,_⟩:=J1.out.r.own
    exact (bk3 bk).1
  have hr1:rb < w1.heap.size:=J1.out.rlt
  have N1:Hid (∀ W,Below w1.heap.size w1 W→Calls Tryz.prog 34 #[.pointer (some ⟨rb,0,none⟩)] W fun e w'=>e=.returned (.agg #[.int .i64 ta,.int .i64 tk,.int .i64 tn,.string (tx tt),.int .i64 q])∧Kp rb w1 w'∧Jr w rb tb cap X T A ⟨L,none⟩ w'∧w'.cell? ⟨rb,0,none⟩=some (.string X)):=hid_as fun W kW=>(NW.out W (J1.out.bl kW)).mono fun e w' hw=>by
    obtain ⟨u,e1,⟨_,_,_,_,_,t1,rfl⟩,k2,j2⟩:=hw
    cases t1
    obtain ⟨i,ev,_,_,bk,_⟩:=j2.r.own
    exact ⟨e1,(Kp.of kW).trans k2,j2,(bk3 bk).1⟩
  go_region_held3 (fun W=>W.cell? ⟨rb,0,none⟩=some (.string X)) (first | exact r0 | exact c2) (first
    | (go_at_call 34;(with_reducible refine (N1.out _ ?_).mono ?_);(focus (repeat (first | with_reducible exact Below.refl _ _ | refine Below.drew ?_)));rintro e w2 ⟨rfl,k2,j2,c2⟩;have J2:=hid_as j2;have z2:=k2.size;clear k2 j2))
  have hw2:w.heap.size≤w2.heap.size:=J2.out.k.size
  have J3:=hid_as (J2.out.box (.cells #[.pointer none] 78))
  have B3:=hid_as (Bk.fresh w2 #[.pointer none] 78)
  clear r0 hr1 c2 N1
  go_upto_region 5 with (first
    | (go_at_call 18;(with_reducible refine (PS.out _ J3.out.t).mono ?_);rintro e w4 ⟨g,rfl,x1,x2,x3,x4,b4⟩;have J4:=hid_as (J3.out.bl b4);have B4:=hid_as (B3.out.below b4);have z4:=b4.size;rw [World.size_alloc] at z4 x1;clear b4))
  have J5:=hid_as (J4.out.alloc (.cells #[.string ⟨#[]⟩,.slice none 0 0,.slice none 0 0,.bool false,.slice none 0 0,.slice none 0 0] 33))
  have B5:=hid_as (B4.out.alloc (.cells #[.string ⟨#[]⟩,.slice none 0 0,.slice none 0 0,.bool false,.slice none 0 0,.slice none 0 0] 33))
  have y0:(w4.alloc (.cells #[.string ⟨#[]⟩,.slice none 0 0,.slice none 0 0,.bool false,.slice none 0 0,.slice none 0 0] 33)).cell? ⟨g,0,none⟩=some (.int .i64 ea):=(World.cell?_alloc_lt _ _ ⟨g,0,none⟩ x2).trans x3
  have y1:(w4.alloc (.cells #[.string ⟨#[]⟩,.slice none 0 0,.slice none 0 0,.bool false,.slice none 0 0,.slice none 0 0] 33)).cell? ⟨g,1,none⟩=some (.int .i64 en):=(World.cell?_alloc_lt _ _ ⟨g,1,none⟩ x2).trans x4
  have x2:g < (w4.alloc (.cells #[.string ⟨#[]⟩,.slice none 0 0,.slice none 0 0,.bool false,.slice none 0 0,.slice none 0 0] 33)).heap.size:=by rw [World.size_alloc];omega
  have z5:w2.heap.size < (w4.alloc (.cells #[.string ⟨#[]⟩,.slice none 0 0,.slice none 0 0,.bool false,.slice none 0 0,.slice none 0 0] 33)).heap.size:=by rw [World.size_alloc];omega
  clear x3 x4 J3 B3 J4 B4 PS
  generalize w4.alloc (.cells #[.string ⟨#[]⟩,.slice none 0 0,.slice none 0 0,.bool false,.slice none 0 0,.slice none 0 0] 33)=W5 at *
  clear z2 J2
  generalize w2.heap.size=wb at *
  have Y0:=hid_as y0
  have Y1:=hid_as y1
  clear y0 y1
  have q0:W5.cell? ⟨wb,0,none⟩=some (.pointer none):=B5.out.cell 0
  have AS:=hid_as (as_kp g wb _ W5 J5.out.t q0 (B5.out.fr 0))
  have hnw:Hid (¬ (A wb∧wb ≠ wb)):=hid_as (fun q=>q.2 rfl)
  clear q0
  go_wp2_with (first
    | (go_at_call 26;(with_reducible refine AS.out.mono ?_);rintro e w6 ⟨rfl,k6,d6⟩;have J6:=hid_as (J5.out.other k6 hrl htl (by omega) hnw.out);have g0:=(World.cell?_of_block (a:=⟨g,0,none⟩) (k6.block g x2 (by omega))).trans Y0.out;have g1:=(World.cell?_of_block (a:=⟨g,1,none⟩) (k6.block g x2 (by omega))).trans Y1.out;have z6:=k6.size;clear k6))
  go_ret
  exact ⟨rfl,J6.out.k,JJ.out.nx J6.out.k (J6.out.r.unbox hna.out)⟩
set_option maxHeartbeats 4000000 in
set_option maxRecDepth 100000 in
theorem ihead_c {v w:World} {rb tb cap:Nat} {X:ByteArray} {T:TL} {A:Nat→Prop} (J:Jr v rb tb cap X T A ⟨T,none⟩ w) (h1:(prg (Ilx.hdT T (Ilx.phd T).2)).v=none) (h2:(Ilx.phd T).1=false):Calls Tryz.prog 16 #[.pointer (some ⟨rb,0,none⟩)] w fun e w'=>e=.returned (.string (X.extract 0 (Ilx.hd (Ilx.phd T).2).2))∧Kp rb w w'∧Jr v rb tb cap X T A (Ilx.rf ⟨(Ilx.phd T).2,none⟩ (ca (Ilx.hdT T (Ilx.phd T).2) (prg (Ilx.hdT T (Ilx.phd T).2)).k) (prg (Ilx.hdT T (Ilx.phd T).2)).e) w':=by
  have JJ:=hid_as J
  have J0:=hid_as J.here
  have hrl:=J.rlt
  have htl:=J.r.lt
  have hna:=hid_as J.r.na
  have hX:=J.sz
  have hph:=Ilx.wl_phd J.r.wl
  obtain ⟨p2,p3⟩:=head_toks J.tk hph.1 hph.2.ne
  rw [← Lib.size_eq] at p2
  rw [show X.data.toList.take (Ilx.hd (Ilx.phd T).2).2=(X.data.toList.drop 0).take ((Ilx.hd (Ilx.phd T).2).2 - 0) by rw [List.drop_zero,Nat.sub_zero],← tx_list ((X.data.toList.drop 0).take ((Ilx.hd (Ilx.phd T).2).2 - 0)),← tx_extract] at p3
  have hps:(X.extract 0 (Ilx.hd (Ilx.phd T).2).2).size≤900000:=by rw [ByteArray.size_extract];omega
  have hpl:(X.extract 0 (Ilx.hd (Ilx.phd T).2).2).size=(Ilx.hd (Ilx.phd T).2).2:=by rw [ByteArray.size_extract];omega
  have hm:=gd_no h1
  have hcl:=toks_ca p3 (prg (Ilx.hdT T (Ilx.phd T).2)).k
  have PS:=hid_as (fun (W:World) (hW:Tabs W)=>parse_no (X.extract 0 (Ilx.hd (Ilx.phd T).2).2) W hW hps p3 hm)
  have PH:=hid_as (fun W (J:Jr w rb tb cap X T A ⟨T,none⟩ W)=>j_passHead J)
  have NW:=hid_as (fun W (J:Jr w rb tb cap X T A ⟨(Ilx.phd T).2,none⟩ W)=>j_now J)
  have RF:=hid_as (fun W wb (J:Jr w rb tb cap X T (fun x=>A x∧x ≠ wb) ⟨(Ilx.phd T).2,none⟩ W) a n=>irefuse_c J.r J.a a n)
  have F4:=fd4
  generalize ca (Ilx.hdT T (Ilx.phd T).2) (prg (Ilx.hdT T (Ilx.phd T).2)).k=ea at *
  generalize (prg (Ilx.hdT T (Ilx.phd T).2)).e=en at *
  rw [h2] at PH
  generalize (Ilx.phd T).2=L at *
  clear J hph p3 hm h1 h2
  generalize Ilx.hd L=t0 at *
  obtain ⟨⟨ta,tk,tn,tt⟩,q⟩:=t0
  simp only at PS p2 hps hpl
  go_enter Tryz.func16,Tryz.ntmps16
  go_upto_region 2 with (first
    | (go_at_call 33;(with_reducible refine (PH.out _ J0.out).mono ?_);rintro e w1 ⟨rfl,k1,j1⟩;have J1:=hid_as j1;have z1:=k1.size;(try rw [World.size_alloc] at z1);have K1:=hid_as k1;clear k1 j1))
  have r0:w1.cell? ⟨rb,0,none⟩=some (.string X):=by
    obtain ⟨i,ev,_,_,bk,_⟩:=J1.out.r.own
    exact (bk3 bk).1
  have hr1:rb < w1.heap.size:=J1.out.rlt
  have N1:Hid (∀ W,Below w1.heap.size w1 W→Calls Tryz.prog 34 #[.pointer (some ⟨rb,0,none⟩)] W fun e w'=>e=.returned (.agg #[.int .i64 ta,.int .i64 tk,.int .i64 tn,.string (tx tt),.int .i64 q])∧Kp rb w1 w'∧Jr w rb tb cap X T A ⟨L,none⟩ w'∧w'.cell? ⟨rb,0,none⟩=some (.string X)):=hid_as fun W kW=>(NW.out W (J1.out.bl kW)).mono fun e w' hw=>by
    obtain ⟨u,e1,⟨_,_,_,_,_,t1,rfl⟩,k2,j2⟩:=hw
    cases t1
    obtain ⟨i,ev,_,_,bk,_⟩:=j2.r.own
    exact ⟨e1,(Kp.of kW).trans k2,j2,(bk3 bk).1⟩
  go_region_held3 (fun W=>W.cell? ⟨rb,0,none⟩=some (.string X)) (first | exact r0 | exact c2) (first
    | (go_at_call 34;(with_reducible refine (N1.out _ ?_).mono ?_);(focus (repeat (first | with_reducible exact Below.refl _ _ | refine Below.drew ?_)));rintro e w2 ⟨rfl,k2,j2,c2⟩;have J2:=hid_as j2;have z2:=k2.size;clear k2 j2))
  have hw2:w.heap.size≤w2.heap.size:=J2.out.k.size
  have J3:=hid_as (J2.out.box (.cells #[.pointer none] 78))
  have B3:=hid_as (Bk.fresh w2 #[.pointer none] 78)
  clear r0 hr1 c2 N1
  go_upto_region 5 with (first
    | (go_at_call 18;(with_reducible refine (PS.out _ J3.out.t).mono ?_);rintro e w4 ⟨g,rfl,x1,x2,x3,x4,b4⟩;have J4:=hid_as (J3.out.bl b4);have B4:=hid_as (B3.out.below b4);have z4:=b4.size;rw [World.size_alloc] at z4 x1;clear b4))
  have J5:=hid_as (J4.out.alloc (.cells #[.string ⟨#[]⟩,.slice none 0 0,.slice none 0 0,.bool false,.slice none 0 0,.slice none 0 0] 33))
  have B5:=hid_as (B4.out.alloc (.cells #[.string ⟨#[]⟩,.slice none 0 0,.slice none 0 0,.bool false,.slice none 0 0,.slice none 0 0] 33))
  have y0:(w4.alloc (.cells #[.string ⟨#[]⟩,.slice none 0 0,.slice none 0 0,.bool false,.slice none 0 0,.slice none 0 0] 33)).cell? ⟨g,0,none⟩=some (.int .i64 ea):=(World.cell?_alloc_lt _ _ ⟨g,0,none⟩ x2).trans x3
  have y1:(w4.alloc (.cells #[.string ⟨#[]⟩,.slice none 0 0,.slice none 0 0,.bool false,.slice none 0 0,.slice none 0 0] 33)).cell? ⟨g,1,none⟩=some (.int .i64 en):=(World.cell?_alloc_lt _ _ ⟨g,1,none⟩ x2).trans x4
  have x2:g < (w4.alloc (.cells #[.string ⟨#[]⟩,.slice none 0 0,.slice none 0 0,.bool false,.slice none 0 0,.slice none 0 0] 33)).heap.size:=by rw [World.size_alloc];omega
  have z5:w2.heap.size < (w4.alloc (.cells #[.string ⟨#[]⟩,.slice none 0 0,.slice none 0 0,.bool false,.slice none 0 0,.slice none 0 0] 33)).heap.size:=by rw [World.size_alloc];omega
  clear x3 x4 J3 B3 J4 B4 PS
  generalize w4.alloc (.cells #[.string ⟨#[]⟩,.slice none 0 0,.slice none 0 0,.bool false,.slice none 0 0,.slice none 0 0] 33)=W5 at *
  clear z2 J2
  generalize w2.heap.size=wb at *
  have Y0:=hid_as y0
  have Y1:=hid_as y1
  clear y0 y1
  have q0:W5.cell? ⟨wb,0,none⟩=some (.pointer none):=B5.out.cell 0
  have AS:=hid_as (as_kp g wb _ W5 J5.out.t q0 (B5.out.fr 0))
  have hnw:Hid (¬ (A wb∧wb ≠ wb)):=hid_as (fun q=>q.2 rfl)
  clear q0
  go_upto_region 6 with (first
    | (go_at_call 26;(with_reducible refine AS.out.mono ?_);rintro e w6 ⟨rfl,k6,d6⟩;have J6:=hid_as (J5.out.other k6 hrl htl (by omega) hnw.out);have g0:=(World.cell?_of_block (a:=⟨g,0,none⟩) (k6.block g x2 (by omega))).trans Y0.out;have g1:=(World.cell?_of_block (a:=⟨g,1,none⟩) (k6.block g x2 (by omega))).trans Y1.out;have z6:=k6.size;clear k6))
  have S6:w6.cell? ⟨wb,0,none⟩=some (.pointer (some ⟨g,0,none⟩))∧w6.cell? ⟨g,0,none⟩=some (.int .i64 ea)∧w6.cell? ⟨g,1,none⟩=some (.int .i64 en):=⟨d6,g0,g1⟩
  have RG:Hid (∀ W,Below w6.heap.size w6 W→Calls Tryz.prog 35 #[.pointer (some ⟨rb,0,none⟩),.int .i64 ea,.int .i64 en] W fun e w'=>e=.returned (.tuple #[])∧Jr w rb tb cap X T (fun x=>A x∧x ≠ wb) (Ilx.rf ⟨L,none⟩ ea en) w'∧(w'.cell? ⟨wb,0,none⟩=some (.pointer (some ⟨g,0,none⟩))∧w'.cell? ⟨g,0,none⟩=some (.int .i64 ea)∧w'.cell? ⟨g,1,none⟩=some (.int .i64 en))):=hid_as fun W kW=>(RF.out W wb (J6.out.bl kW) ea en).mono fun e w' hw=>by
    have kk:=(Kp.of (rb:=rb) kW).trans hw.2.1
    exact ⟨hw.1,J6.out.nx kk hw.2.2,(World.cell?_of_block (a:=⟨wb,0,none⟩) (kk.block wb (by omega) (by omega))).trans d6,(World.cell?_of_block (a:=⟨g,0,none⟩) (kk.block g (by omega) (by omega))).trans g0,(World.cell?_of_block (a:=⟨g,1,none⟩) (kk.block g (by omega) (by omega))).trans g1⟩
  go_region_held3 (fun W=>W.cell? ⟨wb,0,none⟩=some (.pointer (some ⟨g,0,none⟩))∧W.cell? ⟨g,0,none⟩=some (.int .i64 ea)∧W.cell? ⟨g,1,none⟩=some (.int .i64 en)) (first | exact S6 | exact c7) (first
    | (go_at_call 35;(with_reducible refine (RG.out _ ?_).mono ?_);(focus (repeat (first | with_reducible exact Below.refl _ _ | refine Below.drew ?_)));rintro e w7 ⟨rfl,j7,c7⟩;have J7:=hid_as j7;clear j7))
  go_wp2
  go_ret
  exact ⟨rfl,J7.out.k,JJ.out.nx J7.out.k (J7.out.r.unbox hna.out)⟩
set_option maxHeartbeats 4000000 in
set_option maxRecDepth 100000 in
theorem ihead_d {v w:World} {rb tb cap:Nat} {X:ByteArray} {T:TL} {A:Nat→Prop} (J:Jr v rb tb cap X T A ⟨T,none⟩ w) (h1:(prg (Ilx.hdT T (Ilx.phd T).2)).v=none) (h2:(Ilx.phd T).1=true) (h3:ca (Ilx.hdT T (Ilx.phd T).2) (prg (Ilx.hdT T (Ilx.phd T).2)).k < (Ilx.hd (Ilx.phd T).2).2):Calls Tryz.prog 16 #[.pointer (some ⟨rb,0,none⟩)] w fun e w'=>e=.returned (.string (X.extract 0 (Ilx.hd (Ilx.phd T).2).2))∧Kp rb w w'∧Jr v rb tb cap X T A (Ilx.rf ⟨(Ilx.phd T).2,none⟩ (ca (Ilx.hdT T (Ilx.phd T).2) (prg (Ilx.hdT T (Ilx.phd T).2)).k) (prg (Ilx.hdT T (Ilx.phd T).2)).e) w':=by
  have JJ:=hid_as J
  have J0:=hid_as J.here
  have hrl:=J.rlt
  have htl:=J.r.lt
  have hna:=hid_as J.r.na
  have hX:=J.sz
  have hph:=Ilx.wl_phd J.r.wl
  obtain ⟨p2,p3⟩:=head_toks J.tk hph.1 hph.2.ne
  rw [← Lib.size_eq] at p2
  rw [show X.data.toList.take (Ilx.hd (Ilx.phd T).2).2=(X.data.toList.drop 0).take ((Ilx.hd (Ilx.phd T).2).2 - 0) by rw [List.drop_zero,Nat.sub_zero],← tx_list ((X.data.toList.drop 0).take ((Ilx.hd (Ilx.phd T).2).2 - 0)),← tx_extract] at p3
  have hps:(X.extract 0 (Ilx.hd (Ilx.phd T).2).2).size≤900000:=by rw [ByteArray.size_extract];omega
  have hpl:(X.extract 0 (Ilx.hd (Ilx.phd T).2).2).size=(Ilx.hd (Ilx.phd T).2).2:=by rw [ByteArray.size_extract];omega
  have hm:=gd_no h1
  have hcl:=toks_ca p3 (prg (Ilx.hdT T (Ilx.phd T).2)).k
  have PS:=hid_as (fun (W:World) (hW:Tabs W)=>parse_no (X.extract 0 (Ilx.hd (Ilx.phd T).2).2) W hW hps p3 hm)
  have PH:=hid_as (fun W (J:Jr w rb tb cap X T A ⟨T,none⟩ W)=>j_passHead J)
  have NW:=hid_as (fun W (J:Jr w rb tb cap X T A ⟨(Ilx.phd T).2,none⟩ W)=>j_now J)
  have RF:=hid_as (fun W wb (J:Jr w rb tb cap X T (fun x=>A x∧x ≠ wb) ⟨(Ilx.phd T).2,none⟩ W) a n=>irefuse_c J.r J.a a n)
  have F4:=fd4
  generalize ca (Ilx.hdT T (Ilx.phd T).2) (prg (Ilx.hdT T (Ilx.phd T).2)).k=ea at *
  generalize (prg (Ilx.hdT T (Ilx.phd T).2)).e=en at *
  rw [h2] at PH
  generalize (Ilx.phd T).2=L at *
  clear J hph p3 hm h1 h2
  generalize Ilx.hd L=t0 at *
  obtain ⟨⟨ta,tk,tn,tt⟩,q⟩:=t0
  simp only at PS p2 hps hpl h3
  have g3:(ea:Int) < q:=by omega
  replace h3:=hid_as h3
  go_enter Tryz.func16,Tryz.ntmps16
  go_upto_region 2 with (first
    | (go_at_call 33;(with_reducible refine (PH.out _ J0.out).mono ?_);rintro e w1 ⟨rfl,k1,j1⟩;have J1:=hid_as j1;have z1:=k1.size;(try rw [World.size_alloc] at z1);have K1:=hid_as k1;clear k1 j1))
  have r0:w1.cell? ⟨rb,0,none⟩=some (.string X):=by
    obtain ⟨i,ev,_,_,bk,_⟩:=J1.out.r.own
    exact (bk3 bk).1
  have hr1:rb < w1.heap.size:=J1.out.rlt
  have N1:Hid (∀ W,Below w1.heap.size w1 W→Calls Tryz.prog 34 #[.pointer (some ⟨rb,0,none⟩)] W fun e w'=>e=.returned (.agg #[.int .i64 ta,.int .i64 tk,.int .i64 tn,.string (tx tt),.int .i64 q])∧Kp rb w1 w'∧Jr w rb tb cap X T A ⟨L,none⟩ w'∧w'.cell? ⟨rb,0,none⟩=some (.string X)):=hid_as fun W kW=>(NW.out W (J1.out.bl kW)).mono fun e w' hw=>by
    obtain ⟨u,e1,⟨_,_,_,_,_,t1,rfl⟩,k2,j2⟩:=hw
    cases t1
    obtain ⟨i,ev,_,_,bk,_⟩:=j2.r.own
    exact ⟨e1,(Kp.of kW).trans k2,j2,(bk3 bk).1⟩
  go_region_held3 (fun W=>W.cell? ⟨rb,0,none⟩=some (.string X)) (first | exact r0 | exact c2) (first
    | (go_at_call 34;(with_reducible refine (N1.out _ ?_).mono ?_);(focus (repeat (first | with_reducible exact Below.refl _ _ | refine Below.drew ?_)));rintro e w2 ⟨rfl,k2,j2,c2⟩;have J2:=hid_as j2;have z2:=k2.size;clear k2 j2))
  have hw2:w.heap.size≤w2.heap.size:=J2.out.k.size
  have J3:=hid_as (J2.out.box (.cells #[.pointer none] 78))
  have B3:=hid_as (Bk.fresh w2 #[.pointer none] 78)
  clear r0 hr1 c2 N1
  go_upto_region 5 with (first
    | (go_at_call 18;(with_reducible refine (PS.out _ J3.out.t).mono ?_);rintro e w4 ⟨g,rfl,x1,x2,x3,x4,b4⟩;have J4:=hid_as (J3.out.bl b4);have B4:=hid_as (B3.out.below b4);have z4:=b4.size;rw [World.size_alloc] at z4 x1;clear b4))
  have J5:=hid_as (J4.out.alloc (.cells #[.string ⟨#[]⟩,.slice none 0 0,.slice none 0 0,.bool false,.slice none 0 0,.slice none 0 0] 33))
  have B5:=hid_as (B4.out.alloc (.cells #[.string ⟨#[]⟩,.slice none 0 0,.slice none 0 0,.bool false,.slice none 0 0,.slice none 0 0] 33))
  have y0:(w4.alloc (.cells #[.string ⟨#[]⟩,.slice none 0 0,.slice none 0 0,.bool false,.slice none 0 0,.slice none 0 0] 33)).cell? ⟨g,0,none⟩=some (.int .i64 ea):=(World.cell?_alloc_lt _ _ ⟨g,0,none⟩ x2).trans x3
  have y1:(w4.alloc (.cells #[.string ⟨#[]⟩,.slice none 0 0,.slice none 0 0,.bool false,.slice none 0 0,.slice none 0 0] 33)).cell? ⟨g,1,none⟩=some (.int .i64 en):=(World.cell?_alloc_lt _ _ ⟨g,1,none⟩ x2).trans x4
  have x2:g < (w4.alloc (.cells #[.string ⟨#[]⟩,.slice none 0 0,.slice none 0 0,.bool false,.slice none 0 0,.slice none 0 0] 33)).heap.size:=by rw [World.size_alloc];omega
  have z5:w2.heap.size < (w4.alloc (.cells #[.string ⟨#[]⟩,.slice none 0 0,.slice none 0 0,.bool false,.slice none 0 0,.slice none 0 0] 33)).heap.size:=by rw [World.size_alloc];omega
  clear x3 x4 J3 B3 J4 B4 PS
  generalize w4.alloc (.cells #[.string ⟨#[]⟩,.slice none 0 0,.slice none 0 0,.bool false,.slice none 0 0,.slice none 0 0] 33)=W5 at *
  clear z2 J2
  generalize w2.heap.size=wb at *
  have Y0:=hid_as y0
  have Y1:=hid_as y1
  clear y0 y1
  have q0:W5.cell? ⟨wb,0,none⟩=some (.pointer none):=B5.out.cell 0
  have AS:=hid_as (as_kp g wb _ W5 J5.out.t q0 (B5.out.fr 0))
  have hnw:Hid (¬ (A wb∧wb ≠ wb)):=hid_as (fun q=>q.2 rfl)
  clear q0
  go_upto_region 6 with (first
    | (go_at_call 26;(with_reducible refine AS.out.mono ?_);rintro e w6 ⟨rfl,k6,d6⟩;have J6:=hid_as (J5.out.other k6 hrl htl (by omega) hnw.out);have g0:=(World.cell?_of_block (a:=⟨g,0,none⟩) (k6.block g x2 (by omega))).trans Y0.out;have g1:=(World.cell?_of_block (a:=⟨g,1,none⟩) (k6.block g x2 (by omega))).trans Y1.out;have z6:=k6.size;clear k6))
  have S6:w6.cell? ⟨wb,0,none⟩=some (.pointer (some ⟨g,0,none⟩))∧w6.cell? ⟨g,0,none⟩=some (.int .i64 ea)∧w6.cell? ⟨g,1,none⟩=some (.int .i64 en):=⟨d6,g0,g1⟩
  have RG:Hid (∀ W,Below w6.heap.size w6 W→Calls Tryz.prog 35 #[.pointer (some ⟨rb,0,none⟩),.int .i64 ea,.int .i64 en] W fun e w'=>e=.returned (.tuple #[])∧Jr w rb tb cap X T (fun x=>A x∧x ≠ wb) (Ilx.rf ⟨L,none⟩ ea en) w'∧(w'.cell? ⟨wb,0,none⟩=some (.pointer (some ⟨g,0,none⟩))∧w'.cell? ⟨g,0,none⟩=some (.int .i64 ea)∧w'.cell? ⟨g,1,none⟩=some (.int .i64 en))):=hid_as fun W kW=>(RF.out W wb (J6.out.bl kW) ea en).mono fun e w' hw=>by
    have kk:=(Kp.of (rb:=rb) kW).trans hw.2.1
    exact ⟨hw.1,J6.out.nx kk hw.2.2,(World.cell?_of_block (a:=⟨wb,0,none⟩) (kk.block wb (by omega) (by omega))).trans d6,(World.cell?_of_block (a:=⟨g,0,none⟩) (kk.block g (by omega) (by omega))).trans g0,(World.cell?_of_block (a:=⟨g,1,none⟩) (kk.block g (by omega) (by omega))).trans g1⟩
  go_region_held3 (fun W=>W.cell? ⟨wb,0,none⟩=some (.pointer (some ⟨g,0,none⟩))∧W.cell? ⟨g,0,none⟩=some (.int .i64 ea)∧W.cell? ⟨g,1,none⟩=some (.int .i64 en)) (first | exact S6 | exact c7) (first
    | (go_at_call 35;(with_reducible refine (RG.out _ ?_).mono ?_);(focus (repeat (first | with_reducible exact Below.refl _ _ | refine Below.drew ?_)));rintro e w7 ⟨rfl,j7,c7⟩;have J7:=hid_as j7;clear j7))
  go_wp2
  go_ret
  exact ⟨rfl,J7.out.k,JJ.out.nx J7.out.k (J7.out.r.unbox hna.out)⟩
theorem j_head {v w:World} {rb tb cap:Nat} {X:ByteArray} {T:TL} {A:Nat→Prop} (J:Jr v rb tb cap X T A ⟨T,none⟩ w):Calls Tryz.prog 16 #[.pointer (some ⟨rb,0,none⟩)] w fun e w'=>e=.returned (.string (X.extract 0 (Ilx.hd (Ilx.phd T).2).2))∧Kp rb w w'∧Jr v rb tb cap X T A (Ilx.hed T) w':=by
  unfold Ilx.hed
  cases h1:(prg (Ilx.hdT T (Ilx.phd T).2)).v with
  | some m =>
    rw [if_neg (by simp)]
    exact ihead_a J h1
  | none =>
    cases h2:(Ilx.phd T).1 with
    | false =>
      rw [if_pos (by simp)]
      exact ihead_c J h1 h2
    | true =>
      by_cases h3:ca (Ilx.hdT T (Ilx.phd T).2) (prg (Ilx.hdT T (Ilx.phd T).2)).k < (Ilx.hd (Ilx.phd T).2).2
      · rw [if_pos (by simp [h3])]
        exact ihead_d J h1 h2 h3
      · rw [if_neg (by simp [h3])]
        exact ihead_b J h1 h2 h3
end Go.Proofs.YtapcpjidgemggaaGreatDoor
