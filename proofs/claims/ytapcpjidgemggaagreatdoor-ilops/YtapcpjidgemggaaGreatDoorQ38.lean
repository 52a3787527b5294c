/- The reader of Instruction List: an operation (stage 14). -/
import Derived.Test.YtapcpjidgemggaaGreatDoorQ35
import Derived.Test.YtapcpjidgemggaaGreatDoorQ36
import Derived.Test.YtapcpjidgemggaaGreatDoorQ37
namespace Go.Proofs.YtapcpjidgemggaaGreatDoor
open Go.RowKit
open Adr Lx Sx
open Ilx (Ps Wl)
theorem Jr.set {v w:World} {rb tb cap:Nat} {X:ByteArray} {T:TL} {A:Nat→Prop} {s:Ps} (J:Jr v rb tb cap X T A s w) (hv:rb < v.heap.size) (ht:tb < v.heap.size) {g:Nat} (hi:v.heap.size≤g) (hn:¬ A g) (j:Nat) (x:Value):Jr v rb tb cap X T A s (w.setCell ⟨g,j,none⟩ x):=by
  refine ⟨J.k.set hi j x,J.r.other (by omega) (by omega) hn j x,J.t.keep (fun b hb=>Below.heap_setCell w ⟨g,j,none⟩ x b (by have:=J.hr;show b ≠ g;omega)),fun y hy=>J.a y (by simpa [World.setCell] using hy),J.hr,J.sz,J.tk⟩
/-- What an operation leaves: the instruction's cells in block ib, its trees in what is new. -/
structure Qo (v:World) (rb tb cap:Nat) (X:ByteArray) (T:TL) (A:Nat→Prop) (ib:Nat) (lab:ByteArray) (p:Int) (w:World) (s:Ps) (op:List UInt8) (es:List Tr) (ag:List Ilx.Ag) (w':World):Prop where
  k:K2 rb ib w w'
  j:Jr v rb tb cap X T A s w'
  q:∃ (ep:Option Addr) (en ec:Nat) (ap:Option Addr) (an ac:Nat),Bk w' ib #[.string lab,.string (tx op),.slice ep en ec,.slice ap an ac,.int .i64 p]∧Sl 7 Pe (fun x=>w.heap.size≤x) w' ep en ec es∧Sl 9 Pa (fun x=>w.heap.size≤x) w' ap an ac ag
theorem K2.thenK {a b:Nat} {w w1 w2:World} (h:K2 a b w w1) (k:Kp a w1 w2):K2 a b w w2:=⟨k.os.trans h.os,k.tape.trans h.tape,k.output.trans h.output,Nat.le_trans h.size k.size,fun j h1 h2 h3=>(k.block j (Nat.lt_of_lt_of_le h1 h.size) h2).trans (h.block j h1 h2 h3)⟩
theorem told_3 (o:ByteArray) (a b c:ByteArray) (W:World) (g:Nat) (hg:g=W.heap.size) (v:Bool) (hv:v=true ↔ o ∈ [a,b,c]):Calls Tryz.prog 122 #[.string o,.slice (some ⟨g,0,none⟩) 3 3] (W.alloc (.cells #[.string a,.string b,.string c] 9)) fun e w'=>e=.returned (.bool v)∧w'=W.alloc (.cells #[.string a,.string b,.string c] 9):=by
  subst hg
  exact told_c o W.heap.size 3 3 [a,b,c] _ rfl (by simp) (cells3 W a b c 9) v hv
theorem cll_mem {o:List UInt8}:Ilx.cll o=true ↔ tx o ∈ ([⟨#[67,65,76]⟩,⟨#[67,65,76,67]⟩,⟨#[67,65,76,67,78]⟩]:List ByteArray):=by
  unfold Ilx.cll
  rw [List.mem_cons,List.mem_cons,List.mem_singleton,txt_eq,txt_eq,txt_eq,Bool.or_eq_true,Bool.or_eq_true]
theorem jmp_mem {o:List UInt8}:Ilx.jmp o=true ↔ tx o ∈ ([⟨#[74,77,80]⟩,⟨#[74,77,80,67]⟩,⟨#[74,77,80,67,78]⟩]:List ByteArray):=by
  unfold Ilx.jmp
  rw [List.mem_cons,List.mem_cons,List.mem_singleton,txt_eq,txt_eq,txt_eq,Bool.or_eq_true,Bool.or_eq_true]
theorem Sl.keepK {α:Type} {n:Nat} {P:(Nat→Prop)→World→List Value→α→Prop} (hP:∀ (S S':Nat→Prop) (w w':World),Ov S S' w w'→∀ cs a,P S w cs a→P S' w' cs a) {S S':Nat→Prop} {w w':World} {lp:Option Addr} {ln lc:Nat} {l:List α} (h:Sl n P S w lp ln lc l) (o:Ov S S' w w'):Sl n P S' w' lp ln lc l:=h.ov o (hP _ _ _ _ o)
theorem Bk.set1 {w:World} {g:Nat} {a b c d e:Value} (h:Bk w g #[a,b,c,d,e]) (x:Value):Bk (w.setCell ⟨g,1,none⟩ x) g #[a,x,c,d,e]:=by
  have q:=h.set 1 x
  simp only [List.setIfInBounds_toArray,List.set_cons_zero,List.set_cons_succ] at q
  exact q
theorem Bk.set2 {w:World} {g:Nat} {a b c d e:Value} (h:Bk w g #[a,b,c,d,e]) (x:Value):Bk (w.setCell ⟨g,2,none⟩ x) g #[a,b,x,d,e]:=by
  have q:=h.set 2 x
  simp only [List.setIfInBounds_toArray,List.set_cons_zero,List.set_cons_succ] at q
  exact q
theorem Bk.set3 {w:World} {g:Nat} {a b c d e:Value} (h:Bk w g #[a,b,c,d,e]) (x:Value):Bk (w.setCell ⟨g,3,none⟩ x) g #[a,b,c,x,e]:=by
  have q:=h.set 3 x
  simp only [List.setIfInBounds_toArray,List.set_cons_zero,List.set_cons_succ] at q
  exact q
theorem Bk.set0 {w:World} {g:Nat} {a b c d e:Value} (h:Bk w g #[a,b,c,d,e]) (x:Value):Bk (w.setCell ⟨g,0,none⟩ x) g #[x,b,c,d,e]:=by
  have q:=h.set 0 x
  simp only [List.setIfInBounds_toArray,List.set_cons_zero] at q
  exact q
set_option maxHeartbeats 4000000 in
set_option maxRecDepth 100000 in
theorem iop_1 {v w:World} {rb tb cap:Nat} {X:ByteArray} {T:TL} {A:Nat→Prop} {s:Ps} {ib:Nat} {lab:ByteArray} {p:Int} (J:Jr v rb tb cap X T A s w) (hv:rb < v.heap.size) (ht:tb < v.heap.size) (hi:v.heap.size≤ib) (hB:Bk w ib #[.string lab,.string ⟨#[]⟩,.slice none 0 0,.slice none 0 0,.int .i64 p]) (hn:¬ A ib) (h1:Ilx.cll (Ilx.hd s.L).1.text=true) (h3:Ilx.iz (Ilx.tk s) [10]=true):Calls Tryz.prog 82 #[.pointer (some ⟨rb,0,none⟩),.pointer (some ⟨ib,0,none⟩)] w fun e w'=>e=.returned (.tuple #[])∧Qo v rb tb cap X T A ib lab p w (Ilx.tk s) (Ilx.hd s.L).1.text [] [] w':=by
  have J0:=hid_as J
  have B0:=hid_as hB
  have hil:=hB.lt
  have hna:=hid_as hn
  have htx:(Ilx.hd s.L).1.text.length≤65536:=(toks_all J.tk).2.2.1 _ (J.r.sfx.subset (Ilx.mem_hd J.r.wls.ne))
  have TK:=hid_as (fun W (J:Jr v rb tb cap X T A (s) W)=>j_take J)
  have F3:=fd3
  have IS:Hid (∀ W,Jr v rb tb cap X T A (Ilx.tk s) W→Calls Tryz.prog 76 #[.pointer (some ⟨rb,0,none⟩),.slice (some ⟨W.heap.size,0,none⟩) 1 1] (W.alloc (.cells #[.string ⟨#[10]⟩] 9)) fun e w'=>e=.returned (.bool true)∧Kp rb W w'∧Jr v rb tb cap X T A (Ilx.tk s) w'):=hid_as fun W J=>j_is J ⟨#[10]⟩ true h3
  have TD:Hid (∀ (W:World) (g:Nat),g=W.heap.size→Calls Tryz.prog 122 #[.string (tx (Ilx.hd s.L).1.text),.slice (some ⟨g,0,none⟩) 3 3] (W.alloc (.cells #[.string ⟨#[67,65,76]⟩,.string ⟨#[67,65,76,67]⟩,.string ⟨#[67,65,76,67,78]⟩] 9)) fun e w'=>e=.returned (.bool true)∧w'=W.alloc (.cells #[.string ⟨#[67,65,76]⟩,.string ⟨#[67,65,76,67]⟩,.string ⟨#[67,65,76,67,78]⟩] 9)):=hid_as fun W g hg=>told_3 _ _ _ _ W g hg true ⟨fun _=>cll_mem.1 h1,fun _=>rfl⟩
  clear h1
  clear h3
  clear J hB hn
  generalize Ilx.hd s.L=t0 at *
  obtain ⟨⟨ta,tk,tn,tt⟩,pl⟩:=t0
  simp only at TD htx
  have hsz:(tx tt).size≤65536:=by rw [Lib.size_eq,tx_list];exact htx
  go_enter Tryz.func82,Tryz.ntmps82
  go_upto_region 1 with (first
    | (go_at_call 78;(with_reducible refine (TK.out _ J0.out).mono ?_);rintro e w1 ⟨_,rfl,⟨_,_,_,_,_,t1,rfl⟩,k1,j1⟩;cases t1;have J1:=hid_as j1;have B1:=hid_as (B0.out.kp k1 (by omega));obtain ⟨s0,s1,s2,s3,s4⟩:=bk5 B1.out;have sf:=B1.out.fr;have z1:=k1.size;have K1:=hid_as (K2.of (b:=ib) k1);clear k1 j1))
  have J2:=hid_as (J1.out.set hv ht hi hna.out 1 (.string (tx tt)))
  have B2:=hid_as (B1.out.set1 (.string (tx tt)))
  have K2':=hid_as (K1.out.set 1 (.string (tx tt)))
  clear J1 B1 K1 s0 s1 s2 s3 s4 sf
  generalize w1.setCell ⟨ib,1,none⟩ (.string (tx tt))=W2 at *
  obtain ⟨s0,s1,s2,s3,s4⟩:=bk5 B2.out
  have sf:=B2.out.fr
  have z2:=K2'.out.size
  go_upto_region 5 with (first
    | (go_at_call 122;(with_reducible refine (TD.out _ _ rfl).mono ?_);rintro e wt ⟨rfl,rfl⟩;have J3:=hid_as (J2.out.alloc (.cells #[.string ⟨#[67,65,76]⟩,.string ⟨#[67,65,76,67]⟩,.string ⟨#[67,65,76,67,78]⟩] 9));have B3:=hid_as (B2.out.alloc (.cells #[.string ⟨#[67,65,76]⟩,.string ⟨#[67,65,76,67]⟩,.string ⟨#[67,65,76,67,78]⟩] 9));have K3:=hid_as (K2'.out.alloc (.cells #[.string ⟨#[67,65,76]⟩,.string ⟨#[67,65,76,67]⟩,.string ⟨#[67,65,76,67,78]⟩] 9)))
    | fail)
  have J6:=J3
  have B6:=B3
  have K6:=K3
  clear s0 s1 s2 s3 s4 sf J3 B3 K3
  generalize W2.alloc (.cells #[.string ⟨#[67,65,76]⟩,.string ⟨#[67,65,76,67]⟩,.string ⟨#[67,65,76,67,78]⟩] 9)=W6 at *
  obtain ⟨s0,s1,s2,s3,s4⟩:=bk5 B6.out
  have sf:=B6.out.fr
  have z6:=K6.out.size
  go_wp2_with (first
    | (go_at_call 76;(with_reducible refine (IS.out _ J6.out).mono ?_);rintro e w7 ⟨rfl,k7,j7⟩;have J7:=hid_as j7;have B7:=hid_as (B6.out.kp k7 (by omega));have z7:=k7.size;(try rw [World.size_alloc] at z7);have K7:=hid_as k7;clear k7 j7;have K8:=hid_as (K6.out.thenK K7.out);clear s0 s1 s2 s3 s4 sf;obtain ⟨s0,s1,s2,s3,s4⟩:=bk5 B7.out;have sf:=B7.out.fr))
  go_end0
  exact ⟨rfl,K8.out,J7.out,none,0,0,none,0,0,B7.out,Sl.nil,Sl.nil⟩
set_option maxHeartbeats 4000000 in
set_option maxRecDepth 100000 in
theorem iop_2 {v w:World} {rb tb cap:Nat} {X:ByteArray} {T:TL} {A:Nat→Prop} {s:Ps} {ib:Nat} {lab:ByteArray} {p:Int} (J:Jr v rb tb cap X T A s w) (hv:rb < v.heap.size) (ht:tb < v.heap.size) (hi:v.heap.size≤ib) (hB:Bk w ib #[.string lab,.string ⟨#[]⟩,.slice none 0 0,.slice none 0 0,.int .i64 p]) (hn:¬ A ib) (h1:Ilx.cll (Ilx.hd s.L).1.text=true) (h3:Ilx.iz (Ilx.tk s) [10]=false):Calls Tryz.prog 82 #[.pointer (some ⟨rb,0,none⟩),.pointer (some ⟨ib,0,none⟩)] w fun e w'=>e=.returned (.tuple #[])∧Qo v rb tb cap X T A ib lab p w ((Ilx.ars (Ilx.nmS (Ilx.tk s))).1) (Ilx.hd s.L).1.text [plainV (Ilx.nmT (Ilx.tk s))] (Ilx.ars (Ilx.nmS (Ilx.tk s))).2 w':=by
  have J0:=hid_as J
  have B0:=hid_as hB
  have hil:=hB.lt
  have hna:=hid_as hn
  have htx:(Ilx.hd s.L).1.text.length≤65536:=(toks_all J.tk).2.2.1 _ (J.r.sfx.subset (Ilx.mem_hd J.r.wls.ne))
  have TK:=hid_as (fun W (J:Jr v rb tb cap X T A (s) W)=>j_take J)
  have F3:=fd3
  have IS:Hid (∀ W,Jr v rb tb cap X T A (Ilx.tk s) W→Calls Tryz.prog 76 #[.pointer (some ⟨rb,0,none⟩),.slice (some ⟨W.heap.size,0,none⟩) 1 1] (W.alloc (.cells #[.string ⟨#[10]⟩] 9)) fun e w'=>e=.returned (.bool false)∧Kp rb W w'∧Jr v rb tb cap X T A (Ilx.tk s) w'):=hid_as fun W J=>j_is J ⟨#[10]⟩ false h3
  have NM:=hid_as (fun W (J:Jr v rb tb cap X T A (Ilx.tk s) W)=>j_name J)
  have AG:=hid_as (fun W (J:Jr v rb tb cap X T A (Ilx.nmS (Ilx.tk s)) W)=>j_args J)
  have TD:Hid (∀ (W:World) (g:Nat),g=W.heap.size→Calls Tryz.prog 122 #[.string (tx (Ilx.hd s.L).1.text),.slice (some ⟨g,0,none⟩) 3 3] (W.alloc (.cells #[.string ⟨#[67,65,76]⟩,.string ⟨#[67,65,76,67]⟩,.string ⟨#[67,65,76,67,78]⟩] 9)) fun e w'=>e=.returned (.bool true)∧w'=W.alloc (.cells #[.string ⟨#[67,65,76]⟩,.string ⟨#[67,65,76,67]⟩,.string ⟨#[67,65,76,67,78]⟩] 9)):=hid_as fun W g hg=>told_3 _ _ _ _ W g hg true ⟨fun _=>cll_mem.1 h1,fun _=>rfl⟩
  clear h1
  clear h3
  clear J hB hn
  generalize Ilx.hd s.L=t0 at *
  obtain ⟨⟨ta,tk,tn,tt⟩,pl⟩:=t0
  simp only at TD htx
  have hsz:(tx tt).size≤65536:=by rw [Lib.size_eq,tx_list];exact htx
  go_enter Tryz.func82,Tryz.ntmps82
  go_upto_region 1 with (first
    | (go_at_call 78;(with_reducible refine (TK.out _ J0.out).mono ?_);rintro e w1 ⟨_,rfl,⟨_,_,_,_,_,t1,rfl⟩,k1,j1⟩;cases t1;have J1:=hid_as j1;have B1:=hid_as (B0.out.kp k1 (by omega));obtain ⟨s0,s1,s2,s3,s4⟩:=bk5 B1.out;have sf:=B1.out.fr;have z1:=k1.size;have K1:=hid_as (K2.of (b:=ib) k1);clear k1 j1))
  have J2:=hid_as (J1.out.set hv ht hi hna.out 1 (.string (tx tt)))
  have B2:=hid_as (B1.out.set1 (.string (tx tt)))
  have K2':=hid_as (K1.out.set 1 (.string (tx tt)))
  clear J1 B1 K1 s0 s1 s2 s3 s4 sf
  generalize w1.setCell ⟨ib,1,none⟩ (.string (tx tt))=W2 at *
  obtain ⟨s0,s1,s2,s3,s4⟩:=bk5 B2.out
  have sf:=B2.out.fr
  have z2:=K2'.out.size
  go_upto_region 5 with (first
    | (go_at_call 122;(with_reducible refine (TD.out _ _ rfl).mono ?_);rintro e wt ⟨rfl,rfl⟩;have J3:=hid_as (J2.out.alloc (.cells #[.string ⟨#[67,65,76]⟩,.string ⟨#[67,65,76,67]⟩,.string ⟨#[67,65,76,67,78]⟩] 9));have B3:=hid_as (B2.out.alloc (.cells #[.string ⟨#[67,65,76]⟩,.string ⟨#[67,65,76,67]⟩,.string ⟨#[67,65,76,67,78]⟩] 9));have K3:=hid_as (K2'.out.alloc (.cells #[.string ⟨#[67,65,76]⟩,.string ⟨#[67,65,76,67]⟩,.string ⟨#[67,65,76,67,78]⟩] 9)))
    | fail)
  have J6:=J3
  have B6:=B3
  have K6:=K3
  clear s0 s1 s2 s3 s4 sf J3 B3 K3
  generalize W2.alloc (.cells #[.string ⟨#[67,65,76]⟩,.string ⟨#[67,65,76,67]⟩,.string ⟨#[67,65,76,67,78]⟩] 9)=W6 at *
  obtain ⟨s0,s1,s2,s3,s4⟩:=bk5 B6.out
  have sf:=B6.out.fr
  have z6:=K6.out.size
  go_wp2_with (first
    | (go_at_call 76;(with_reducible refine (IS.out _ J6.out).mono ?_);rintro e w7 ⟨rfl,k7,j7⟩;have J7:=hid_as j7;have B7:=hid_as (B6.out.kp k7 (by omega));have z7:=k7.size;(try rw [World.size_alloc] at z7);have K7:=hid_as k7;clear k7 j7;have K8:=hid_as (K6.out.thenK K7.out);clear s0 s1 s2 s3 s4 sf;obtain ⟨s0,s1,s2,s3,s4⟩:=bk5 B7.out;have sf:=B7.out.fr)
    | (go_at_call 123;(with_reducible refine (NM.out _ J7.out).mono ?_);rintro e w9 ⟨o9,kd9,n9,nm9,fl9,lp9,ln9,lc9,p9,rfl,e9,k9,j9⟩;have J9:=hid_as j9;have B9:=hid_as (B7.out.kp k9 (by omega));have z9:=k9.size;(try rw [World.size_alloc] at z9);have K9:=hid_as k9;clear k9 j9;have E9:=hid_as e9;clear e9;have KA:=hid_as (K8.out.thenK K9.out);clear s0 s1 s2 s3 s4 sf;have BA:=hid_as (B9.out.alloc (.cells #[.int .i64 o9,.int .i64 kd9,.int .i64 n9,.string nm9,.string fl9,.slice lp9 ln9 lc9,.int .i64 p9] 53));obtain ⟨s0,s1,s2,s3,s4⟩:=bk5 BA.out;have sf:=BA.out.fr;have JA:=hid_as ((J9.out.alloc (.cells #[.int .i64 o9,.int .i64 kd9,.int .i64 n9,.string nm9,.string fl9,.slice lp9 ln9 lc9,.int .i64 p9] 53)).set hv ht hi hna.out 2 (.slice (some ⟨w9.heap.size,0,none⟩) 1 1));have BB:=hid_as (BA.out.set2 (.slice (some ⟨w9.heap.size,0,none⟩) 1 1));have KB:=hid_as ((KA.out.alloc (.cells #[.int .i64 o9,.int .i64 kd9,.int .i64 n9,.string nm9,.string fl9,.slice lp9 ln9 lc9,.int .i64 p9] 53)).set 2 (.slice (some ⟨w9.heap.size,0,none⟩) 1 1)))
    | (go_at_call 124;(with_reducible refine (AG.out _ JA.out).mono ?_);rintro e w10 ⟨ap,an,ac,rfl,ea,k10,j10⟩;have J10:=hid_as j10;have BC:=hid_as (BB.out.kp k10 (by omega));have z10:=k10.size;(try rw [World.size_alloc] at z10);have K10:=hid_as k10;clear k10 j10;have EA:=hid_as ea;clear ea;clear s0 s1 s2 s3 s4 sf;obtain ⟨s0,s1,s2,s3,s4⟩:=bk5 BC.out;have sf:=BC.out.fr))
  have SE:Sl 7 Pe (fun x=>w.heap.size≤x) ((w9.alloc (.cells #[.int .i64 o9,.int .i64 kd9,.int .i64 n9,.string nm9,.string fl9,.slice lp9 ln9 lc9,.int .i64 p9] 53)).setCell ⟨ib,2,none⟩ (.slice (some ⟨w9.heap.size,0,none⟩) 1 1)) (some ⟨w9.heap.size,0,none⟩) 1 1 [plainV (Ilx.nmT (Ilx.tk s))]:=by
    have hz7:w.heap.size≤w7.heap.size:=K8.out.size
    have hz9:w.heap.size≤w9.heap.size:=KA.out.size
    refine Sl.keepK (P:=Pe) (fun _ _ _ _ o _ _=>Pe.ov o) (Sl.one rfl hz9 ⟨_,_,_,_,_,_,_,_,_,rfl,?_⟩) (Ov.set _ (by show ¬ (_≤_);omega) 2 _)
    exact E9.out.ov ((Ov.into (S':=fun x=>w.heap.size≤x) fun x (hx:w7.heap.size≤x) _=>Nat.le_trans hz7 hx).trans (Ov.alloc w9 _))
  go_end0
  have hzA:w.heap.size≤((w9.alloc (.cells #[.int .i64 o9,.int .i64 kd9,.int .i64 n9,.string nm9,.string fl9,.slice lp9 ln9 lc9,.int .i64 p9] 53)).setCell ⟨ib,2,none⟩ (.slice (some ⟨w9.heap.size,0,none⟩) 1 1)).heap.size:=KB.out.size
  refine ⟨rfl,(KB.out.thenK K10.out).set 3 _,J10.out.set hv ht hi hna.out 3 _,_,_,_,_,_,_,BC.out.set3 _,?_,?_⟩
  · exact SE.keepK (P:=Pe) (fun _ _ _ _ o _ _=>Pe.ov o) ((Ov.kp K10.out (by show ¬ (_≤_);omega)).trans (Ov.set _ (by show ¬ (_≤_);omega) 3 _))
  · exact EA.out.keepK (P:=Pa) (fun _ _ _ _ o _ _=>Pa.ov o) ((Ov.into (S':=fun x=>w.heap.size≤x) fun x hx _=>Nat.le_trans hzA hx).trans (Ov.set _ (by show ¬ (_≤_);omega) 3 _))
set_option maxHeartbeats 4000000 in
set_option maxRecDepth 100000 in
theorem iop_3 {v w:World} {rb tb cap:Nat} {X:ByteArray} {T:TL} {A:Nat→Prop} {s:Ps} {ib:Nat} {lab:ByteArray} {p:Int} (J:Jr v rb tb cap X T A s w) (hv:rb < v.heap.size) (ht:tb < v.heap.size) (hi:v.heap.size≤ib) (hB:Bk w ib #[.string lab,.string ⟨#[]⟩,.slice none 0 0,.slice none 0 0,.int .i64 p]) (hn:¬ A ib) (h1:Ilx.cll (Ilx.hd s.L).1.text=false) (h2:Ilx.iz (Ilx.tk s) [40]=true) (h3:Ilx.iz (Ilx.tk (Ilx.tk s)) [10]=true):Calls Tryz.prog 82 #[.pointer (some ⟨rb,0,none⟩),.pointer (some ⟨ib,0,none⟩)] w fun e w'=>e=.returned (.tuple #[])∧Qo v rb tb cap X T A ib lab p w (Ilx.tk (Ilx.tk s)) ((Ilx.hd s.L).1.text ++ [40]) [] [] w':=by
  have J0:=hid_as J
  have B0:=hid_as hB
  have hil:=hB.lt
  have hna:=hid_as hn
  have htx:(Ilx.hd s.L).1.text.length≤65536:=(toks_all J.tk).2.2.1 _ (J.r.sfx.subset (Ilx.mem_hd J.r.wls.ne))
  have TK:=hid_as (fun W (J:Jr v rb tb cap X T A (s) W)=>j_take J)
  have F3:=fd3
  have AC:Hid (∀ W,Jr v rb tb cap X T A (Ilx.tk s) W→Calls Tryz.prog 37 #[.pointer (some ⟨rb,0,none⟩),.string ⟨#[40]⟩] W fun e w'=>e=.returned (.bool true)∧Kp rb W w'∧Jr v rb tb cap X T A (Ilx.tk (Ilx.tk s)) w'):=hid_as fun W J=>j_accept_y J ⟨#[40]⟩ h2
  have IS:Hid (∀ W,Jr v rb tb cap X T A (Ilx.tk (Ilx.tk s)) W→Calls Tryz.prog 76 #[.pointer (some ⟨rb,0,none⟩),.slice (some ⟨W.heap.size,0,none⟩) 1 1] (W.alloc (.cells #[.string ⟨#[10]⟩] 9)) fun e w'=>e=.returned (.bool true)∧Kp rb W w'∧Jr v rb tb cap X T A (Ilx.tk (Ilx.tk s)) w'):=hid_as fun W J=>j_is J ⟨#[10]⟩ true h3
  have TD:Hid (∀ (W:World) (g:Nat),g=W.heap.size→Calls Tryz.prog 122 #[.string (tx (Ilx.hd s.L).1.text),.slice (some ⟨g,0,none⟩) 3 3] (W.alloc (.cells #[.string ⟨#[67,65,76]⟩,.string ⟨#[67,65,76,67]⟩,.string ⟨#[67,65,76,67,78]⟩] 9)) fun e w'=>e=.returned (.bool false)∧w'=W.alloc (.cells #[.string ⟨#[67,65,76]⟩,.string ⟨#[67,65,76,67]⟩,.string ⟨#[67,65,76,67,78]⟩] 9)):=hid_as fun W g hg=>told_3 _ _ _ _ W g hg false ⟨fun e=>(by cases e),fun e=>by rw [cll_mem.2 e] at h1;cases h1⟩
  clear h1
  clear h2
  clear h3
  clear J hB hn
  generalize Ilx.hd s.L=t0 at *
  obtain ⟨⟨ta,tk,tn,tt⟩,pl⟩:=t0
  simp only at TD htx
  have hsz:(tx tt).size≤65536:=by rw [Lib.size_eq,tx_list];exact htx
  have hcat:tx (tt ++ [40])=tx tt ++ ⟨#[40]⟩:=(tx_app tt [40]).symm
  replace hcat:=hid_as hcat
  go_enter Tryz.func82,Tryz.ntmps82
  go_upto_region 1 with (first
    | (go_at_call 78;(with_reducible refine (TK.out _ J0.out).mono ?_);rintro e w1 ⟨_,rfl,⟨_,_,_,_,_,t1,rfl⟩,k1,j1⟩;cases t1;have J1:=hid_as j1;have B1:=hid_as (B0.out.kp k1 (by omega));obtain ⟨s0,s1,s2,s3,s4⟩:=bk5 B1.out;have sf:=B1.out.fr;have z1:=k1.size;have K1:=hid_as (K2.of (b:=ib) k1);clear k1 j1))
  have J2:=hid_as (J1.out.set hv ht hi hna.out 1 (.string (tx tt)))
  have B2:=hid_as (B1.out.set1 (.string (tx tt)))
  have K2':=hid_as (K1.out.set 1 (.string (tx tt)))
  clear J1 B1 K1 s0 s1 s2 s3 s4 sf
  generalize w1.setCell ⟨ib,1,none⟩ (.string (tx tt))=W2 at *
  obtain ⟨s0,s1,s2,s3,s4⟩:=bk5 B2.out
  have sf:=B2.out.fr
  have z2:=K2'.out.size
  go_upto_region 3 with (first
    | (go_at_call 122;(with_reducible refine (TD.out _ _ rfl).mono ?_);rintro e wt ⟨rfl,rfl⟩;have J3:=hid_as (J2.out.alloc (.cells #[.string ⟨#[67,65,76]⟩,.string ⟨#[67,65,76,67]⟩,.string ⟨#[67,65,76,67,78]⟩] 9));have B3:=hid_as (B2.out.alloc (.cells #[.string ⟨#[67,65,76]⟩,.string ⟨#[67,65,76,67]⟩,.string ⟨#[67,65,76,67,78]⟩] 9));have K3:=hid_as (K2'.out.alloc (.cells #[.string ⟨#[67,65,76]⟩,.string ⟨#[67,65,76,67]⟩,.string ⟨#[67,65,76,67,78]⟩] 9)))
    | (go_at_call 37;(with_reducible refine (AC.out _ J3.out).mono ?_);rintro e w4 ⟨rfl,k4,j4⟩;have J4:=hid_as j4;have B4:=hid_as (B3.out.kp k4 (by omega));have z4:=k4.size;(try rw [World.size_alloc] at z4);have K4:=hid_as k4;clear k4 j4;have K5:=hid_as (K3.out.thenK K4.out);clear s0 s1 s2 s3 s4 sf;obtain ⟨s0,s1,s2,s3,s4⟩:=bk5 B4.out;have sf:=B4.out.fr))
  have hnb:¬ 9223372036854775807 < (tx tt).size+(⟨#[40]⟩:ByteArray).size:=by show ¬ 9223372036854775807 < (tx tt).size+1;omega
  have hnb2:¬ 9223372036854775807 < (tx tt).size+1:=by omega
  go_upto_region 5 with fail
  have J6:=hid_as (J4.out.set hv ht hi hna.out 1 (.string (tx tt ++ ⟨#[40]⟩)))
  have B6:=hid_as (B4.out.set1 (.string (tx tt ++ ⟨#[40]⟩)))
  have K6:=hid_as (K5.out.set 1 (.string (tx tt ++ ⟨#[40]⟩)))
  clear J4 B4 K4 K5 s0 s1 s2 s3 s4 sf
  generalize w4.setCell ⟨ib,1,none⟩ (.string (tx tt ++ ⟨#[40]⟩))=W6 at *
  obtain ⟨s0,s1,s2,s3,s4⟩:=bk5 B6.out
  have sf:=B6.out.fr
  have z6:=K6.out.size
  go_wp2_with (first
    | (go_at_call 76;(with_reducible refine (IS.out _ J6.out).mono ?_);rintro e w7 ⟨rfl,k7,j7⟩;have J7:=hid_as j7;have B7:=hid_as (B6.out.kp k7 (by omega));have z7:=k7.size;(try rw [World.size_alloc] at z7);have K7:=hid_as k7;clear k7 j7;have K8:=hid_as (K6.out.thenK K7.out);clear s0 s1 s2 s3 s4 sf;obtain ⟨s0,s1,s2,s3,s4⟩:=bk5 B7.out;have sf:=B7.out.fr))
  go_end0
  exact ⟨rfl,K8.out,J7.out,none,0,0,none,0,0,(by rw [hcat.out];exact B7.out),Sl.nil,Sl.nil⟩
set_option maxHeartbeats 4000000 in
set_option maxRecDepth 100000 in
theorem iop_4 {v w:World} {rb tb cap:Nat} {X:ByteArray} {T:TL} {A:Nat→Prop} {s:Ps} {ib:Nat} {lab:ByteArray} {p:Int} (J:Jr v rb tb cap X T A s w) (hv:rb < v.heap.size) (ht:tb < v.heap.size) (hi:v.heap.size≤ib) (hB:Bk w ib #[.string lab,.string ⟨#[]⟩,.slice none 0 0,.slice none 0 0,.int .i64 p]) (hn:¬ A ib) (h1:Ilx.cll (Ilx.hd s.L).1.text=false) (h2:Ilx.iz (Ilx.tk s) [40]=true) (h3:Ilx.iz (Ilx.tk (Ilx.tk s)) [10]=false) (h4:Ilx.jmp ((Ilx.hd s.L).1.text ++ [40])=true):Calls Tryz.prog 82 #[.pointer (some ⟨rb,0,none⟩),.pointer (some ⟨ib,0,none⟩)] w fun e w'=>e=.returned (.tuple #[])∧Qo v rb tb cap X T A ib lab p w (Ilx.nmS (Ilx.tk (Ilx.tk s))) ((Ilx.hd s.L).1.text ++ [40]) [plainV (Ilx.nmT (Ilx.tk (Ilx.tk s)))] [] w':=by
  have J0:=hid_as J
  have B0:=hid_as hB
  have hil:=hB.lt
  have hna:=hid_as hn
  have htx:(Ilx.hd s.L).1.text.length≤65536:=(toks_all J.tk).2.2.1 _ (J.r.sfx.subset (Ilx.mem_hd J.r.wls.ne))
  have TK:=hid_as (fun W (J:Jr v rb tb cap X T A (s) W)=>j_take J)
  have F3:=fd3
  have AC:Hid (∀ W,Jr v rb tb cap X T A (Ilx.tk s) W→Calls Tryz.prog 37 #[.pointer (some ⟨rb,0,none⟩),.string ⟨#[40]⟩] W fun e w'=>e=.returned (.bool true)∧Kp rb W w'∧Jr v rb tb cap X T A (Ilx.tk (Ilx.tk s)) w'):=hid_as fun W J=>j_accept_y J ⟨#[40]⟩ h2
  have IS:Hid (∀ W,Jr v rb tb cap X T A (Ilx.tk (Ilx.tk s)) W→Calls Tryz.prog 76 #[.pointer (some ⟨rb,0,none⟩),.slice (some ⟨W.heap.size,0,none⟩) 1 1] (W.alloc (.cells #[.string ⟨#[10]⟩] 9)) fun e w'=>e=.returned (.bool false)∧Kp rb W w'∧Jr v rb tb cap X T A (Ilx.tk (Ilx.tk s)) w'):=hid_as fun W J=>j_is J ⟨#[10]⟩ false h3
  have NM:=hid_as (fun W (J:Jr v rb tb cap X T A (Ilx.tk (Ilx.tk s)) W)=>j_name J)
  have TD:Hid (∀ (W:World) (g:Nat),g=W.heap.size→Calls Tryz.prog 122 #[.string (tx (Ilx.hd s.L).1.text),.slice (some ⟨g,0,none⟩) 3 3] (W.alloc (.cells #[.string ⟨#[67,65,76]⟩,.string ⟨#[67,65,76,67]⟩,.string ⟨#[67,65,76,67,78]⟩] 9)) fun e w'=>e=.returned (.bool false)∧w'=W.alloc (.cells #[.string ⟨#[67,65,76]⟩,.string ⟨#[67,65,76,67]⟩,.string ⟨#[67,65,76,67,78]⟩] 9)):=hid_as fun W g hg=>told_3 _ _ _ _ W g hg false ⟨fun e=>(by cases e),fun e=>by rw [cll_mem.2 e] at h1;cases h1⟩
  have TJ:Hid (∀ (W:World) (g:Nat),g=W.heap.size→Calls Tryz.prog 122 #[.string (tx ((Ilx.hd s.L).1.text ++ [40])),.slice (some ⟨g,0,none⟩) 3 3] (W.alloc (.cells #[.string ⟨#[74,77,80]⟩,.string ⟨#[74,77,80,67]⟩,.string ⟨#[74,77,80,67,78]⟩] 9)) fun e w'=>e=.returned (.bool true)∧w'=W.alloc (.cells #[.string ⟨#[74,77,80]⟩,.string ⟨#[74,77,80,67]⟩,.string ⟨#[74,77,80,67,78]⟩] 9)):=hid_as fun W g hg=>told_3 _ _ _ _ W g hg true ⟨fun _=>jmp_mem.1 h4,fun _=>rfl⟩
  clear h1
  clear h2
  clear h3
  clear h4
  clear J hB hn
  generalize Ilx.hd s.L=t0 at *
  obtain ⟨⟨ta,tk,tn,tt⟩,pl⟩:=t0
  simp only at TD htx TJ
  have hsz:(tx tt).size≤65536:=by rw [Lib.size_eq,tx_list];exact htx
  have hcat:tx (tt ++ [40])=tx tt ++ ⟨#[40]⟩:=(tx_app tt [40]).symm
  rw [hcat] at TJ
  replace hcat:=hid_as hcat
  go_enter Tryz.func82,Tryz.ntmps82
  go_upto_region 1 with (first
    | (go_at_call 78;(with_reducible refine (TK.out _ J0.out).mono ?_);rintro e w1 ⟨_,rfl,⟨_,_,_,_,_,t1,rfl⟩,k1,j1⟩;cases t1;have J1:=hid_as j1;have B1:=hid_as (B0.out.kp k1 (by omega));obtain ⟨s0,s1,s2,s3,s4⟩:=bk5 B1.out;have sf:=B1.out.fr;have z1:=k1.size;have K1:=hid_as (K2.of (b:=ib) k1);clear k1 j1))
  have J2:=hid_as (J1.out.set hv ht hi hna.out 1 (.string (tx tt)))
  have B2:=hid_as (B1.out.set1 (.string (tx tt)))
  have K2':=hid_as (K1.out.set 1 (.string (tx tt)))
  clear J1 B1 K1 s0 s1 s2 s3 s4 sf
  generalize w1.setCell ⟨ib,1,none⟩ (.string (tx tt))=W2 at *
  obtain ⟨s0,s1,s2,s3,s4⟩:=bk5 B2.out
  have sf:=B2.out.fr
  have z2:=K2'.out.size
  go_upto_region 3 with (first
    | (go_at_call 122;(with_reducible refine (TD.out _ _ rfl).mono ?_);rintro e wt ⟨rfl,rfl⟩;have J3:=hid_as (J2.out.alloc (.cells #[.string ⟨#[67,65,76]⟩,.string ⟨#[67,65,76,67]⟩,.string ⟨#[67,65,76,67,78]⟩] 9));have B3:=hid_as (B2.out.alloc (.cells #[.string ⟨#[67,65,76]⟩,.string ⟨#[67,65,76,67]⟩,.string ⟨#[67,65,76,67,78]⟩] 9));have K3:=hid_as (K2'.out.alloc (.cells #[.string ⟨#[67,65,76]⟩,.string ⟨#[67,65,76,67]⟩,.string ⟨#[67,65,76,67,78]⟩] 9)))
    | (go_at_call 37;(with_reducible refine (AC.out _ J3.out).mono ?_);rintro e w4 ⟨rfl,k4,j4⟩;have J4:=hid_as j4;have B4:=hid_as (B3.out.kp k4 (by omega));have z4:=k4.size;(try rw [World.size_alloc] at z4);have K4:=hid_as k4;clear k4 j4;have K5:=hid_as (K3.out.thenK K4.out);clear s0 s1 s2 s3 s4 sf;obtain ⟨s0,s1,s2,s3,s4⟩:=bk5 B4.out;have sf:=B4.out.fr))
  have hnb:¬ 9223372036854775807 < (tx tt).size+(⟨#[40]⟩:ByteArray).size:=by show ¬ 9223372036854775807 < (tx tt).size+1;omega
  have hnb2:¬ 9223372036854775807 < (tx tt).size+1:=by omega
  go_upto_region 5 with fail
  have J6:=hid_as (J4.out.set hv ht hi hna.out 1 (.string (tx tt ++ ⟨#[40]⟩)))
  have B6:=hid_as (B4.out.set1 (.string (tx tt ++ ⟨#[40]⟩)))
  have K6:=hid_as (K5.out.set 1 (.string (tx tt ++ ⟨#[40]⟩)))
  clear J4 B4 K4 K5 s0 s1 s2 s3 s4 sf
  generalize w4.setCell ⟨ib,1,none⟩ (.string (tx tt ++ ⟨#[40]⟩))=W6 at *
  obtain ⟨s0,s1,s2,s3,s4⟩:=bk5 B6.out
  have sf:=B6.out.fr
  have z6:=K6.out.size
  go_wp2_with (first
    | (go_at_call 76;(with_reducible refine (IS.out _ J6.out).mono ?_);rintro e w7 ⟨rfl,k7,j7⟩;have J7:=hid_as j7;have B7:=hid_as (B6.out.kp k7 (by omega));have z7:=k7.size;(try rw [World.size_alloc] at z7);have K7:=hid_as k7;clear k7 j7;have K8:=hid_as (K6.out.thenK K7.out);clear s0 s1 s2 s3 s4 sf;obtain ⟨s0,s1,s2,s3,s4⟩:=bk5 B7.out;have sf:=B7.out.fr)
    | (go_at_call 122;(with_reducible refine (TJ.out _ _ rfl).mono ?_);rintro e wt ⟨rfl,rfl⟩)
    | (go_at_call 123;(with_reducible refine (NM.out _ (J7.out.alloc (.cells #[.string ⟨#[74,77,80]⟩,.string ⟨#[74,77,80,67]⟩,.string ⟨#[74,77,80,67,78]⟩] 9))).mono ?_);rintro e w9 ⟨o9,kd9,n9,nm9,fl9,lp9,ln9,lc9,p9,rfl,e9,k9,j9⟩;have J9:=hid_as j9;have B9:=hid_as ((B7.out.alloc (.cells #[.string ⟨#[74,77,80]⟩,.string ⟨#[74,77,80,67]⟩,.string ⟨#[74,77,80,67,78]⟩] 9)).kp k9 (by omega));have z9:=k9.size;(try rw [World.size_alloc] at z9);have K9:=hid_as k9;clear k9 j9;have E9:=hid_as e9;clear e9;have KA:=hid_as ((K8.out.alloc (.cells #[.string ⟨#[74,77,80]⟩,.string ⟨#[74,77,80,67]⟩,.string ⟨#[74,77,80,67,78]⟩] 9)).thenK K9.out);clear s0 s1 s2 s3 s4 sf;have BA:=hid_as (B9.out.alloc (.cells #[.int .i64 o9,.int .i64 kd9,.int .i64 n9,.string nm9,.string fl9,.slice lp9 ln9 lc9,.int .i64 p9] 53));obtain ⟨s0,s1,s2,s3,s4⟩:=bk5 BA.out;have sf:=BA.out.fr;have JA:=hid_as ((J9.out.alloc (.cells #[.int .i64 o9,.int .i64 kd9,.int .i64 n9,.string nm9,.string fl9,.slice lp9 ln9 lc9,.int .i64 p9] 53)).set hv ht hi hna.out 2 (.slice (some ⟨w9.heap.size,0,none⟩) 1 1));have BB:=hid_as (BA.out.set2 (.slice (some ⟨w9.heap.size,0,none⟩) 1 1));have KB:=hid_as ((KA.out.alloc (.cells #[.int .i64 o9,.int .i64 kd9,.int .i64 n9,.string nm9,.string fl9,.slice lp9 ln9 lc9,.int .i64 p9] 53)).set 2 (.slice (some ⟨w9.heap.size,0,none⟩) 1 1))))
  have SE:Sl 7 Pe (fun x=>w.heap.size≤x) ((w9.alloc (.cells #[.int .i64 o9,.int .i64 kd9,.int .i64 n9,.string nm9,.string fl9,.slice lp9 ln9 lc9,.int .i64 p9] 53)).setCell ⟨ib,2,none⟩ (.slice (some ⟨w9.heap.size,0,none⟩) 1 1)) (some ⟨w9.heap.size,0,none⟩) 1 1 [plainV (Ilx.nmT (Ilx.tk (Ilx.tk s)))]:=by
    have hz7:w.heap.size≤(w7.alloc (.cells #[.string ⟨#[74,77,80]⟩,.string ⟨#[74,77,80,67]⟩,.string ⟨#[74,77,80,67,78]⟩] 9)).heap.size:=(K8.out.alloc (.cells #[.string ⟨#[74,77,80]⟩,.string ⟨#[74,77,80,67]⟩,.string ⟨#[74,77,80,67,78]⟩] 9)).size
    have hz9:w.heap.size≤w9.heap.size:=KA.out.size
    refine Sl.keepK (P:=Pe) (fun _ _ _ _ o _ _=>Pe.ov o) (Sl.one rfl hz9 ⟨_,_,_,_,_,_,_,_,_,rfl,?_⟩) (Ov.set _ (by show ¬ (_≤_);omega) 2 _)
    exact E9.out.ov ((Ov.into (S':=fun x=>w.heap.size≤x) fun x (hx:(w7.alloc (.cells #[.string ⟨#[74,77,80]⟩,.string ⟨#[74,77,80,67]⟩,.string ⟨#[74,77,80,67,78]⟩] 9)).heap.size≤x) _=>Nat.le_trans hz7 hx).trans (Ov.alloc w9 _))
  go_end0
  exact ⟨rfl,KB.out,JA.out,_,_,_,_,_,_,(by rw [hcat.out];exact BB.out),SE,Sl.nil⟩
set_option maxHeartbeats 4000000 in
set_option maxRecDepth 100000 in
theorem iop_5 {v w:World} {rb tb cap:Nat} {X:ByteArray} {T:TL} {A:Nat→Prop} {s:Ps} {ib:Nat} {lab:ByteArray} {p:Int} (J:Jr v rb tb cap X T A s w) (hv:rb < v.heap.size) (ht:tb < v.heap.size) (hi:v.heap.size≤ib) (hB:Bk w ib #[.string lab,.string ⟨#[]⟩,.slice none 0 0,.slice none 0 0,.int .i64 p]) (hn:¬ A ib) (h1:Ilx.cll (Ilx.hd s.L).1.text=false) (h2:Ilx.iz (Ilx.tk s) [40]=true) (h3:Ilx.iz (Ilx.tk (Ilx.tk s)) [10]=false) (h4:Ilx.jmp ((Ilx.hd s.L).1.text ++ [40])=false):Calls Tryz.prog 82 #[.pointer (some ⟨rb,0,none⟩),.pointer (some ⟨ib,0,none⟩)] w fun e w'=>e=.returned (.tuple #[])∧Qo v rb tb cap X T A ib lab p w (Ilx.vlS (Ilx.tk (Ilx.tk s))) ((Ilx.hd s.L).1.text ++ [40]) [Ilx.vlT (Ilx.tk (Ilx.tk s))] [] w':=by
  have J0:=hid_as J
  have B0:=hid_as hB
  have hil:=hB.lt
  have hna:=hid_as hn
  have htx:(Ilx.hd s.L).1.text.length≤65536:=(toks_all J.tk).2.2.1 _ (J.r.sfx.subset (Ilx.mem_hd J.r.wls.ne))
  have TK:=hid_as (fun W (J:Jr v rb tb cap X T A (s) W)=>j_take J)
  have F3:=fd3
  have AC:Hid (∀ W,Jr v rb tb cap X T A (Ilx.tk s) W→Calls Tryz.prog 37 #[.pointer (some ⟨rb,0,none⟩),.string ⟨#[40]⟩] W fun e w'=>e=.returned (.bool true)∧Kp rb W w'∧Jr v rb tb cap X T A (Ilx.tk (Ilx.tk s)) w'):=hid_as fun W J=>j_accept_y J ⟨#[40]⟩ h2
  have IS:Hid (∀ W,Jr v rb tb cap X T A (Ilx.tk (Ilx.tk s)) W→Calls Tryz.prog 76 #[.pointer (some ⟨rb,0,none⟩),.slice (some ⟨W.heap.size,0,none⟩) 1 1] (W.alloc (.cells #[.string ⟨#[10]⟩] 9)) fun e w'=>e=.returned (.bool false)∧Kp rb W w'∧Jr v rb tb cap X T A (Ilx.tk (Ilx.tk s)) w'):=hid_as fun W J=>j_is J ⟨#[10]⟩ false h3
  have VL:=hid_as (fun W (J:Jr v rb tb cap X T A (Ilx.tk (Ilx.tk s)) W)=>j_value J)
  have TD:Hid (∀ (W:World) (g:Nat),g=W.heap.size→Calls Tryz.prog 122 #[.string (tx (Ilx.hd s.L).1.text),.slice (some ⟨g,0,none⟩) 3 3] (W.alloc (.cells #[.string ⟨#[67,65,76]⟩,.string ⟨#[67,65,76,67]⟩,.string ⟨#[67,65,76,67,78]⟩] 9)) fun e w'=>e=.returned (.bool false)∧w'=W.alloc (.cells #[.string ⟨#[67,65,76]⟩,.string ⟨#[67,65,76,67]⟩,.string ⟨#[67,65,76,67,78]⟩] 9)):=hid_as fun W g hg=>told_3 _ _ _ _ W g hg false ⟨fun e=>(by cases e),fun e=>by rw [cll_mem.2 e] at h1;cases h1⟩
  have TJ:Hid (∀ (W:World) (g:Nat),g=W.heap.size→Calls Tryz.prog 122 #[.string (tx ((Ilx.hd s.L).1.text ++ [40])),.slice (some ⟨g,0,none⟩) 3 3] (W.alloc (.cells #[.string ⟨#[74,77,80]⟩,.string ⟨#[74,77,80,67]⟩,.string ⟨#[74,77,80,67,78]⟩] 9)) fun e w'=>e=.returned (.bool false)∧w'=W.alloc (.cells #[.string ⟨#[74,77,80]⟩,.string ⟨#[74,77,80,67]⟩,.string ⟨#[74,77,80,67,78]⟩] 9)):=hid_as fun W g hg=>told_3 _ _ _ _ W g hg false ⟨fun e=>(by cases e),fun e=>by rw [jmp_mem.2 e] at h4;cases h4⟩
  clear h1
  clear h2
  clear h3
  clear h4
  clear J hB hn
  generalize Ilx.hd s.L=t0 at *
  obtain ⟨⟨ta,tk,tn,tt⟩,pl⟩:=t0
  simp only at TD htx TJ
  have hsz:(tx tt).size≤65536:=by rw [Lib.size_eq,tx_list];exact htx
  have hcat:tx (tt ++ [40])=tx tt ++ ⟨#[40]⟩:=(tx_app tt [40]).symm
  rw [hcat] at TJ
  replace hcat:=hid_as hcat
  go_enter Tryz.func82,Tryz.ntmps82
  go_upto_region 1 with (first
    | (go_at_call 78;(with_reducible refine (TK.out _ J0.out).mono ?_);rintro e w1 ⟨_,rfl,⟨_,_,_,_,_,t1,rfl⟩,k1,j1⟩;cases t1;have J1:=hid_as j1;have B1:=hid_as (B0.out.kp k1 (by omega));obtain ⟨s0,s1,s2,s3,s4⟩:=bk5 B1.out;have sf:=B1.out.fr;have z1:=k1.size;have K1:=hid_as (K2.of (b:=ib) k1);clear k1 j1))
  have J2:=hid_as (J1.out.set hv ht hi hna.out 1 (.string (tx tt)))
  have B2:=hid_as (B1.out.set1 (.string (tx tt)))
  have K2':=hid_as (K1.out.set 1 (.string (tx tt)))
  clear J1 B1 K1 s0 s1 s2 s3 s4 sf
  generalize w1.setCell ⟨ib,1,none⟩ (.string (tx tt))=W2 at *
  obtain ⟨s0,s1,s2,s3,s4⟩:=bk5 B2.out
  have sf:=B2.out.fr
  have z2:=K2'.out.size
  go_upto_region 3 with (first
    | (go_at_call 122;(with_reducible refine (TD.out _ _ rfl).mono ?_);rintro e wt ⟨rfl,rfl⟩;have J3:=hid_as (J2.out.alloc (.cells #[.string ⟨#[67,65,76]⟩,.string ⟨#[67,65,76,67]⟩,.string ⟨#[67,65,76,67,78]⟩] 9));have B3:=hid_as (B2.out.alloc (.cells #[.string ⟨#[67,65,76]⟩,.string ⟨#[67,65,76,67]⟩,.string ⟨#[67,65,76,67,78]⟩] 9));have K3:=hid_as (K2'.out.alloc (.cells #[.string ⟨#[67,65,76]⟩,.string ⟨#[67,65,76,67]⟩,.string ⟨#[67,65,76,67,78]⟩] 9)))
    | (go_at_call 37;(with_reducible refine (AC.out _ J3.out).mono ?_);rintro e w4 ⟨rfl,k4,j4⟩;have J4:=hid_as j4;have B4:=hid_as (B3.out.kp k4 (by omega));have z4:=k4.size;(try rw [World.size_alloc] at z4);have K4:=hid_as k4;clear k4 j4;have K5:=hid_as (K3.out.thenK K4.out);clear s0 s1 s2 s3 s4 sf;obtain ⟨s0,s1,s2,s3,s4⟩:=bk5 B4.out;have sf:=B4.out.fr))
  have hnb:¬ 9223372036854775807 < (tx tt).size+(⟨#[40]⟩:ByteArray).size:=by show ¬ 9223372036854775807 < (tx tt).size+1;omega
  have hnb2:¬ 9223372036854775807 < (tx tt).size+1:=by omega
  go_upto_region 5 with fail
  have J6:=hid_as (J4.out.set hv ht hi hna.out 1 (.string (tx tt ++ ⟨#[40]⟩)))
  have B6:=hid_as (B4.out.set1 (.string (tx tt ++ ⟨#[40]⟩)))
  have K6:=hid_as (K5.out.set 1 (.string (tx tt ++ ⟨#[40]⟩)))
  clear J4 B4 K4 K5 s0 s1 s2 s3 s4 sf
  generalize w4.setCell ⟨ib,1,none⟩ (.string (tx tt ++ ⟨#[40]⟩))=W6 at *
  obtain ⟨s0,s1,s2,s3,s4⟩:=bk5 B6.out
  have sf:=B6.out.fr
  have z6:=K6.out.size
  go_wp2_with (first
    | (go_at_call 76;(with_reducible refine (IS.out _ J6.out).mono ?_);rintro e w7 ⟨rfl,k7,j7⟩;have J7:=hid_as j7;have B7:=hid_as (B6.out.kp k7 (by omega));have z7:=k7.size;(try rw [World.size_alloc] at z7);have K7:=hid_as k7;clear k7 j7;have K8:=hid_as (K6.out.thenK K7.out);clear s0 s1 s2 s3 s4 sf;obtain ⟨s0,s1,s2,s3,s4⟩:=bk5 B7.out;have sf:=B7.out.fr)
    | (go_at_call 122;(with_reducible refine (TJ.out _ _ rfl).mono ?_);rintro e wt ⟨rfl,rfl⟩)
    | (go_at_call 125;(with_reducible refine (VL.out _ (J7.out.alloc (.cells #[.string ⟨#[74,77,80]⟩,.string ⟨#[74,77,80,67]⟩,.string ⟨#[74,77,80,67,78]⟩] 9))).mono ?_);rintro e w9 ⟨o9,kd9,n9,nm9,fl9,lp9,ln9,lc9,p9,rfl,e9,k9,j9⟩;have J9:=hid_as j9;have B9:=hid_as ((B7.out.alloc (.cells #[.string ⟨#[74,77,80]⟩,.string ⟨#[74,77,80,67]⟩,.string ⟨#[74,77,80,67,78]⟩] 9)).kp k9 (by omega));have z9:=k9.size;(try rw [World.size_alloc] at z9);have K9:=hid_as k9;clear k9 j9;have E9:=hid_as e9;clear e9;have KA:=hid_as ((K8.out.alloc (.cells #[.string ⟨#[74,77,80]⟩,.string ⟨#[74,77,80,67]⟩,.string ⟨#[74,77,80,67,78]⟩] 9)).thenK K9.out);clear s0 s1 s2 s3 s4 sf;have BA:=hid_as (B9.out.alloc (.cells #[.int .i64 o9,.int .i64 kd9,.int .i64 n9,.string nm9,.string fl9,.slice lp9 ln9 lc9,.int .i64 p9] 53));obtain ⟨s0,s1,s2,s3,s4⟩:=bk5 BA.out;have sf:=BA.out.fr;have JA:=hid_as ((J9.out.alloc (.cells #[.int .i64 o9,.int .i64 kd9,.int .i64 n9,.string nm9,.string fl9,.slice lp9 ln9 lc9,.int .i64 p9] 53)).set hv ht hi hna.out 2 (.slice (some ⟨w9.heap.size,0,none⟩) 1 1));have BB:=hid_as (BA.out.set2 (.slice (some ⟨w9.heap.size,0,none⟩) 1 1));have KB:=hid_as ((KA.out.alloc (.cells #[.int .i64 o9,.int .i64 kd9,.int .i64 n9,.string nm9,.string fl9,.slice lp9 ln9 lc9,.int .i64 p9] 53)).set 2 (.slice (some ⟨w9.heap.size,0,none⟩) 1 1))))
  have SE:Sl 7 Pe (fun x=>w.heap.size≤x) ((w9.alloc (.cells #[.int .i64 o9,.int .i64 kd9,.int .i64 n9,.string nm9,.string fl9,.slice lp9 ln9 lc9,.int .i64 p9] 53)).setCell ⟨ib,2,none⟩ (.slice (some ⟨w9.heap.size,0,none⟩) 1 1)) (some ⟨w9.heap.size,0,none⟩) 1 1 [Ilx.vlT (Ilx.tk (Ilx.tk s))]:=by
    have hz7:w.heap.size≤(w7.alloc (.cells #[.string ⟨#[74,77,80]⟩,.string ⟨#[74,77,80,67]⟩,.string ⟨#[74,77,80,67,78]⟩] 9)).heap.size:=(K8.out.alloc (.cells #[.string ⟨#[74,77,80]⟩,.string ⟨#[74,77,80,67]⟩,.string ⟨#[74,77,80,67,78]⟩] 9)).size
    have hz9:w.heap.size≤w9.heap.size:=KA.out.size
    refine Sl.keepK (P:=Pe) (fun _ _ _ _ o _ _=>Pe.ov o) (Sl.one rfl hz9 ⟨_,_,_,_,_,_,_,_,_,rfl,?_⟩) (Ov.set _ (by show ¬ (_≤_);omega) 2 _)
    exact E9.out.ov ((Ov.into (S':=fun x=>w.heap.size≤x) fun x (hx:(w7.alloc (.cells #[.string ⟨#[74,77,80]⟩,.string ⟨#[74,77,80,67]⟩,.string ⟨#[74,77,80,67,78]⟩] 9)).heap.size≤x) _=>Nat.le_trans hz7 hx).trans (Ov.alloc w9 _))
  go_end0
  exact ⟨rfl,KB.out,JA.out,_,_,_,_,_,_,(by rw [hcat.out];exact BB.out),SE,Sl.nil⟩
set_option maxHeartbeats 4000000 in
set_option maxRecDepth 100000 in
theorem iop_6 {v w:World} {rb tb cap:Nat} {X:ByteArray} {T:TL} {A:Nat→Prop} {s:Ps} {ib:Nat} {lab:ByteArray} {p:Int} (J:Jr v rb tb cap X T A s w) (hv:rb < v.heap.size) (ht:tb < v.heap.size) (hi:v.heap.size≤ib) (hB:Bk w ib #[.string lab,.string ⟨#[]⟩,.slice none 0 0,.slice none 0 0,.int .i64 p]) (hn:¬ A ib) (h1:Ilx.cll (Ilx.hd s.L).1.text=false) (h2:Ilx.iz (Ilx.tk s) [40]=false) (h3:Ilx.iz (Ilx.tk s) [10]=true):Calls Tryz.prog 82 #[.pointer (some ⟨rb,0,none⟩),.pointer (some ⟨ib,0,none⟩)] w fun e w'=>e=.returned (.tuple #[])∧Qo v rb tb cap X T A ib lab p w (Ilx.tk s) (Ilx.hd s.L).1.text [] [] w':=by
  have J0:=hid_as J
  have B0:=hid_as hB
  have hil:=hB.lt
  have hna:=hid_as hn
  have htx:(Ilx.hd s.L).1.text.length≤65536:=(toks_all J.tk).2.2.1 _ (J.r.sfx.subset (Ilx.mem_hd J.r.wls.ne))
  have TK:=hid_as (fun W (J:Jr v rb tb cap X T A (s) W)=>j_take J)
  have F3:=fd3
  have AC:Hid (∀ W,Jr v rb tb cap X T A (Ilx.tk s) W→Calls Tryz.prog 37 #[.pointer (some ⟨rb,0,none⟩),.string ⟨#[40]⟩] W fun e w'=>e=.returned (.bool false)∧Kp rb W w'∧Jr v rb tb cap X T A (Ilx.tk s) w'):=hid_as fun W J=>j_accept_n J ⟨#[40]⟩ h2
  have IS:Hid (∀ W,Jr v rb tb cap X T A (Ilx.tk s) W→Calls Tryz.prog 76 #[.pointer (some ⟨rb,0,none⟩),.slice (some ⟨W.heap.size,0,none⟩) 1 1] (W.alloc (.cells #[.string ⟨#[10]⟩] 9)) fun e w'=>e=.returned (.bool true)∧Kp rb W w'∧Jr v rb tb cap X T A (Ilx.tk s) w'):=hid_as fun W J=>j_is J ⟨#[10]⟩ true h3
  have TD:Hid (∀ (W:World) (g:Nat),g=W.heap.size→Calls Tryz.prog 122 #[.string (tx (Ilx.hd s.L).1.text),.slice (some ⟨g,0,none⟩) 3 3] (W.alloc (.cells #[.string ⟨#[67,65,76]⟩,.string ⟨#[67,65,76,67]⟩,.string ⟨#[67,65,76,67,78]⟩] 9)) fun e w'=>e=.returned (.bool false)∧w'=W.alloc (.cells #[.string ⟨#[67,65,76]⟩,.string ⟨#[67,65,76,67]⟩,.string ⟨#[67,65,76,67,78]⟩] 9)):=hid_as fun W g hg=>told_3 _ _ _ _ W g hg false ⟨fun e=>(by cases e),fun e=>by rw [cll_mem.2 e] at h1;cases h1⟩
  clear h1
  clear h2
  clear h3
  clear J hB hn
  generalize Ilx.hd s.L=t0 at *
  obtain ⟨⟨ta,tk,tn,tt⟩,pl⟩:=t0
  simp only at TD htx
  have hsz:(tx tt).size≤65536:=by rw [Lib.size_eq,tx_list];exact htx
  go_enter Tryz.func82,Tryz.ntmps82
  go_upto_region 1 with (first
    | (go_at_call 78;(with_reducible refine (TK.out _ J0.out).mono ?_);rintro e w1 ⟨_,rfl,⟨_,_,_,_,_,t1,rfl⟩,k1,j1⟩;cases t1;have J1:=hid_as j1;have B1:=hid_as (B0.out.kp k1 (by omega));obtain ⟨s0,s1,s2,s3,s4⟩:=bk5 B1.out;have sf:=B1.out.fr;have z1:=k1.size;have K1:=hid_as (K2.of (b:=ib) k1);clear k1 j1))
  have J2:=hid_as (J1.out.set hv ht hi hna.out 1 (.string (tx tt)))
  have B2:=hid_as (B1.out.set1 (.string (tx tt)))
  have K2':=hid_as (K1.out.set 1 (.string (tx tt)))
  clear J1 B1 K1 s0 s1 s2 s3 s4 sf
  generalize w1.setCell ⟨ib,1,none⟩ (.string (tx tt))=W2 at *
  obtain ⟨s0,s1,s2,s3,s4⟩:=bk5 B2.out
  have sf:=B2.out.fr
  have z2:=K2'.out.size
  go_upto_region 5 with (first
    | (go_at_call 122;(with_reducible refine (TD.out _ _ rfl).mono ?_);rintro e wt ⟨rfl,rfl⟩;have J3:=hid_as (J2.out.alloc (.cells #[.string ⟨#[67,65,76]⟩,.string ⟨#[67,65,76,67]⟩,.string ⟨#[67,65,76,67,78]⟩] 9));have B3:=hid_as (B2.out.alloc (.cells #[.string ⟨#[67,65,76]⟩,.string ⟨#[67,65,76,67]⟩,.string ⟨#[67,65,76,67,78]⟩] 9));have K3:=hid_as (K2'.out.alloc (.cells #[.string ⟨#[67,65,76]⟩,.string ⟨#[67,65,76,67]⟩,.string ⟨#[67,65,76,67,78]⟩] 9)))
    | (go_at_call 37;(with_reducible refine (AC.out _ J3.out).mono ?_);rintro e w4 ⟨rfl,k4,j4⟩;have J4:=hid_as j4;have B4:=hid_as (B3.out.kp k4 (by omega));have z4:=k4.size;(try rw [World.size_alloc] at z4);have K4:=hid_as k4;clear k4 j4;have K5:=hid_as (K3.out.thenK K4.out)))
  have J6:=J4
  have B6:=B4
  have K6:=K5
  clear J4 B4 K4 K5 s0 s1 s2 s3 s4 sf
  generalize w4=W6 at *
  obtain ⟨s0,s1,s2,s3,s4⟩:=bk5 B6.out
  have sf:=B6.out.fr
  have z6:=K6.out.size
  go_wp2_with (first
    | (go_at_call 76;(with_reducible refine (IS.out _ J6.out).mono ?_);rintro e w7 ⟨rfl,k7,j7⟩;have J7:=hid_as j7;have B7:=hid_as (B6.out.kp k7 (by omega));have z7:=k7.size;(try rw [World.size_alloc] at z7);have K7:=hid_as k7;clear k7 j7;have K8:=hid_as (K6.out.thenK K7.out);clear s0 s1 s2 s3 s4 sf;obtain ⟨s0,s1,s2,s3,s4⟩:=bk5 B7.out;have sf:=B7.out.fr))
  go_end0
  exact ⟨rfl,K8.out,J7.out,none,0,0,none,0,0,B7.out,Sl.nil,Sl.nil⟩
set_option maxHeartbeats 4000000 in
set_option maxRecDepth 100000 in
theorem iop_7 {v w:World} {rb tb cap:Nat} {X:ByteArray} {T:TL} {A:Nat→Prop} {s:Ps} {ib:Nat} {lab:ByteArray} {p:Int} (J:Jr v rb tb cap X T A s w) (hv:rb < v.heap.size) (ht:tb < v.heap.size) (hi:v.heap.size≤ib) (hB:Bk w ib #[.string lab,.string ⟨#[]⟩,.slice none 0 0,.slice none 0 0,.int .i64 p]) (hn:¬ A ib) (h1:Ilx.cll (Ilx.hd s.L).1.text=false) (h2:Ilx.iz (Ilx.tk s) [40]=false) (h3:Ilx.iz (Ilx.tk s) [10]=false) (h4:Ilx.jmp (Ilx.hd s.L).1.text=true):Calls Tryz.prog 82 #[.pointer (some ⟨rb,0,none⟩),.pointer (some ⟨ib,0,none⟩)] w fun e w'=>e=.returned (.tuple #[])∧Qo v rb tb cap X T A ib lab p w (Ilx.nmS (Ilx.tk s)) (Ilx.hd s.L).1.text [plainV (Ilx.nmT (Ilx.tk s))] [] w':=by
  have J0:=hid_as J
  have B0:=hid_as hB
  have hil:=hB.lt
  have hna:=hid_as hn
  have htx:(Ilx.hd s.L).1.text.length≤65536:=(toks_all J.tk).2.2.1 _ (J.r.sfx.subset (Ilx.mem_hd J.r.wls.ne))
  have TK:=hid_as (fun W (J:Jr v rb tb cap X T A (s) W)=>j_take J)
  have F3:=fd3
  have AC:Hid (∀ W,Jr v rb tb cap X T A (Ilx.tk s) W→Calls Tryz.prog 37 #[.pointer (some ⟨rb,0,none⟩),.string ⟨#[40]⟩] W fun e w'=>e=.returned (.bool false)∧Kp rb W w'∧Jr v rb tb cap X T A (Ilx.tk s) w'):=hid_as fun W J=>j_accept_n J ⟨#[40]⟩ h2
  have IS:Hid (∀ W,Jr v rb tb cap X T A (Ilx.tk s) W→Calls Tryz.prog 76 #[.pointer (some ⟨rb,0,none⟩),.slice (some ⟨W.heap.size,0,none⟩) 1 1] (W.alloc (.cells #[.string ⟨#[10]⟩] 9)) fun e w'=>e=.returned (.bool false)∧Kp rb W w'∧Jr v rb tb cap X T A (Ilx.tk s) w'):=hid_as fun W J=>j_is J ⟨#[10]⟩ false h3
  have NM:=hid_as (fun W (J:Jr v rb tb cap X T A (Ilx.tk s) W)=>j_name J)
  have TD:Hid (∀ (W:World) (g:Nat),g=W.heap.size→Calls Tryz.prog 122 #[.string (tx (Ilx.hd s.L).1.text),.slice (some ⟨g,0,none⟩) 3 3] (W.alloc (.cells #[.string ⟨#[67,65,76]⟩,.string ⟨#[67,65,76,67]⟩,.string ⟨#[67,65,76,67,78]⟩] 9)) fun e w'=>e=.returned (.bool false)∧w'=W.alloc (.cells #[.string ⟨#[67,65,76]⟩,.string ⟨#[67,65,76,67]⟩,.string ⟨#[67,65,76,67,78]⟩] 9)):=hid_as fun W g hg=>told_3 _ _ _ _ W g hg false ⟨fun e=>(by cases e),fun e=>by rw [cll_mem.2 e] at h1;cases h1⟩
  have TJ:Hid (∀ (W:World) (g:Nat),g=W.heap.size→Calls Tryz.prog 122 #[.string (tx (Ilx.hd s.L).1.text),.slice (some ⟨g,0,none⟩) 3 3] (W.alloc (.cells #[.string ⟨#[74,77,80]⟩,.string ⟨#[74,77,80,67]⟩,.string ⟨#[74,77,80,67,78]⟩] 9)) fun e w'=>e=.returned (.bool true)∧w'=W.alloc (.cells #[.string ⟨#[74,77,80]⟩,.string ⟨#[74,77,80,67]⟩,.string ⟨#[74,77,80,67,78]⟩] 9)):=hid_as fun W g hg=>told_3 _ _ _ _ W g hg true ⟨fun _=>jmp_mem.1 h4,fun _=>rfl⟩
  clear h1
  clear h2
  clear h3
  clear h4
  clear J hB hn
  generalize Ilx.hd s.L=t0 at *
  obtain ⟨⟨ta,tk,tn,tt⟩,pl⟩:=t0
  simp only at TD htx TJ
  have hsz:(tx tt).size≤65536:=by rw [Lib.size_eq,tx_list];exact htx
  go_enter Tryz.func82,Tryz.ntmps82
  go_upto_region 1 with (first
    | (go_at_call 78;(with_reducible refine (TK.out _ J0.out).mono ?_);rintro e w1 ⟨_,rfl,⟨_,_,_,_,_,t1,rfl⟩,k1,j1⟩;cases t1;have J1:=hid_as j1;have B1:=hid_as (B0.out.kp k1 (by omega));obtain ⟨s0,s1,s2,s3,s4⟩:=bk5 B1.out;have sf:=B1.out.fr;have z1:=k1.size;have K1:=hid_as (K2.of (b:=ib) k1);clear k1 j1))
  have J2:=hid_as (J1.out.set hv ht hi hna.out 1 (.string (tx tt)))
  have B2:=hid_as (B1.out.set1 (.string (tx tt)))
  have K2':=hid_as (K1.out.set 1 (.string (tx tt)))
  clear J1 B1 K1 s0 s1 s2 s3 s4 sf
  generalize w1.setCell ⟨ib,1,none⟩ (.string (tx tt))=W2 at *
  obtain ⟨s0,s1,s2,s3,s4⟩:=bk5 B2.out
  have sf:=B2.out.fr
  have z2:=K2'.out.size
  go_upto_region 5 with (first
    | (go_at_call 122;(with_reducible refine (TD.out _ _ rfl).mono ?_);rintro e wt ⟨rfl,rfl⟩;have J3:=hid_as (J2.out.alloc (.cells #[.string ⟨#[67,65,76]⟩,.string ⟨#[67,65,76,67]⟩,.string ⟨#[67,65,76,67,78]⟩] 9));have B3:=hid_as (B2.out.alloc (.cells #[.string ⟨#[67,65,76]⟩,.string ⟨#[67,65,76,67]⟩,.string ⟨#[67,65,76,67,78]⟩] 9));have K3:=hid_as (K2'.out.alloc (.cells #[.string ⟨#[67,65,76]⟩,.string ⟨#[67,65,76,67]⟩,.string ⟨#[67,65,76,67,78]⟩] 9)))
    | (go_at_call 37;(with_reducible refine (AC.out _ J3.out).mono ?_);rintro e w4 ⟨rfl,k4,j4⟩;have J4:=hid_as j4;have B4:=hid_as (B3.out.kp k4 (by omega));have z4:=k4.size;(try rw [World.size_alloc] at z4);have K4:=hid_as k4;clear k4 j4;have K5:=hid_as (K3.out.thenK K4.out)))
  have J6:=J4
  have B6:=B4
  have K6:=K5
  clear J4 B4 K4 K5 s0 s1 s2 s3 s4 sf
  generalize w4=W6 at *
  obtain ⟨s0,s1,s2,s3,s4⟩:=bk5 B6.out
  have sf:=B6.out.fr
  have z6:=K6.out.size
  go_wp2_with (first
    | (go_at_call 76;(with_reducible refine (IS.out _ J6.out).mono ?_);rintro e w7 ⟨rfl,k7,j7⟩;have J7:=hid_as j7;have B7:=hid_as (B6.out.kp k7 (by omega));have z7:=k7.size;(try rw [World.size_alloc] at z7);have K7:=hid_as k7;clear k7 j7;have K8:=hid_as (K6.out.thenK K7.out);clear s0 s1 s2 s3 s4 sf;obtain ⟨s0,s1,s2,s3,s4⟩:=bk5 B7.out;have sf:=B7.out.fr)
    | (go_at_call 122;(with_reducible refine (TJ.out _ _ rfl).mono ?_);rintro e wt ⟨rfl,rfl⟩)
    | (go_at_call 123;(with_reducible refine (NM.out _ (J7.out.alloc (.cells #[.string ⟨#[74,77,80]⟩,.string ⟨#[74,77,80,67]⟩,.string ⟨#[74,77,80,67,78]⟩] 9))).mono ?_);rintro e w9 ⟨o9,kd9,n9,nm9,fl9,lp9,ln9,lc9,p9,rfl,e9,k9,j9⟩;have J9:=hid_as j9;have B9:=hid_as ((B7.out.alloc (.cells #[.string ⟨#[74,77,80]⟩,.string ⟨#[74,77,80,67]⟩,.string ⟨#[74,77,80,67,78]⟩] 9)).kp k9 (by omega));have z9:=k9.size;(try rw [World.size_alloc] at z9);have K9:=hid_as k9;clear k9 j9;have E9:=hid_as e9;clear e9;have KA:=hid_as ((K8.out.alloc (.cells #[.string ⟨#[74,77,80]⟩,.string ⟨#[74,77,80,67]⟩,.string ⟨#[74,77,80,67,78]⟩] 9)).thenK K9.out);clear s0 s1 s2 s3 s4 sf;have BA:=hid_as (B9.out.alloc (.cells #[.int .i64 o9,.int .i64 kd9,.int .i64 n9,.string nm9,.string fl9,.slice lp9 ln9 lc9,.int .i64 p9] 53));obtain ⟨s0,s1,s2,s3,s4⟩:=bk5 BA.out;have sf:=BA.out.fr;have JA:=hid_as ((J9.out.alloc (.cells #[.int .i64 o9,.int .i64 kd9,.int .i64 n9,.string nm9,.string fl9,.slice lp9 ln9 lc9,.int .i64 p9] 53)).set hv ht hi hna.out 2 (.slice (some ⟨w9.heap.size,0,none⟩) 1 1));have BB:=hid_as (BA.out.set2 (.slice (some ⟨w9.heap.size,0,none⟩) 1 1));have KB:=hid_as ((KA.out.alloc (.cells #[.int .i64 o9,.int .i64 kd9,.int .i64 n9,.string nm9,.string fl9,.slice lp9 ln9 lc9,.int .i64 p9] 53)).set 2 (.slice (some ⟨w9.heap.size,0,none⟩) 1 1))))
  have SE:Sl 7 Pe (fun x=>w.heap.size≤x) ((w9.alloc (.cells #[.int .i64 o9,.int .i64 kd9,.int .i64 n9,.string nm9,.string fl9,.slice lp9 ln9 lc9,.int .i64 p9] 53)).setCell ⟨ib,2,none⟩ (.slice (some ⟨w9.heap.size,0,none⟩) 1 1)) (some ⟨w9.heap.size,0,none⟩) 1 1 [plainV (Ilx.nmT (Ilx.tk s))]:=by
    have hz7:w.heap.size≤(w7.alloc (.cells #[.string ⟨#[74,77,80]⟩,.string ⟨#[74,77,80,67]⟩,.string ⟨#[74,77,80,67,78]⟩] 9)).heap.size:=(K8.out.alloc (.cells #[.string ⟨#[74,77,80]⟩,.string ⟨#[74,77,80,67]⟩,.string ⟨#[74,77,80,67,78]⟩] 9)).size
    have hz9:w.heap.size≤w9.heap.size:=KA.out.size
    refine Sl.keepK (P:=Pe) (fun _ _ _ _ o _ _=>Pe.ov o) (Sl.one rfl hz9 ⟨_,_,_,_,_,_,_,_,_,rfl,?_⟩) (Ov.set _ (by show ¬ (_≤_);omega) 2 _)
    exact E9.out.ov ((Ov.into (S':=fun x=>w.heap.size≤x) fun x (hx:(w7.alloc (.cells #[.string ⟨#[74,77,80]⟩,.string ⟨#[74,77,80,67]⟩,.string ⟨#[74,77,80,67,78]⟩] 9)).heap.size≤x) _=>Nat.le_trans hz7 hx).trans (Ov.alloc w9 _))
  go_end0
  exact ⟨rfl,KB.out,JA.out,_,_,_,_,_,_,BB.out,SE,Sl.nil⟩
set_option maxHeartbeats 4000000 in
set_option maxRecDepth 100000 in
theorem iop_8 {v w:World} {rb tb cap:Nat} {X:ByteArray} {T:TL} {A:Nat→Prop} {s:Ps} {ib:Nat} {lab:ByteArray} {p:Int} (J:Jr v rb tb cap X T A s w) (hv:rb < v.heap.size) (ht:tb < v.heap.size) (hi:v.heap.size≤ib) (hB:Bk w ib #[.string lab,.string ⟨#[]⟩,.slice none 0 0,.slice none 0 0,.int .i64 p]) (hn:¬ A ib) (h1:Ilx.cll (Ilx.hd s.L).1.text=false) (h2:Ilx.iz (Ilx.tk s) [40]=false) (h3:Ilx.iz (Ilx.tk s) [10]=false) (h4:Ilx.jmp (Ilx.hd s.L).1.text=false):Calls Tryz.prog 82 #[.pointer (some ⟨rb,0,none⟩),.pointer (some ⟨ib,0,none⟩)] w fun e w'=>e=.returned (.tuple #[])∧Qo v rb tb cap X T A ib lab p w (Ilx.vlS (Ilx.tk s)) (Ilx.hd s.L).1.text [Ilx.vlT (Ilx.tk s)] [] w':=by
  have J0:=hid_as J
  have B0:=hid_as hB
  have hil:=hB.lt
  have hna:=hid_as hn
  have htx:(Ilx.hd s.L).1.text.length≤65536:=(toks_all J.tk).2.2.1 _ (J.r.sfx.subset (Ilx.mem_hd J.r.wls.ne))
  have TK:=hid_as (fun W (J:Jr v rb tb cap X T A (s) W)=>j_take J)
  have F3:=fd3
  have AC:Hid (∀ W,Jr v rb tb cap X T A (Ilx.tk s) W→Calls Tryz.prog 37 #[.pointer (some ⟨rb,0,none⟩),.string ⟨#[40]⟩] W fun e w'=>e=.returned (.bool false)∧Kp rb W w'∧Jr v rb tb cap X T A (Ilx.tk s) w'):=hid_as fun W J=>j_accept_n J ⟨#[40]⟩ h2
  have IS:Hid (∀ W,Jr v rb tb cap X T A (Ilx.tk s) W→Calls Tryz.prog 76 #[.pointer (some ⟨rb,0,none⟩),.slice (some ⟨W.heap.size,0,none⟩) 1 1] (W.alloc (.cells #[.string ⟨#[10]⟩] 9)) fun e w'=>e=.returned (.bool false)∧Kp rb W w'∧Jr v rb tb cap X T A (Ilx.tk s) w'):=hid_as fun W J=>j_is J ⟨#[10]⟩ false h3
  have VL:=hid_as (fun W (J:Jr v rb tb cap X T A (Ilx.tk s) W)=>j_value J)
  have TD:Hid (∀ (W:World) (g:Nat),g=W.heap.size→Calls Tryz.prog 122 #[.string (tx (Ilx.hd s.L).1.text),.slice (some ⟨g,0,none⟩) 3 3] (W.alloc (.cells #[.string ⟨#[67,65,76]⟩,.string ⟨#[67,65,76,67]⟩,.string ⟨#[67,65,76,67,78]⟩] 9)) fun e w'=>e=.returned (.bool false)∧w'=W.alloc (.cells #[.string ⟨#[67,65,76]⟩,.string ⟨#[67,65,76,67]⟩,.string ⟨#[67,65,76,67,78]⟩] 9)):=hid_as fun W g hg=>told_3 _ _ _ _ W g hg false ⟨fun e=>(by cases e),fun e=>by rw [cll_mem.2 e] at h1;cases h1⟩
  have TJ:Hid (∀ (W:World) (g:Nat),g=W.heap.size→Calls Tryz.prog 122 #[.string (tx (Ilx.hd s.L).1.text),.slice (some ⟨g,0,none⟩) 3 3] (W.alloc (.cells #[.string ⟨#[74,77,80]⟩,.string ⟨#[74,77,80,67]⟩,.string ⟨#[74,77,80,67,78]⟩] 9)) fun e w'=>e=.returned (.bool false)∧w'=W.alloc (.cells #[.string ⟨#[74,77,80]⟩,.string ⟨#[74,77,80,67]⟩,.string ⟨#[74,77,80,67,78]⟩] 9)):=hid_as fun W g hg=>told_3 _ _ _ _ W g hg false ⟨fun e=>(by cases e),fun e=>by rw [jmp_mem.2 e] at h4;cases h4⟩
  clear h1
  clear h2
  clear h3
  clear h4
  clear J hB hn
  generalize Ilx.hd s.L=t0 at *
  obtain ⟨⟨ta,tk,tn,tt⟩,pl⟩:=t0
  simp only at TD htx TJ
  have hsz:(tx tt).size≤65536:=by rw [Lib.size_eq,tx_list];exact htx
  go_enter Tryz.func82,Tryz.ntmps82
  go_upto_region 1 with (first
    | (go_at_call 78;(with_reducible refine (TK.out _ J0.out).mono ?_);rintro e w1 ⟨_,rfl,⟨_,_,_,_,_,t1,rfl⟩,k1,j1⟩;cases t1;have J1:=hid_as j1;have B1:=hid_as (B0.out.kp k1 (by omega));obtain ⟨s0,s1,s2,s3,s4⟩:=bk5 B1.out;have sf:=B1.out.fr;have z1:=k1.size;have K1:=hid_as (K2.of (b:=ib) k1);clear k1 j1))
  have J2:=hid_as (J1.out.set hv ht hi hna.out 1 (.string (tx tt)))
  have B2:=hid_as (B1.out.set1 (.string (tx tt)))
  have K2':=hid_as (K1.out.set 1 (.string (tx tt)))
  clear J1 B1 K1 s0 s1 s2 s3 s4 sf
  generalize w1.setCell ⟨ib,1,none⟩ (.string (tx tt))=W2 at *
  obtain ⟨s0,s1,s2,s3,s4⟩:=bk5 B2.out
  have sf:=B2.out.fr
  have z2:=K2'.out.size
  go_upto_region 5 with (first
    | (go_at_call 122;(with_reducible refine (TD.out _ _ rfl).mono ?_);rintro e wt ⟨rfl,rfl⟩;have J3:=hid_as (J2.out.alloc (.cells #[.string ⟨#[67,65,76]⟩,.string ⟨#[67,65,76,67]⟩,.string ⟨#[67,65,76,67,78]⟩] 9));have B3:=hid_as (B2.out.alloc (.cells #[.string ⟨#[67,65,76]⟩,.string ⟨#[67,65,76,67]⟩,.string ⟨#[67,65,76,67,78]⟩] 9));have K3:=hid_as (K2'.out.alloc (.cells #[.string ⟨#[67,65,76]⟩,.string ⟨#[67,65,76,67]⟩,.string ⟨#[67,65,76,67,78]⟩] 9)))
    | (go_at_call 37;(with_reducible refine (AC.out _ J3.out).mono ?_);rintro e w4 ⟨rfl,k4,j4⟩;have J4:=hid_as j4;have B4:=hid_as (B3.out.kp k4 (by omega));have z4:=k4.size;(try rw [World.size_alloc] at z4);have K4:=hid_as k4;clear k4 j4;have K5:=hid_as (K3.out.thenK K4.out)))
  have J6:=J4
  have B6:=B4
  have K6:=K5
  clear J4 B4 K4 K5 s0 s1 s2 s3 s4 sf
  generalize w4=W6 at *
  obtain ⟨s0,s1,s2,s3,s4⟩:=bk5 B6.out
  have sf:=B6.out.fr
  have z6:=K6.out.size
  go_wp2_with (first
    | (go_at_call 76;(with_reducible refine (IS.out _ J6.out).mono ?_);rintro e w7 ⟨rfl,k7,j7⟩;have J7:=hid_as j7;have B7:=hid_as (B6.out.kp k7 (by omega));have z7:=k7.size;(try rw [World.size_alloc] at z7);have K7:=hid_as k7;clear k7 j7;have K8:=hid_as (K6.out.thenK K7.out);clear s0 s1 s2 s3 s4 sf;obtain ⟨s0,s1,s2,s3,s4⟩:=bk5 B7.out;have sf:=B7.out.fr)
    | (go_at_call 122;(with_reducible refine (TJ.out _ _ rfl).mono ?_);rintro e wt ⟨rfl,rfl⟩)
    | (go_at_call 125;(with_reducible refine (VL.out _ (J7.out.alloc (.cells #[.string ⟨#[74,77,80]⟩,.string ⟨#[74,77,80,67]⟩,.string ⟨#[74,77,80,67,78]⟩] 9))).mono ?_);rintro e w9 ⟨o9,kd9,n9,nm9,fl9,lp9,ln9,lc9,p9,rfl,e9,k9,j9⟩;have J9:=hid_as j9;have B9:=hid_as ((B7.out.alloc (.cells #[.string ⟨#[74,77,80]⟩,.string ⟨#[74,77,80,67]⟩,.string ⟨#[74,77,80,67,78]⟩] 9)).kp k9 (by omega));have z9:=k9.size;(try rw [World.size_alloc] at z9);have K9:=hid_as k9;clear k9 j9;have E9:=hid_as e9;clear e9;have KA:=hid_as ((K8.out.alloc (.cells #[.string ⟨#[74,77,80]⟩,.string ⟨#[74,77,80,67]⟩,.string ⟨#[74,77,80,67,78]⟩] 9)).thenK K9.out);clear s0 s1 s2 s3 s4 sf;have BA:=hid_as (B9.out.alloc (.cells #[.int .i64 o9,.int .i64 kd9,.int .i64 n9,.string nm9,.string fl9,.slice lp9 ln9 lc9,.int .i64 p9] 53));obtain ⟨s0,s1,s2,s3,s4⟩:=bk5 BA.out;have sf:=BA.out.fr;have JA:=hid_as ((J9.out.alloc (.cells #[.int .i64 o9,.int .i64 kd9,.int .i64 n9,.string nm9,.string fl9,.slice lp9 ln9 lc9,.int .i64 p9] 53)).set hv ht hi hna.out 2 (.slice (some ⟨w9.heap.size,0,none⟩) 1 1));have BB:=hid_as (BA.out.set2 (.slice (some ⟨w9.heap.size,0,none⟩) 1 1));have KB:=hid_as ((KA.out.alloc (.cells #[.int .i64 o9,.int .i64 kd9,.int .i64 n9,.string nm9,.string fl9,.slice lp9 ln9 lc9,.int .i64 p9] 53)).set 2 (.slice (some ⟨w9.heap.size,0,none⟩) 1 1))))
  have SE:Sl 7 Pe (fun x=>w.heap.size≤x) ((w9.alloc (.cells #[.int .i64 o9,.int .i64 kd9,.int .i64 n9,.string nm9,.string fl9,.slice lp9 ln9 lc9,.int .i64 p9] 53)).setCell ⟨ib,2,none⟩ (.slice (some ⟨w9.heap.size,0,none⟩) 1 1)) (some ⟨w9.heap.size,0,none⟩) 1 1 [Ilx.vlT (Ilx.tk s)]:=by
    have hz7:w.heap.size≤(w7.alloc (.cells #[.string ⟨#[74,77,80]⟩,.string ⟨#[74,77,80,67]⟩,.string ⟨#[74,77,80,67,78]⟩] 9)).heap.size:=(K8.out.alloc (.cells #[.string ⟨#[74,77,80]⟩,.string ⟨#[74,77,80,67]⟩,.string ⟨#[74,77,80,67,78]⟩] 9)).size
    have hz9:w.heap.size≤w9.heap.size:=KA.out.size
    refine Sl.keepK (P:=Pe) (fun _ _ _ _ o _ _=>Pe.ov o) (Sl.one rfl hz9 ⟨_,_,_,_,_,_,_,_,_,rfl,?_⟩) (Ov.set _ (by show ¬ (_≤_);omega) 2 _)
    exact E9.out.ov ((Ov.into (S':=fun x=>w.heap.size≤x) fun x (hx:(w7.alloc (.cells #[.string ⟨#[74,77,80]⟩,.string ⟨#[74,77,80,67]⟩,.string ⟨#[74,77,80,67,78]⟩] 9)).heap.size≤x) _=>Nat.le_trans hz7 hx).trans (Ov.alloc w9 _))
  go_end0
  exact ⟨rfl,KB.out,JA.out,_,_,_,_,_,_,BB.out,SE,Sl.nil⟩
set_option maxHeartbeats 2000000 in
theorem j_operation {v w:World} {rb tb cap:Nat} {X:ByteArray} {T:TL} {A:Nat→Prop} {s:Ps} {ib:Nat} {lab:ByteArray} {p:Int} (J:Jr v rb tb cap X T A s w) (hv:rb < v.heap.size) (ht:tb < v.heap.size) (hi:v.heap.size≤ib) (hB:Bk w ib #[.string lab,.string ⟨#[]⟩,.slice none 0 0,.slice none 0 0,.int .i64 p]) (hn:¬ A ib) (l:List UInt8) (m:Nat):Calls Tryz.prog 82 #[.pointer (some ⟨rb,0,none⟩),.pointer (some ⟨ib,0,none⟩)] w fun e w'=>e=.returned (.tuple #[])∧Qo v rb tb cap X T A ib lab p w (Ilx.opn s l m).1 (Ilx.opn s l m).2.op (Ilx.opn s l m).2.es (Ilx.opn s l m).2.args w':=by
  cases h1:Ilx.cll (Ilx.hd s.L).1.text with
  | true =>
    have eB:Ilx.opB s=false:=by unfold Ilx.opB;rw [h1];rfl
    have eS:Ilx.opS s=Ilx.tk s:=by unfold Ilx.opS;rw [eB];rfl
    have eO:Ilx.opO s=(Ilx.hd s.L).1.text:=by unfold Ilx.opO;rw [eB];rfl
    cases h3:Ilx.iz (Ilx.tk s) [10] with
    | true =>
      rw [Ilx.opn_1 (by rw [eS];exact h3),eS,eO]
      dsimp only
      exact iop_1 J hv ht hi hB hn h1 h3
    | false =>
      rw [Ilx.opn_2 (by rw [eS,h3];exact Bool.false_ne_true) h1,eS,eO]
      dsimp only
      exact iop_2 J hv ht hi hB hn h1 h3
  | false =>
    have c1:¬ Ilx.cll (Ilx.hd s.L).1.text=true:=by rw [h1];exact Bool.false_ne_true
    cases h2:Ilx.iz (Ilx.tk s) [40] with
    | true =>
      have eB:Ilx.opB s=true:=by unfold Ilx.opB;rw [h1,h2];rfl
      have eS:Ilx.opS s=Ilx.tk (Ilx.tk s):=by unfold Ilx.opS;rw [eB];rfl
      have eO:Ilx.opO s=(Ilx.hd s.L).1.text ++ [40]:=by unfold Ilx.opO;rw [eB];rfl
      cases h3:Ilx.iz (Ilx.tk (Ilx.tk s)) [10] with
      | true =>
        rw [Ilx.opn_1 (by rw [eS];exact h3),eS,eO]
        dsimp only
        exact iop_3 J hv ht hi hB hn h1 h2 h3
      | false =>
        have c3:¬ Ilx.iz (Ilx.opS s) [10]=true:=by rw [eS,h3];exact Bool.false_ne_true
        cases h4:Ilx.jmp ((Ilx.hd s.L).1.text ++ [40]) with
        | true =>
          rw [Ilx.opn_3 c3 c1 (by rw [eO];exact h4),eS,eO]
          dsimp only
          exact iop_4 J hv ht hi hB hn h1 h2 h3 h4
        | false =>
          rw [Ilx.opn_4 c3 c1 (by rw [eO,h4];exact Bool.false_ne_true),eS,eO]
          dsimp only
          exact iop_5 J hv ht hi hB hn h1 h2 h3 h4
    | false =>
      have eB:Ilx.opB s=false:=by unfold Ilx.opB;rw [h2,Bool.and_false]
      have eS:Ilx.opS s=Ilx.tk s:=by unfold Ilx.opS;rw [eB];rfl
      have eO:Ilx.opO s=(Ilx.hd s.L).1.text:=by unfold Ilx.opO;rw [eB];rfl
      cases h3:Ilx.iz (Ilx.tk s) [10] with
      | true =>
        rw [Ilx.opn_1 (by rw [eS];exact h3),eS,eO]
        dsimp only
        exact iop_6 J hv ht hi hB hn h1 h2 h3
      | false =>
        have c3:¬ Ilx.iz (Ilx.opS s) [10]=true:=by rw [eS,h3];exact Bool.false_ne_true
        cases h4:Ilx.jmp (Ilx.hd s.L).1.text with
        | true =>
          rw [Ilx.opn_3 c3 c1 (by rw [eO];exact h4),eS,eO]
          dsimp only
          exact iop_7 J hv ht hi hB hn h1 h2 h3 h4
        | false =>
          rw [Ilx.opn_4 c3 c1 (by rw [eO,h4];exact Bool.false_ne_true),eS,eO]
          dsimp only
          exact iop_8 J hv ht hi hB hn h1 h2 h3 h4
end Go.Proofs.YtapcpjidgemggaaGreatDoor
