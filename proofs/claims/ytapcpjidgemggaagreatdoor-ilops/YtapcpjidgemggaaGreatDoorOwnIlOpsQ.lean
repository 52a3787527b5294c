/- Every call of the law of operators returns true, with every number, and leaves it as it was; conditions: none beyond the tables and the error sort lying as the program lays them. · The chapter's example (stage 14). · The law of operators (stage 14). -/
import Derived.BigQuiet
import Derived.Test.YtapcpjidgemggaaGreatDoorQ2
import Derived.Test.YtapcpjidgemggaaGreatDoorQ7
import Derived.Test.YtapcpjidgemggaaGreatDoorQ51
import Derived.Test.YtapcpjidgemggaaGreatDoorQ37
namespace Go.Proofs.YtapcpjidgemggaaGreatDoor
open Go.RowKit
open Adr Lx Sx
open Ilx (Ps Wl)
def kt1:List UInt8:=[80,82,79,71,82,65,77,32,112,10,86,65,82,32,97,32,98,10]
def kt2:List UInt8:=[80,82,79,71,82,65,77,32,112,10,86,65,82,32,97,32,58,32,73,78,84,59,32,69,78,68,95,86,65,82,10,103,111,58,32,76,68,32,97,10,65,68,68,40,32,50,10,41,10,65,78,68,78,32,97,10,74,77,80,67,32,103,111,10,69,78,68,95,80,82,79,71,82,65,77,10]
theorem kt1_toks:toks kt1 true=((toks kt1 true).1,none):=by
  have h:(toks kt1 true).2=none:=by decide +kernel
  rw [← h]
theorem kt2_toks:toks kt2 true=((toks kt2 true).1,none):=by
  have h:(toks kt2 true).2=none:=by decide +kernel
  rw [← h]
theorem kt1_err:(Ilx.cod (Ilx.hed (toks kt1 true).1)).1.e=some (16,130):=by decide +kernel
theorem kt2_err:(Ilx.cod (Ilx.hed (toks kt2 true).1)).1.e=none:=by decide +kernel
theorem kt2_prog:(prg (Ilx.hdE (toks kt2 true).1 (Ilx.phd (toks kt2 true).1).2)).v=some ([112],1,[]):=by decide +kernel
def kdig (i:Ilx.Is):List UInt8 × List UInt8 × List (Option (Int × List UInt8)):=(i.lab,i.op,i.es.map fun t=>(t []).map fun nd=>(nd.n,nd.name))
theorem kt2_code:(Ilx.code (toks kt2 true).1).map kdig=[([103,111],[76,68],[some (0,[97])]),([],[65,68,68,40],[some (2,[])]),([],[41],[]),([],[65,78,68,78],[some (0,[97])]),([],[74,77,80,67],[some (0,[103,111])])]:=by decide +kernel
theorem kn_one (W:World) (hW:Tabs W):Calls Tryz.prog 8 #[.string ⟨#[80,82,79,71,82,65,77,32,112,10,86,65,82,32,97,32,98,10]⟩] W fun e w'=>∃ g:Nat,e=.returned (.tuple #[.agg #[.string ⟨#[]⟩,.slice none 0 0,.slice none 0 0,.bool false,.slice none 0 0,.slice none 0 0],.iface 78 (.pointer (some ⟨g,0,none⟩))])∧g < w'.heap.size∧w'.cell? ⟨g,0,none⟩=some (.int .i64 ((16:Nat):Int))∧w'.cell? ⟨g,1,none⟩=some (.int .i64 ((130:Nat):Int))∧Below W.heap.size W w' :=
  (ilp_e ⟨#[80,82,79,71,82,65,77,32,112,10,86,65,82,32,97,32,98,10]⟩ W hW (by decide) (T:=(toks kt1 true).1) kt1_toks kt1_err).mono fun _ _ ⟨g,a,_,b,c,d,e⟩=>⟨g,a,b,c,d,e⟩
theorem row_at {α:Type} {n:Nat} {P:(Nat→Prop)→World→List Value→α→Prop} {S:Nat→Prop} {w:World} {g:Nat} {xs:List Value} {l:List α} (hc:∀ (j:Nat) u,xs[j]?=some u→w.cell? ⟨g,j,none⟩=some u) (h:Rw n (P S) w xs l) {j:Nat} {a:α} (ha:l[j]?=some a):∃ cs,P S w cs a∧∀ (c:Nat) u,cs[c]?=some u→w.cell? ⟨g,j * n+c,none⟩=some u:=by
  refine ⟨_,h.2 j a ha,fun c u hu=>hc _ u ?_⟩
  rw [List.getElem?_take] at hu
  split at hu
  · rw [List.getElem?_drop] at hu
    exact hu
  · cases hu
theorem Sl.open {α:Type} {n:Nat} {P:(Nat→Prop)→World→List Value→α→Prop} {S:Nat→Prop} {w:World} {lp:Option Addr} {ln lc:Nat} {l:List α} (h:Sl n P S w lp ln lc l) (h0:l ≠ []):∃ g xs,lp=some ⟨g,0,none⟩∧ln=l.length∧ln≤lc∧S g∧g < w.heap.size∧(∀ (j:Nat) u,xs[j]?=some u→w.cell? ⟨g,j,none⟩=some u)∧Rw n (P S) w xs l:=by
  obtain ⟨h1,⟨h2,_⟩ | ⟨g,xs,h2,h3,h4,h5,h6,h7⟩⟩:=h
  · exact absurd h2 h0
  · exact ⟨g,xs,h2,h1,h3,h4,h5,h6,h7⟩
/-- An instruction of the list, its cells. -/
theorem inst_at {S:Nat→Prop} {w:World} {g:Nat} {xs:List Value} {l:List Ilx.Is} (hc:∀ (j:Nat) u,xs[j]?=some u→w.cell? ⟨g,j,none⟩=some u) (h:Rw 5 (Pi S) w xs l) {j:Nat} {a:Ilx.Is} (ha:l[j]?=some a):∃ (ep:Option Addr) (en ec:Nat),w.cell? ⟨g,j * 5,none⟩=some (.string (tx a.lab))∧w.cell? ⟨g,j * 5+1,none⟩=some (.string (tx a.op))∧w.cell? ⟨g,j * 5+2,none⟩=some (.slice ep en ec)∧Sl 7 Pe S w ep en ec a.es:=by
  obtain ⟨cs,⟨ep,en,ec,ap,an,ac,q,rfl,h1,_⟩,hcs⟩:=row_at hc h ha
  exact ⟨ep,en,ec,hcs 0 _ rfl,hcs 1 _ rfl,hcs 2 _ rfl,h1⟩
/-- The first tree of a slice. -/
theorem tree_at {S:Nat→Prop} {w:World} {ep:Option Addr} {en ec:Nat} {t:Tr} {nd:Nd} (h:Sl 7 Pe S w ep en ec [t]) (ht:t []=some nd):∃ g:Nat,ep=some ⟨g,0,none⟩∧en=1∧1≤ec∧g < w.heap.size∧w.cell? ⟨g,2,none⟩=some (.int .i64 nd.n)∧w.cell? ⟨g,3,none⟩=some (.string (tx nd.name)):=by
  obtain ⟨g,xs,h1,h2,h3,_,h4,h5,h6⟩:=h.open (by simp)
  obtain ⟨cs,⟨o,k,n,nm,fl,lp,ln,lc,p,rfl,⟨d,he⟩⟩,hcs⟩:=row_at h5 h6 (j:=0) (a:=t) rfl
  cases d with
  | zero=>exact he.elim
  | succ d =>
    obtain ⟨nd',e0,_,_,e3,e4,_⟩:=he.kids
    obtain rfl:nd=nd':=Option.some.inj (ht.symm.trans e0)
    have c2:=hcs 2 _ rfl
    have c3:=hcs 3 _ rfl
    rw [Nat.zero_mul,Nat.zero_add] at c2 c3
    rw [e3] at c2
    rw [e4] at c3
    have h2:en=1:=h2
    exact ⟨g,h1,h2,by omega,h4,c2,c3⟩
theorem kdig_at {l:List Ilx.Is} {r:List (List UInt8 × List UInt8 × List (Option (Int × List UInt8)))} (h:l.map kdig=r) (j:Nat) {x:List UInt8 × List UInt8 × List (Option (Int × List UInt8))} (hx:r[j]?=some x):∃ a,l[j]?=some a∧kdig a=x:=by
  rw [← h,List.getElem?_map] at hx
  cases ha:l[j]? with
  | none=>rw [ha] at hx;cases hx
  | some a=>rw [ha] at hx;exact ⟨a,rfl,Option.some.inj hx⟩
theorem kdig_tree {a:Ilx.Is} {x y:List UInt8} {n:Int} {nm:List UInt8} (h:kdig a=(x,y,[some (n,nm)])):a.lab=x∧a.op=y∧∃ t nd,a.es=[t]∧t []=some nd∧nd.n=n∧nd.name=nm:=by
  unfold kdig at h
  simp only [Prod.mk.injEq] at h
  obtain ⟨h1,h2,h3⟩:=h
  refine ⟨h1,h2,?_⟩
  cases he:a.es with
  | nil=>rw [he] at h3;cases h3
  | cons t l =>
    rw [he,List.map_cons] at h3
    obtain ⟨h4,h5⟩:=List.cons.inj h3
    cases l with
    | cons u l=>cases h5
    | nil =>
      cases hn:t [] with
      | none=>rw [hn] at h4;cases h4
      | some nd =>
        rw [hn] at h4
        have h4:(nd.n,nd.name)=(n,nm):=Option.some.inj h4
        simp only [Prod.mk.injEq] at h4
        exact ⟨t,nd,rfl,hn,h4.1,h4.2⟩
/-- What the example's second text comes to, cell by cell. -/
def Kn (w':World) (g e1 e4:Nat) (l1 l4:Nat):Prop:=g < w'.heap.size∧e1 < w'.heap.size∧e4 < w'.heap.size∧1≤l1∧1≤l4∧w'.cell? ⟨g,0,none⟩=some (.string ⟨#[103,111]⟩)∧w'.cell? ⟨g,6,none⟩=some (.string ⟨#[65,68,68,40]⟩)∧w'.cell? ⟨g,7,none⟩=some (.slice (some ⟨e1,0,none⟩) 1 l1)∧w'.cell? ⟨e1,2,none⟩=some (.int .i64 2)∧w'.cell? ⟨g,11,none⟩=some (.string ⟨#[41]⟩)∧w'.cell? ⟨g,16,none⟩=some (.string ⟨#[65,78,68,78]⟩)∧w'.cell? ⟨g,22,none⟩=some (.slice (some ⟨e4,0,none⟩) 1 l4)∧w'.cell? ⟨e4,3,none⟩=some (.string ⟨#[103,111]⟩)
theorem kn_two (X:ByteArray) (hX:X.data.toList=kt2) (W:World) (hW:Tabs W):Calls Tryz.prog 8 #[.string X] W fun e w'=>∃ (sa:Option Addr) (sb sc:Nat) (va:Option Addr) (vc:Nat) (ba:Option Addr) (bb bc:Nat) (g lc e1 e4 l1 l4:Nat),e=.returned (.tuple #[.agg #[.string ⟨#[112]⟩,.slice sa sb sc,.slice va 1 vc,.bool true,.slice ba bb bc,.slice (some ⟨g,0,none⟩) 5 lc],.nilIface])∧5≤lc∧Kn w' g e1 e4 l1 l4∧Below W.heap.size W w':=by
  have hsz:X.size≤60000:=by rw [Lib.size_eq,hX];decide
  refine (ilp_y X W hW hsz (T:=(toks kt2 true).1) (by rw [hX];exact kt2_toks) kt2_err kt2_prog).mono ?_
  rintro e w' ⟨sa,sb,sc,va,vc,ba,bb,bc,lp,ln,lc,rfl,sl,bl⟩
  have hlen:(Ilx.code (toks kt2 true).1).length=5:=by
    have:=congrArg List.length kt2_code
    rwa [List.length_map] at this
  have hcode:=kt2_code
  generalize Ilx.code (toks kt2 true).1=cl at *
  obtain ⟨g,xs,rfl,h2,h3,_,h4,h5,h6⟩:=sl.open (by intro e;rw [e] at hlen;cases hlen)
  obtain ⟨a0,p0,q0⟩:=kdig_at hcode 0 rfl
  obtain ⟨a1,p1,q1⟩:=kdig_at hcode 1 rfl
  obtain ⟨a2,p2,q2⟩:=kdig_at hcode 2 rfl
  obtain ⟨a3,p3,q3⟩:=kdig_at hcode 3 rfl
  obtain ⟨a4,p4,q4⟩:=kdig_at hcode 4 rfl
  obtain ⟨u0,_,_⟩:=kdig_tree q0
  obtain ⟨_,u1,t1,n1,v1,w1,x1,_⟩:=kdig_tree q1
  have u2:a2.op=[41]:=congrArg (fun z=>z.2.1) q2
  obtain ⟨_,u3,_⟩:=kdig_tree q3
  obtain ⟨_,_,t4,n4,v4,w4,_,x4⟩:=kdig_tree q4
  obtain ⟨_,_,_,c0,_,_,_⟩:=inst_at h5 h6 p0
  obtain ⟨ep1,en1,ec1,_,c1,d1,s1⟩:=inst_at h5 h6 p1
  obtain ⟨_,_,_,_,c2,_,_⟩:=inst_at h5 h6 p2
  obtain ⟨_,_,_,_,c3,_,_⟩:=inst_at h5 h6 p3
  obtain ⟨ep4,en4,ec4,_,_,d4,s4⟩:=inst_at h5 h6 p4
  rw [v1] at s1
  rw [v4] at s4
  obtain ⟨g1,rfl,rfl,f1,i1,j1,_⟩:=tree_at s1 w1
  obtain ⟨g4,rfl,rfl,f4,i4,_,j4⟩:=tree_at s4 w4
  rw [u0] at c0
  rw [u1] at c1
  rw [u2] at c2
  rw [u3] at c3
  rw [x1] at j1
  rw [x4] at j4
  have e5:ln=5:=h2.trans hlen
  subst e5
  exact ⟨sa,sb,sc,va,vc,ba,bb,bc,g,lc,g1,g4,ec1,ec4,rfl,h3,⟨h4,i1,i4,f1,f4,c0,c1,d1,j1,c2,c3,d4,j4⟩,bl⟩
theorem Kn.below {w w':World} {g e1 e4 l1 l4:Nat} (h:Kn w g e1 e4 l1 l4) (k:Below w.heap.size w w'):Kn w' g e1 e4 l1 l4:=by
  obtain ⟨a,b,c,d,d2,h0,h1,h2,h3,h4,h5,h6,h7⟩:=h
  have z:=k.size
  exact ⟨by omega,by omega,by omega,d,d2,(k.cell (p:=⟨g,0,none⟩) a).trans h0,(k.cell (p:=⟨g,6,none⟩) a).trans h1,(k.cell (p:=⟨g,7,none⟩) a).trans h2,(k.cell (p:=⟨e1,2,none⟩) b).trans h3,(k.cell (p:=⟨g,11,none⟩) a).trans h4,(k.cell (p:=⟨g,16,none⟩) a).trans h5,(k.cell (p:=⟨g,22,none⟩) a).trans h6,(k.cell (p:=⟨e4,3,none⟩) c).trans h7⟩
set_option maxHeartbeats 4000000 in
set_option maxRecDepth 100000 in
theorem known_c (w:World) (hT:Tabs w):Calls Tryz.prog 5 #[] w fun e w'=>e=.returned (.bool true)∧Below w.heap.size w w':=by
  have A1:=hid_as kn_one
  have A2:=hid_as kn_two
  have TE:Hid (∀ W g,Tabs W→W.cell? ⟨g,0,none⟩=some (.int .i64 ((16:Nat):Int))→W.cell? ⟨g,1,none⟩=some (.int .i64 ((130:Nat):Int))→Calls Tryz.prog 12 #[.iface 78 (.pointer (some ⟨g,0,none⟩))] W fun e w'=>e=.returned (.tuple #[.int .i64 16,.int .i64 130])∧Below W.heap.size W w'):=hid_as fun W g hW h0 h1=>told_err g 16 130 W hW h0 h1
  have hT0:=hid_as hT
  clear hT
  go_enter Tryz.func5,Tryz.ntmps5
  go_upto_region 3 with (first
    | (go_at_call 8;(with_reducible refine (A1.out _ hT0.out).mono ?_);rintro e w1 ⟨g1,rfl,hg1,c0,c1,b1⟩;have K1:=hid_as (below_and b1 (below_new1 w1 (.cells #[.string ⟨#[]⟩,.slice none 0 0,.slice none 0 0,.bool false,.slice none 0 0,.slice none 0 0] 33)));have T1:=hid_as (hT0.out.below K1.out);have P1:=hid_as (Bk.fresh w1 #[.string ⟨#[]⟩,.slice none 0 0,.slice none 0 0,.bool false,.slice none 0 0,.slice none 0 0] 33);have e0:=(World.cell?_alloc_lt w1 (.cells #[.string ⟨#[]⟩,.slice none 0 0,.slice none 0 0,.bool false,.slice none 0 0,.slice none 0 0] 33) ⟨g1,0,none⟩ hg1).trans c0;have e1:=(World.cell?_alloc_lt w1 (.cells #[.string ⟨#[]⟩,.slice none 0 0,.slice none 0 0,.bool false,.slice none 0 0,.slice none 0 0] 33) ⟨g1,1,none⟩ hg1).trans c1;clear b1 c0 c1)
    | (go_at_call 12;(with_reducible refine (TE.out _ _ T1.out e0 e1).mono ?_);rintro e w2 ⟨rfl,b2⟩;have K2:=hid_as (below_and K1.out b2);have T2:=hid_as (T1.out.below b2);have P2:=hid_as (P1.out.below b2);clear b2 e0 e1))
  obtain ⟨pb,hpb⟩:∃ pb,pb=w1.heap.size:=⟨_,rfl⟩
  rw [← hpb] at P2 ⊢
  replace hpb:=hid_as hpb
  clear K1 T1 P1 hg1
  go_wp2_with (first
    | (go_at_call 8;(with_reducible refine (A2.out _ ?_ _ T2.out).mono ?_);(first | exact rfl | decide);rintro e w3 ⟨sa,sb,sc,va,vc,ba,bb,bc,g,lc,e1,e4,l1,l4,rfl,hlc,kn,b3⟩;have K3:=hid_as (below_and (below_and K2.out b3) (below_new1 w3 (.cells #[.string ⟨#[112]⟩,.slice sa sb sc,.slice va 1 vc,.bool true,.slice ba bb bc,.slice (some ⟨g,0,none⟩) 5 lc] 33)));have kn2:=kn.below (below_new1 w3 (.cells #[.string ⟨#[112]⟩,.slice sa sb sc,.slice va 1 vc,.bool true,.slice ba bb bc,.slice (some ⟨g,0,none⟩) 5 lc] 33));obtain ⟨_,_,_,_,_,k0,k1,k2,k3,k4,k5,k6,k7⟩:=kn2;have P3:=hid_as ((P2.out.below b3).alloc (.cells #[.string ⟨#[112]⟩,.slice sa sb sc,.slice va 1 vc,.bool true,.slice ba bb bc,.slice (some ⟨g,0,none⟩) 5 lc] 33));obtain ⟨p0,p1,p2,p3,p4,p5⟩:=bk6 P3.out;clear b3 kn))
  go_ret
  exact ⟨rfl,K3.out⟩
end Go.Proofs.YtapcpjidgemggaaGreatDoor
namespace Go.Proofs.YtapcpjidgemggaaGreatDoor
open Go.RowKit Go.Sort
open Adr Lx Sx
theorem own_str {w:World} {base g cap n:Nat} {ss:List (List UInt8)} (o:w.ownsRow base 9 1 (.slice (some ⟨g,0,none⟩) n cap) n (ss.map encStr)) {j:Nat} {z:List UInt8} (hj:ss[j]?=some z):w.cell? ⟨g,j,none⟩=some (.string (tx z)):=by
  have q:=World.ownsRow.cells o (g:=g) rfl j (encStr z) (by rw [List.getElem?_map,hj];rfl)
  rw [show (⟨g,0,none⟩:Addr).add j=⟨g,j,none⟩ by (simp [Addr.add];omega)] at q
  exact q
theorem own_fr {w:World} {base g cap n:Nat} {xs:List Value} {e:TypeId} (o:w.ownsRow base e 1 (.slice (some ⟨g,0,none⟩) n cap) n xs) (j:Nat):w.frozen? ⟨g,j,none⟩=false∧n≤cap∧base≤g∧g < w.heap.size:=by
  have l:=World.ownsRow.lt o g rfl
  rcases o.2 with ⟨h,_⟩ | ⟨g',cap',cur,h,hb,hg,hn,_⟩
  · cases h
  · cases h
    exact ⟨Bk.fr (cs:=cur) ⟨_,hg⟩ j,hn,l.1,l.2⟩
def opsAt (n:Nat):List UInt8:=opsS.getD n []
theorem ops_at (n:Nat) (h:n < 51):opsS[n]?=some (opsAt n):=by
  unfold opsAt
  rw [List.getD_eq_getElem?_getD,List.getElem?_eq_getElem (show n < opsS.length from h)]
  rfl
theorem ops_lt (n:Nat) (h:n < 50):Op.bytesLess (opsAt n) (opsAt (n+1))=true:=by
  have q:∀ m:Fin 50,Op.bytesLess (opsAt m.1) (opsAt (m.1+1))=true:=by decide +kernel
  exact q ⟨n,h⟩
set_option maxHeartbeats 4000000 in
set_option maxRecDepth 100000 in
theorem ilops_w (k:Int) (bk:-9223372036854775808≤k∧k≤9223372036854775807) (w:World) (hT:Tabs w):Calls Tryz.prog 3 #[.int .i64 k] w fun e w'=>e=.returned (.bool true)∧Below w.heap.size w w':=by
  obtain ⟨N,hN,hN2⟩:∃ N:Nat,k % 50=N∧N < 50:=⟨(k % 50).toNat,by omega,by omega⟩
  have P1:Hid (∀ W,Calls Tryz.prog 7 #[.int .i64 k,.int .i64 50] W fun e w'=>e=.returned (.int .i64 (N:Int))∧w'=W):=hid_as fun W=>by
    have q:=hplace_c k 50 (by decide) (by decide) bk.1 bk.2 W
    rw [hN] at q
    exact q
  have KC:=hid_as (known_c w hT)
  have OC:=hid_as ops_c
  have z0:=hid_as (ops_at N (by omega))
  have z1:=hid_as (ops_at (N+1) (by omega))
  have hl:=hid_as (ops_lt N hN2)
  clear hT hN bk
  go_enter Tryz.func3,Tryz.ntmps3
  go_upto_region 8 with (first
    | (go_at_call 5;(with_reducible refine KC.out.mono ?_);rintro e w1 ⟨rfl,b1⟩;have K1:=hid_as b1;clear b1)
    | (go_at_call 6;(with_reducible refine (OC.out _).mono ?_);rintro e w2 ⟨g1,cap1,rfl,o2,b2⟩;have O2:=hid_as o2;have K2:=hid_as (below_and K1.out b2);have c2:=own_str o2 z0.out;obtain ⟨f2,n2,l2,m2⟩:=own_fr o2 N;have zz:=b2.size;clear o2 b2)
    | (go_at_call 7;(with_reducible refine (P1.out _).mono ?_);rintro e w3 ⟨rfl,rfl⟩))
  have K4:=hid_as (K2.out.setCell (p:=⟨g1,N,none⟩) (by show w.heap.size≤g1;have:=K1.out.size;omega) (.string ⟨#[]⟩))
  have z4:(w3.setCell ⟨g1,N,none⟩ (.string ⟨#[]⟩)).heap.size=w3.heap.size:=by simp [World.setCell]
  have L0:∃ y:ByteArray,(w3.setCell ⟨g1,N,none⟩ (.string ⟨#[]⟩)).cell? ⟨g1,0,none⟩=some (.string y)∧(y.toList == [65,68,68])=false:=by
    by_cases h0:N=0
    · subst h0
      exact ⟨⟨#[]⟩,World.cell?_setCell_same (w:=w3) (a:=⟨g1,0,none⟩) _ c2,by rw [Lib.toList_data];rfl⟩
    · exact ⟨tx [41],(World.cell?_setCell_other (w:=w3) (a:=⟨g1,N,none⟩) (b:=⟨g1,0,none⟩) _ (fun e=>h0 (congrArg Addr.off e))).trans (own_str O2.out (j:=0) (z:=[41]) rfl),by rw [tx_toList];rfl⟩
  obtain ⟨y0,hy0,hy1⟩:=L0
  have m4:g1 < (w3.setCell ⟨g1,N,none⟩ (.string ⟨#[]⟩)).heap.size:=by omega
  generalize w3.setCell ⟨g1,N,none⟩ (.string ⟨#[]⟩)=W4 at *
  clear c2 f2 O2 K2 K1 KC P1 zz z4 m2
  go_upto_region 9 with (go_at_call 6;(with_reducible refine (OC.out _).mono ?_);rintro e w5 ⟨g2,cap2,rfl,o5,b5⟩;have K5:=hid_as (below_and K4.out b5);have d0:w5.cell? ⟨g2,0,none⟩=some (.string ⟨#[41]⟩):=own_str o5 (j:=0) (z:=[41]) rfl;have d1:w5.cell? ⟨g2,1,none⟩=some (.string ⟨#[65,68,68]⟩):=own_str o5 (j:=1) (z:=[65,68,68]) rfl;have d50:w5.cell? ⟨g2,50,none⟩=some (.string ⟨#[88,79,82,78,40]⟩):=own_str o5 (j:=50) (z:=[88,79,82,78,40]) rfl;have dN:=own_str o5 z0.out;have dM:=own_str o5 z1.out;have e0:=(b5.cell (p:=⟨g1,0,none⟩) m4).trans hy0;obtain ⟨_,n5,_,m5⟩:=own_fr o5 N;clear o5 b5)
  obtain ⟨M,hM⟩:∃ M:Nat,M=N+1:=⟨_,rfl⟩
  rw [← hM] at dM
  rw [show (1+(N:Int))=(M:Int) by omega]
  have hl2:Op.bytesLess (tx (opsAt N)).toList (tx (opsAt M)).toList=true:=by rw [tx_toList,tx_toList,hM];exact hl.out
  have hw:IntKind.i64.wrap ((M:Int) - 1)=(N:Int):=by rw [IntKind.wrap_i64];omega
  have b1:(N:Int) < 51:=by omega
  have b2:N < 51:=by omega
  have b3:(M:Int) < 51:=by omega
  have b4:M < 51:=by omega
  have hy2:(y0.toList == (⟨#[65,68,68]⟩:ByteArray).toList)=false:=by rw [Lib.toList_data (⟨#[65,68,68]⟩:ByteArray)];exact hy1
  have hw50:IntKind.i64.wrap ((51:Int) - 1)=50:=by decide
  replace hM:=hid_as hM
  generalize tx (opsAt N)=sa at *
  generalize tx (opsAt M)=sb at *
  clear hl z0 z1 OC K4 hy0 m4
  go_quiet (fail)
  go_wp2
  go_ret
  exact ⟨rfl,below_drewN K5.out _⟩
end Go.Proofs.YtapcpjidgemggaaGreatDoor
namespace Go.Proofs.YtapcpjidgemggaaGreatDoor.ilOps
open Go.ChangeShapes Go.WideShapes Go.ChangeAt Go.RowKit
open Adr Lx

set_option maxRecDepth 100000 in
theorem contract (H:Type) (enc:TypeId × Value→H) (W:World) (base:Nat) (args:Array Value) (ds gs:List (DataW H)) (before:List MemPlace)
    (hval:∀ (j:Nat) t v,Tryz.f3.params[j]?=some t→args[j]?=some v→Value.okWide Tryz.prog W .any base t v)
    (hW:DataW.Whole enc Tryz.prog Tryz.f3.params.toList Rows.ilOpsSpec.vars false W args.toList ds gs before) (hL:laidMetH Tryz.prog Rows.ilOpsRow.laid W) (hsh:W.ShapedOpen Tryz.prog) :
    Calls Tryz.prog 3 args W fun e W'=>∃ v,e=.returned v∧Rows.ilOpsSpec.post enc Tryz.prog Tryz.f3 false true false false W args v W':=by
  have hW':=hW
  obtain ⟨p,q,hA0,hV,rfl,hfz,hnd⟩:=hW
  have hA:DataW.TrodAll enc Tryz.prog W 0 (fun _=>true) true Tryz.f3.params.toList args.toList ds p:=hA0
  rw [Tryz.params3] at hA hval
  obtain ⟨v0,vs0,d0,ds0,p0,q0,hargs,rfl,rfl,h0,r0⟩:=trodAll_cons hA
  obtain ⟨rfl,rfl,rfl⟩:=trodAll_nil r0
  obtain rfl:args=#[v0]:=by cases args;simp_all
  obtain ⟨rfl,rfl⟩:=trodVars_none hV
  obtain ⟨k,rfl,rfl,rfl,wk⟩:=open_int Tryz.underlying3 (hval 0 3 v0 rfl rfl) h0
  clear hA0
  simp only [List.append_nil] at hW'
  have bk:-9223372036854775808≤k∧k≤9223372036854775807:=by have:=bounds_i64 wk;omega
  refine (ilops_w k bk W (tabs_of hL hsh)).mono fun e W' ⟨he,hg⟩=>?_
  subst he
  exact ⟨_,rfl,_,_,_,[],[],[],hW',trodAll_cons_mk (shut_bool Tryz.underlying4 _) trodAll_mk0,trodAll_cons_mk (shut_int Tryz.underlying3 wk) (trodAll_mk0),rfl,Below.frame hg _,fun h=>by cases h⟩

theorem laid_met (os:Os):laidMetH Tryz.prog Rows.ilOpsRow.laid ((laidIn (World.holding Tryz.prog os ⟨#[],#[],[]⟩)).forCall (fun _ _=>0) ⟨#[],#[.int .i64 0],[]⟩).memory :=
  laidMetH_of_parts (laidMet_of_run' 8 (by kernel_rfl) (by kernel_rfl)) (by kernel_rfl)
theorem reads (os:Os) {H:Type} (enc:TypeId × Value→H):∃ places,DataW.whole enc Tryz.prog ((laidIn (World.holding Tryz.prog os ⟨#[],#[],[]⟩)).forCall (fun _ _=>0) ⟨#[],#[.int .i64 0],[]⟩).memory Tryz.f3.params.toList Rows.ilOpsSpec.vars false #[Value.int .i64 0].toList 8=some ([.lit (.int .i64 0)],[],places) :=
  ⟨[],by kernel_rfl⟩

set_option maxRecDepth 100000 in
theorem lifted (os:Os) (started:os.Started) (H:Type) (enc:TypeId × Value→H) (F:Stop.Interp) :
    ReturnsInHanded {} Tryz.checked os 3 .any ((OpenSpec.ofChange Rows.ilOpsSpec).preRow enc Tryz.prog Tryz.f3 Rows.ilOpsRow.domain false Rows.ilOpsRow.laid) (((OpenSpec.ofChange Rows.ilOpsSpec).at F).post enc Tryz.prog Tryz.f3 false true false false):=by
  obtain ⟨places,hx⟩:=reads os enc
  refine returnsInHanded_of_row (C:=Tryz.checked) (s:=OpenSpec.ofChange Rows.ilOpsSpec) own started (by kernel_rfl) Tryz.func3
    (witness_row_at (enc:=enc) (C:=Tryz.checked) false (laidIn (World.holding Tryz.prog os ⟨#[],#[],[]⟩)) #[.int .i64 0] rfl (by kernel_rfl) (by kernel_rfl) (by kernel_rfl)
      (OpenSpec.preRow_of_cond 8 hx (by kernel_rfl) (fun k hk=>by cases hk) (by kernel_rfl) (laid_met os))) ?_
  intro W base args ds gs before hval hW _ _ _ hL hsh _
  exact contract H enc W base args ds gs before hval hW hL hsh

theorem said:Rows.IlOpsSaid :=
  OpenClaim.holds_of_cond 3 Tryz.f3 rfl rfl rfl rfl rfl rfl rfl ⟨rfl,rfl,rfl,rfl,rfl⟩ rfl rfl rfl rfl rfl (by kernel_rfl) Tryz.func3 (by kernel_rfl)
    (of_decide_eq_true (by kernel_rfl)) (by unfold Func.isWrapper;first | (rw [if_pos (by decide +kernel)];kernel_rfl) | (rw [if_neg (by decide +kernel)];exact ⟨rfl,rfl⟩))
    (fun os started H enc _ F=>by rw [OpenClaim.pre_eq_preRow];exact lifted os started H enc F)

theorem plain (f : FuncId) (fn : Func) (hf : Tryz.pinned.checked.prog.funcNamed "rung/runglaw14.IlOps" = some f) (hfn : Tryz.pinned.checked.prog.funcs[f]? = some fn) :
    true=Tryz.pinned.checked.prog.looks []∧∀ (j:Nat) t,fn.params[j]?=some t→Tryz.pinned.checked.prog.wantsStandIn t=false:=by
  obtain rfl : f = 3 := Option.some.inj ((show Tryz.prog.funcNamed "rung/runglaw14.IlOps" = some 3 by kernel_rfl).symm.trans hf) |>.symm
  obtain rfl:fn=Tryz.f3:=(Option.some.inj (Tryz.func3.symm.trans hfn)).symm
  refine ⟨by kernel_rfl,fun j t ht=>?_⟩
  rw [Tryz.params3] at ht
  have hm:=Array.mem_of_getElem? ht
  have hc:t=3:=by simpa using hm
  obtain rfl:=hc
  exact (show Tryz.prog.wantsStandIn 3=false by kernel_rfl)

end Go.Proofs.YtapcpjidgemggaaGreatDoor.ilOps
namespace Go.Proofs.YtapcpjidgemggaaGreatDoor
theorem ilOps_card:Rows.IlOpsCardSaid :=
  Claim7.holds_tied_plain_at .later [] _ _ _ _ ilOps.said (fun _ h=>by cases h) (by kernel_rfl) (fun _ h=>by cases h) ilOps_row_tie rfl ⟨rfl,rfl⟩ (by kernel_rfl) rfl ilOps.plain (by kernel_rfl)
end Go.Proofs.YtapcpjidgemggaaGreatDoor
