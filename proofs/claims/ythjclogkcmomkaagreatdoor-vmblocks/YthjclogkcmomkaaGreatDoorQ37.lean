/- Between two rounds of run (stage 21). · The walk of run (stage 21). · Scan (stage 21). -/
import Derived.WalkMore
import Derived.Test.YthjclogkcmomkaaGreatDoorQ30
import Derived.Test.YthjclogkcmomkaaGreatDoorQ36
namespace Go.Proofs.YthjclogkcmomkaaGreatDoor
open Go.RowKit
open Fb Cod Nm Vmx
theorem Sc.toPc {B:Nat} {w:World} {g cb:Nat} {kv lv:Value} {now most:Int} {A:List Int} {s:St} (h:Sc B w g cb kv lv now most A s) (p:Nat):Sc B (w.setCell ⟨g,6,none⟩ (.int .i64 (p:Int))) g cb kv lv now most A ⟨p,s.cs,s.sk,s.st⟩∧Below B w (w.setCell ⟨g,6,none⟩ (.int .i64 (p:Int))) :=
  h.set 6 _ ⟨p,s.cs,s.sk,s.st⟩ rfl h.sk rfl
theorem Sc.toSt {B:Nat} {w:World} {g cb:Nat} {kv lv:Value} {now most:Int} {A:List Int} {s:St} (h:Sc B w g cb kv lv now most A s) (p:Nat):Sc B (w.setCell ⟨g,5,none⟩ (.int .i64 (p:Int))) g cb kv lv now most A ⟨s.pc,s.cs,s.sk,p⟩∧Below B w (w.setCell ⟨g,5,none⟩ (.int .i64 (p:Int))) :=
  h.set 5 _ ⟨s.pc,s.cs,s.sk,p⟩ rfl h.sk rfl
theorem exn_go {K:List Int} {L:List Ins} {now most:Int} {k:Nat} {s t:St} {x:Ins} (hk:k < 4194304) (hx:L[s.pc]?=some x) (he:ex1 K now most x s=.go t):exn K L now most (4194304 - k) s=exn K L now most (4194304 - (k+1)) t:=by
  rw [show 4194304 - k=(4194304 - (k+1))+1 by omega,exn,hx]
  dsimp only
  rw [he]
theorem exn_stop {K:List Int} {L:List Ins} {now most:Int} {k:Nat} {s t:St} {f:Int} {x:Ins} (hk:k < 4194304) (hx:L[s.pc]?=some x) (he:ex1 K now most x s=.stop t f):exn K L now most (4194304 - k) s=(t,f):=by
  rw [show 4194304 - k=(4194304 - (k+1))+1 by omega,exn,hx]
  dsimp only
  rw [he]
theorem ex1_st {K:List Int} {now most:Int} {x:Ins} {s t:St} (he:ex1 K now most x s=.go t):t.st≤s.st+1:=by
  unfold ex1 at he
  split at he
  all_goals try split at he
  all_goals first | (simp only [Res.go_eq] at he;subst he;simp;done) | cases he
theorem ex1_18 {K:List Int} {now most:Int} {x:Ins} {s:St} (e:x.op=18):ex1 K now most x s=Res.go ⟨x.a.toNat,s.cs,s.sk,s.st⟩:=by
  unfold ex1
  rw [e]
  rfl
theorem ex1_19 {K:List Int} {now most:Int} {x:Ins} {s:St} (e:x.op=19):ex1 K now most x s=Res.go ⟨if s.sk.getD 0 0=0 then x.a.toNat else s.pc+1,s.cs,s.sk.drop 1,s.st⟩:=by
  unfold ex1
  rw [e]
  rfl
theorem ex1_20 {K:List Int} {now most:Int} {x:Ins} {s:St} (e:x.op=20):ex1 K now most x s=Res.go ⟨if s.sk.getD 0 0=0 then s.pc+1 else x.a.toNat,s.cs,s.sk.drop 1,s.st⟩:=by
  unfold ex1
  rw [e]
  rfl
theorem ex1_21 {K:List Int} {now most:Int} {x:Ins} {s:St} (e:x.op=21):ex1 K now most x s=if most≤(s.st:Int) then Res.stop s 3 else Res.go ⟨s.pc+1,s.cs,s.sk,s.st+1⟩:=by
  unfold ex1
  rw [e]
  rfl
theorem ex1_23 {K:List Int} {now most:Int} {x:Ins} {s:St} (e:x.op=23):ex1 K now most x s=Res.stop s 0:=by
  unfold ex1
  rw [e]
  rfl
/-- Between two rounds of run. -/
structure Ru (B:Nat) (w wr:World) (g cb:Nat) (kv lv:Value) (now most:Int) (K:List Int) (L:List Ins) (s:St) (k:Nat) (t:St):Prop where
  ex:exn K L now most 4194304 s=exn K L now most (4194304 - k) t
  ok:Okv K L t
  sc:∃ A,Sc B wr g cb kv lv now most A t
  kb:Below B w wr
  sk:t.st≤k
theorem Ru.next {B:Nat} {w wr W:World} {g cb:Nat} {kv lv:Value} {now most:Int} {K:List Int} {L:List Ins} {s:St} {k:Nat} {t u:St} {x:Ins} {A:List Int} (q:Ru B w wr g cb kv lv now most K L s k t) (R:Rgt K L) (hk:k < 4194304) (hx:L[t.pc]?=some x) (he:ex1 K now most x t=.go u) (hs:Sc B W g cb kv lv now most A u) (hb:Below B w W):Ru B w W g cb kv lv now most K L s (k+1) u :=
  ⟨q.ex.trans (exn_go hk hx he),ex1_ok R q.ok hx he,⟨A,hs⟩,hb,by have:=ex1_st he;have:=q.sk;omega⟩
/-- What run tells. -/
def RunEnd (B:Nat) (w:World) (g cb:Nat) (kv lv:Value) (now most:Int) (r:St × Int) (e:Ending) (w':World):Prop :=
  ∃ A pc sk,e=.returned (.int .i64 r.2)∧Sc B w' g cb kv lv now most A ⟨pc,r.1.cs,sk,r.1.st⟩∧Below B w w'
theorem Ru.stop {B:Nat} {w wr W:World} {g cb:Nat} {kv lv:Value} {now most:Int} {K:List Int} {L:List Ins} {s:St} {k:Nat} {t:St} {x:Ins} {A sk:List Int} {f:Int} {pc:Nat} (q:Ru B w wr g cb kv lv now most K L s k t) (hk:k < 4194304) (hx:L[t.pc]?=some x) (he:ex1 K now most x t=.stop t f) (hs:Sc B W g cb kv lv now most A ⟨pc,t.cs,sk,t.st⟩) (hb:Below B w W):RunEnd B w g cb kv lv now most (exn K L now most 4194304 s) (.returned (.int .i64 f)) W:=by
  rw [q.ex,exn_stop hk hx he]
  exact ⟨A,pc,sk,rfl,hs,hb⟩
end Go.Proofs.YthjclogkcmomkaaGreatDoor
namespace Go.Proofs.YthjclogkcmomkaaGreatDoor
open Go.RowKit
open Fb Cod Nm Vmx
set_option maxHeartbeats 3200000 in
set_option maxRecDepth 100000 in
theorem run_c {B:Nat} {w:World} {g cb:Nat} {va:Option Addr} {kn kc:Nat} {la:Option Addr} {ln lc:Nat} {K:List Int} {L:List Ins} {now most:Int} {S:List Int} {s:St} (M:Mc B w va kn kc la ln lc K L) (R:Rgt K L) (O:Okv K L s) (h0:s.st=0) (h:Sc B w g cb (.slice va kn kc) (.slice la ln lc) now most S s) :
    Calls Tryz.prog 36 #[.pointer (some ⟨g,0,none⟩)] w (RunEnd B w g cb (.slice va kn kc) (.slice la ln lc) now most (exn K L now most 4194304 s)):=by
  have Q0:Hid (Ru B w w g cb (.slice va kn kc) (.slice la ln lc) now most K L s 0 s):=⟨rfl,O,⟨_,h⟩,Below.refl _ _,by omega⟩
  have MM:=hid_as M
  have RR:=hid_as R
  clear M R O h h0
  go_enter Tryz.func36,Tryz.ntmps36
  go_wp2
  go_step3
  go_wp2
  go_step3
  go_wp2
  go_loopw [3,6] (fun f i wr=>∃ (k:Nat) (t:St),k≤4194304∧f=.int .i64 3∧i=.int .i64 k∧Ru B w wr g cb (.slice va kn kc) (.slice la ln lc) now most K L s k t) (fun _ i _=>4194304 - (intOf i).toNat)
  case atStart=>exact ⟨0,s,by omega,rfl,rfl,Q0.out⟩
  case round =>
    obtain ⟨k,t,hk,rfl,rfl,hq⟩:=hrel
    have Q:=hid_as hq
    clear hq Q0
    by_cases hkn:k < 4194304
    · have hk2:(k:Int) < 4194304:=by omega
      obtain ⟨A,hs⟩:=Q.out.sc
      have c1:=hs.c1
      have c6:=hs.c6
      obtain ⟨x,hx,hr,h1,h2,h3⟩:=RR.out.at_ Q.out.ok
      have hM:=MM.out.below Q.out.kb
      obtain ⟨lb,lo,hla,z0,z1,z2,z3,z4⟩:=hM.il.at_ hx
      have hpl:t.pc < L.length:=(List.getElem?_eq_some_iff.1 hx).1
      have hln:=hM.nl
      have hpos:=RR.out.pos
      have hlB:lb < B:=hM.lB _ hla (by omega)
      have X:Hid (Xc B wr lb (lo+t.pc * 5) x):=by
        refine ⟨hlB,fun j u hj=>?_⟩
        match j,hj with
        | 0,hj=>simp [Ins.cs] at hj;subst hj;exact z0
        | 1,hj=>simp [Ins.cs] at hj;subst hj;exact z1
        | 2,hj=>simp [Ins.cs] at hj;subst hj;exact z2
        | 3,hj=>simp [Ins.cs] at hj;subst hj;exact z3
        | 4,hj=>simp [Ins.cs] at hj;subst hj;exact z4
      have hp1:(t.pc:Int) < (ln:Int):=by omega
      have hp0:(0:Int)≤(t.pc:Int):=by omega
      have hp9:(t.pc:Int) < 32768:=by omega
      have hst:=Q.out.sk
      have S0:=hid_as hs
      have HX:=hid_as hx
      have HR:=hid_as hr
      have H1:=hid_as h1
      have H2:=hid_as h2
      have HLN:=hid_as hln
      have HPOS:=hid_as hpos
      have HLEN:=hid_as Q.out.ok.len
      subst hla
      clear hs hx hr h1 h2 h3 hM z0 z1 z2 z3 z4 hpl hln hpos hlB
      go_wp2
      go_quiet (fail)
      have S1:=hid_as (S0.out.drew nq)
      have B1:Hid (Below B w (wr.drewN nq)):=below_dn Q.out.kb S0.out nq
      have X1:=hid_as (X.out.below (below_dn (Below.refl B wr) S0.out nq))
      generalize wr.drewN nq=W1 at *
      have d6:=S1.out.c6
      have f6:=S1.out.fr 6
      have T2:Hid (Sc B (W1.setCell ⟨g,6,none⟩ (.int .i64 ((t.pc:Int)+1))) g cb (.slice va kn kc) (.slice (some ⟨lb,lo,none⟩) ln lc) now most A ⟨t.pc+1,t.cs,t.sk,t.st⟩∧Below B W1 (W1.setCell ⟨g,6,none⟩ (.int .i64 ((t.pc:Int)+1)))):=S1.out.toPc (t.pc+1)
      clear c1 c6
      go_upto_region 6 with fail
      generalize (W1.setCell ⟨g,6,none⟩ (.int .i64 ((t.pc:Int)+1)))=W2 at *
      have S2:=hid_as T2.out.1
      have B2:=hid_as (B1.out.trans T2.out.2)
      have X2:=hid_as (X1.out.below T2.out.2)
      have M2:=hid_as (MM.out.below B2.out)
      have y0:=X2.out.y0
      have y1:=X2.out.y1
      clear T2 S1 B1 X1 S0 X d6 f6
      by_cases e23:x.op=23
      · rw [e23] at y0
        have FIN:=hid_as (Q.out.stop hkn HX.out (ex1_23 e23) S2.out B2.out)
        clear Q RR MM M2 X2 S2 B2 HX HR H1 H2
        go_wp2
        try rw [Exit.noGoto_ret]
        go_ret
        exact FIN.out
      by_cases e21:x.op=21
      · rw [e21] at y0
        have c4:=S2.out.c4
        have c5:=S2.out.c5
        dsimp only at c4 c5
        by_cases hm:most≤(t.st:Int)
        · have E:=hid_as (show ex1 K now most x t=.stop t 3 by rw [ex1_21 e21,if_pos hm])
          go_wp2
          go_quiet (fail)
          have FIN:=hid_as (Q.out.stop hkn HX.out E.out (S2.out.drew nq) (below_dn B2.out S2.out nq))
          clear Q RR MM M2 X2 S2 B2 HX HR H1 H2 E
          go_wp2
          try rw [Exit.noGoto_ret]
          go_ret
          exact FIN.out
        · have E:=hid_as (show ex1 K now most x t=.go ⟨t.pc+1,t.cs,t.sk,t.st+1⟩ by rw [ex1_21 e21,if_neg hm])
          have hst9:(t.st:Int) < 4194304:=by omega
          have hmd:decide (most≤(t.st:Int))=false:=decide_eq_false hm
          clear hm
          go_wp2
          go_quiet (fail)
          have S3:=hid_as (S2.out.drew nq)
          have B3:=hid_as (below_dn B2.out S2.out nq)
          generalize W2.drewN nq=W3 at *
          have d5:=S3.out.c5
          have f5:=S3.out.fr 5
          dsimp only at d5
          have T3:Hid (Sc B (W3.setCell ⟨g,5,none⟩ (.int .i64 ((t.st:Int)+1))) g cb (.slice va kn kc) (.slice (some ⟨lb,lo,none⟩) ln lc) now most A ⟨t.pc+1,t.cs,t.sk,t.st+1⟩∧Below B W3 (W3.setCell ⟨g,5,none⟩ (.int .i64 ((t.st:Int)+1)))):=S3.out.toSt (t.st+1)
          have NX:=hid_as (Q.out.next RR.out hkn HX.out E.out T3.out.1 (B3.out.trans T3.out.2))
          clear Q MM M2 X2 S2 B2 HX HR H1 H2 E T3 S3 B3
          go_upto_region 14 with fail
          go_wp2
          go_roundw
          case rel=>exact ⟨k+1,_,by omega,rfl,by go_num,NX.out⟩
          case measure=>simp [intOf];omega
      have RA:(x.op=18 ∨ x.op=19 ∨ x.op=20)→0≤x.a∧x.a < (L.length:Int):=fun e=>(rgt_ok HR.out).jmp e
      by_cases e18:x.op=18
      · rw [e18] at y0
        obtain ⟨p,hp⟩:∃ p:Nat,x.a=p:=⟨x.a.toNat,by have:=RA (Or.inl e18);omega⟩
        have E:=hid_as (show ex1 K now most x t=.go ⟨p,t.cs,t.sk,t.st⟩ by rw [ex1_18 e18,hp];rfl)
        rw [hp] at y1
        have d6:=S2.out.c6
        have f6:=S2.out.fr 6
        have T3:=hid_as (S2.out.toPc p)
        have NX:=hid_as (Q.out.next RR.out hkn HX.out E.out T3.out.1 (B2.out.trans T3.out.2))
        clear Q MM M2 X2 S2 B2 HX HR H1 H2 E T3 RA
        go_wp2
        go_roundw
        case rel=>exact ⟨k+1,_,by omega,rfl,by go_num,NX.out⟩
        case measure=>simp [intOf];omega
      by_cases e19:x.op=19
      · rw [e19] at y0
        obtain ⟨p,hp⟩:∃ p:Nat,x.a=p:=⟨x.a.toNat,by have:=RA (by omega);omega⟩
        rw [hp] at y1
        have ht:1≤t.sk.length:=by
          have h1:=H1.out
          unfold Ins.t more at h1
          rw [e19,if_neg (by decide)] at h1
          exact h1
        obtain ⟨y,r,hsk⟩:=sk1 ht
        have S2':=S2.out
        rw [hsk] at S2'
        have P2:=hid_as (pop_c S2')
        have E0:=hid_as (show ex1 K now most x t=.go ⟨if y=0 then p else t.pc+1,t.cs,r,t.st⟩ by rw [ex1_19 e19,hp,hsk];rfl)
        clear S2' S2 ht hsk
        by_cases hy:y=0
        · have E:=E0.out
          rw [if_pos hy] at E
          have EE:=hid_as E
          subst hy
          clear E E0
          go_wp2_with fail
          refine P2.out.mono ?_
          rintro e w3 ⟨rfl,s3,b3⟩
          have S3:=hid_as s3
          have B3:=hid_as (B2.out.trans b3)
          have X3:=hid_as (X2.out.below b3)
          clear s3 b3
          have d6:=S3.out.c6
          have f6:=S3.out.fr 6
          have y1:=X3.out.y1
          rw [hp] at y1
          have T3:=hid_as (S3.out.toPc p)
          have NX:=hid_as (Q.out.next RR.out hkn HX.out EE.out T3.out.1 (B3.out.trans T3.out.2))
          clear Q MM M2 X2 X3 S3 B2 B3 HX HR H1 H2 EE T3 RA P2
          go_wp2
          go_roundw
          case rel=>exact ⟨k+1,_,by omega,rfl,by go_num,NX.out⟩
          case measure=>simp [intOf];omega
        · have E:=E0.out
          rw [if_neg hy] at E
          have EE:=hid_as E
          have hyb:(y == 0)=false:=beq_eq_false_iff_ne.2 hy
          have hyc:decide (y=0)=false:=decide_eq_false hy
          have hyd:(y != 0)=true:=by rw [bne,hyb];rfl
          clear E E0 hy
          go_wp2_with fail
          refine P2.out.mono ?_
          rintro e w3 ⟨rfl,s3,b3⟩
          have S3:=hid_as s3
          have B3:=hid_as (B2.out.trans b3)
          clear s3 b3
          have NX:=hid_as (Q.out.next RR.out hkn HX.out EE.out S3.out B3.out)
          clear Q MM M2 X2 S3 B2 B3 HX HR H1 H2 EE RA P2
          go_wp2
          go_roundw
          case rel=>exact ⟨k+1,_,by omega,rfl,by go_num,NX.out⟩
          case measure=>simp [intOf];omega
      by_cases e20:x.op=20
      · rw [e20] at y0
        obtain ⟨p,hp⟩:∃ p:Nat,x.a=p:=⟨x.a.toNat,by have:=RA (by omega);omega⟩
        rw [hp] at y1
        have ht:1≤t.sk.length:=by
          have h1:=H1.out
          unfold Ins.t more at h1
          rw [e20,if_neg (by decide)] at h1
          exact h1
        obtain ⟨y,r,hsk⟩:=sk1 ht
        have S2':=S2.out
        rw [hsk] at S2'
        have P2:=hid_as (pop_c S2')
        have E0:=hid_as (show ex1 K now most x t=.go ⟨if y=0 then t.pc+1 else p,t.cs,r,t.st⟩ by rw [ex1_20 e20,hp,hsk];rfl)
        clear S2' S2 ht hsk
        by_cases hy:y=0
        · have E:=E0.out
          rw [if_pos hy] at E
          have EE:=hid_as E
          subst hy
          clear E E0
          go_wp2_with fail
          refine P2.out.mono ?_
          rintro e w3 ⟨rfl,s3,b3⟩
          have S3:=hid_as s3
          have B3:=hid_as (B2.out.trans b3)
          clear s3 b3
          have NX:=hid_as (Q.out.next RR.out hkn HX.out EE.out S3.out B3.out)
          clear Q MM M2 X2 S3 B2 B3 HX HR H1 H2 EE RA P2
          go_wp2
          go_roundw
          case rel=>exact ⟨k+1,_,by omega,rfl,by go_num,NX.out⟩
          case measure=>simp [intOf];omega
        · have E:=E0.out
          rw [if_neg hy] at E
          have EE:=hid_as E
          have hyb:(y == 0)=false:=beq_eq_false_iff_ne.2 hy
          have hyc:decide (y=0)=false:=decide_eq_false hy
          have hyd:(y != 0)=true:=by rw [bne,hyb];rfl
          clear E E0 hy
          go_wp2_with fail
          refine P2.out.mono ?_
          rintro e w3 ⟨rfl,s3,b3⟩
          have S3:=hid_as s3
          have B3:=hid_as (B2.out.trans b3)
          have X3:=hid_as (X2.out.below b3)
          clear s3 b3
          have d6:=S3.out.c6
          have f6:=S3.out.fr 6
          have y1:=X3.out.y1
          rw [hp] at y1
          have T3:=hid_as (S3.out.toPc p)
          have NX:=hid_as (Q.out.next RR.out hkn HX.out EE.out T3.out.1 (B3.out.trans T3.out.2))
          clear Q MM M2 X2 X3 S3 B2 B3 HX HR H1 H2 EE T3 RA P2
          go_wp2
          go_roundw
          case rel=>exact ⟨k+1,_,by omega,rfl,by go_num,NX.out⟩
          case measure=>simp [intOf];omega
      have DO:=hid_as (do_c M2.out X2.out S2.out HR.out HLEN.out HPOS.out.2.2.1 H1.out H2.out e18 e19 e20 e21 e23)
      have b23:(x.op == 23)=false:=beq_eq_false_iff_ne.2 e23
      have b21:(x.op == 21)=false:=beq_eq_false_iff_ne.2 e21
      have b18:(x.op == 18)=false:=beq_eq_false_iff_ne.2 e18
      have b19:(x.op == 19)=false:=beq_eq_false_iff_ne.2 e19
      have b20:(x.op == 20)=false:=beq_eq_false_iff_ne.2 e20
      have OP:Hid (∃ op,op=x.op):=⟨_,rfl⟩
      clear RA H1 H2 MM M2 X2 S2 HR HPOS HLEN e18 e19 e20 e21 e23 OP
      go_wp2_with fail
      refine DO.out.mono ?_
      rintro e w3 ⟨b3,⟨u,A3,he,rfl,s3⟩ | ⟨f,A3,sk3,he,hf,rfl,s3⟩⟩
      · have NX:=hid_as (Q.out.next RR.out hkn HX.out he s3 (B2.out.trans b3))
        clear Q B2 HX s3 b3 he DO
        go_wp2
        go_roundw
        case rel=>exact ⟨k+1,_,by omega,rfl,by go_num,NX.out⟩
        case measure=>simp [intOf];omega
      · have FIN:=hid_as (Q.out.stop hkn HX.out he s3 (B2.out.trans b3))
        have hfb:(f != 0)=true:=by simpa using hf
        clear Q B2 HX s3 b3 he DO
        go_wp2
        try rw [Exit.noGoto_ret]
        go_ret
        exact FIN.out
    · have hk3:k=4194304:=by omega
      subst hk3
      obtain ⟨A,hs⟩:=Q.out.sc
      have S2:=hid_as hs
      clear hs
      go_wp2
      try rw [Exit.noGoto_ret]
      go_ret
      have e:=Q.out.ex
      rw [Nat.sub_self,exn] at e
      unfold RunEnd
      rw [e]
      exact ⟨A,t.pc,t.sk,rfl,S2.out,Q.out.kb⟩
end Go.Proofs.YthjclogkcmomkaaGreatDoor
namespace Go.Proofs.YthjclogkcmomkaaGreatDoor
open Go.RowKit
open Fb Cod Nm Vmx
theorem add_c {w:World} {g:Nat} {kv lv v:Value} {d:Int} {rn:Nat} (h:VmAt w g kv lv d 0 v (rn:Int)) (h9:rn < 1000000000000):Calls Tryz.prog 34 #[.pointer (some ⟨g,6,none⟩),.int .u64 1] w fun e w'=>e=.returned (.int .u64 ((rn+1:Nat):Int))∧w'=w.setCell ⟨g,6,none⟩ (.int .u64 ((rn+1:Nat):Int)):=by
  have hc:w.cell? ⟨g,6,none⟩=some (.int .u64 (rn:Int)):=cell_row (k:=6) h rfl
  have hz:w.frozen? ⟨g,6,none⟩=false:=frozen_row h
  have hl:=run_call_add (P:=Tryz.prog) Tryz.func57 (by kernel_rfl) (by kernel_rfl) (by kernel_rfl) .u64 (by kernel_rfl) (y:=1) (s:=((rn+1:Nat):Int)) hc hz (by
    have e:IntKind.u64.wrap ((rn:Int)+1)=((rn+1:Nat):Int):=by
      rw [IntKind.wrap_u64];omega
    simp [Op.intArith,e])
  clear h
  go_enter Tryz.func34,Tryz.ntmps34
  go_wp2
  go_ret
  exact ⟨rfl,rfl⟩
theorem turn_two {W W':World} {b g:Nat} {kv lv:Value} (t:Turn b W W') (hne:g ≠ b) (z:W.cell? ⟨g,0,none⟩=some kv∧W.cell? ⟨g,1,none⟩=some lv):W'.cell? ⟨g,0,none⟩=some kv∧W'.cell? ⟨g,1,none⟩=some lv:=by
  have e:W'.heap[g]?=W.heap[g]?:=t.block g (lt_of_cell z.1) (fun e=>hne (by simpa using e))
  exact ⟨(World.cell?_of_block (w:=W) (a:=⟨g,0,none⟩) e).trans z.1,(World.cell?_of_block (w:=W) (a:=⟨g,1,none⟩) e).trans z.2⟩
theorem scv_len (kv lv cv:Value) (now most st pc d:Int) {A:List Int} (h:A.length=256):(scv kv lv cv now most st pc A d).length=264:=by
  unfold scv
  rw [List.length_append,List.length_append,i64s_len,h]
  rfl
theorem zero_scan:Tryz.zeroCells101=(scv (.slice none 0 0) (.slice none 0 0) (.slice none 0 0) 0 0 0 0 (List.replicate 256 0) 0).toArray:=by kernel_rfl
/-- The struct is stored whole. -/
theorem store_struct (W:World) (b:Nat) (h:W.heap[b]?=some (.cells Tryz.zeroCells101 101 (0,0))) (kp lp cp:Option Addr) (kn kc ln lc cn cc:Nat) (now most:Int) :
    ∃ W',(storeCells ⟨b,0,none⟩ (((((Tryz.zeroCells101.toList.set 0 (Value.slice kp kn kc)).set 1 (.slice lp ln lc)).set 2 (.slice cp cn cc)).set 3 (.int .i64 now)).set 4 (.int .i64 most))).run Tryz.prog W=.ok () W'∧W'.heap[b]?=some (.cells (scv (.slice kp kn kc) (.slice lp ln lc) (.slice cp cn cc) now most 0 0 (List.replicate 256 0) 0).toArray 101 (0,0))∧Turn b W W':=by
  have e:(((((Tryz.zeroCells101.toList.set 0 (Value.slice kp kn kc)).set 1 (.slice lp ln lc)).set 2 (.slice cp cn cc)).set 3 (.int .i64 now)).set 4 (.int .i64 most))=scv (.slice kp kn kc) (.slice lp ln lc) (.slice cp cn cc) now most 0 0 (List.replicate 256 0) 0:=by
    rw [zero_scan];rfl
  have l:=scv_len (.slice kp kn kc) (.slice lp ln lc) (.slice cp cn cc) now most 0 0 0 (show (List.replicate 256 (0:Int)).length=256 from List.length_replicate)
  have hz:Tryz.zeroCells101.size=264:=by rw [zero_scan,List.size_toArray];exact scv_len _ _ _ _ _ _ _ _ List.length_replicate
  have one:∀ v ∈ scv (.slice kp kn kc) (.slice lp ln lc) (.slice cp cn cc) now most 0 0 (List.replicate 256 0) 0,v.oneCell'=true:=by
    intro v hv
    unfold scv at hv
    rcases List.mem_append.1 hv with hv | hv
    · simp at hv
      rcases hv with rfl | rfl | rfl | rfl | rfl | rfl | rfl <;> rfl
    · rcases List.mem_append.1 hv with hv | hv
      · exact one_nums _ v hv
      · rw [List.mem_singleton] at hv;subst hv;rfl
  rw [e]
  generalize scv (.slice kp kn kc) (.slice lp ln lc) (.slice cp cn cc) now most 0 0 (List.replicate 256 0) 0=vs at *
  generalize Tryz.zeroCells101=zs at *
  have r:=run_storeCells_at Tryz.prog b 0 101 vs 0 zs W h (by rw [l,hz];exact Nat.le_refl _) one
  refine ⟨_,r,?_,⟨rfl,rfl,rfl,by simp [World.setRow],fun k _ hk=>setRow_other W b k _ (fun e=>hk (by simp [e]))⟩⟩
  have e2:zs.toList.take (0+0) ++ vs ++ zs.toList.drop (0+0+vs.length)=vs:=by
    rw [List.drop_of_length_le (by rw [Array.length_toList,hz,l];exact Nat.le_refl _),List.append_nil]
    rfl
  rw [setRow_heap W b _ _ _ _ h,e2]
theorem sc_start {B:Nat} {w4:World} {sb hb:Nat} {va la:Option Addr} {kn kc n lc:Nat} {K cs:List Int} {now most:Int} (kl:kn=K.length) (r4:w4.heap[sb]?=some (.cells (scv (.slice va kn kc) (.slice la n lc) (.slice (some ⟨hb,0,none⟩) kn kn) now most 0 0 (List.replicate 256 0) 0).toArray 101 (0,0))) (rc:Row64 w4 hb (wrs K cs)) (hne:sb ≠ hb) (h1:B≤sb) (h2:B≤hb) :
    Sc B w4 sb hb (.slice va kn kc) (.slice la n lc) now most (List.replicate 256 0) ⟨0,wrs K cs,[],0⟩:=by
  refine ⟨?_,rc,⟨List.length_replicate,Nat.zero_le _,fun j x hx=>by simp at hx⟩,hne,h1,h2⟩
  show w4.heap[sb]?=some (.cells (scv _ _ (.slice (some ⟨hb,0,none⟩) (wrs K cs).length (wrs K cs).length) now most 0 0 (List.replicate 256 0) 0).toArray 101 (0,0))
  rw [wrs_len,← kl]
  exact r4
theorem ex1_stop {K:List Int} {now most:Int} {x:Ins} {s t:St} {f:Int} (he:ex1 K now most x s=.stop t f):t=s:=by
  unfold ex1 at he
  split at he
  all_goals try split at he
  all_goals first | (simp only [Res.stop_eq] at he;exact he.1.symm) | cases he
theorem exn_ok {K:List Int} {L:List Ins} {now most:Int} (R:Rgt K L):∀ (n:Nat) {s:St},Okv K L s→Okv K L (exn K L now most n s).1
  | 0,s,o=>o
  | n+1,s,o=>by
    rw [exn]
    cases hx:L[s.pc]? with
    | none=>exact o
    | some x =>
      dsimp only
      rcases he:ex1 K now most x s with ⟨t,_ | f⟩
      · exact exn_ok R n (ex1_ok R o hx he)
      · have e:=ex1_stop he
        subst e
        exact o
theorem ok_start (K:List Int) (L:List Ins) (cs:List Int):Okv K L ⟨0,wrs K cs,[],0⟩ :=
  ⟨.start,wrs_len K cs,fun x hx=>by
    simp only [wrs,List.mem_map] at hx
    obtain ⟨i,_,rfl⟩:=hx
    exact sml_wr _ _,fun x hx=>by cases hx⟩
set_option maxRecDepth 100000 in
set_option maxHeartbeats 1600000 in
theorem scan_c {w:World} {g:Nat} {va ca:Option Addr} {kn kc cn cc:Nat} {la:Option Addr} {n lc rn:Nat} {K cs:List Int} {L:List Ins} (now most:Int) (h:VmAt w g (.slice va kn kc) (.slice la n lc) 1 0 .nilIface (rn:Int)) (h9:rn < 1000000000000) (M:Mc g w va kn kc la n lc K L) (R:Rgt K L) (hs:∀ u,Turn g w u→Sl u (.slice ca cn cc) (i64s cs)) (hn:cn=cs.length) :
    Calls Tryz.prog 15 #[.pointer (some ⟨g,0,none⟩),.slice ca cn cc,.int .i64 now,.int .i64 most] w fun e w'=>∃ cb:Nat,e=.returned (.tuple #[.slice (some ⟨cb,0,none⟩) kn kn,.int .i64 (exn K L now most 4194304 ⟨0,wrs K cs,[],0⟩).2,.int .i64 ((exn K L now most 4194304 ⟨0,wrs K cs,[],0⟩).1.st:Nat)])∧w.heap.size≤cb∧Row64 w' cb (exn K L now most 4194304 ⟨0,wrs K cs,[],0⟩).1.cs∧VmAt w' g (.slice va kn kc) (.slice la n lc) 1 0 .nilIface ((rn+1:Nat):Int)∧Turn g w w':=by
  obtain ⟨⟨rt,rf⟩,hrr⟩:∃ rr,rr=exn K L now most 4194304 ⟨0,wrs K cs,[],0⟩:=⟨_,rfl⟩
  rw [← hrr]
  have HRR:=hid_as hrr
  clear hrr
  have VF:=hid_as (verified_2 h)
  have HH:=hid_as h
  have MM:=hid_as M
  have RR:=hid_as R
  have SG:=hid_as hs
  have HN:=hid_as hn
  clear h M R hs hn
  go_enter Tryz.func15,Tryz.ntmps15
  go_wp2_with fail
  refine VF.out.mono ?_
  rintro e w1 ⟨rfl,b1⟩
  have R1:=hid_as ((b1.block g (row_lt HH.out)).trans HH.out)
  have AD:=hid_as (add_c R1.out h9)
  have B1:=hid_as b1
  clear b1
  go_wp2_with fail
  refine AD.out.mono ?_
  rintro e w2 ⟨rfl,hw2⟩
  have R2:Hid (VmAt w2 g (.slice va kn kc) (.slice la n lc) 1 0 .nilIface ((rn+1:Nat):Int)):=by rw [hw2];exact set_row R1.out _
  have T2:Hid (Turn g w w2):=by rw [hw2];exact (Turn.ofBelow B1.out).trans ((Turn.refl g w1).set 6 _)
  clear hw2 R1 B1 AD VF
  have c0:w2.cell? ⟨g,0,none⟩=some (.slice va kn kc):=cell_row (k:=0) R2.out rfl
  have c1:w2.cell? ⟨g,1,none⟩=some (.slice la n lc):=cell_row (k:=1) R2.out rfl
  have WA:Hid (∀ W:World,Below w2.heap.size w2 W→Calls Tryz.prog 35 #[.slice va kn kc,.slice ca cn cc] W fun e w'=>e=.returned (.slice (some ⟨W.heap.size,0,none⟩) kn kn)∧Row64 w' W.heap.size (wrs K cs)∧Below W.heap.size W w'∧(w'.cell? ⟨g,0,none⟩=some (.slice va kn kc)∧w'.cell? ⟨g,1,none⟩=some (.slice la n lc))):=fun W hW=>by
    have hg:=row_lt HH.out
    have hgs:=row_lt R2.out
    have m2:Mc g w2 va kn kc la n lc K L:=MM.out.below (T2.out.below (Nat.le_refl _) (Nat.le_of_lt hg))
    have s2:Sl w2 (.slice ca cn cc) (i64s cs):=SG.out w2 T2.out
    refine (wrapAll_c (m2.below (hW.mono (Nat.le_of_lt hgs))) (Nat.le_trans (Nat.le_of_lt hgs) hW.size) (by have:=RR.out.pos;omega) (s2.below hW) HN.out).mono (fun e w' q=>⟨q.1,q.2.1,q.2.2,keep_cell (below_and hW q.2.2) c0,keep_cell (below_and hW q.2.2) c1⟩)
  have BD0:Hid (Below w2.heap.size w2 w2.drew):=(Same.drewN w2 1).below
  have BD1:Hid (Below w2.heap.size w2 (w2.alloc (.cells Tryz.zeroCells101 101)).drew):=(below_new1 w2 (.cells Tryz.zeroCells101 101)).drew
  have RLEN:Hid (rt.cs.length=kn):=by
    show (rt,rf).1.cs.length=kn
    rw [MM.out.kl,HRR.out]
    exact (exn_ok RR.out 4194304 (ok_start K L cs)).len
  have S0:=hid_as (WA.out w2.drew BD0.out)
  have S1:Hid (Calls Tryz.prog 35 #[.slice va kn kc,.slice ca cn cc] (w2.alloc (.cells Tryz.zeroCells101 101)).drew fun e w'=>e=.returned (.slice (some ⟨w2.heap.size+1,0,none⟩) kn kn)∧Row64 w' (w2.heap.size+1) (wrs K cs)∧Below (w2.heap.size+1) (w2.alloc (.cells Tryz.zeroCells101 101)).drew w'∧(w'.cell? ⟨g,0,none⟩=some (.slice va kn kc)∧w'.cell? ⟨g,1,none⟩=some (.slice la n lc))):=by
    have q:=WA.out (w2.alloc (.cells Tryz.zeroCells101 101)).drew BD1.out
    rw [show (w2.alloc (.cells Tryz.zeroCells101 101)).drew.heap.size=w2.heap.size+1 from World.size_alloc ..] at q
    exact q
  have HZ:Hid ((w2.alloc (.cells Tryz.zeroCells101 101)).drew.heap[w2.heap.size]?=some (.cells Tryz.zeroCells101 101 (0,0))):=heap_alloc_new w2 _
  have G2:=hid_as (lt_of_cell c0)
  go_wp2
  go_region_held3 (fun W=>W.cell? ⟨g,0,none⟩=some (.slice va kn kc)∧W.cell? ⟨g,1,none⟩=some (.slice la n lc)) (first | exact ⟨c0,c1⟩ | assumption | exact ⟨keep_cell (below_new1 w3 _) z3.1,keep_cell (below_new1 w3 _) z3.2⟩ | exact turn_two t4 (Nat.ne_of_lt (lt_of_cell z3.1)) ⟨keep_cell (below_new1 w3 _) z3.1,keep_cell (below_new1 w3 _) z3.2⟩ | exact turn_two t5 (Nat.ne_of_lt G2.out) z3 | go_keep) (first | ((go_at_call 35;(with_reducible refine S0.out.mono ?_);rintro e w3 ⟨rfl,r3,b3,z3⟩;obtain ⟨w4,hst,r4,t4⟩:=store_struct (w3.alloc (.cells Tryz.zeroCells101 101)) w3.heap.size (heap_alloc_new w3 _) va la (some ⟨w2.heap.size,0,none⟩) kn kc n lc kn kn now most)) | ((go_at_call 35;(with_reducible refine S1.out.mono ?_);rintro e w3 ⟨rfl,r3,b3,z3⟩;obtain ⟨w4,hst,r4,t5⟩:=store_struct w3 w2.heap.size ((b3.block w2.heap.size (Nat.lt_succ_self _)).trans HZ.out) va la (some ⟨w2.heap.size+1,0,none⟩) kn kc n lc kn kn now most)))
  · have rc:Row64 w4 w2.heap.size (wrs K cs):=by
      have e0:w2.heap.size < w3.heap.size:=row_lt r3
      exact (t4.block w2.heap.size (by simp;omega) (fun e=>by simp at e;omega)).trans (((below_new1 w3 (.cells Tryz.zeroCells101 101)).block w2.heap.size e0).trans r3)
    have B4:Below w2.heap.size w2 w4:=by
      have b3':Below w2.heap.size w2 w3:=(Same.drewN w2 1).below.trans b3
      have hlt:w2.heap.size≤w3.heap.size:=b3'.size
      exact (b3'.trans ((below_new1 w3 (.cells Tryz.zeroCells101 101)).mono hlt)).trans (t4.below hlt (by simp;omega))
    have SCS:=sc_start (B:=w2.heap.size) MM.out.kl r4 rc (by have:=row_lt r3;have e:w2.drew.heap.size=w2.heap.size:=rfl;omega) (by have:=row_lt r3;have e:w2.drew.heap.size=w2.heap.size:=rfl;omega) (Nat.le_refl _)
    have m4:Mc w2.heap.size w4 va kn kc la n lc K L:=by
      have m0:=MM.out.below ((T2.out.below (Nat.le_refl _) (Nat.le_of_lt (row_lt HH.out))).trans (B4.mono (Nat.le_of_lt G2.out)))
      exact ⟨m0.ks,m0.kl,fun p hp h0=>Nat.lt_trans (m0.kB p hp h0) G2.out,m0.il,m0.nl,fun p hp h0=>Nat.lt_trans (m0.lB p hp h0) G2.out⟩
    have RU:=hid_as (run_c m4 RR.out (ok_start K L cs) rfl SCS)
    have B4':=hid_as B4
    clear r4 rc B4 m4 SCS r3 z3 c0 c1 WA S0 S1 BD0 BD1 HZ b3
    rw [← HRR.out] at RU
    unfold RunEnd at RU
    go_wp2_with fail
    refine RU.out.mono ?_
    rintro e w5 ⟨A5,pc5,sk5,rfl,s5,b5⟩
    have q2:=s5.c2
    have q5:=s5.c5
    have hl:rt.cs.length=kn:=RLEN.out
    dsimp only at q2 q5
    rw [hl] at q2
    have FIN:Hid (w.heap.size≤w2.heap.size∧∀ W:World,W.heap=w5.heap→Turn g w5 W→Row64 W (w2.heap.size) rt.cs∧VmAt W g (.slice va kn kc) (.slice la n lc) 1 0 .nilIface ((rn+1:Nat):Int)∧Turn g w W):=by
      have bb:=B4'.out.trans b5
      refine ⟨Nat.le_trans T2.out.size (by omega),fun W hW tW=>⟨by show W.heap[_]?=_;rw [hW];exact s5.cel,?_,T2.out.trans ((Turn.ofBelow bb).trans tW)⟩⟩
      show W.heap[g]?=_
      rw [hW,bb.block g G2.out]
      exact R2.out
    clear s5 b5 hl RU B4' RLEN
    go_wp2
    go_quiet (fail)
    go_wp2
    have FF:=FIN.out.2 (w5.drewN nq) rfl ((Turn.ofBelow (Same.drewN w5 nq).below))
    exact bodyPost_ret (v:=.tuple #[.slice (some ⟨w2.heap.size,0,none⟩) kn kn,.int .i64 rf,.int .i64 (rt.st:Int)]) (by simp [results,Tryz.results15,go_sem]) rfl ⟨_,rfl,FIN.out.1,FF⟩
  · have hlt:w2.heap.size < w3.heap.size:=by have:=row_lt r3;omega
    have rc:Row64 w4 (w2.heap.size+1) (wrs K cs):=(t5.block (w2.heap.size+1) (row_lt r3) (fun e=>by simp at e)).trans r3
    have B4:Below w2.heap.size w2 w4:=(BD1.out.trans (b3.mono (Nat.le_succ _))).trans (t5.below (Nat.le_refl _) (Nat.le_of_lt hlt))
    have SCS:=sc_start (B:=w2.heap.size) MM.out.kl r4 rc (by omega) (Nat.le_refl _) (Nat.le_succ _)
    have m4:Mc w2.heap.size w4 va kn kc la n lc K L:=by
      have m0:=MM.out.below ((T2.out.below (Nat.le_refl _) (Nat.le_of_lt (row_lt HH.out))).trans (B4.mono (Nat.le_of_lt G2.out)))
      exact ⟨m0.ks,m0.kl,fun p hp h0=>Nat.lt_trans (m0.kB p hp h0) G2.out,m0.il,m0.nl,fun p hp h0=>Nat.lt_trans (m0.lB p hp h0) G2.out⟩
    have RU:=hid_as (run_c m4 RR.out (ok_start K L cs) rfl SCS)
    have B4':=hid_as B4
    clear r4 rc B4 m4 SCS r3 z3 c0 c1 WA S0 S1 BD0 BD1 HZ b3
    rw [← HRR.out] at RU
    unfold RunEnd at RU
    go_wp2_with fail
    refine RU.out.mono ?_
    rintro e w5 ⟨A5,pc5,sk5,rfl,s5,b5⟩
    have q2:=s5.c2
    have q5:=s5.c5
    have hl:rt.cs.length=kn:=RLEN.out
    dsimp only at q2 q5
    rw [hl] at q2
    have FIN:Hid (w.heap.size≤w2.heap.size+1∧∀ W:World,W.heap=w5.heap→Turn g w5 W→Row64 W (w2.heap.size+1) rt.cs∧VmAt W g (.slice va kn kc) (.slice la n lc) 1 0 .nilIface ((rn+1:Nat):Int)∧Turn g w W):=by
      have bb:=B4'.out.trans b5
      refine ⟨Nat.le_trans T2.out.size (by omega),fun W hW tW=>⟨by show W.heap[_]?=_;rw [hW];exact s5.cel,?_,T2.out.trans ((Turn.ofBelow bb).trans tW)⟩⟩
      show W.heap[g]?=_
      rw [hW,bb.block g G2.out]
      exact R2.out
    clear s5 b5 hl RU B4' RLEN
    go_wp2
    go_quiet (fail)
    go_wp2
    have FF:=FIN.out.2 (w5.drewN nq) rfl ((Turn.ofBelow (Same.drewN w5 nq).below))
    exact bodyPost_ret (v:=.tuple #[.slice (some ⟨w2.heap.size+1,0,none⟩) kn kn,.int .i64 rf,.int .i64 (rt.st:Int)]) (by simp [results,Tryz.results15,go_sem]) rfl ⟨_,rfl,FIN.out.1,FF⟩
end Go.Proofs.YthjclogkcmomkaaGreatDoor
