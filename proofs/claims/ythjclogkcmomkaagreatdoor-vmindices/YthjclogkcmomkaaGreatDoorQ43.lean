/- Between two rounds of run (stage 21). · The walk of run (stage 21). -/
import Derived.WalkMore
import Derived.Test.YthjclogkcmomkaaGreatDoorQ42
namespace Go.Proofs.YthjclogkcmomkaaGreatDoor
open Go.RowKit
open Fb Cod Nm Vmx
theorem Sc.toPc {B:Nat} {w:World} {g cb:Nat} {kv lv:Value} {now most:Int} {A:List Int} {s:St} (h:Sc B w g cb kv lv now most A s) (p:Nat):Sc B (w.setCell ⟨g,6,none⟩ (.int .i64 (p:Int))) g cb kv lv now most A ⟨p,s.cs,s.sk,s.st⟩∧Below B w (w.setCell ⟨g,6,none⟩ (.int .i64 (p:Int))) :=
  h.set 6 _ ⟨p,s.cs,s.sk,s.st⟩ rfl h.sk rfl
theorem Sc.toSt {B:Nat} {w:World} {g cb:Nat} {kv lv:Value} {now most:Int} {A:List Int} {s:St} (h:Sc B w g cb kv lv now most A s) (p:Nat):Sc B (w.setCell ⟨g,5,none⟩ (.int .i64 (p:Int))) g cb kv lv now most A ⟨s.pc,s.cs,s.sk,p⟩∧Below B w (w.setCell ⟨g,5,none⟩ (.int .i64 (p:Int))) :=
  h.set 5 _ ⟨s.pc,s.cs,s.sk,p⟩ rfl h.sk rfl
theorem exn_go {K:List Int} {L:List Ins} {now most:Int} {k:Nat} {s t:St} {x:Ins} (hk:k < 4194304) (hx:L[s.pc]?=some x) (he:ex1 K now most x s=.go t):exn K L now most (4194304 - k) s=exn K L now most (4194304 - (k+1)) t:=by
  rw [show 4194304 - k=(4194304 - (k+1))+1 by omega,exn,hx]
  dsimp only
  rw [he]
theorem exn_stop {K:List Int} {L:List Ins} {now most:Int} {k:Nat} {s t:St} {f:Int} {x:Ins} (hk:k < 4194304) (hx:L[s.pc]?=some x) (he:ex1 K now most x s=.stop t f):exn K L now most (4194304 - k) s=(t,f):=by
  rw [show 4194304 - k=(4194304 - (k+1))+1 by omega,exn,hx]
  dsimp only
  rw [he]
theorem ex1_st {K:List Int} {now most:Int} {x:Ins} {s t:St} (he:ex1 K now most x s=.go t):t.st≤s.st+1:=by
  unfold ex1 at he
  split at he
  all_goals try split at he
  all_goals first | (simp only [Res.go_eq] at he;subst he;simp;done) | cases he
theorem ex1_18 {K:List Int} {now most:Int} {x:Ins} {s:St} (e:x.op=18):ex1 K now most x s=Res.go ⟨x.a.toNat,s.cs,s.sk,s.st⟩:=by
  unfold ex1
  rw [e]
  rfl
theorem ex1_19 {K:List Int} {now most:Int} {x:Ins} {s:St} (e:x.op=19):ex1 K now most x s=Res.go ⟨if s.sk.getD 0 0=0 then x.a.toNat else s.pc+1,s.cs,s.sk.drop 1,s.st⟩:=by
  unfold ex1
  rw [e]
  rfl
theorem ex1_20 {K:List Int} {now most:Int} {x:Ins} {s:St} (e:x.op=20):ex1 K now most x s=Res.go ⟨if s.sk.getD 0 0=0 then s.pc+1 else x.a.toNat,s.cs,s.sk.drop 1,s.st⟩:=by
  unfold ex1
  rw [e]
  rfl
theorem ex1_21 {K:List Int} {now most:Int} {x:Ins} {s:St} (e:x.op=21):ex1 K now most x s=if most≤(s.st:Int) then Res.stop s 3 else Res.go ⟨s.pc+1,s.cs,s.sk,s.st+1⟩:=by
  unfold ex1
  rw [e]
  rfl
theorem ex1_23 {K:List Int} {now most:Int} {x:Ins} {s:St} (e:x.op=23):ex1 K now most x s=Res.stop s 0:=by
  unfold ex1
  rw [e]
  rfl
/-- Between two rounds of run. -/
structure Ru (B:Nat) (w wr:World) (g cb:Nat) (kv lv:Value) (now most:Int) (K:List Int) (L:List Ins) (s:St) (k:Nat) (t:St):Prop where
  ex:exn K L now most 4194304 s=exn K L now most (4194304 - k) t
  ok:Okv K L t
  sc:∃ A,Sc B wr g cb kv lv now most A t
  kb:Below B w wr
  sk:t.st≤k
theorem Ru.next {B:Nat} {w wr W:World} {g cb:Nat} {kv lv:Value} {now most:Int} {K:List Int} {L:List Ins} {s:St} {k:Nat} {t u:St} {x:Ins} {A:List Int} (q:Ru B w wr g cb kv lv now most K L s k t) (R:Rgt K L) (hk:k < 4194304) (hx:L[t.pc]?=some x) (he:ex1 K now most x t=.go u) (hs:Sc B W g cb kv lv now most A u) (hb:Below B w W):Ru B w W g cb kv lv now most K L s (k+1) u :=
  ⟨q.ex.trans (exn_go hk hx he),ex1_ok R q.ok hx he,⟨A,hs⟩,hb,by have:=ex1_st he;have:=q.sk;omega⟩
/-- What run tells. -/
def RunEnd (B:Nat) (w:World) (g cb:Nat) (kv lv:Value) (now most:Int) (r:St × Int) (e:Ending) (w':World):Prop :=
  ∃ A pc sk,e=.returned (.int .i64 r.2)∧Sc B w' g cb kv lv now most A ⟨pc,r.1.cs,sk,r.1.st⟩∧Below B w w'
theorem Ru.stop {B:Nat} {w wr W:World} {g cb:Nat} {kv lv:Value} {now most:Int} {K:List Int} {L:List Ins} {s:St} {k:Nat} {t:St} {x:Ins} {A sk:List Int} {f:Int} {pc:Nat} (q:Ru B w wr g cb kv lv now most K L s k t) (hk:k < 4194304) (hx:L[t.pc]?=some x) (he:ex1 K now most x t=.stop t f) (hs:Sc B W g cb kv lv now most A ⟨pc,t.cs,sk,t.st⟩) (hb:Below B w W):RunEnd B w g cb kv lv now most (exn K L now most 4194304 s) (.returned (.int .i64 f)) W:=by
  rw [q.ex,exn_stop hk hx he]
  exact ⟨A,pc,sk,rfl,hs,hb⟩
end Go.Proofs.YthjclogkcmomkaaGreatDoor
namespace Go.Proofs.YthjclogkcmomkaaGreatDoor
open Go.RowKit
open Fb Cod Nm Vmx
set_option maxHeartbeats 3200000 in
set_option maxRecDepth 100000 in
theorem run_c {B:Nat} {w:World} {g cb:Nat} {va:Option Addr} {kn kc:Nat} {la:Option Addr} {ln lc:Nat} {K:List Int} {L:List Ins} {now most:Int} {S:List Int} {s:St} (M:Mc B w va kn kc la ln lc K L) (R:Rgt K L) (O:Okv K L s) (h0:s.st=0) (h:Sc B w g cb (.slice va kn kc) (.slice la ln lc) now most S s) :
    Calls Tryz.prog 36 #[.pointer (some ⟨g,0,none⟩)] w (RunEnd B w g cb (.slice va kn kc) (.slice la ln lc) now most (exn K L now most 4194304 s)):=by
  have Q0:Hid (Ru B w w g cb (.slice va kn kc) (.slice la ln lc) now most K L s 0 s):=⟨rfl,O,⟨_,h⟩,Below.refl _ _,by omega⟩
  have MM:=hid_as M
  have RR:=hid_as R
  clear M R O h h0
  go_enter Tryz.func36,Tryz.ntmps36
  go_wp2
  go_step3
  go_wp2
  go_step3
  go_wp2
  go_loopw [3,6] (fun f i wr=>∃ (k:Nat) (t:St),k≤4194304∧f=.int .i64 3∧i=.int .i64 k∧Ru B w wr g cb (.slice va kn kc) (.slice la ln lc) now most K L s k t) (fun _ i _=>4194304 - (intOf i).toNat)
  case atStart=>exact ⟨0,s,by omega,rfl,rfl,Q0.out⟩
  case round =>
    obtain ⟨k,t,hk,rfl,rfl,hq⟩:=hrel
    have Q:=hid_as hq
    clear hq Q0
    by_cases hkn:k < 4194304
    · have hk2:(k:Int) < 4194304:=by omega
      obtain ⟨A,hs⟩:=Q.out.sc
      have c1:=hs.c1
      have c6:=hs.c6
      obtain ⟨x,hx,hr,h1,h2,h3⟩:=RR.out.at_ Q.out.ok
      have hM:=MM.out.below Q.out.kb
      obtain ⟨lb,lo,hla,z0,z1,z2,z3,z4⟩:=hM.il.at_ hx
      have hpl:t.pc < L.length:=(List.getElem?_eq_some_iff.1 hx).1
      have hln:=hM.nl
      have hpos:=RR.out.pos
      have hlB:lb < B:=hM.lB _ hla (by omega)
      have X:Hid (Xc B wr lb (lo+t.pc * 5) x):=by
        refine ⟨hlB,fun j u hj=>?_⟩
        match j,hj with
        | 0,hj=>simp [Ins.cs] at hj;subst hj;exact z0
        | 1,hj=>simp [Ins.cs] at hj;subst hj;exact z1
        | 2,hj=>simp [Ins.cs] at hj;subst hj;exact z2
        | 3,hj=>simp [Ins.cs] at hj;subst hj;exact z3
        | 4,hj=>simp [Ins.cs] at hj;subst hj;exact z4
      have hp1:(t.pc:Int) < (ln:Int):=by omega
      have hp0:(0:Int)≤(t.pc:Int):=by omega
      have hp9:(t.pc:Int) < 32768:=by omega
      have hst:=Q.out.sk
      have S0:=hid_as hs
      have HX:=hid_as hx
      have HR:=hid_as hr
      have H1:=hid_as h1
      have H2:=hid_as h2
      have HLN:=hid_as hln
      have HPOS:=hid_as hpos
      have HLEN:=hid_as Q.out.ok.len
      subst hla
      clear hs hx hr h1 h2 h3 hM z0 z1 z2 z3 z4 hpl hln hpos hlB
      go_wp2
      go_quiet (fail)
      have S1:=hid_as (S0.out.drew nq)
      have B1:Hid (Below B w (wr.drewN nq)):=below_dn Q.out.kb S0.out nq
      have X1:=hid_as (X.out.below (below_dn (Below.refl B wr) S0.out nq))
      generalize wr.drewN nq=W1 at *
      have d6:=S1.out.c6
      have f6:=S1.out.fr 6
      have T2:Hid (Sc B (W1.setCell ⟨g,6,none⟩ (.int .i64 ((t.pc:Int)+1))) g cb (.slice va kn kc) (.slice (some ⟨lb,lo,none⟩) ln lc) now most A ⟨t.pc+1,t.cs,t.sk,t.st⟩∧Below B W1 (W1.setCell ⟨g,6,none⟩ (.int .i64 ((t.pc:Int)+1)))):=S1.out.toPc (t.pc+1)
      clear c1 c6
      go_upto_region 6 with fail
      generalize (W1.setCell ⟨g,6,none⟩ (.int .i64 ((t.pc:Int)+1)))=W2 at *
      have S2:=hid_as T2.out.1
      have B2:=hid_as (B1.out.trans T2.out.2)
      have X2:=hid_as (X1.out.below T2.out.2)
      have M2:=hid_as (MM.out.below B2.out)
      have y0:=X2.out.y0
      have y1:=X2.out.y1
      clear T2 S1 B1 X1 S0 X d6 f6
      by_cases e23:x.op=23
      · rw [e23] at y0
        have FIN:=hid_as (Q.out.stop hkn HX.out (ex1_23 e23) S2.out B2.out)
        clear Q RR MM M2 X2 S2 B2 HX HR H1 H2
        go_wp2
        try rw [Exit.noGoto_ret]
        go_ret
        exact FIN.out
      by_cases e21:x.op=21
      · rw [e21] at y0
        have c4:=S2.out.c4
        have c5:=S2.out.c5
        dsimp only at c4 c5
        by_cases hm:most≤(t.st:Int)
        · have E:=hid_as (show ex1 K now most x t=.stop t 3 by rw [ex1_21 e21,if_pos hm])
          go_wp2
          go_quiet (fail)
          have FIN:=hid_as (Q.out.stop hkn HX.out E.out (S2.out.drew nq) (below_dn B2.out S2.out nq))
          clear Q RR MM M2 X2 S2 B2 HX HR H1 H2 E
          go_wp2
          try rw [Exit.noGoto_ret]
          go_ret
          exact FIN.out
        · have E:=hid_as (show ex1 K now most x t=.go ⟨t.pc+1,t.cs,t.sk,t.st+1⟩ by rw [ex1_21 e21,if_neg hm])
          have hst9:(t.st:Int) < 4194304:=by omega
          have hmd:decide (most≤(t.st:Int))=false:=decide_eq_false hm
          clear hm
          go_wp2
          go_quiet (fail)
          have S3:=hid_as (S2.out.drew nq)
          have B3:=hid_as (below_dn B2.out S2.out nq)
          generalize W2.drewN nq=W3 at *
          have d5:=S3.out.c5
          have f5:=S3.out.fr 5
          dsimp only at d5
          have T3:Hid (Sc B (W3.setCell ⟨g,5,none⟩ (.int .i64 ((t.st:Int)+1))) g cb (.slice va kn kc) (.slice (some ⟨lb,lo,none⟩) ln lc) now most A ⟨t.pc+1,t.cs,t.sk,t.st+1⟩∧Below B W3 (W3.setCell ⟨g,5,none⟩ (.int .i64 ((t.st:Int)+1)))):=S3.out.toSt (t.st+1)
          have NX:=hid_as (Q.out.next RR.out hkn HX.out E.out T3.out.1 (B3.out.trans T3.out.2))
          clear Q MM M2 X2 S2 B2 HX HR H1 H2 E T3 S3 B3
          go_upto_region 14 with fail
          go_wp2
          go_roundw
          case rel=>exact ⟨k+1,_,by omega,rfl,by go_num,NX.out⟩
          case measure=>simp [intOf];omega
      have RA:(x.op=18 ∨ x.op=19 ∨ x.op=20)→0≤x.a∧x.a < (L.length:Int):=fun e=>(rgt_ok HR.out).jmp e
      by_cases e18:x.op=18
      · rw [e18] at y0
        obtain ⟨p,hp⟩:∃ p:Nat,x.a=p:=⟨x.a.toNat,by have:=RA (Or.inl e18);omega⟩
        have E:=hid_as (show ex1 K now most x t=.go ⟨p,t.cs,t.sk,t.st⟩ by rw [ex1_18 e18,hp];rfl)
        rw [hp] at y1
        have d6:=S2.out.c6
        have f6:=S2.out.fr 6
        have T3:=hid_as (S2.out.toPc p)
        have NX:=hid_as (Q.out.next RR.out hkn HX.out E.out T3.out.1 (B2.out.trans T3.out.2))
        clear Q MM M2 X2 S2 B2 HX HR H1 H2 E T3 RA
        go_wp2
        go_roundw
        case rel=>exact ⟨k+1,_,by omega,rfl,by go_num,NX.out⟩
        case measure=>simp [intOf];omega
      by_cases e19:x.op=19
      · rw [e19] at y0
        obtain ⟨p,hp⟩:∃ p:Nat,x.a=p:=⟨x.a.toNat,by have:=RA (by omega);omega⟩
        rw [hp] at y1
        have ht:1≤t.sk.length:=by
          have h1:=H1.out
          unfold Ins.t more at h1
          rw [e19,if_neg (by decide)] at h1
          exact h1
        obtain ⟨y,r,hsk⟩:=sk1 ht
        have S2':=S2.out
        rw [hsk] at S2'
        have P2:=hid_as (pop_c S2')
        have E0:=hid_as (show ex1 K now most x t=.go ⟨if y=0 then p else t.pc+1,t.cs,r,t.st⟩ by rw [ex1_19 e19,hp,hsk];rfl)
        clear S2' S2 ht hsk
        by_cases hy:y=0
        · have E:=E0.out
          rw [if_pos hy] at E
          have EE:=hid_as E
          subst hy
          clear E E0
          go_wp2_with fail
          refine P2.out.mono ?_
          rintro e w3 ⟨rfl,s3,b3⟩
          have S3:=hid_as s3
          have B3:=hid_as (B2.out.trans b3)
          have X3:=hid_as (X2.out.below b3)
          clear s3 b3
          have d6:=S3.out.c6
          have f6:=S3.out.fr 6
          have y1:=X3.out.y1
          rw [hp] at y1
          have T3:=hid_as (S3.out.toPc p)
          have NX:=hid_as (Q.out.next RR.out hkn HX.out EE.out T3.out.1 (B3.out.trans T3.out.2))
          clear Q MM M2 X2 X3 S3 B2 B3 HX HR H1 H2 EE T3 RA P2
          go_wp2
          go_roundw
          case rel=>exact ⟨k+1,_,by omega,rfl,by go_num,NX.out⟩
          case measure=>simp [intOf];omega
        · have E:=E0.out
          rw [if_neg hy] at E
          have EE:=hid_as E
          have hyb:(y == 0)=false:=beq_eq_false_iff_ne.2 hy
          have hyc:decide (y=0)=false:=decide_eq_false hy
          have hyd:(y != 0)=true:=by rw [bne,hyb];rfl
          clear E E0 hy
          go_wp2_with fail
          refine P2.out.mono ?_
          rintro e w3 ⟨rfl,s3,b3⟩
          have S3:=hid_as s3
          have B3:=hid_as (B2.out.trans b3)
          clear s3 b3
          have NX:=hid_as (Q.out.next RR.out hkn HX.out EE.out S3.out B3.out)
          clear Q MM M2 X2 S3 B2 B3 HX HR H1 H2 EE RA P2
          go_wp2
          go_roundw
          case rel=>exact ⟨k+1,_,by omega,rfl,by go_num,NX.out⟩
          case measure=>simp [intOf];omega
      by_cases e20:x.op=20
      · rw [e20] at y0
        obtain ⟨p,hp⟩:∃ p:Nat,x.a=p:=⟨x.a.toNat,by have:=RA (by omega);omega⟩
        rw [hp] at y1
        have ht:1≤t.sk.length:=by
          have h1:=H1.out
          unfold Ins.t more at h1
          rw [e20,if_neg (by decide)] at h1
          exact h1
        obtain ⟨y,r,hsk⟩:=sk1 ht
        have S2':=S2.out
        rw [hsk] at S2'
        have P2:=hid_as (pop_c S2')
        have E0:=hid_as (show ex1 K now most x t=.go ⟨if y=0 then t.pc+1 else p,t.cs,r,t.st⟩ by rw [ex1_20 e20,hp,hsk];rfl)
        clear S2' S2 ht hsk
        by_cases hy:y=0
        · have E:=E0.out
          rw [if_pos hy] at E
          have EE:=hid_as E
          subst hy
          clear E E0
          go_wp2_with fail
          refine P2.out.mono ?_
          rintro e w3 ⟨rfl,s3,b3⟩
          have S3:=hid_as s3
          have B3:=hid_as (B2.out.trans b3)
          clear s3 b3
          have NX:=hid_as (Q.out.next RR.out hkn HX.out EE.out S3.out B3.out)
          clear Q MM M2 X2 S3 B2 B3 HX HR H1 H2 EE RA P2
          go_wp2
          go_roundw
          case rel=>exact ⟨k+1,_,by omega,rfl,by go_num,NX.out⟩
          case measure=>simp [intOf];omega
        · have E:=E0.out
          rw [if_neg hy] at E
          have EE:=hid_as E
          have hyb:(y == 0)=false:=beq_eq_false_iff_ne.2 hy
          have hyc:decide (y=0)=false:=decide_eq_false hy
          have hyd:(y != 0)=true:=by rw [bne,hyb];rfl
          clear E E0 hy
          go_wp2_with fail
          refine P2.out.mono ?_
          rintro e w3 ⟨rfl,s3,b3⟩
          have S3:=hid_as s3
          have B3:=hid_as (B2.out.trans b3)
          have X3:=hid_as (X2.out.below b3)
          clear s3 b3
          have d6:=S3.out.c6
          have f6:=S3.out.fr 6
          have y1:=X3.out.y1
          rw [hp] at y1
          have T3:=hid_as (S3.out.toPc p)
          have NX:=hid_as (Q.out.next RR.out hkn HX.out EE.out T3.out.1 (B3.out.trans T3.out.2))
          clear Q MM M2 X2 X3 S3 B2 B3 HX HR H1 H2 EE T3 RA P2
          go_wp2
          go_roundw
          case rel=>exact ⟨k+1,_,by omega,rfl,by go_num,NX.out⟩
          case measure=>simp [intOf];omega
      have DO:=hid_as (do_c M2.out X2.out S2.out HR.out HLEN.out HPOS.out.2.2.1 H1.out H2.out e18 e19 e20 e21 e23)
      have b23:(x.op == 23)=false:=beq_eq_false_iff_ne.2 e23
      have b21:(x.op == 21)=false:=beq_eq_false_iff_ne.2 e21
      have b18:(x.op == 18)=false:=beq_eq_false_iff_ne.2 e18
      have b19:(x.op == 19)=false:=beq_eq_false_iff_ne.2 e19
      have b20:(x.op == 20)=false:=beq_eq_false_iff_ne.2 e20
      have OP:Hid (∃ op,op=x.op):=⟨_,rfl⟩
      clear RA H1 H2 MM M2 X2 S2 HR HPOS HLEN e18 e19 e20 e21 e23 OP
      go_wp2_with fail
      refine DO.out.mono ?_
      rintro e w3 ⟨b3,⟨u,A3,he,rfl,s3⟩ | ⟨f,A3,sk3,he,hf,rfl,s3⟩⟩
      · have NX:=hid_as (Q.out.next RR.out hkn HX.out he s3 (B2.out.trans b3))
        clear Q B2 HX s3 b3 he DO
        go_wp2
        go_roundw
        case rel=>exact ⟨k+1,_,by omega,rfl,by go_num,NX.out⟩
        case measure=>simp [intOf];omega
      · have FIN:=hid_as (Q.out.stop hkn HX.out he s3 (B2.out.trans b3))
        have hfb:(f != 0)=true:=by simpa using hf
        clear Q B2 HX s3 b3 he DO
        go_wp2
        try rw [Exit.noGoto_ret]
        go_ret
        exact FIN.out
    · have hk3:k=4194304:=by omega
      subst hk3
      obtain ⟨A,hs⟩:=Q.out.sc
      have S2:=hid_as hs
      clear hs
      go_wp2
      try rw [Exit.noGoto_ret]
      go_ret
      have e:=Q.out.ex
      rw [Nat.sub_self,exn] at e
      unfold RunEnd
      rw [e]
      exact ⟨A,t.pc,t.sk,rfl,S2.out,Q.out.kb⟩
end Go.Proofs.YthjclogkcmomkaaGreatDoor
