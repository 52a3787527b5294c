/- The walk of VmBlocks (stage 21). -/
import Derived.Test.YthjclogkcmomkaaGreatDoorQ48
namespace Go.Proofs.YthjclogkcmomkaaGreatDoor
open Go.RowKit
open Fb Cod Nm Vmx
set_option maxRecDepth 100000 in
set_option maxHeartbeats 3200000 in
theorem blocks_w (before after:Int) {w:World} {ia pa na:Option Addr} {ni ic np pc nn nc:Nat} {li lp ln:List Int} (hi:Sl w (.slice ia ni ic) (i64s li)) (hni:ni=li.length) (hp:Sl w (.slice pa np pc) (i64s lp)) (hnp:np=lp.length) (hn:Sl w (.slice na nn nc) (i64s ln)) (hnn:nn=ln.length) (h20:ni≤20∧np≤20∧nn≤20) (hT:Tabs w) :
    Calls Tryz.prog 8 #[.int .i64 before,.int .i64 after,.slice ia ni ic,.slice pa np pc,.slice na nn nc] w fun e w'=>e=.returned (.bool true)∧Below w.heap.size w w':=by
  obtain ⟨i0,hi0,hz0,hz1,hz2⟩:=info_parts Tryz.infoInt
  obtain ⟨i6,hi6,hy0,hy1,hy2⟩:=info_parts Tryz.info64
  have KN:=hid_as (known_c w hT)
  have P1:=hid_as (fun W:World=>place_9 before W)
  have P2:=hid_as (fun W:World=>place_9 after W)
  have HT:=hid_as hT
  have SI:=hid_as hi
  have SP:=hid_as hp
  have SN:=hid_as hn
  have NI:=hid_as hni
  have NP:=hid_as hnp
  have NN:=hid_as hnn
  have H20:=hid_as h20
  have n1:¬ (20:Int) < (ni:Int):=by omega
  have n2:¬ (20:Int) < (np:Int):=by omega
  have n3:¬ (20:Int) < (nn:Int):=by omega
  clear hT hi hp hn hni hnp hnn h20
  go_enter Tryz.func8,Tryz.ntmps8
  go_upto_region 6 with (first | (go_at_call 9;refine KN.out.mono ?_;rintro e w1 ⟨rfl,b1⟩) | (go_at_call 18;(with_reducible refine (P1.out _).mono ?_);rintro e w' ⟨b,hb,rfl,hw⟩;subst w') | (go_at_call 18;(with_reducible refine (P2.out _).mono ?_);rintro e w' ⟨a,ha,rfl,hw⟩;subst w'))
  have T1:=hid_as (HT.out.below b1)
  have B1:=hid_as b1
  clear b1 KN P1 P2 HT n1 n2 n3
  have HB:Hid (b < 9):=hb
  have HA:Hid (a < 9):=ha
  clear hb ha
  go_upto_region 9 with fail
  obtain ⟨cb,hcb⟩:∃ cb,cb=w1.heap.size:=⟨_,rfl⟩
  have B0:=hid_as (Bp.start w1)
  rw [← hcb] at B0 ⊢
  have CB:=hid_as hcb
  generalize hW:w1.alloc (.cells #[.slice none 0 0,.slice none 0 0] 25)=W0 at *
  clear hW hcb
  have B0:Hid (Bp w1 W0 cb (.slice none 0 0) (.slice none 0 0) (.slice none 0 0) (List.replicate 0 2) (preB 0)):=by have:=B0.out;exact this
  go_loopw [12,13] (fun v i wr=>∃ j:Nat,j≤b∧i=.int .i64 j∧∃ kv,Bp w1 wr cb kv kv v (List.replicate j 2) (preB j)) (fun _ i _=>b - (intOf i).toNat)
  case atStart=>exact ⟨0,by omega,rfl,_,B0.out⟩
  case round =>
    obtain ⟨j,hj,rfl,kv,hb⟩:=hrel
    have BP:=hid_as hb
    clear hb B0
    have c0:=BP.out.store.1
    obtain ⟨ka,kc,hwk⟩:=own_shape BP.out.ok
    obtain ⟨ca,cc,hwc⟩:=own_shape BP.out.oc
    rw [List.length_replicate] at hwk
    rw [preB_len] at hwc
    subst hwk hwc
    have LK:Hid ((List.replicate j (2:Int)).length≤9):=by rw [List.length_replicate];have:=HB.out;show j≤9;omega
    have LL:Hid ((preB j).length≤9):=by rw [preB_len];have:=HB.out;show j≤9;omega
    by_cases hjb:j < b
    · have hj2:(j:Int) < (b:Int):=by omega
      have hb9:=HB.out
      have NX:Hid (List.replicate (j+1) (2:Int)=List.replicate j 2 ++ [2]):=List.replicate_succ'
      have NY:=hid_as (preB_next j)
      go_wp2_with (first | (at_builtin;(refine wpList_append_own_at _ rfl _ _ 22 rfl w1.heap.size 3 i0 (.int .i64 0) 1 8 Tryz.underlying22 hi0 hz0 hz1 hz2 rfl (by decide) _ _ _ rfl (BP.out.ok.alloc _) _ 1 1 (i64s [2]) rfl rfl (new_cells _ _ _) (one_nums [2]) (by unfold maxLen;have:=LK.out;show _+1≤_;omega) (by have:=LK.out;show (_+1) * 8≤_;omega) (by have:=BP.out.kb.size;simp;omega) ?_);intro v' w3 hown hgrow _ hat;obtain ⟨va,vc,hv⟩:=own_shape hown;subst hv;have MP:=hid_as (BP.out.pushK (N:=[2]) hown hgrow hat);clear hown hgrow hat) | (at_builtin;(refine wpList_append_own_at _ rfl _ _ 26 rfl w1.heap.size 2 i6 (.int .i64 0) 1 8 Tryz.underlying26 hi6 hy0 hy1 hy2 rfl (by decide) _ _ _ rfl (MP.out.oc.alloc _) _ 1 1 (i64s [(j:Int)+1]) rfl rfl (new_cells _ _ _) (one_nums [(j:Int)+1]) (by unfold maxLen;have:=LL.out;show _+1≤_;omega) (by have:=LL.out;show (_+1) * 8≤_;omega) (by have:=MP.out.kb.size;simp;omega) ?_);intro v'' w5 hown hgrow _ hat;obtain ⟨vd,ve,hv⟩:=own_shape hown;subst hv;have EP:=hid_as (MP.out.pushC (N:=[(j:Int)+1]) hown hgrow hat);clear hown hgrow hat;have gs:=EP.out.store;have g1:=gs.1;have g2:=gs.2.1))
      go_roundw
      case rel=>exact ⟨j+1,by omega,by go_num,_,by have h:=gs.2.2;rw [List.length_replicate] at h;rw [NX.out,NY.out];exact h⟩
      case measure=>simp [intOf];omega
    · obtain rfl:j=b:=by omega
      have hj9:=HB.out
      go_upto_region 13 with (at_builtin;(refine wpList_append_own_at _ rfl _ _ 22 rfl w1.heap.size 3 i0 (.int .i64 0) 1 8 Tryz.underlying22 hi0 hz0 hz1 hz2 rfl (by decide) _ _ _ rfl (BP.out.ok.alloc _) _ 7 7 (i64s [1,11,1,11,4,4,4]) rfl rfl (new_cells _ _ _) (one_nums [1,11,1,11,4,4,4]) (by unfold maxLen;have:=LK.out;show _+7≤_;omega) (by have:=LK.out;show (_+7) * 8≤_;omega) (by have:=BP.out.kb.size;simp;omega) ?_);intro v' w3 hown hgrow _ hat;obtain ⟨va,vc,hv⟩:=own_shape hown;subst hv;have EP:=hid_as (BP.out.pushK (N:=[1,11,1,11,4,4,4]) hown hgrow hat);clear hown hgrow hat;have gs:=EP.out.store;have g1:=gs.1;have g2:=gs.2.1)
      have E2:=hid_as gs.2.2
      clear gs g1 g2 EP BP LK c0
      rw [List.length_replicate] at E2
      generalize w3.setCell ⟨cb,0,none⟩ (.slice va (j+7) vc)=W2 at *
      go_upto_region 15 with (at_builtin;(refine wpList_append_own_at _ rfl _ _ 26 rfl w1.heap.size 2 i6 (.int .i64 0) 1 8 Tryz.underlying26 hi6 hy0 hy1 hy2 rfl (by decide) _ _ _ rfl (E2.out.oc.alloc _) _ 7 7 (i64s [0,0,0,0,0,0,0]) rfl rfl (new_cells _ _ _) (one_nums [0,0,0,0,0,0,0]) (by unfold maxLen;have:=LL.out;show _+7≤_;omega) (by have:=LL.out;show (_+7) * 8≤_;omega) (by have:=E2.out.kb.size;simp;omega) ?_);intro v'' w5 hown hgrow _ hat;obtain ⟨vd,ve,hv⟩:=own_shape hown;subst hv;have EC:=hid_as (E2.out.pushC (N:=[0,0,0,0,0,0,0]) hown hgrow hat);clear hown hgrow hat)
      have E3:Hid (Bp w1 w5 cb (.slice va (j+7) vc) (.slice va (j+7) vc) (.slice vd ((preB j).length+7) ve) (List.replicate j 2 ++ [1,11,1,11,4,4,4] ++ List.replicate 0 6) (preB j ++ [0,0,0,0,0,0,0] ++ posB 0)):=hid_as (EC.out.cast (List.append_nil _).symm (List.append_nil _).symm)
      clear E2 EC LL
      go_loopw [12,14] (fun v i wr=>∃ h:Nat,h≤a∧i=.int .i64 h∧∃ kv,Bp w1 wr cb kv kv v (List.replicate j 2 ++ [1,11,1,11,4,4,4] ++ List.replicate h 6) (preB j ++ [0,0,0,0,0,0,0] ++ posB h)) (fun _ i _=>a - (intOf i).toNat)
      case atStart=>exact ⟨0,by omega,rfl,_,E3.out⟩
      case round =>
        obtain ⟨h,hh,rfl,kv,hb⟩:=hrel
        have BP:=hid_as hb
        clear hb E3
        have c0:=BP.out.store.1
        obtain ⟨K,hK⟩:∃ K,K=List.replicate j (2:Int) ++ [1,11,1,11,4,4,4] ++ List.replicate h 6:=⟨_,rfl⟩
        obtain ⟨l,hl⟩:∃ l,l=preB j ++ [0,0,0,0,0,0,0] ++ posB h:=⟨_,rfl⟩
        rw [← hK,← hl] at BP
        obtain ⟨ka,kc,hwk⟩:=own_shape BP.out.ok
        obtain ⟨ca,cc,hwc⟩:=own_shape BP.out.oc
        have e1:K.length=j+7+h:=by rw [hK];simp;omega
        have e2:l.length=j+7+h:=by rw [hl];simp [preB_len,posB_len];omega
        rw [e1] at hwk
        rw [e2] at hwc
        subst hwk hwc
        have LK:Hid (K.length≤25):=by rw [e1];have:=HA.out;show j+7+h≤25;omega
        have LL:Hid (l.length≤25):=by rw [e2];have:=HA.out;show j+7+h≤25;omega
        have E1:=hid_as e1
        have E2:=hid_as e2
        have HK:=hid_as hK
        have HL:=hid_as hl
        clear e1 e2 hK hl
        by_cases hja:h < a
        · have hj2:(h:Int) < (a:Int):=by omega
          have ha9:=HA.out
          have NX:Hid (List.replicate j (2:Int) ++ [1,11,1,11,4,4,4] ++ List.replicate (h+1) 6=K ++ [6]):=by rw [HK.out,List.append_assoc _ (List.replicate h 6),← List.replicate_succ'];rfl
          have NY:Hid (preB j ++ [0,0,0,0,0,0,0] ++ posB (h+1)=l ++ [(h:Int)+100]):=by rw [HL.out,posB_next,List.append_assoc _ (posB h)];rfl
          go_wp2_with (first | (at_builtin;(refine wpList_append_own_at _ rfl _ _ 22 rfl w1.heap.size 3 i0 (.int .i64 0) 1 8 Tryz.underlying22 hi0 hz0 hz1 hz2 rfl (by decide) _ _ _ rfl (BP.out.ok.alloc _) _ 1 1 (i64s [6]) rfl rfl (new_cells _ _ _) (one_nums [6]) (by unfold maxLen;have:=LK.out;show _+1≤_;omega) (by have:=LK.out;show (_+1) * 8≤_;omega) (by have:=BP.out.kb.size;simp;omega) ?_);intro v' w3 hown hgrow _ hat;obtain ⟨va,vc,hv⟩:=own_shape hown;subst hv;have MP:=hid_as (BP.out.pushK (N:=[6]) hown hgrow hat);clear hown hgrow hat) | (at_builtin;(refine wpList_append_own_at _ rfl _ _ 26 rfl w1.heap.size 2 i6 (.int .i64 0) 1 8 Tryz.underlying26 hi6 hy0 hy1 hy2 rfl (by decide) _ _ _ rfl (MP.out.oc.alloc _) _ 1 1 (i64s [(h:Int)+100]) rfl rfl (new_cells _ _ _) (one_nums [(h:Int)+100]) (by unfold maxLen;have:=LL.out;show _+1≤_;omega) (by have:=LL.out;show (_+1) * 8≤_;omega) (by have:=MP.out.kb.size;simp;omega) ?_);intro v'' w5 hown hgrow _ hat;obtain ⟨vd,ve,hv⟩:=own_shape hown;subst hv;have EP:=hid_as (MP.out.pushC (N:=[(h:Int)+100]) hown hgrow hat);clear hown hgrow hat;have gs:=EP.out.store;have g1:=gs.1;have g2:=gs.2.1))
          go_roundw
          case rel=>exact ⟨h+1,by omega,by go_num,_,by rw [NX.out,NY.out];exact gs.2.2⟩
          case measure=>simp [intOf];omega
        · obtain rfl:h=a:=by omega
          have hKB:K=kB j h:=by rw [HK.out,List.append_assoc];rfl
          have hCB:l=cB j h [0,0,0,0,0,0,0]:=by rw [HL.out,List.append_assoc];rfl
          have BQ:=BP.out
          rw [hKB,hCB] at BQ
          have OC:wr.ownsRow w1.heap.size 2 1 (.slice ca (j+7+h) cc) (j+7+h) (i64s (cB j h [0,0,0,0,0,0,0])):=by have:=BQ.oc;rw [cB_len j h rfl] at this;exact this
          obtain ⟨va',kc',hkv,CA,LBB,LC0,LC1,LFZ⟩:=BQ.bk.code (lT j) (by rw [kB_len];omega) (by rw [kB_len];have:=HA.out;have:=HB.out;omega) (by show 2≤1000000;decide)
          rw [kB_len] at hkv CA
          simp only [Value.slice.injEq] at hkv
          obtain ⟨rfl,_,rfl⟩:=hkv
          have gf':(wr.alloc (.cells #[.int .i64 22,.int .i64 (j:Int),.int .i64 0,.int .i64 0,.string ⟨#[84,80]⟩,.int .i64 23,.int .i64 0,.int .i64 0,.int .i64 0,.string ⟨#[]⟩] 50)).frozen? ⟨cb,1,none⟩=false:=LFZ
          have g1':(wr.alloc (.cells #[.int .i64 22,.int .i64 (j:Int),.int .i64 0,.int .i64 0,.string ⟨#[84,80]⟩,.int .i64 23,.int .i64 0,.int .i64 0,.int .i64 0,.string ⟨#[]⟩] 50)).cell? ⟨cb,1,none⟩=some (.slice none 0 0):=keep_cell (below_new1 wr _) BQ.bk.c1
          have OC3:=(own_below OC (below_new1 wr (.cells (insv (lT j)).toArray 50)) (Nat.le_refl _)).kept ((Turn.refl cb _).set 1 (.slice (some ⟨wr.heap.size,0,none⟩) (lT j).length (lT j).length)) (Or.inr (fun e=>BQ.nc e))
          obtain ⟨W3,hW⟩:∃ W3,((wr.alloc (.cells (insv (lT j)).toArray 50)).setCell ⟨cb,1,none⟩ (.slice (some ⟨wr.heap.size,0,none⟩) (lT j).length (lT j).length))=W3:=⟨_,rfl⟩
          rw [hW] at CA LBB LC0 LC1 OC3
          have HWW:Hid (((wr.alloc (.cells #[.int .i64 22,.int .i64 (j:Int),.int .i64 0,.int .i64 0,.string ⟨#[84,80]⟩,.int .i64 23,.int .i64 0,.int .i64 0,.int .i64 0,.string ⟨#[]⟩] 50)).setCell ⟨cb,1,none⟩ (.slice (some ⟨wr.heap.size,0,none⟩) 2 2))=W3):=hW
          have HCA:=hid_as CA
          have HLB:=hid_as LBB
          have HLC:Hid (W3.cell? ⟨cb,0,none⟩=some (.slice ka (j+7+h) kc)∧W3.cell? ⟨cb,1,none⟩=some (.slice (some ⟨wr.heap.size,0,none⟩) 2 2)):=⟨LC0,LC1⟩
          have HOC:=hid_as OC3
          clear CA LBB LC0 LC1 LFZ hW OC3 OC BQ BP LK LL E1 E2 HK HL hKB hCB c0
          go_upto_region 19 with fail
          rw [HWW.out]
          clear HWW gf' g1'
          have c0:=HLC.out.1
          have c1:=HLC.out.2
          have T3:=hid_as (T1.out.below HLB.out)
          have HV:=hid_as (lT_ver HB.out HA.out)
          have NW:Hid (Calls Tryz.prog 11 #[.agg #[.slice ka (j+7+h) kc,.slice (some ⟨wr.heap.size,0,none⟩) 2 2]] W3 fun e w'=>∃ g,e=.returned (.tuple #[.pointer (some ⟨g,0,none⟩),.nilIface])∧Mb W3.heap.size w' g (kB j h) (lT j) 0∧W3.heap.size≤g∧Below W3.heap.size W3 w'):=new_b HCA.out T3.out HV.out
          go_wp2_with fail
          refine NW.out.mono ?_
          rintro e w4 ⟨g,rfl,m4,hg,b4⟩
          have B4:=hid_as (below_and (below_and B1.out HLB.out) b4)
          have O4:=own_base (own_below HOC.out b4 (Nat.le_refl _)) B1.out.size
          obtain ⟨bb,bc,e⟩:=own_at O4 (by omega)
          simp only [Value.slice.injEq] at e
          obtain ⟨rfl,_,rfl⟩:=e
          have hbb:=HOC.out.lt bb rfl
          have hgl:=m4.mh.lt
          have k5:=below_new1 w4 (.cells #[.int .i64 0,.int .i64 0,.int .i64 0] 57)
          have TR:=hid_as (show Tr w (w4.alloc (.cells #[.int .i64 0,.int .i64 0,.int .i64 0] 57)) W3.heap.size g w4.heap.size bb cc j h [0,0,0,0,0,0,0] [] 0 0 0 (.slice none 0 0) 0 from ⟨Tp7.start,own_below O4 k5 (Nat.le_refl _),heap_alloc_new w4 _,Or.inl ⟨rfl,rfl⟩,m4.below k5,hbb.2,by omega,by omega,by have:=b4.size;omega,B4.out.size,Nat.le_trans (below_and B1.out HLB.out).size hg,below_and B4.out k5⟩)
          clear m4 hg b4 NW c0 c1 HLC HCA HLB HOC O4 hbb hgl k5 T3 HV B4
          go_upto_region 25 with fail
          generalize w4.alloc (.cells #[.int .i64 0,.int .i64 0,.int .i64 0] 57)=W5 at *
          generalize w4.heap.size=kp at *
          go_loopw [17,19] (fun ov i wr=>∃ t:Nat,t≤ni∧t≤np∧t≤nn∧i=.int .i64 t∧∃ m o k0 k1 k2,Tr w wr W3.heap.size g kp bb cc j h m o k0 k1 k2 ov t) (fun _ i _=>25 - (intOf i).toNat)
          case atStart=>exact ⟨0,by omega,by omega,by omega,rfl,_,_,_,_,_,TR.out⟩
          case round =>
            obtain ⟨t,t1,t2,t3,rfl,m,o,k0,k1,k2,hr⟩:=hrel
            have RT:=hid_as hr
            have h20:=H20.out
            clear hr TR
            by_cases q1:t < ni
            · by_cases q2:t < np
              · by_cases q3:t < nn
                · have d1:(t:Int) < (ni:Int):=by omega
                  have d2:(t:Int) < (np:Int):=by omega
                  have d3:(t:Int) < (nn:Int):=by omega
                  obtain ⟨ib,io,rfl,ci0⟩:=sl64_at (SI.out) (k:=t) (by rw [← NI.out];exact q1)
                  obtain ⟨pb,po,rfl,cp0⟩:=sl64_at (SP.out) (k:=t) (by rw [← NP.out];exact q2)
                  obtain ⟨nb,no,rfl,cn⟩:=sl64_at (SN.out) (k:=t) (by rw [← NN.out];exact q3)
                  obtain ⟨x,hx⟩:∃ x,x=li.getD t 0:=⟨_,rfl⟩
                  obtain ⟨y,hy⟩:∃ y,y=lp.getD t 0:=⟨_,rfl⟩
                  obtain ⟨z,hz⟩:∃ z,z=ln.getD t 0:=⟨_,rfl⟩
                  have NE:Hid (ib ≠ bb∧pb ≠ bb∧nb ≠ bb):=by
                    have h1:=lt_of_cell ci0
                    have h2:=lt_of_cell cp0
                    have h3:=lt_of_cell cn
                    have h4:=(RT.out.oc.lt bb rfl).1
                    simp only at h1 h2 h3
                    exact ⟨by omega,by omega,by omega⟩
                  have ci:=keep_cell RT.out.bl ci0
                  have cp:=keep_cell RT.out.bl cp0
                  clear ci0 cp0
                  rw [← hx] at ci
                  rw [← hy] at cp
                  rw [← hz] at cn
                  clear hx hy hz
                  have b1:(j:Int) < ((j+7+h:Nat):Int):=by omega
                  have b2:((j+1:Nat):Int) < ((j+7+h:Nat):Int):=by omega
                  have b3:(j:Int) < (j:Int)+7+(h:Int):=by omega
                  have b4:(j:Int)+1 < (j:Int)+7+(h:Int):=by omega
                  have bq5:(0:Int)≤(j:Int)+1:=by omega
                  have bq6:¬ (j:Int)+1 < 0:=by omega
                  have bq7:(1:Int) < 7+(h:Int):=by omega
                  have bq8:((j:Int)+1).toNat=j+1:=by omega
                  have hb9:=HB.out
                  have w1':IntKind.i64.wrap ((j:Int)+1)=(j:Int)+1:=by rw [IntKind.wrap_i64];omega
                  have S1:Hid (∀ W:World,Below wr.heap.size wr W→Calls Tryz.prog 19 #[.int .i64 1,.int .i64 x] W fun e w'=>e=.returned (.int .i64 (Nm.wr 1 x))∧Below wr.heap.size wr w'∧(w'.cell? ⟨ib,io+t,none⟩=some (.int .i64 x)∧w'.cell? ⟨pb,po+t,none⟩=some (.int .i64 y))):=fun W hW=>(wrap_r 1 x W).mono (fun e w' (q:e=.returned (.int .i64 (Nm.wr 1 x))∧Kept W w')=>⟨q.1,below_and hW q.2,keep_cell (below_and hW q.2) ci,keep_cell (below_and hW q.2) cp⟩)
                  have S2:Hid (∀ W:World,Below wr.heap.size wr W→Calls Tryz.prog 19 #[.int .i64 11,.int .i64 y] W fun e w'=>e=.returned (.int .i64 (Nm.wr 11 y))∧Below wr.heap.size wr w'∧(w'.cell? ⟨ib,io+t,none⟩=some (.int .i64 x)∧w'.cell? ⟨pb,po+t,none⟩=some (.int .i64 y))):=fun W hW=>(wrap_r 11 y W).mono (fun e w' (q:e=.returned (.int .i64 (Nm.wr 11 y))∧Kept W w')=>⟨q.1,below_and hW q.2,keep_cell (below_and hW q.2) ci,keep_cell (below_and hW q.2) cp⟩)
                  have BD:Hid (Below wr.heap.size wr wr.drew):=(Same.drewN wr 1).below
                  go_upto_region 27 with fail
                  go_region_held3 (fun W=>W.cell? ⟨ib,io+t,none⟩=some (.int .i64 x)∧W.cell? ⟨pb,po+t,none⟩=some (.int .i64 y)) (first | exact ⟨ci,cp⟩ | assumption | exact turn_far ((Turn.refl bb w7).set _ _) NE.out.1 NE.out.2.1 z7 | exact turn_far (((Turn.refl bb w7).set _ _).set _ _) NE.out.1 NE.out.2.1 z7 | go_keep) (first | ((go_at_call 19;(with_reducible refine (S1.out _ ?_).mono ?_);(exact BD.out);rintro e w6 ⟨rfl,b6,z6⟩)) | ((go_at_call 19;(with_reducible refine (S2.out _ b6).mono ?_);rintro e w7 ⟨rfl,b7,z7⟩;obtain ⟨_,f0,v0,_,_⟩:=own_put (own_below RT.out.oc b7 (Nat.le_refl _)) (j:=j) (by omega) 0;obtain ⟨_,f1,v1,_,_⟩:=own_put (own_below RT.out.oc b7 (Nat.le_refl _)) (j:=j+1) (by omega) 0)))
                  have R8:=hid_as ((RT.out.same b7).ins x y)
                  have TE:Hid (t < 21):=by have:=H20.out;show t < 21;omega
                  clear RT S1 S2 BD f0 v0 f1 v1 z6 z7 b6 b7 ci cp b1 b2 b3 b4 bq5 bq6 bq7 bq8 w1'
                  generalize (w7.setCell ⟨bb,j,none⟩ (.int .i64 (Nm.wr 1 x))).setCell ⟨bb,j+1,none⟩ (.int .i64 (Nm.wr 11 y))=W8 at *
                  generalize (m.set 0 (Nm.wr 1 x)).set 1 (Nm.wr 11 y)=m' at *
                  obtain ⟨r,hr⟩:∃ r,r=tpR m' o k0 k1 k2 z:=⟨_,rfl⟩
                  have SC:Hid (Calls Tryz.prog 15 #[.pointer (some ⟨g,0,none⟩),.slice (some ⟨bb,0,none⟩) (j+7+h) cc,.int .i64 z,.int .i64 10] W8 fun e w'=>∃ cq:Nat,e=.returned (.tuple #[.slice (some ⟨cq,0,none⟩) (j+7+h) (j+7+h),.int .i64 0,.int .i64 0])∧W8.heap.size≤cq∧Row64 w' cq (cB j h (lay m' 2 (r.o ++ [r.k0,r.k1,r.k2])))∧Tr w w' W3.heap.size g kp bb cc j h m' o k0 k1 k2 u17 (t+1)):=by
                    have hgb:=R8.out.gb
                    refine (mb_scan z 10 R8.out.mh (by have:=TE.out;omega) (Rgt.of (lT_ver HB.out HA.out)) (fun u tu=>own_sl (R8.out.oc.kept tu (Or.inr (by simpa [Value.ownBlock] using Ne.symm hgb)))) (cB_len j h R8.out.tp.len).symm (scanB HB.out HA.out R8.out.tp z)).mono ?_
                    rintro e w' ⟨cq,he,h1,h2,h3,h4⟩
                    rw [kB_len] at he
                    rw [← hr] at h2
                    exact ⟨cq,he,h1,h2,R8.out.scan h4 h3⟩
                  have HR:=hid_as hr
                  have cn8:=keep_cell R8.out.bl cn
                  clear hr
                  go_upto_region 29 with (go_at_call 15;(with_reducible refine SC.out.mono ?_);rintro e w9 ⟨cq,rfl,hcq,hrow,ht⟩)
                  obtain ⟨oa,on,oc',hov,hon,hos⟩:=ht.out
                  have HQ:=hid_as hcq
                  have RW:=hid_as hrow
                  have T9:=hid_as ht
                  have H8:Hid (bb < W8.heap.size∧kp < W8.heap.size):=⟨(R8.out.oc.lt bb rfl).2,row_lt R8.out.kr⟩
                  clear hcq hrow ht SC R8 cn8
                  subst hov hon
                  have cn9:=keep_cell T9.out.bl cn
                  have v0:w9.cell? ⟨kp,0,none⟩=some (.int .i64 k0):=cell_row (k:=0) T9.out.kr rfl
                  have v1:w9.cell? ⟨kp,1,none⟩=some (.int .i64 k1):=cell_row (k:=1) T9.out.kr rfl
                  have v2:w9.cell? ⟨kp,2,none⟩=some (.int .i64 k2):=cell_row (k:=2) T9.out.kr rfl
                  have ST:Hid (∀ W:World,Below w9.heap.size w9 W→Calls Tryz.prog 22 #[.string ⟨#[84,80]⟩,.slice (some ⟨bb,j,none⟩) 2 (cc - j),.agg #[.int .i64 k0,.int .i64 k1,.int .i64 k2],.slice oa o.length oc',.int .i64 z] W fun e w'=>∃ ob:Nat,e=.returned (.tuple #[.slice (some ⟨ob,0,none⟩) r.o.length r.o.length,.agg #[.int .i64 r.k0,.int .i64 r.k1,.int .i64 r.k2]])∧w9.heap.size≤ob∧Row64 w' ob r.o∧Below w9.heap.size w9 w'):=fun W hW=>by
                    have q:=rstep_any (w:=W) 2 (by decide) k0 k1 k2 z (T9.out.two hW) (by rw [List.length_take,T9.out.tp.len];rfl) (hos W hW) rfl
                    rw [HR.out]
                    exact q.mono (fun e w' ⟨b,h1,h2,h3,h4⟩=>⟨b,h1,Nat.le_trans hW.size h2,h3,below_and hW h4⟩)
                  have hcap:=T9.out.cap
                  have hb9:=HB.out
                  have ha9:=HA.out
                  have w2':IntKind.i64.wrap ((j:Int)+2)=((j+2:Nat):Int):=by rw [IntKind.wrap_i64];omega
                  have s1:(0:Int)≤(j:Int)+2:=by omega
                  have s2:(j:Int)+2≤(cc:Int):=by omega
                  have s3:(j:Int)≤(j:Int)+2:=by omega
                  have s4:¬ cc=j:=by omega
                  have s5:((j:Int)+2).toNat=j+2:=by omega
                  have s6:((j:Int)+4).toNat=j+4:=by omega
                  have CPY:Hid (∀ (W':World) (ob:Nat),Below w9.heap.size w9 W'→w9.heap.size≤ob→Row64 W' ob r.o→∃ W5 W6 v5 v6,(Builtin.copy_ #[26,26] 3 #[.slice (some ⟨bb,j+2,none⟩) (j+7+h - (j+2)) (cc - (j+2)),.slice (some ⟨ob,0,none⟩) r.o.length r.o.length]).run Tryz.prog (((W'.setCell ⟨kp,0,none⟩ (.int .i64 r.k0)).setCell ⟨kp,1,none⟩ (.int .i64 r.k1)).setCell ⟨kp,2,none⟩ (.int .i64 r.k2))=.ok v5 W5∧(Builtin.copy_ #[26,26] 3 #[.slice (some ⟨bb,j+4,none⟩) (j+7+h - (j+4)) (cc - (j+4)),.slice (some ⟨kp,0,none⟩) 3 3]).run Tryz.prog W5.drew=.ok v6 W6∧Tr w W6 W3.heap.size g kp bb cc j h (lay m' 2 (r.o ++ [r.k0,r.k1,r.k2])) r.o r.k0 r.k1 r.k2 (.slice (some ⟨ob,0,none⟩) r.o.length r.o.length) (t+1)∧Calls Tryz.prog 16 #[.slice (some ⟨cq,0,none⟩) (j+7+h) (j+7+h),.slice (some ⟨bb,0,none⟩) (j+7+h) cc] W6 fun e w'=>e=.returned (.bool true)∧Same W6 w'):=fun W' ob k hob ro=>by
                    obtain ⟨W5,W6,v5,v6,c1,c2,c3,c4⟩:=T9.out.copied k hob r HR.out ro
                    rw [show 5+h=j+7+h - (j+2) by omega] at c1
                    rw [show 3+h=j+7+h - (j+4) by omega] at c2
                    have hl:=cB_len j h c3.tp.len
                    have rr:Row64 W6 cq (cB j h (lay m' 2 (r.o ++ [r.k0,r.k1,r.k2]))):=(c4 cq (row_lt RW.out) (by have:=HQ.out;have:=H8.out.1;omega) (by have:=HQ.out;have:=H8.out.2;omega)).trans RW.out
                    exact ⟨W5,W6,v5,v6,c1,c2,c3,nums_same (row_sl rr hl.symm) (own_sl c3.oc) (by rw [hl];omega)⟩
                  have w4':IntKind.i64.wrap ((j:Int)+4)=((j+4:Nat):Int):=by rw [IntKind.wrap_i64];omega
                  have u1:(0:Int)≤(j:Int)+4:=by omega
                  have u2:(j:Int)+4≤(j:Int)+7+(h:Int):=by omega
                  have u3:(j:Int)+7+(h:Int)≤(cc:Int):=by omega
                  have u4:¬ cc=j+4:=by omega
                  have BD9:Hid (Below w9.heap.size w9 w9.drew):=(Same.drewN w9 1).below
                  go_region_with (go_at_call 22;(with_reducible refine (ST.out _ ?_).mono ?_);(exact BD9.out);rintro e w10 ⟨ob,rfl,hob,ro,b10⟩;have kr10:=(T9.out.same b10).kr;have y0:=cell_row (k:=0) kr10 rfl;have y1:=cell_row (k:=1) kr10 rfl;have y2:=cell_row (k:=2) kr10 rfl;have g0:=frozen_row (k:=0) kr10;have g1:=frozen_row (k:=1) kr10;have g2:=frozen_row (k:=2) kr10)
                  all_goals (
                    obtain ⟨W5,W6,v5,v6,c1,c2,c3,c4⟩:=CPY.out _ _ b10 hob ro
                    have CC:=hid_as c2
                    have TF:=hid_as c3
                    have NM:=hid_as c4
                    clear c2 c3 c4 kr10 y0 y1 y2 g0 g1 g2 v0 v1 v2 ST CPY b10 hob ro
                    generalize ((w10.setCell ⟨kp,0,none⟩ (.int .i64 r.k0)).setCell ⟨kp,1,none⟩ (.int .i64 r.k1)).setCell ⟨kp,2,none⟩ (.int .i64 r.k2)=W4 at *
                    go_upto_region 31 with fail
                    have c2:=CC.out
                    go_region_held3 (fun _=>True) (trivial) (fail)
                    go_wp2_with fail
                    refine NM.out.mono ?_
                    rintro e w11 ⟨rfl,k11⟩
                    have T11:=hid_as (TF.out.same k11.below)
                    clear k11 NM TF CC c1 c2
                    go_wp2
                    go_roundw
                    case rel=>exact ⟨t+1,by omega,by omega,by omega,by go_num,_,_,_,_,_,T11.out⟩
                    case measure=>simp [intOf];omega)
                · have d1:(t:Int) < (ni:Int):=by omega
                  have d2:(t:Int) < (np:Int):=by omega
                  have d3:¬ (t:Int) < (nn:Int):=by omega
                  go_wp2
                  go_ret
                  exact ⟨rfl,RT.out.bl⟩
              · have d1:(t:Int) < (ni:Int):=by omega
                have d2:¬ (t:Int) < (np:Int):=by omega
                go_wp2
                go_ret
                exact ⟨rfl,RT.out.bl⟩
            · have d1:¬ (t:Int) < (ni:Int):=by omega
              go_wp2
              go_ret
              exact ⟨rfl,RT.out.bl⟩
set_option maxRecDepth 100000 in
theorem blocks_long (before after:Int) {w:World} {ia pa na:Option Addr} {ni ic np pc nn nc:Nat} (h:¬ (ni≤20∧np≤20∧nn≤20)) (hT:Tabs w) :
    Calls Tryz.prog 8 #[.int .i64 before,.int .i64 after,.slice ia ni ic,.slice pa np pc,.slice na nn nc] w fun e w'=>e=.returned (.bool true)∧Below w.heap.size w w':=by
  have KN:=hid_as (known_c w hT)
  clear hT
  rcases (by omega:20 < ni ∨ (¬ 20 < ni∧20 < np) ∨ (¬ 20 < ni∧¬ 20 < np∧20 < nn)) with h1 | ⟨h1,h2⟩ | ⟨h1,h2,h3⟩
  · have n1:(20:Int) < (ni:Int):=by omega
    clear h h1
    go_enter Tryz.func8,Tryz.ntmps8
    go_wp2_with fail
    refine KN.out.mono ?_
    rintro e w1 ⟨rfl,b1⟩
    have B1:=hid_as b1
    clear b1 KN
    go_wp2
    go_ret
    exact ⟨rfl,B1.out⟩
  · have n1:¬ (20:Int) < (ni:Int):=by omega
    have n2:(20:Int) < (np:Int):=by omega
    clear h h1 h2
    go_enter Tryz.func8,Tryz.ntmps8
    go_wp2_with fail
    refine KN.out.mono ?_
    rintro e w1 ⟨rfl,b1⟩
    have B1:=hid_as b1
    clear b1 KN
    go_wp2
    go_ret
    exact ⟨rfl,B1.out⟩
  · have n1:¬ (20:Int) < (ni:Int):=by omega
    have n2:¬ (20:Int) < (np:Int):=by omega
    have n3:(20:Int) < (nn:Int):=by omega
    clear h h1 h2 h3
    go_enter Tryz.func8,Tryz.ntmps8
    go_wp2_with fail
    refine KN.out.mono ?_
    rintro e w1 ⟨rfl,b1⟩
    have B1:=hid_as b1
    clear b1 KN
    go_wp2
    go_ret
    exact ⟨rfl,B1.out⟩
theorem blocks_all (before after:Int) {w:World} {ia pa na:Option Addr} {ni ic np pc nn nc:Nat} {li lp ln:List Int} (hi:Sl w (.slice ia ni ic) (i64s li)) (hni:ni=li.length) (hp:Sl w (.slice pa np pc) (i64s lp)) (hnp:np=lp.length) (hn:Sl w (.slice na nn nc) (i64s ln)) (hnn:nn=ln.length) (hT:Tabs w) :
    Calls Tryz.prog 8 #[.int .i64 before,.int .i64 after,.slice ia ni ic,.slice pa np pc,.slice na nn nc] w fun e w'=>e=.returned (.bool true)∧Below w.heap.size w w':=by
  by_cases h:ni≤20∧np≤20∧nn≤20
  · exact blocks_w before after hi hni hp hnp hn hnn h hT
  · exact blocks_long before after h hT
end Go.Proofs.YthjclogkcmomkaaGreatDoor
