/- The walk of VmIndices (stage 21). -/
import Derived.Test.YthjclogkcmomkaaGreatDoorQ48
namespace Go.Proofs.YthjclogkcmomkaaGreatDoor
open Go.RowKit
open Fb Cod Nm Vmx
theorem w4_in (x:Int):-2147483648≤Nm.wr 4 x∧Nm.wr 4 x≤2147483647:=by
  show -2147483648≤sw 4294967296 x∧sw 4294967296 x≤2147483647
  unfold sw;omega
theorem rep_next (k:Int) (j:Nat):List.replicate (j+2) k=List.replicate (j+1) k ++ [k]:=List.replicate_succ'
set_option maxRecDepth 100000 in
set_option maxHeartbeats 3200000 in
theorem indices_w (kind n0 first0 index0 value:Int) (put:Bool) {w:World} (hT:Tabs w):Calls Tryz.prog 7 #[.int .i64 kind,.int .i64 n0,.int .i64 first0,.int .i64 index0,.int .i64 value,.bool put] w fun e w'=>e=.returned (.bool true)∧Below w.heap.size w w':=by
  obtain ⟨i0,hi0,hz0,hz1,hz2⟩:=info_parts Tryz.infoInt
  obtain ⟨i6,hi6,hy0,hy1,hy2⟩:=info_parts Tryz.info64
  have KN:=hid_as (known_c w hT)
  have P1:=hid_as (fun W:World=>place_10 kind W)
  have P2:=hid_as (fun W:World=>place_30 n0 W)
  have HT:=hid_as hT
  clear hT
  go_enter Tryz.func7,Tryz.ntmps7
  go_upto_region 4 with (first | (go_at_call 9;refine KN.out.mono ?_;rintro e w1 ⟨rfl,b1⟩) | (go_at_call 18;(with_reducible refine (P1.out _).mono ?_);rintro e w' ⟨q,hq,rfl,hw⟩;subst w') | (go_at_call 18;(with_reducible refine (P2.out _).mono ?_);rintro e w' ⟨q',hq',rfl,hw⟩;subst w'))
  have T1:=hid_as (HT.out.below b1)
  have B1:=hid_as b1
  clear b1 KN P1 P2 HT
  obtain ⟨k,hk⟩:∃ k,k=1+(q:Int):=⟨_,rfl⟩
  obtain ⟨n,hn⟩:∃ n:Nat,(n:Int)=1+(q':Int):=⟨1+q',by omega⟩
  have HK:Hid (1≤k∧k≤11):=⟨by omega,by omega⟩
  have HN:Hid (1≤n∧n≤30):=⟨by omega,by omega⟩
  have hn9:(n:Int)≤30:=by omega
  rw [← hk,← hn]
  clear hk hn hq hq'
  go_upto_region 5 with fail
  obtain ⟨f,hf⟩:∃ f,f=first0.tmod 1000:=⟨_,rfl⟩
  have HF:Hid (-1000 < f∧f < 1000):=by rw [hf];exact tmod_1000 first0
  rw [← hf]
  clear hf
  go_upto_region 7 with fail
  obtain ⟨cb,hcb⟩:∃ cb,cb=w1.heap.size+1:=⟨_,rfl⟩
  have B0:=hid_as (Bk.start w1 [k] (by show 1≤maxLen;unfold maxLen;omega))
  have B0:Hid (Bk w1 ((w1.alloc (.cells #[.int .i64 k] 3)).alloc (.cells #[.slice (some ⟨w1.heap.size,0,none⟩) 1 1,.slice none 0 0] 25)) (w1.heap.size+1) (.slice (some ⟨w1.heap.size,0,none⟩) 1 1) (.slice none 0 0) (List.replicate (0+1) k)):=B0.out
  rw [← hcb] at B0 ⊢
  have CB:=hid_as hcb
  generalize hW:(w1.alloc (.cells #[.int .i64 k] 3)).alloc (.cells #[.slice (some ⟨w1.heap.size,0,none⟩) 1 1,.slice none 0 0] 25)=W0 at *
  clear hW hcb
  go_loopw [14] (fun i wr=>∃ j:Nat,j≤n∧i=.int .i64 j∧∃ kv,Bk w1 wr cb kv (.slice none 0 0) (List.replicate (j+1) k)) (fun i _=>n - (intOf i).toNat)
  case atStart=>exact ⟨0,by omega,rfl,_,B0.out⟩
  case round =>
    obtain ⟨j,hj,rfl,kv,hb⟩:=hrel
    have BC:=hid_as hb
    clear hb B0
    have c0:=BC.out.c0
    have OW:Hid (wr.ownsRow w1.heap.size 3 1 kv (j+1) (i64s (List.replicate (j+1) k))):=by have:=BC.out.own;rw [List.length_replicate] at this;exact this
    by_cases hjn:j < n
    · have hj2:(j:Int) < (n:Int):=by omega
      have NX:=hid_as (rep_next k j)
      have KS:=hid_as (Nat.le_trans BC.out.kb.size (Nat.le_refl _))
      obtain ⟨wa,wc,hwv⟩:=own_shape OW.out
      subst hwv
      go_wp2_with (at_builtin;go_must (refine wpList_append_own_at _ rfl _ _ 22 rfl w1.heap.size 3 i0 (.int .i64 0) 1 8 Tryz.underlying22 hi0 hz0 hz1 hz2 rfl (by decide) _ _ _ rfl (OW.out.alloc _) _ 1 1 (i64s [k]) rfl rfl (new_cells _ _ _) (one_nums [k]) (by unfold maxLen;omega) (by omega) (by have:=KS.out;simp;omega) ?_);intro v' w3 hown hgrow _ hat;obtain ⟨va,vc,hv⟩:=own_shape hown;subst hv;have E:=BC.out.push (N:=[k]) (by rw [List.length_replicate];exact hown) hgrow hat;have g1':=cell_row (k:=0) E.1 rfl;have gf':=fun k=>frozen_row (k:=k) E.1;have EN:=hid_as E.2;clear E hown hgrow hat)
      go_roundw
      case rel=>exact ⟨j+1,by omega,by go_num,_,by rw [NX.out];exact EN.out⟩
      case measure=>simp [intOf];omega
    · obtain rfl:j=n:=by omega
      have W4:=hid_as (fun W:World=>wrap_r 4 index0 W)
      go_upto_region 12 with (go_at_call 19;(with_reducible refine (W4.out _).mono ?_);rintro e w2 ⟨rfl,k2⟩)
      obtain ⟨ix,hix⟩:∃ ix,ix=Nm.wr 4 index0:=⟨_,rfl⟩
      have HX:=hid_as hix
      have hx9:-2147483648≤ix∧ix≤2147483647:=by rw [hix];exact w4_in index0
      rw [← hix]
      clear hix W4
      have ab:=heap_alloc_new wr (.cells [Value.int .i64 1,.int .i64 4,.int .i64 0,.int .i64 index0,.string ⟨#[]⟩].toArray 50)
      have ab2:=((show Below _ _ w2 from k2).block wr.heap.size (by simp)).trans ab
      have d0:=cell_row (k:=0) ab2 rfl
      have d1:=cell_row (k:=1) ab2 rfl
      have d2:=cell_row (k:=2) ab2 rfl
      have d3:=cell_row (k:=3) ab2 rfl
      have d4:=cell_row (k:=4) ab2 rfl
      have BD:=hid_as (BC.out.below (below_and (below_new1 wr _) k2))
      clear k2 ab ab2 c0 OW BC
      obtain ⟨ab,hab⟩:∃ ab,ab=wr.heap.size:=⟨_,rfl⟩
      rw [← hab] at d0 d1 d2 d3 d4 ⊢
      clear hab
      cases put
      · obtain ⟨va,kc,hkv,CA,LBB,LC0,LC1,LFZ⟩:=BD.out.code (lG j f index0) (by simp) (by rw [List.length_replicate];have:=HN.out;omega) (by show 4≤1000000;decide)
        have hrl:(List.replicate (j+1) k).length=j+1:=List.length_replicate
        rw [hrl] at hkv CA
        subst hkv
        have gf':(w2.alloc (.cells #[.int .i64 1,.int .i64 4,.int .i64 0,.int .i64 index0,.string ⟨#[]⟩,.int .i64 4,.int .i64 1,.int .i64 (j:Int),.int .i64 f,.string ⟨#[]⟩,.int .i64 3,.int .i64 0,.int .i64 0,.int .i64 0,.string ⟨#[]⟩,.int .i64 23,.int .i64 0,.int .i64 0,.int .i64 0,.string ⟨#[]⟩] 50)).frozen? ⟨cb,1,none⟩=false:=LFZ
        have g1':(w2.alloc (.cells #[.int .i64 1,.int .i64 4,.int .i64 0,.int .i64 index0,.string ⟨#[]⟩,.int .i64 4,.int .i64 1,.int .i64 (j:Int),.int .i64 f,.string ⟨#[]⟩,.int .i64 3,.int .i64 0,.int .i64 0,.int .i64 0,.string ⟨#[]⟩,.int .i64 23,.int .i64 0,.int .i64 0,.int .i64 0,.string ⟨#[]⟩] 50)).cell? ⟨cb,1,none⟩=some (.slice none 0 0):=keep_cell (below_new1 w2 _) BD.out.c1
        obtain ⟨W3,hW⟩:∃ W3,((w2.alloc (.cells (insv (lG j f index0)).toArray 50)).setCell ⟨cb,1,none⟩ (.slice (some ⟨w2.heap.size,0,none⟩) (lG j f index0).length (lG j f index0).length))=W3:=⟨_,rfl⟩
        rw [hW] at CA LBB LC0 LC1
        have HWW:Hid (((w2.alloc (.cells #[.int .i64 1,.int .i64 4,.int .i64 0,.int .i64 index0,.string ⟨#[]⟩,.int .i64 4,.int .i64 1,.int .i64 (j:Int),.int .i64 f,.string ⟨#[]⟩,.int .i64 3,.int .i64 0,.int .i64 0,.int .i64 0,.string ⟨#[]⟩,.int .i64 23,.int .i64 0,.int .i64 0,.int .i64 0,.string ⟨#[]⟩] 50)).setCell ⟨cb,1,none⟩ (.slice (some ⟨w2.heap.size,0,none⟩) 4 4))=W3):=hW
        have HCA:=hid_as CA
        have HLB:=hid_as LBB
        have HLC:Hid (W3.cell? ⟨cb,0,none⟩=some (.slice va (j+1) kc)∧W3.cell? ⟨cb,1,none⟩=some (.slice (some ⟨w2.heap.size,0,none⟩) 4 4)):=⟨LC0,LC1⟩
        clear CA LBB LC0 LC1 LFZ hW
        go_upto_region 15 with fail
        rw [HWW.out]
        clear HWW gf' g1' d0 d1 d2 d3 d4
        have c0:=HLC.out.1
        have c1:=HLC.out.2
        have T3:=hid_as (T1.out.below HLB.out)
        have HV:=hid_as (lG_ver (k:=k) (f:=f) (n:=j) index0 HK.out HN.out HF.out)
        have NW:Hid (Calls Tryz.prog 11 #[.agg #[.slice va (j+1) kc,(.slice (some ⟨w2.heap.size,0,none⟩) 4 4)]] W3 fun e w'=>∃ g,e=.returned (.tuple #[.pointer (some ⟨g,0,none⟩),.nilIface])∧Mh w' g (kR k j) (lG j f index0) 0∧W3.heap.size≤g∧Below W3.heap.size W3 w'):=new_m HCA.out T3.out HV.out
        go_wp2_with fail
        refine NW.out.mono ?_
        rintro e w4 ⟨g,rfl,m4,hg,b4⟩
        have B4:=hid_as (below_and (below_and B1.out HLB.out) b4)
        have M4:=hid_as m4
        have G4:=hid_as (Nat.le_trans (below_and B1.out HLB.out).size hg)
        clear m4 hg b4 NW c0 c1 HLC HCA HLB
        go_upto_region 20 with fail
        have WR:=hid_as (fun (x:Int) (W:World)=>wrap_r k x W)
        go_loopw [18,19] (fun v i wq=>∃ m:Nat,m≤j+1∧i=.int .i64 m∧wq.ownsRow w4.heap.size 2 1 v m (i64s (ce k value m))∧Below w4.heap.size w4 wq) (fun _ i _=>j+1 - (intOf i).toNat)
        case atStart=>exact ⟨0,by omega,rfl,World.ownsRow_nil ..,Below.refl _ _⟩
        case round =>
          obtain ⟨m,hm,rfl,own,hB⟩:=hrel
          have OW:=hid_as own
          have KB:=hid_as hB
          obtain ⟨ao,c,e⟩:=own_shape own
          subst e
          clear own hB
          by_cases hmj:m≤j
          · have hm2:(m:Int)≤(j:Int):=by omega
            have NX:=hid_as (ce_next k value m)
            go_wp2_with fail
            refine (WR.out _ _).mono ?_
            rintro e w5 ⟨rfl,k5⟩
            have OW5:=hid_as (own_below OW.out k5 (Nat.le_refl _))
            have KB5:=hid_as (below_and KB.out k5)
            obtain ⟨x,hx⟩:∃ x,x=Nm.wr k (wrap64 ((m:Int) * 3+value)):=⟨_,rfl⟩
            rw [← hx] at NX ⊢
            clear hx k5
            go_wp2_with (at_builtin;go_must (refine wpList_append_own_at _ rfl _ _ 26 rfl w4.heap.size 2 i6 (.int .i64 0) 1 8 Tryz.underlying26 hi6 hy0 hy1 hy2 rfl (by decide) _ _ _ rfl (OW5.out.alloc _) _ 1 1 (i64s [x]) rfl rfl (new_cells _ _ _) (one_nums [x]) (by unfold maxLen;omega) (by omega) (by have:=KB5.out.size;simp;omega) ?_);intro v' w6 hown hgrow _ hat;obtain ⟨va',vc',hv⟩:=own_shape hown;subst hv;have EB:=hid_as ((below_and KB5.out (below_new1 w5 _)).grown hgrow (below_and KB5.out (below_new1 w5 _)).size (fun g hg=>(OW5.out.lt g hg).1));have EO:=hid_as hown;clear hown hgrow hat)
            go_roundw
            case rel=>exact ⟨m+1,by omega,by go_num,by rw [NX.out,show i64s (ce k value m ++ [x])=i64s (ce k value m) ++ i64s [x] by simp [i64s]];exact EO.out,EB.out⟩
            case measure=>simp [intOf];omega
          · obtain rfl:m=j+1:=by omega
            have hm2:¬ ((j+1:Nat):Int)≤(j:Int):=by omega
            obtain ⟨bb,bc,e⟩:=own_at OW.out (Nat.succ_pos j)
            simp only [Value.slice.injEq] at e
            obtain ⟨rfl,_,rfl⟩:=e
            have hbb:=OW.out.lt bb rfl
            have GL:=hid_as M4.out.lt
            have hgb:bb ≠ g:=by have:=GL.out;omega
            have SLR:Hid (∀ u,Turn g wr u→u.ownsRow w4.heap.size 2 1 (.slice (some ⟨bb,0,none⟩) (j+1) c) (j+1) (i64s (ce k value (j+1)))):=fun u t=>OW.out.kept t (Or.inr (by simpa [Value.ownBlock] using hgb))
            have ML:=hid_as (M4.out.below KB.out)
            have BF:=hid_as (below_and B4.out KB.out)
            have hkl:(kR k j).length=j+1:=by simp [kR]
            have SC:Hid (∀ (t:St) (ft:Int),exn (kR k j) (lG j f index0) 0 10 4194304 ⟨0,wrs (kR k j) (ce k value (j+1)),[],0⟩=(t,ft)→Calls Tryz.prog 15 #[.pointer (some ⟨g,0,none⟩),.slice (some ⟨bb,0,none⟩) (j+1) c,.int .i64 0,.int .i64 10] wr fun e w'=>∃ cq:Nat,e=.returned (.tuple #[.slice (some ⟨cq,0,none⟩) (j+1) (j+1),.int .i64 ft,.int .i64 (t.st:Nat)])∧wr.heap.size≤cq∧Row64 w' cq t.cs∧w'.ownsRow w4.heap.size 2 1 (.slice (some ⟨bb,0,none⟩) (j+1) c) (j+1) (i64s (ce k value (j+1)))∧Below w.heap.size w w'):=fun t ft ht=>by
              refine (mh_scan 0 10 ML.out (by decide) (Rgt.of HV.out) (fun u tu=>own_sl (SLR.out u tu)) (ce_len ..).symm ht).mono ?_
              rintro e w' ⟨cq,he,h1,h2,_,h4⟩
              rw [hkl] at he
              exact ⟨cq,he,h1,h2,SLR.out _ h4,BF.out.trans (h4.below G4.out BF.out.size)⟩
            clear OW KB SLR ML M4
            have hf1:-1000 < f∧f < 1000:=HF.out
            rcases (by omega:ix < f ∨ (¬ ix < f∧f+(j:Int)≤ix) ∨ (¬ ix < f∧¬ f+(j:Int)≤ix)) with p1 | ⟨p1,p2⟩ | ⟨p1,p2⟩
            · have SO:=hid_as (SC.out ⟨1,ce k value (j+1),[Nm.wr 4 index0],0⟩ 2 (by rw [wrs_ce];exact get_out (m:=4194299) _ (Or.inl (by rw [← HX.out];exact p1))))
              go_wp2_with fail
              refine SO.out.mono ?_
              rintro e w6 ⟨cq,rfl,hcq,hr,ho,hB⟩
              have NM:=hid_as (nums_same (row_sl hr (ce_len ..).symm) (own_sl ho) (by rw [ce_len];omega))
              have FB:=hid_as hB
              clear hr ho hB hcq SO SC
              go_wp2_with fail
              refine NM.out.mono ?_
              rintro e w7 ⟨rfl,k7⟩
              have FB7:=hid_as (FB.out.trans (k7.below.mono FB.out.size))
              clear k7 NM
              go_wp2
              go_ret
              exact ⟨rfl,FB7.out⟩
            · have SO:=hid_as (SC.out ⟨1,ce k value (j+1),[Nm.wr 4 index0],0⟩ 2 (by rw [wrs_ce];exact get_out (m:=4194299) _ (Or.inr (by rw [← HX.out];exact p2))))
              go_wp2_with fail
              refine SO.out.mono ?_
              rintro e w6 ⟨cq,rfl,hcq,hr,ho,hB⟩
              have NM:=hid_as (nums_same (row_sl hr (ce_len ..).symm) (own_sl ho) (by rw [ce_len];omega))
              have FB:=hid_as hB
              clear hr ho hB hcq SO SC
              go_wp2_with fail
              refine NM.out.mono ?_
              rintro e w7 ⟨rfl,k7⟩
              have FB7:=hid_as (FB.out.trans (k7.below.mono FB.out.size))
              clear k7 NM
              go_wp2
              go_ret
              exact ⟨rfl,FB7.out⟩
            · obtain ⟨i,p3⟩:∃ i:Nat,ix=f+(i:Int):=⟨(ix - f).toNat,by omega⟩
              have hi:i < j:=by omega
              have SO:=hid_as (SC.out ⟨3,(ce k value (j+1)).set 0 ((ce k value (j+1)).getD (1+i) 0),[],0⟩ 0 (by rw [wrs_ce];exact get_in (m:=4194299) (by rw [← HX.out];exact p3) hi))
              have HP3:=hid_as p3
              clear SC p3
              go_wp2_with fail
              refine SO.out.mono ?_
              rintro e w6 ⟨cq,rfl,hcq,hr,ho,hB⟩
              have HR:=hid_as hr
              have HO:=hid_as ho
              have FB:=hid_as hB
              have HQ:=hid_as hcq
              clear hr ho hB hcq SO
              go_upto_region 27 with fail
              rw [show 1+(ix - f)=((1+i:Nat):Int) by have:=HP3.out;omega]
              have hi2:((1+i:Nat):Int) < ((j+1:Nat):Int):=by omega
              have RR:=hid_as HR.out
              have FB7:=hid_as FB.out
              obtain ⟨_,_,o4,_,_⟩:=own_put HO.out (j:=1+i) (by omega) 0
              obtain ⟨o1,o2,o3,_,_⟩:=own_put HO.out (j:=0) (by omega) ((ce k value (j+1)).getD (1+i) 0)
              have OP:=hid_as o1
              clear o1 HR HO
              obtain ⟨y,hy⟩:∃ y,y=(ce k value (j+1)).getD (1+i) 0:=⟨_,rfl⟩
              rw [← hy] at o4 OP RR
              clear hy
              go_upto_region 30 with fail
              have TB:=hid_as ((Turn.refl bb w6).set 0 (.int .i64 y))
              generalize w6.setCell ⟨bb,0,none⟩ (.int .i64 y)=W8 at *
              have hcb:cq ≠ bb:=by have:=HQ.out;omega
              have R8:=hid_as (show Row64 W8 cq ((ce k value (j+1)).set 0 (y)) from (TB.out.block cq (row_lt RR.out) (fun e=>hcb (by simpa using e))).trans RR.out)
              have FB8:=hid_as (FB7.out.trans (TB.out.below (Nat.le_trans B4.out.size hbb.1) FB7.out.size))
              have NM:=hid_as (nums_same (row_sl R8.out (by rw [List.length_set,ce_len])) (own_sl OP.out) (by rw [List.length_set,ce_len];omega))
              clear R8 OP TB RR
              go_wp2_with fail
              refine NM.out.mono ?_
              rintro e w9 ⟨rfl,k9⟩
              have FB9:=hid_as (FB8.out.trans (k9.below.mono FB8.out.size))
              clear k9 NM
              go_wp2
              go_ret
              exact ⟨rfl,FB9.out⟩
      · obtain ⟨va,kc,hkv,CA,LBB,LC0,LC1,LFZ⟩:=BD.out.code (lP k j f index0 value) (by simp) (by rw [List.length_replicate];have:=HN.out;omega) (by show 5≤1000000;decide)
        have hrl:(List.replicate (j+1) k).length=j+1:=List.length_replicate
        rw [hrl] at hkv CA
        subst hkv
        have gf':(w2.alloc (.cells #[.int .i64 1,.int .i64 4,.int .i64 0,.int .i64 index0,.string ⟨#[]⟩,.int .i64 5,.int .i64 1,.int .i64 (j:Int),.int .i64 f,.string ⟨#[]⟩,.int .i64 1,.int .i64 k,.int .i64 0,.int .i64 value,.string ⟨#[]⟩,.int .i64 6,.int .i64 1,.int .i64 (j:Int),.int .i64 f,.string ⟨#[]⟩,.int .i64 23,.int .i64 0,.int .i64 0,.int .i64 0,.string ⟨#[]⟩] 50)).frozen? ⟨cb,1,none⟩=false:=LFZ
        have g1':(w2.alloc (.cells #[.int .i64 1,.int .i64 4,.int .i64 0,.int .i64 index0,.string ⟨#[]⟩,.int .i64 5,.int .i64 1,.int .i64 (j:Int),.int .i64 f,.string ⟨#[]⟩,.int .i64 1,.int .i64 k,.int .i64 0,.int .i64 value,.string ⟨#[]⟩,.int .i64 6,.int .i64 1,.int .i64 (j:Int),.int .i64 f,.string ⟨#[]⟩,.int .i64 23,.int .i64 0,.int .i64 0,.int .i64 0,.string ⟨#[]⟩] 50)).cell? ⟨cb,1,none⟩=some (.slice none 0 0):=keep_cell (below_new1 w2 _) BD.out.c1
        obtain ⟨W3,hW⟩:∃ W3,((w2.alloc (.cells (insv (lP k j f index0 value)).toArray 50)).setCell ⟨cb,1,none⟩ (.slice (some ⟨w2.heap.size,0,none⟩) (lP k j f index0 value).length (lP k j f index0 value).length))=W3:=⟨_,rfl⟩
        rw [hW] at CA LBB LC0 LC1
        have HWW:Hid (((w2.alloc (.cells #[.int .i64 1,.int .i64 4,.int .i64 0,.int .i64 index0,.string ⟨#[]⟩,.int .i64 5,.int .i64 1,.int .i64 (j:Int),.int .i64 f,.string ⟨#[]⟩,.int .i64 1,.int .i64 k,.int .i64 0,.int .i64 value,.string ⟨#[]⟩,.int .i64 6,.int .i64 1,.int .i64 (j:Int),.int .i64 f,.string ⟨#[]⟩,.int .i64 23,.int .i64 0,.int .i64 0,.int .i64 0,.string ⟨#[]⟩] 50)).setCell ⟨cb,1,none⟩ (.slice (some ⟨w2.heap.size,0,none⟩) 5 5))=W3):=hW
        have HCA:=hid_as CA
        have HLB:=hid_as LBB
        have HLC:Hid (W3.cell? ⟨cb,0,none⟩=some (.slice va (j+1) kc)∧W3.cell? ⟨cb,1,none⟩=some (.slice (some ⟨w2.heap.size,0,none⟩) 5 5)):=⟨LC0,LC1⟩
        clear CA LBB LC0 LC1 LFZ hW
        go_upto_region 15 with fail
        rw [HWW.out]
        clear HWW gf' g1' d0 d1 d2 d3 d4
        have c0:=HLC.out.1
        have c1:=HLC.out.2
        have T3:=hid_as (T1.out.below HLB.out)
        have HV:=hid_as (lP_ver (k:=k) (f:=f) (n:=j) index0 value HK.out HN.out HF.out)
        have NW:Hid (Calls Tryz.prog 11 #[.agg #[.slice va (j+1) kc,(.slice (some ⟨w2.heap.size,0,none⟩) 5 5)]] W3 fun e w'=>∃ g,e=.returned (.tuple #[.pointer (some ⟨g,0,none⟩),.nilIface])∧Mh w' g (kR k j) (lP k j f index0 value) 0∧W3.heap.size≤g∧Below W3.heap.size W3 w'):=new_m HCA.out T3.out HV.out
        go_wp2_with fail
        refine NW.out.mono ?_
        rintro e w4 ⟨g,rfl,m4,hg,b4⟩
        have B4:=hid_as (below_and (below_and B1.out HLB.out) b4)
        have M4:=hid_as m4
        have G4:=hid_as (Nat.le_trans (below_and B1.out HLB.out).size hg)
        clear m4 hg b4 NW c0 c1 HLC HCA HLB
        go_upto_region 20 with fail
        have WR:=hid_as (fun (x:Int) (W:World)=>wrap_r k x W)
        go_loopw [18,19] (fun v i wq=>∃ m:Nat,m≤j+1∧i=.int .i64 m∧wq.ownsRow w4.heap.size 2 1 v m (i64s (ce k value m))∧Below w4.heap.size w4 wq) (fun _ i _=>j+1 - (intOf i).toNat)
        case atStart=>exact ⟨0,by omega,rfl,World.ownsRow_nil ..,Below.refl _ _⟩
        case round =>
          obtain ⟨m,hm,rfl,own,hB⟩:=hrel
          have OW:=hid_as own
          have KB:=hid_as hB
          obtain ⟨ao,c,e⟩:=own_shape own
          subst e
          clear own hB
          by_cases hmj:m≤j
          · have hm2:(m:Int)≤(j:Int):=by omega
            have NX:=hid_as (ce_next k value m)
            go_wp2_with fail
            refine (WR.out _ _).mono ?_
            rintro e w5 ⟨rfl,k5⟩
            have OW5:=hid_as (own_below OW.out k5 (Nat.le_refl _))
            have KB5:=hid_as (below_and KB.out k5)
            obtain ⟨x,hx⟩:∃ x,x=Nm.wr k (wrap64 ((m:Int) * 3+value)):=⟨_,rfl⟩
            rw [← hx] at NX ⊢
            clear hx k5
            go_wp2_with (at_builtin;go_must (refine wpList_append_own_at _ rfl _ _ 26 rfl w4.heap.size 2 i6 (.int .i64 0) 1 8 Tryz.underlying26 hi6 hy0 hy1 hy2 rfl (by decide) _ _ _ rfl (OW5.out.alloc _) _ 1 1 (i64s [x]) rfl rfl (new_cells _ _ _) (one_nums [x]) (by unfold maxLen;omega) (by omega) (by have:=KB5.out.size;simp;omega) ?_);intro v' w6 hown hgrow _ hat;obtain ⟨va',vc',hv⟩:=own_shape hown;subst hv;have EB:=hid_as ((below_and KB5.out (below_new1 w5 _)).grown hgrow (below_and KB5.out (below_new1 w5 _)).size (fun g hg=>(OW5.out.lt g hg).1));have EO:=hid_as hown;clear hown hgrow hat)
            go_roundw
            case rel=>exact ⟨m+1,by omega,by go_num,by rw [NX.out,show i64s (ce k value m ++ [x])=i64s (ce k value m) ++ i64s [x] by simp [i64s]];exact EO.out,EB.out⟩
            case measure=>simp [intOf];omega
          · obtain rfl:m=j+1:=by omega
            have hm2:¬ ((j+1:Nat):Int)≤(j:Int):=by omega
            obtain ⟨bb,bc,e⟩:=own_at OW.out (Nat.succ_pos j)
            simp only [Value.slice.injEq] at e
            obtain ⟨rfl,_,rfl⟩:=e
            have hbb:=OW.out.lt bb rfl
            have GL:=hid_as M4.out.lt
            have hgb:bb ≠ g:=by have:=GL.out;omega
            have SLR:Hid (∀ u,Turn g wr u→u.ownsRow w4.heap.size 2 1 (.slice (some ⟨bb,0,none⟩) (j+1) c) (j+1) (i64s (ce k value (j+1)))):=fun u t=>OW.out.kept t (Or.inr (by simpa [Value.ownBlock] using hgb))
            have ML:=hid_as (M4.out.below KB.out)
            have BF:=hid_as (below_and B4.out KB.out)
            have hkl:(kR k j).length=j+1:=by simp [kR]
            have SC:Hid (∀ (t:St) (ft:Int),exn (kR k j) (lP k j f index0 value) 0 10 4194304 ⟨0,wrs (kR k j) (ce k value (j+1)),[],0⟩=(t,ft)→Calls Tryz.prog 15 #[.pointer (some ⟨g,0,none⟩),.slice (some ⟨bb,0,none⟩) (j+1) c,.int .i64 0,.int .i64 10] wr fun e w'=>∃ cq:Nat,e=.returned (.tuple #[.slice (some ⟨cq,0,none⟩) (j+1) (j+1),.int .i64 ft,.int .i64 (t.st:Nat)])∧wr.heap.size≤cq∧Row64 w' cq t.cs∧w'.ownsRow w4.heap.size 2 1 (.slice (some ⟨bb,0,none⟩) (j+1) c) (j+1) (i64s (ce k value (j+1)))∧Below w.heap.size w w'):=fun t ft ht=>by
              refine (mh_scan 0 10 ML.out (by decide) (Rgt.of HV.out) (fun u tu=>own_sl (SLR.out u tu)) (ce_len ..).symm ht).mono ?_
              rintro e w' ⟨cq,he,h1,h2,_,h4⟩
              rw [hkl] at he
              exact ⟨cq,he,h1,h2,SLR.out _ h4,BF.out.trans (h4.below G4.out BF.out.size)⟩
            clear OW KB SLR ML M4
            have hf1:-1000 < f∧f < 1000:=HF.out
            rcases (by omega:ix < f ∨ (¬ ix < f∧f+(j:Int)≤ix) ∨ (¬ ix < f∧¬ f+(j:Int)≤ix)) with p1 | ⟨p1,p2⟩ | ⟨p1,p2⟩
            · have SO:=hid_as (SC.out ⟨1,ce k value (j+1),[Nm.wr 4 index0],0⟩ 2 (by rw [wrs_ce];exact put_out (m:=4194299) _ (Or.inl (by rw [← HX.out];exact p1))))
              go_wp2_with fail
              refine SO.out.mono ?_
              rintro e w6 ⟨cq,rfl,hcq,hr,ho,hB⟩
              have NM:=hid_as (nums_same (row_sl hr (ce_len ..).symm) (own_sl ho) (by rw [ce_len];omega))
              have FB:=hid_as hB
              clear hr ho hB hcq SO SC
              go_wp2_with fail
              refine NM.out.mono ?_
              rintro e w7 ⟨rfl,k7⟩
              have FB7:=hid_as (FB.out.trans (k7.below.mono FB.out.size))
              clear k7 NM
              go_wp2
              go_ret
              exact ⟨rfl,FB7.out⟩
            · have SO:=hid_as (SC.out ⟨1,ce k value (j+1),[Nm.wr 4 index0],0⟩ 2 (by rw [wrs_ce];exact put_out (m:=4194299) _ (Or.inr (by rw [← HX.out];exact p2))))
              go_wp2_with fail
              refine SO.out.mono ?_
              rintro e w6 ⟨cq,rfl,hcq,hr,ho,hB⟩
              have NM:=hid_as (nums_same (row_sl hr (ce_len ..).symm) (own_sl ho) (by rw [ce_len];omega))
              have FB:=hid_as hB
              clear hr ho hB hcq SO SC
              go_wp2_with fail
              refine NM.out.mono ?_
              rintro e w7 ⟨rfl,k7⟩
              have FB7:=hid_as (FB.out.trans (k7.below.mono FB.out.size))
              clear k7 NM
              go_wp2
              go_ret
              exact ⟨rfl,FB7.out⟩
            · obtain ⟨i,p3⟩:∃ i:Nat,ix=f+(i:Int):=⟨(ix - f).toNat,by omega⟩
              have hi:i < j:=by omega
              have SO:=hid_as (SC.out ⟨4,(ce k value (j+1)).set (1+i) (Nm.wr k value),[],0⟩ 0 (by rw [wrs_ce];exact put_in (m:=4194299) _ (by rw [← HX.out];exact p3) hi))
              have HP3:=hid_as p3
              clear SC p3
              go_wp2_with fail
              refine SO.out.mono ?_
              rintro e w6 ⟨cq,rfl,hcq,hr,ho,hB⟩
              have HR:=hid_as hr
              have HO:=hid_as ho
              have FB:=hid_as hB
              have HQ:=hid_as hcq
              clear hr ho hB hcq SO
              go_upto_region 27 with fail
              rw [show 1+(ix - f)=((1+i:Nat):Int) by have:=HP3.out;omega]
              have hi2:((1+i:Nat):Int) < ((j+1:Nat):Int):=by omega
              go_wp2_with fail
              refine (WR.out _ _).mono ?_
              rintro e w7 ⟨rfl,k7⟩
              have RR:=hid_as (row_below HR.out k7)
              have FB7:=hid_as (FB.out.trans (k7.mono FB.out.size))
              obtain ⟨o1,o2,o3,_,_⟩:=own_put (own_below HO.out k7 (Nat.le_refl _)) (j:=1+i) (by omega) (Nm.wr k value)
              have OP:=hid_as o1
              clear o1 k7 HR HO
              go_upto_region 30 with fail
              have TB:=hid_as ((Turn.refl bb w7).set (1+i) (.int .i64 (Nm.wr k value)))
              generalize w7.setCell ⟨bb,1+i,none⟩ (.int .i64 (Nm.wr k value))=W8 at *
              have hcb:cq ≠ bb:=by have:=HQ.out;omega
              have R8:=hid_as (show Row64 W8 cq ((ce k value (j+1)).set (1+i) (Nm.wr k value)) from (TB.out.block cq (row_lt RR.out) (fun e=>hcb (by simpa using e))).trans RR.out)
              have FB8:=hid_as (FB7.out.trans (TB.out.below (Nat.le_trans B4.out.size hbb.1) FB7.out.size))
              have NM:=hid_as (nums_same (row_sl R8.out (by rw [List.length_set,ce_len])) (own_sl OP.out) (by rw [List.length_set,ce_len];omega))
              clear R8 OP TB RR
              go_wp2_with fail
              refine NM.out.mono ?_
              rintro e w9 ⟨rfl,k9⟩
              have FB9:=hid_as (FB8.out.trans (k9.below.mono FB8.out.size))
              clear k9 NM
              go_wp2
              go_ret
              exact ⟨rfl,FB9.out⟩
end Go.Proofs.YthjclogkcmomkaaGreatDoor
