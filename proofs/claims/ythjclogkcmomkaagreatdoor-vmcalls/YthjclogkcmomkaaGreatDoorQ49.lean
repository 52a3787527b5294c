/- VmCalls (stage 21). -/
import Derived.Test.YthjclogkcmomkaaGreatDoorQ46
import Derived.Test.YthjclogkcmomkaaGreatDoorQ47
import Derived.Test.YthjclogkcmomkaaGreatDoorQ48
namespace Go.Proofs.YthjclogkcmomkaaGreatDoor
open Go.RowKit
open Fb Cod Nm Vmx
theorem tmod_11 (k:Int):(k.tmod 11 < 0∧-11 < k.tmod 11∧k.tmod 11+11=k % 11) ∨ (¬ k.tmod 11 < 0∧k.tmod 11=k % 11):=by
  by_cases h:0≤k
  · rw [Int.tmod_eq_emod_of_nonneg h];omega
  · have e:k.tmod 11=-((-k) % 11):=by
      have:=Int.neg_tmod (-k) 11
      rw [Int.neg_neg] at this
      rw [this,Int.tmod_eq_emod_of_nonneg (by omega)]
    rw [e];omega
set_option maxHeartbeats 400000 in
theorem place_11 (k:Int) (w:World):Calls Tryz.prog 18 #[.int .i64 k,.int .i64 11] w fun e w'=>∃ q:Nat,q < 11∧e=.returned (.int .i64 (q:Int))∧w'=w:=by
  obtain ⟨q,hq⟩:∃ q:Nat,(q:Int)=k % 11:=⟨(k % 11).toNat,by omega⟩
  have hl:q < 11:=by omega
  rcases tmod_11 k with ⟨h,h2,h3⟩ | ⟨h,h3⟩
  · have HQ:=hid_as (h3.trans hq.symm)
    clear hq h3
    go_enter Tryz.func18,Tryz.ntmps18
    go_wp2
    go_ret
    exact ⟨q,hl,ret_int HQ.out,rfl⟩
  · have HQ:=hid_as (h3.trans hq.symm)
    clear hq h3
    go_enter Tryz.func18,Tryz.ntmps18
    go_wp2
    go_ret
    exact ⟨q,hl,ret_int HQ.out,rfl⟩
theorem tmod_14 (k:Int):(k.tmod 14 < 0∧-14 < k.tmod 14∧k.tmod 14+14=k % 14) ∨ (¬ k.tmod 14 < 0∧k.tmod 14=k % 14):=by
  by_cases h:0≤k
  · rw [Int.tmod_eq_emod_of_nonneg h];omega
  · have e:k.tmod 14=-((-k) % 14):=by
      have:=Int.neg_tmod (-k) 14
      rw [Int.neg_neg] at this
      rw [this,Int.tmod_eq_emod_of_nonneg (by omega)]
    rw [e];omega
set_option maxHeartbeats 400000 in
theorem place_14 (k:Int) (w:World):Calls Tryz.prog 18 #[.int .i64 k,.int .i64 14] w fun e w'=>∃ q:Nat,q < 14∧e=.returned (.int .i64 (q:Int))∧w'=w:=by
  obtain ⟨q,hq⟩:∃ q:Nat,(q:Int)=k % 14:=⟨(k % 14).toNat,by omega⟩
  have hl:q < 14:=by omega
  rcases tmod_14 k with ⟨h,h2,h3⟩ | ⟨h,h3⟩
  · have HQ:=hid_as (h3.trans hq.symm)
    clear hq h3
    go_enter Tryz.func18,Tryz.ntmps18
    go_wp2
    go_ret
    exact ⟨q,hl,ret_int HQ.out,rfl⟩
  · have HQ:=hid_as (h3.trans hq.symm)
    clear hq h3
    go_enter Tryz.func18,Tryz.ntmps18
    go_wp2
    go_ret
    exact ⟨q,hl,ret_int HQ.out,rfl⟩
namespace Vmx
theorem apv_wr (op k a b:Int):apv op k (wr k a) (wr k b)=apv op k a b:=by
  unfold apv
  rw [wr_wr,wr_wr]
theorem apf_wr (op k b:Int):apf op k (wr k b)=apf op k b:=by
  unfold apf
  rw [wr_wr]
theorem ap_zero {op k a b:Int} (h:¬ apf op k b=0):wr k (apv op k a b)=0:=by
  unfold apf at h
  unfold apv
  cases hs:sc k with
  | false=>simp [hs] at h
  | true =>
    rw [hs] at h
    simp only [if_true] at h ⊢
    unfold opf at h
    by_cases hc:(op=6 ∨ op=7)∧wr k b=0
    · rcases hc.1 with rfl | rfl
      · rw [hc.2];exact wr_zero k
      · rw [hc.2];exact wr_zero k
    · rw [if_neg hc] at h
      exact absurd rfl h
theorem ntv_is (k a:Int):wr k (ntv k (wr k a))=ntv k a:=by
  rcases Nm.kind_cases k with rfl | rfl | rfl | rfl | rfl | rfl | rfl | rfl | rfl | rfl | rfl | h | h
  · by_cases h:a=0
    · subst h;decide
    · have e:wr 1 a=1:=by show (if a=0 then (0:Int) else 1)=1;rw [if_neg h]
      rw [e]
      show wr 1 (Nm.tr ((1:Int) == 0))=Nm.tr (a == 0)
      rw [beq_eq_false_iff_ne.2 h];decide
  · show sw 256 (sw 256 (-1 - sw 256 a))=sw 256 (-1 - a)
    unfold sw;omega
  · show sw 65536 (sw 65536 (-1 - sw 65536 a))=sw 65536 (-1 - a)
    unfold sw;omega
  · show sw 4294967296 (sw 4294967296 (-1 - sw 4294967296 a))=sw 4294967296 (-1 - a)
    unfold sw;omega
  · show uw 256 (uw 256 (-1 - uw 256 a))=uw 256 (-1 - a)
    unfold uw;omega
  · show uw 65536 (uw 65536 (-1 - uw 65536 a))=uw 65536 (-1 - a)
    unfold uw;omega
  · show uw 4294967296 (uw 4294967296 (-1 - uw 4294967296 a))=uw 4294967296 (-1 - a)
    unfold uw;omega
  · show uw 256 (uw 256 (-1 - uw 256 a))=uw 256 (-1 - a)
    unfold uw;omega
  · show uw 65536 (uw 65536 (-1 - uw 65536 a))=uw 65536 (-1 - a)
    unfold uw;omega
  · show uw 4294967296 (uw 4294967296 (-1 - uw 4294967296 a))=uw 4294967296 (-1 - a)
    unfold uw;omega
  · show sw 4294967296 (sw 4294967296 (-1 - sw 4294967296 a))=sw 4294967296 (-1 - a)
    unfold sw;omega
  · unfold ntv;rw [if_neg (by omega),if_neg (by omega),wr_none (Or.inl h),wr_none (Or.inl h)]
  · unfold ntv;rw [if_neg (by omega),if_neg (by omega),wr_none (Or.inr h),wr_none (Or.inr h)]
/-- What a scan of the straight code tells. -/
theorem scanK {k op:Int} (a b d:Int):∃ pc sk,exn [k,k,k,k,k,k] (lK k a b d op) 0 10 4194304 ⟨0,wrs [k,k,k,k,k,k] [0,0,0,0,0,1],[],0⟩=(⟨pc,[min (wr k a) (wr k b),max (wr k a) (wr k b),if wr k d=0 then wr k a else wr k b,ntv k a,wr k (apv op k a b),wr k 1],sk,0⟩,apf op k b):=by
  have e1:wr k (min (wr k a) (wr k b))=min (wr k a) (wr k b):=by
    rcases (by omega:min (wr k a) (wr k b)=wr k a ∨ min (wr k a) (wr k b)=wr k b) with e | e <;> rw [e,wr_wr]
  have e2:wr k (max (wr k a) (wr k b))=max (wr k a) (wr k b):=by
    rcases (by omega:max (wr k a) (wr k b)=wr k a ∨ max (wr k a) (wr k b)=wr k b) with e | e <;> rw [e,wr_wr]
  have e3:wr k (if wr k d=0 then wr k a else wr k b)=if wr k d=0 then wr k a else wr k b:=by
    split <;> rw [wr_wr]
  by_cases hf:apf op k (wr k b)=0
  · have h:=runK a b d 4194279 hf
    rw [e1,e2,e3,ntv_is,apv_wr] at h
    rw [apf_wr] at hf
    rw [hf]
    exact ⟨_,_,h⟩
  · have h:=runK_f a b d 4194279 hf
    rw [e1,e2,e3,ntv_is] at h
    rw [apf_wr] at h hf
    rw [ap_zero hf]
    rw [wr_zero] at h
    have w0:wrs [k,k,k,k,k,k] [0,0,0,0,0,1]=[0,0,0,0,0,wr k 1]:=by
      show [wr k 0,wr k 0,wr k 0,wr k 0,wr k 0,wr k 1]=_
      rw [wr_zero]
    rw [w0]
    exact ⟨_,_,h⟩
end Vmx
set_option maxRecDepth 100000 in
set_option maxHeartbeats 64000000 in
theorem calls_w (kind opn a b d:Int) {w:World} (hT:Tabs w):Calls Tryz.prog 6 #[.int .i64 kind,.int .i64 opn,.int .i64 a,.int .i64 b,.int .i64 d] w fun e w'=>e=.returned (.bool true)∧Below w.heap.size w w':=by
  have KN:=hid_as (known_c w hT)
  have TW:=hid_as hT
  clear hT
  go_enter Tryz.func6,Tryz.ntmps6
  go_wp2_with fail
  refine KN.out.mono ?_
  rintro e w1 ⟨rfl,b1⟩
  have B1:=hid_as b1
  have T1:=hid_as (TW.out.below b1)
  clear b1 KN
  go_wp2_with fail
  refine (place_11 kind _).mono ?_
  rintro e w' ⟨q,hq,rfl,hw⟩
  subst w'
  have hq2:(q:Int) < 11:=by omega
  go_upto_region 4 with fail
  have HK:Hid (1≤1+(q:Int)∧1+(q:Int)≤11):=⟨by omega,by omega⟩
  generalize hk:1+(q:Int)=k at *
  clear hk hq2
  go_wp2_with fail
  refine (place_14 opn _).mono ?_
  rintro e w' ⟨q',hq',rfl,hw⟩
  subst w'
  have hq3:(q':Int) < 14:=by omega
  go_upto_region 5 with fail
  have HO:Hid (5≤5+(q':Int)∧5+(q':Int)≤18):=⟨by omega,by omega⟩
  generalize hk:5+(q':Int)=op at *
  clear hk hq3 hq hq'
  obtain ⟨W,hW⟩:∃ W,(((w1.alloc (.cells (i64s [k,k,k,k,k,k]).toArray 3)).alloc (.cells (insv (lK k a b d op)).toArray 50)).alloc (.cells #[.slice (some ⟨w1.heap.size,0,none⟩) 6 6,.slice (some ⟨w1.heap.size+1,0,none⟩) 25 25] 25))=W:=⟨_,rfl⟩
  have LB:=lit_box w1 [k,k,k,k,k,k] (lK k a b d op) (by show 6≤1000000;decide) (by show 25≤1000000;decide) T1.out hW
  have HW:(((w1.alloc (.cells #[.int .i64 k,.int .i64 k,.int .i64 k,.int .i64 k,.int .i64 k,.int .i64 k] 3)).alloc (.cells #[.int .i64 1,.int .i64 k,.int .i64 0,.int .i64 a,.string ⟨#[]⟩,.int .i64 1,.int .i64 k,.int .i64 0,.int .i64 b,.string ⟨#[]⟩,.int .i64 13,.int .i64 0,.int .i64 0,.int .i64 0,.string ⟨#[]⟩,.int .i64 3,.int .i64 0,.int .i64 0,.int .i64 0,.string ⟨#[]⟩,.int .i64 1,.int .i64 k,.int .i64 0,.int .i64 a,.string ⟨#[]⟩,.int .i64 1,.int .i64 k,.int .i64 0,.int .i64 b,.string ⟨#[]⟩,.int .i64 14,.int .i64 0,.int .i64 0,.int .i64 0,.string ⟨#[]⟩,.int .i64 3,.int .i64 1,.int .i64 0,.int .i64 0,.string ⟨#[]⟩,.int .i64 1,.int .i64 k,.int .i64 0,.int .i64 d,.string ⟨#[]⟩,.int .i64 1,.int .i64 k,.int .i64 0,.int .i64 a,.string ⟨#[]⟩,.int .i64 1,.int .i64 k,.int .i64 0,.int .i64 b,.string ⟨#[]⟩,.int .i64 15,.int .i64 0,.int .i64 0,.int .i64 0,.string ⟨#[]⟩,.int .i64 3,.int .i64 2,.int .i64 0,.int .i64 0,.string ⟨#[]⟩,.int .i64 1,.int .i64 k,.int .i64 0,.int .i64 a,.string ⟨#[]⟩,.int .i64 8,.int .i64 k,.int .i64 0,.int .i64 0,.string ⟨#[]⟩,.int .i64 16,.int .i64 0,.int .i64 0,.int .i64 0,.string ⟨#[]⟩,.int .i64 24,.int .i64 1,.int .i64 0,.int .i64 0,.string ⟨#[]⟩,.int .i64 17,.int .i64 0,.int .i64 0,.int .i64 0,.string ⟨#[]⟩,.int .i64 17,.int .i64 0,.int .i64 0,.int .i64 0,.string ⟨#[]⟩,.int .i64 3,.int .i64 3,.int .i64 0,.int .i64 0,.string ⟨#[]⟩,.int .i64 1,.int .i64 k,.int .i64 0,.int .i64 a,.string ⟨#[]⟩,.int .i64 1,.int .i64 k,.int .i64 0,.int .i64 b,.string ⟨#[]⟩,.int .i64 9,.int .i64 k,.int .i64 op,.int .i64 0,.string ⟨#[]⟩,.int .i64 3,.int .i64 4,.int .i64 0,.int .i64 0,.string ⟨#[]⟩,.int .i64 23,.int .i64 0,.int .i64 0,.int .i64 0,.string ⟨#[]⟩] 50)).alloc (.cells #[.slice (some ⟨w1.heap.size,0,none⟩) 6 6,.slice (some ⟨w1.heap.size+1,0,none⟩) 25 25] 25))=W:=hW
  have HWW:=hid_as HW
  obtain ⟨CA,TA,BA,c0,c1⟩:=LB
  have B2:=hid_as (below_and B1.out BA)
  have HV:=hid_as (lK_ver (k:=k) (op:=op) a b d HK.out HO.out)
  have NW:Hid (Calls Tryz.prog 11 #[.agg #[.slice (some ⟨w1.heap.size,0,none⟩) 6 6,.slice (some ⟨w1.heap.size+1,0,none⟩) 25 25]] W fun e w'=>∃ g,e=.returned (.tuple #[.pointer (some ⟨g,0,none⟩),.nilIface])∧Mh w' g [k,k,k,k,k,k] (lK k a b d op) 0∧W.heap.size≤g∧Below W.heap.size W w'):=new_m CA TA HV.out
  clear hW HW CA TA BA
  go_upto_region 6 with fail
  rw [HWW.out]
  have c0':W.cell? ⟨w1.heap.size+1+1,0,none⟩=some (.slice (some ⟨w1.heap.size,0,none⟩) 6 6):=c0
  have c1':W.cell? ⟨w1.heap.size+1+1,1,none⟩=some (.slice (some ⟨w1.heap.size+1,0,none⟩) 25 25):=c1
  clear c0 c1 HWW
  go_wp2_with fail
  refine NW.out.mono ?_
  rintro e w2 ⟨g,rfl,m2,hg,b2⟩
  have k2:=below_new1 w2 (.cells #[.int .i64 0,.int .i64 0,.int .i64 0,.int .i64 0,.int .i64 0,.int .i64 1] 2)
  have hgl:=m2.lt
  obtain ⟨pc,sk,hE⟩:=scanK (k:=k) (op:=op) a b d
  have SC:Hid (Calls Tryz.prog 15 #[.pointer (some ⟨g,0,none⟩),.slice (some ⟨w2.heap.size,0,none⟩) 6 6,.int .i64 0,.int .i64 10] (w2.alloc (.cells #[.int .i64 0,.int .i64 0,.int .i64 0,.int .i64 0,.int .i64 0,.int .i64 1] 2)) fun e w'=>∃ cb:Nat,e=.returned (.tuple #[.slice (some ⟨cb,0,none⟩) 6 6,.int .i64 (apf op k b),.int .i64 0])∧Row64 w' cb [min (wr k a) (wr k b),max (wr k a) (wr k b),if wr k d=0 then wr k a else wr k b,ntv k a,wr k (apv op k a b),wr k 1]∧Turn g w2 w'):=by
    refine (mh_scan 0 10 (m2.below k2) (by decide) (Rgt.of HV.out) (row_far (row_new w2 [0,0,0,0,0,1]) (by omega)) rfl hE).mono ?_
    rintro e w' ⟨cb,he,_,hr,_,ht⟩
    exact ⟨cb,he,hr,(Turn.ofBelow k2).trans ht⟩
  have HG:Hid (w.heap.size≤g):=Nat.le_trans B2.out.size hg
  have B3:=hid_as (B2.out.trans (b2.mono B2.out.size))
  clear m2 hg b2 NW c0' c1' k2 hgl hE HV HO TW T1 B2
  go_wp2_with fail
  refine SC.out.mono ?_
  rintro e w3 ⟨cb,rfl,hr,ht⟩
  have B4:=hid_as (B3.out.trans (ht.below HG.out B3.out.size))
  have HR:=hid_as hr
  have W1:=hid_as (fun W:World=>wrap_r k a W)
  have W2:=hid_as (fun W:World=>wrap_r k b W)
  have W3:=hid_as (fun W:World=>wrap_r k d W)
  have W4:=hid_as (fun W:World=>wrap_r k 1 W)
  have W5:=hid_as (fun W:World=>wrap_r k (apv op k a b) W)
  have AP:=hid_as (fun W:World=>apply_r op k a b W)
  have NO:=hid_as (fun W:World=>not_call_r k a W)
  clear hr ht SC B3 HG
  obtain ⟨x,hx⟩:∃ x,x=wr k a:=⟨_,rfl⟩
  obtain ⟨y,hy⟩:∃ y,y=wr k b:=⟨_,rfl⟩
  obtain ⟨z,hz0⟩:∃ z,z=wr k d:=⟨_,rfl⟩
  rw [← hx] at HR W1
  rw [← hy] at HR W2
  rw [← hz0] at HR W3
  clear hx hy hz0
  go_wp2_with fail
  refine (W1.out _).mono ?_
  rintro e w4 ⟨rfl,k4⟩
  have B5:=hid_as (show Below w3.heap.size w3 w4 from k4)
  clear k4
  go_wp2_with fail
  refine (W2.out _).mono ?_
  rintro e w5 ⟨rfl,k5⟩
  have B6:=hid_as (below_and B5.out (show Below w4.heap.size w4 w5 from k5))
  clear k5
  go_wp2_with fail
  refine (W3.out _).mono ?_
  rintro e w6 ⟨rfl,k6⟩
  have B7:=hid_as (below_and B6.out (show Below w5.heap.size w5 w6 from k6))
  clear k6 B5 B6 W1 W2 W3
  obtain ⟨th,hth⟩:∃ th,th=if z=0 then x else y:=⟨_,rfl⟩
  rw [← hth] at HR
  obtain ⟨f,hf⟩:∃ f,f=apf op k b:=⟨_,rfl⟩
  rw [← hf] at AP ⊢
  clear hf
  obtain ⟨n,hn⟩:∃ n,n=apv op k a b:=⟨_,rfl⟩
  rw [← hn] at AP HR W5
  clear hn
  obtain ⟨nt,hn⟩:∃ n,n=ntv k a:=⟨_,rfl⟩
  rw [← hn] at NO HR
  clear hn
  obtain ⟨o1,hn⟩:∃ n,n=wr k 1:=⟨_,rfl⟩
  rw [← hn] at W4 HR
  clear hn
  obtain ⟨wn,hn⟩:∃ m,m=wr k n:=⟨_,rfl⟩
  rw [← hn] at W5 HR
  clear hn
  have ROW:Hid (∀ W,Below w3.heap.size w3 W→(W.cell? ⟨cb,0,none⟩=some (.int .i64 (min x y))∧W.cell? ⟨cb,1,none⟩=some (.int .i64 (max x y))∧W.cell? ⟨cb,2,none⟩=some (.int .i64 th)∧W.cell? ⟨cb,3,none⟩=some (.int .i64 nt)∧W.cell? ⟨cb,4,none⟩=some (.int .i64 wn)∧W.cell? ⟨cb,5,none⟩=some (.int .i64 o1))):=fun W hW=>by
    have r:=row_below HR.out hW
    exact ⟨cell_row (k:=0) r rfl,cell_row (k:=1) r rfl,cell_row (k:=2) r rfl,cell_row (k:=3) r rfl,cell_row (k:=4) r rfl,cell_row (k:=5) r rfl⟩
  by_cases hz:z=0
  · rw [if_pos hz] at hth
    subst hz
    rw [hth] at ROW
    clear hth HR
    go_wp2_with fail
    refine (AP.out _).mono ?_
    rintro e w7 ⟨rfl,k7⟩
    have B8:=hid_as (below_and B7.out (show Below w6.heap.size w6 w7 from k7))
    have B9:=hid_as (B4.out.trans (B8.out.mono B4.out.size))
    clear k7 AP B7
    rcases (by omega:x < y ∨ x=y ∨ y < x) with hxy | hxy | hxy
    · have RW:Hid (∀ W,Below w3.heap.size w3 W→(W.cell? ⟨cb,0,none⟩=some (.int .i64 x)∧W.cell? ⟨cb,1,none⟩=some (.int .i64 y)∧W.cell? ⟨cb,2,none⟩=some (.int .i64 x)∧W.cell? ⟨cb,3,none⟩=some (.int .i64 nt)∧W.cell? ⟨cb,4,none⟩=some (.int .i64 wn)∧W.cell? ⟨cb,5,none⟩=some (.int .i64 o1))):=fun W hW=>by
        have r:=ROW.out W hW
        rw [show min x y=x by omega,show max x y=y by omega] at r
        exact r
      have NO2:=hid_as (fun (W:World) (hW:Below w3.heap.size w3 W)=>(NO.out W).mono (fun e w' (q:e=.returned (.int .i64 nt)∧Kept W w')=>show e=.returned (.int .i64 nt)∧Below w3.heap.size w3 w'∧(w'.cell? ⟨cb,0,none⟩=some (.int .i64 x)∧w'.cell? ⟨cb,1,none⟩=some (.int .i64 y)∧w'.cell? ⟨cb,2,none⟩=some (.int .i64 x)∧w'.cell? ⟨cb,3,none⟩=some (.int .i64 nt)∧w'.cell? ⟨cb,4,none⟩=some (.int .i64 wn)∧w'.cell? ⟨cb,5,none⟩=some (.int .i64 o1)) from ⟨q.1,below_and hW (show Below W.heap.size W w' from q.2),RW.out _ (below_and hW (show Below W.heap.size W w' from q.2))⟩))
      have WA:=hid_as (fun (W:World) (hW:Below w3.heap.size w3 W)=>(W5.out W).mono (fun e w' (q:e=.returned (.int .i64 wn)∧Kept W w')=>show e=.returned (.int .i64 wn)∧Below w3.heap.size w3 w'∧(w'.cell? ⟨cb,0,none⟩=some (.int .i64 x)∧w'.cell? ⟨cb,1,none⟩=some (.int .i64 y)∧w'.cell? ⟨cb,2,none⟩=some (.int .i64 x)∧w'.cell? ⟨cb,3,none⟩=some (.int .i64 nt)∧w'.cell? ⟨cb,4,none⟩=some (.int .i64 wn)∧w'.cell? ⟨cb,5,none⟩=some (.int .i64 o1)) from ⟨q.1,below_and hW (show Below W.heap.size W w' from q.2),RW.out _ (below_and hW (show Below W.heap.size W w' from q.2))⟩))
      have WB:=hid_as (fun (W:World) (hW:Below w3.heap.size w3 W)=>(W4.out W).mono (fun e w' (q:e=.returned (.int .i64 o1)∧Kept W w')=>show e=.returned (.int .i64 o1)∧Below w3.heap.size w3 w'∧(w'.cell? ⟨cb,0,none⟩=some (.int .i64 x)∧w'.cell? ⟨cb,1,none⟩=some (.int .i64 y)∧w'.cell? ⟨cb,2,none⟩=some (.int .i64 x)∧w'.cell? ⟨cb,3,none⟩=some (.int .i64 nt)∧w'.cell? ⟨cb,4,none⟩=some (.int .i64 wn)∧w'.cell? ⟨cb,5,none⟩=some (.int .i64 o1)) from ⟨q.1,below_and hW (show Below W.heap.size W w' from q.2),RW.out _ (below_and hW (show Below W.heap.size W w' from q.2))⟩))
      have BD:=hid_as (below_and B8.out (Same.drewN w7 1).below)
      have z7:=RW.out _ B8.out
      clear NO W4 W5 ROW
      go_wp2
      have hm1:(if y < x then y else x)=x:=if_neg (by omega)
      have hm2:(if x < y then y else x)=y:=if_pos hxy
      have hm3:(if y > x then y else x)=y:=if_pos hxy
      go_region_held3 (fun W=>W.cell? ⟨cb,0,none⟩=some (.int .i64 x)∧W.cell? ⟨cb,1,none⟩=some (.int .i64 y)∧W.cell? ⟨cb,2,none⟩=some (.int .i64 x)∧W.cell? ⟨cb,3,none⟩=some (.int .i64 nt)∧W.cell? ⟨cb,4,none⟩=some (.int .i64 wn)∧W.cell? ⟨cb,5,none⟩=some (.int .i64 o1)) (first | exact z7 | assumption | go_keep) (first | ((go_at_call 21;(with_reducible refine (NO2.out _ ?_).mono ?_);(exact BD.out);rintro e w8 ⟨rfl,b8,z8⟩)) | ((go_at_call 19;(first | (with_reducible refine (WA.out _ b8).mono ?_) | (with_reducible refine (WB.out _ b9).mono ?_));rintro e w9 ⟨rfl,b9,z9⟩)))
      go_wp2
      go_ret
      exact ⟨rfl,B4.out.trans (b9.mono B4.out.size)⟩
    · subst hxy
      have RW:Hid (∀ W,Below w3.heap.size w3 W→(W.cell? ⟨cb,0,none⟩=some (.int .i64 x)∧W.cell? ⟨cb,1,none⟩=some (.int .i64 x)∧W.cell? ⟨cb,2,none⟩=some (.int .i64 x)∧W.cell? ⟨cb,3,none⟩=some (.int .i64 nt)∧W.cell? ⟨cb,4,none⟩=some (.int .i64 wn)∧W.cell? ⟨cb,5,none⟩=some (.int .i64 o1))):=fun W hW=>by
        have r:=ROW.out W hW
        rw [show min x x=x by omega,show max x x=x by omega] at r
        exact r
      have NO2:=hid_as (fun (W:World) (hW:Below w3.heap.size w3 W)=>(NO.out W).mono (fun e w' (q:e=.returned (.int .i64 nt)∧Kept W w')=>show e=.returned (.int .i64 nt)∧Below w3.heap.size w3 w'∧(w'.cell? ⟨cb,0,none⟩=some (.int .i64 x)∧w'.cell? ⟨cb,1,none⟩=some (.int .i64 x)∧w'.cell? ⟨cb,2,none⟩=some (.int .i64 x)∧w'.cell? ⟨cb,3,none⟩=some (.int .i64 nt)∧w'.cell? ⟨cb,4,none⟩=some (.int .i64 wn)∧w'.cell? ⟨cb,5,none⟩=some (.int .i64 o1)) from ⟨q.1,below_and hW (show Below W.heap.size W w' from q.2),RW.out _ (below_and hW (show Below W.heap.size W w' from q.2))⟩))
      have WA:=hid_as (fun (W:World) (hW:Below w3.heap.size w3 W)=>(W5.out W).mono (fun e w' (q:e=.returned (.int .i64 wn)∧Kept W w')=>show e=.returned (.int .i64 wn)∧Below w3.heap.size w3 w'∧(w'.cell? ⟨cb,0,none⟩=some (.int .i64 x)∧w'.cell? ⟨cb,1,none⟩=some (.int .i64 x)∧w'.cell? ⟨cb,2,none⟩=some (.int .i64 x)∧w'.cell? ⟨cb,3,none⟩=some (.int .i64 nt)∧w'.cell? ⟨cb,4,none⟩=some (.int .i64 wn)∧w'.cell? ⟨cb,5,none⟩=some (.int .i64 o1)) from ⟨q.1,below_and hW (show Below W.heap.size W w' from q.2),RW.out _ (below_and hW (show Below W.heap.size W w' from q.2))⟩))
      have WB:=hid_as (fun (W:World) (hW:Below w3.heap.size w3 W)=>(W4.out W).mono (fun e w' (q:e=.returned (.int .i64 o1)∧Kept W w')=>show e=.returned (.int .i64 o1)∧Below w3.heap.size w3 w'∧(w'.cell? ⟨cb,0,none⟩=some (.int .i64 x)∧w'.cell? ⟨cb,1,none⟩=some (.int .i64 x)∧w'.cell? ⟨cb,2,none⟩=some (.int .i64 x)∧w'.cell? ⟨cb,3,none⟩=some (.int .i64 nt)∧w'.cell? ⟨cb,4,none⟩=some (.int .i64 wn)∧w'.cell? ⟨cb,5,none⟩=some (.int .i64 o1)) from ⟨q.1,below_and hW (show Below W.heap.size W w' from q.2),RW.out _ (below_and hW (show Below W.heap.size W w' from q.2))⟩))
      have BD:=hid_as (below_and B8.out (Same.drewN w7 1).below)
      have z7:=RW.out _ B8.out
      clear NO W4 W5 ROW
      go_wp2
      have hm1:(if x < x then x else x)=x:=if_neg (by omega)
      have hm3:(if x > x then x else x)=x:=if_neg (by omega)
      go_region_held3 (fun W=>W.cell? ⟨cb,0,none⟩=some (.int .i64 x)∧W.cell? ⟨cb,1,none⟩=some (.int .i64 x)∧W.cell? ⟨cb,2,none⟩=some (.int .i64 x)∧W.cell? ⟨cb,3,none⟩=some (.int .i64 nt)∧W.cell? ⟨cb,4,none⟩=some (.int .i64 wn)∧W.cell? ⟨cb,5,none⟩=some (.int .i64 o1)) (first | exact z7 | assumption | go_keep) (first | ((go_at_call 21;(with_reducible refine (NO2.out _ ?_).mono ?_);(exact BD.out);rintro e w8 ⟨rfl,b8,z8⟩)) | ((go_at_call 19;(first | (with_reducible refine (WA.out _ b8).mono ?_) | (with_reducible refine (WB.out _ b9).mono ?_));rintro e w9 ⟨rfl,b9,z9⟩)))
      go_wp2
      go_ret
      exact ⟨rfl,B4.out.trans (b9.mono B4.out.size)⟩
    · have RW:Hid (∀ W,Below w3.heap.size w3 W→(W.cell? ⟨cb,0,none⟩=some (.int .i64 y)∧W.cell? ⟨cb,1,none⟩=some (.int .i64 x)∧W.cell? ⟨cb,2,none⟩=some (.int .i64 x)∧W.cell? ⟨cb,3,none⟩=some (.int .i64 nt)∧W.cell? ⟨cb,4,none⟩=some (.int .i64 wn)∧W.cell? ⟨cb,5,none⟩=some (.int .i64 o1))):=fun W hW=>by
        have r:=ROW.out W hW
        rw [show min x y=y by omega,show max x y=x by omega] at r
        exact r
      have NO2:=hid_as (fun (W:World) (hW:Below w3.heap.size w3 W)=>(NO.out W).mono (fun e w' (q:e=.returned (.int .i64 nt)∧Kept W w')=>show e=.returned (.int .i64 nt)∧Below w3.heap.size w3 w'∧(w'.cell? ⟨cb,0,none⟩=some (.int .i64 y)∧w'.cell? ⟨cb,1,none⟩=some (.int .i64 x)∧w'.cell? ⟨cb,2,none⟩=some (.int .i64 x)∧w'.cell? ⟨cb,3,none⟩=some (.int .i64 nt)∧w'.cell? ⟨cb,4,none⟩=some (.int .i64 wn)∧w'.cell? ⟨cb,5,none⟩=some (.int .i64 o1)) from ⟨q.1,below_and hW (show Below W.heap.size W w' from q.2),RW.out _ (below_and hW (show Below W.heap.size W w' from q.2))⟩))
      have WA:=hid_as (fun (W:World) (hW:Below w3.heap.size w3 W)=>(W5.out W).mono (fun e w' (q:e=.returned (.int .i64 wn)∧Kept W w')=>show e=.returned (.int .i64 wn)∧Below w3.heap.size w3 w'∧(w'.cell? ⟨cb,0,none⟩=some (.int .i64 y)∧w'.cell? ⟨cb,1,none⟩=some (.int .i64 x)∧w'.cell? ⟨cb,2,none⟩=some (.int .i64 x)∧w'.cell? ⟨cb,3,none⟩=some (.int .i64 nt)∧w'.cell? ⟨cb,4,none⟩=some (.int .i64 wn)∧w'.cell? ⟨cb,5,none⟩=some (.int .i64 o1)) from ⟨q.1,below_and hW (show Below W.heap.size W w' from q.2),RW.out _ (below_and hW (show Below W.heap.size W w' from q.2))⟩))
      have WB:=hid_as (fun (W:World) (hW:Below w3.heap.size w3 W)=>(W4.out W).mono (fun e w' (q:e=.returned (.int .i64 o1)∧Kept W w')=>show e=.returned (.int .i64 o1)∧Below w3.heap.size w3 w'∧(w'.cell? ⟨cb,0,none⟩=some (.int .i64 y)∧w'.cell? ⟨cb,1,none⟩=some (.int .i64 x)∧w'.cell? ⟨cb,2,none⟩=some (.int .i64 x)∧w'.cell? ⟨cb,3,none⟩=some (.int .i64 nt)∧w'.cell? ⟨cb,4,none⟩=some (.int .i64 wn)∧w'.cell? ⟨cb,5,none⟩=some (.int .i64 o1)) from ⟨q.1,below_and hW (show Below W.heap.size W w' from q.2),RW.out _ (below_and hW (show Below W.heap.size W w' from q.2))⟩))
      have BD:=hid_as (below_and B8.out (Same.drewN w7 1).below)
      have z7:=RW.out _ B8.out
      clear NO W4 W5 ROW
      go_wp2
      have hm1:(if y < x then y else x)=y:=if_pos hxy
      have hm2:(if x < y then y else x)=x:=if_neg (by omega)
      have hm3:(if y > x then y else x)=x:=if_neg (by omega)
      go_region_held3 (fun W=>W.cell? ⟨cb,0,none⟩=some (.int .i64 y)∧W.cell? ⟨cb,1,none⟩=some (.int .i64 x)∧W.cell? ⟨cb,2,none⟩=some (.int .i64 x)∧W.cell? ⟨cb,3,none⟩=some (.int .i64 nt)∧W.cell? ⟨cb,4,none⟩=some (.int .i64 wn)∧W.cell? ⟨cb,5,none⟩=some (.int .i64 o1)) (first | exact z7 | assumption | go_keep) (first | ((go_at_call 21;(with_reducible refine (NO2.out _ ?_).mono ?_);(exact BD.out);rintro e w8 ⟨rfl,b8,z8⟩)) | ((go_at_call 19;(first | (with_reducible refine (WA.out _ b8).mono ?_) | (with_reducible refine (WB.out _ b9).mono ?_));rintro e w9 ⟨rfl,b9,z9⟩)))
      go_wp2
      go_ret
      exact ⟨rfl,B4.out.trans (b9.mono B4.out.size)⟩
  · rw [if_neg hz] at hth
    have hzb:(z == 0)=false:=beq_eq_false_iff_ne.2 hz
    have hzn:(z != 0)=true:=by rw [bne,hzb];rfl
    have hzd:decide (z=0)=false:=decide_eq_false hz
    rw [hth] at ROW
    clear hth HR hz
    go_wp2_with fail
    refine (AP.out _).mono ?_
    rintro e w7 ⟨rfl,k7⟩
    have B8:=hid_as (below_and B7.out (show Below w6.heap.size w6 w7 from k7))
    have B9:=hid_as (B4.out.trans (B8.out.mono B4.out.size))
    clear k7 AP B7
    rcases (by omega:x < y ∨ x=y ∨ y < x) with hxy | hxy | hxy
    · have RW:Hid (∀ W,Below w3.heap.size w3 W→(W.cell? ⟨cb,0,none⟩=some (.int .i64 x)∧W.cell? ⟨cb,1,none⟩=some (.int .i64 y)∧W.cell? ⟨cb,2,none⟩=some (.int .i64 y)∧W.cell? ⟨cb,3,none⟩=some (.int .i64 nt)∧W.cell? ⟨cb,4,none⟩=some (.int .i64 wn)∧W.cell? ⟨cb,5,none⟩=some (.int .i64 o1))):=fun W hW=>by
        have r:=ROW.out W hW
        rw [show min x y=x by omega,show max x y=y by omega] at r
        exact r
      have NO2:=hid_as (fun (W:World) (hW:Below w3.heap.size w3 W)=>(NO.out W).mono (fun e w' (q:e=.returned (.int .i64 nt)∧Kept W w')=>show e=.returned (.int .i64 nt)∧Below w3.heap.size w3 w'∧(w'.cell? ⟨cb,0,none⟩=some (.int .i64 x)∧w'.cell? ⟨cb,1,none⟩=some (.int .i64 y)∧w'.cell? ⟨cb,2,none⟩=some (.int .i64 y)∧w'.cell? ⟨cb,3,none⟩=some (.int .i64 nt)∧w'.cell? ⟨cb,4,none⟩=some (.int .i64 wn)∧w'.cell? ⟨cb,5,none⟩=some (.int .i64 o1)) from ⟨q.1,below_and hW (show Below W.heap.size W w' from q.2),RW.out _ (below_and hW (show Below W.heap.size W w' from q.2))⟩))
      have WA:=hid_as (fun (W:World) (hW:Below w3.heap.size w3 W)=>(W5.out W).mono (fun e w' (q:e=.returned (.int .i64 wn)∧Kept W w')=>show e=.returned (.int .i64 wn)∧Below w3.heap.size w3 w'∧(w'.cell? ⟨cb,0,none⟩=some (.int .i64 x)∧w'.cell? ⟨cb,1,none⟩=some (.int .i64 y)∧w'.cell? ⟨cb,2,none⟩=some (.int .i64 y)∧w'.cell? ⟨cb,3,none⟩=some (.int .i64 nt)∧w'.cell? ⟨cb,4,none⟩=some (.int .i64 wn)∧w'.cell? ⟨cb,5,none⟩=some (.int .i64 o1)) from ⟨q.1,below_and hW (show Below W.heap.size W w' from q.2),RW.out _ (below_and hW (show Below W.heap.size W w' from q.2))⟩))
      have WB:=hid_as (fun (W:World) (hW:Below w3.heap.size w3 W)=>(W4.out W).mono (fun e w' (q:e=.returned (.int .i64 o1)∧Kept W w')=>show e=.returned (.int .i64 o1)∧Below w3.heap.size w3 w'∧(w'.cell? ⟨cb,0,none⟩=some (.int .i64 x)∧w'.cell? ⟨cb,1,none⟩=some (.int .i64 y)∧w'.cell? ⟨cb,2,none⟩=some (.int .i64 y)∧w'.cell? ⟨cb,3,none⟩=some (.int .i64 nt)∧w'.cell? ⟨cb,4,none⟩=some (.int .i64 wn)∧w'.cell? ⟨cb,5,none⟩=some (.int .i64 o1)) from ⟨q.1,below_and hW (show Below W.heap.size W w' from q.2),RW.out _ (below_and hW (show Below W.heap.size W w' from q.2))⟩))
      have BD:=hid_as (below_and B8.out (Same.drewN w7 1).below)
      have z7:=RW.out _ B8.out
      clear NO W4 W5 ROW
      go_wp2
      have hm1:(if y < x then y else x)=x:=if_neg (by omega)
      have hm2:(if x < y then y else x)=y:=if_pos hxy
      have hm3:(if y > x then y else x)=y:=if_pos hxy
      go_region_held3 (fun W=>W.cell? ⟨cb,0,none⟩=some (.int .i64 x)∧W.cell? ⟨cb,1,none⟩=some (.int .i64 y)∧W.cell? ⟨cb,2,none⟩=some (.int .i64 y)∧W.cell? ⟨cb,3,none⟩=some (.int .i64 nt)∧W.cell? ⟨cb,4,none⟩=some (.int .i64 wn)∧W.cell? ⟨cb,5,none⟩=some (.int .i64 o1)) (first | exact z7 | assumption | go_keep) (first | ((go_at_call 21;(with_reducible refine (NO2.out _ ?_).mono ?_);(exact BD.out);rintro e w8 ⟨rfl,b8,z8⟩)) | ((go_at_call 19;(first | (with_reducible refine (WA.out _ b8).mono ?_) | (with_reducible refine (WB.out _ b9).mono ?_));rintro e w9 ⟨rfl,b9,z9⟩)))
      go_wp2
      go_ret
      exact ⟨rfl,B4.out.trans (b9.mono B4.out.size)⟩
    · subst hxy
      have RW:Hid (∀ W,Below w3.heap.size w3 W→(W.cell? ⟨cb,0,none⟩=some (.int .i64 x)∧W.cell? ⟨cb,1,none⟩=some (.int .i64 x)∧W.cell? ⟨cb,2,none⟩=some (.int .i64 x)∧W.cell? ⟨cb,3,none⟩=some (.int .i64 nt)∧W.cell? ⟨cb,4,none⟩=some (.int .i64 wn)∧W.cell? ⟨cb,5,none⟩=some (.int .i64 o1))):=fun W hW=>by
        have r:=ROW.out W hW
        rw [show min x x=x by omega,show max x x=x by omega] at r
        exact r
      have NO2:=hid_as (fun (W:World) (hW:Below w3.heap.size w3 W)=>(NO.out W).mono (fun e w' (q:e=.returned (.int .i64 nt)∧Kept W w')=>show e=.returned (.int .i64 nt)∧Below w3.heap.size w3 w'∧(w'.cell? ⟨cb,0,none⟩=some (.int .i64 x)∧w'.cell? ⟨cb,1,none⟩=some (.int .i64 x)∧w'.cell? ⟨cb,2,none⟩=some (.int .i64 x)∧w'.cell? ⟨cb,3,none⟩=some (.int .i64 nt)∧w'.cell? ⟨cb,4,none⟩=some (.int .i64 wn)∧w'.cell? ⟨cb,5,none⟩=some (.int .i64 o1)) from ⟨q.1,below_and hW (show Below W.heap.size W w' from q.2),RW.out _ (below_and hW (show Below W.heap.size W w' from q.2))⟩))
      have WA:=hid_as (fun (W:World) (hW:Below w3.heap.size w3 W)=>(W5.out W).mono (fun e w' (q:e=.returned (.int .i64 wn)∧Kept W w')=>show e=.returned (.int .i64 wn)∧Below w3.heap.size w3 w'∧(w'.cell? ⟨cb,0,none⟩=some (.int .i64 x)∧w'.cell? ⟨cb,1,none⟩=some (.int .i64 x)∧w'.cell? ⟨cb,2,none⟩=some (.int .i64 x)∧w'.cell? ⟨cb,3,none⟩=some (.int .i64 nt)∧w'.cell? ⟨cb,4,none⟩=some (.int .i64 wn)∧w'.cell? ⟨cb,5,none⟩=some (.int .i64 o1)) from ⟨q.1,below_and hW (show Below W.heap.size W w' from q.2),RW.out _ (below_and hW (show Below W.heap.size W w' from q.2))⟩))
      have WB:=hid_as (fun (W:World) (hW:Below w3.heap.size w3 W)=>(W4.out W).mono (fun e w' (q:e=.returned (.int .i64 o1)∧Kept W w')=>show e=.returned (.int .i64 o1)∧Below w3.heap.size w3 w'∧(w'.cell? ⟨cb,0,none⟩=some (.int .i64 x)∧w'.cell? ⟨cb,1,none⟩=some (.int .i64 x)∧w'.cell? ⟨cb,2,none⟩=some (.int .i64 x)∧w'.cell? ⟨cb,3,none⟩=some (.int .i64 nt)∧w'.cell? ⟨cb,4,none⟩=some (.int .i64 wn)∧w'.cell? ⟨cb,5,none⟩=some (.int .i64 o1)) from ⟨q.1,below_and hW (show Below W.heap.size W w' from q.2),RW.out _ (below_and hW (show Below W.heap.size W w' from q.2))⟩))
      have BD:=hid_as (below_and B8.out (Same.drewN w7 1).below)
      have z7:=RW.out _ B8.out
      clear NO W4 W5 ROW
      go_wp2
      have hm1:(if x < x then x else x)=x:=if_neg (by omega)
      have hm3:(if x > x then x else x)=x:=if_neg (by omega)
      go_region_held3 (fun W=>W.cell? ⟨cb,0,none⟩=some (.int .i64 x)∧W.cell? ⟨cb,1,none⟩=some (.int .i64 x)∧W.cell? ⟨cb,2,none⟩=some (.int .i64 x)∧W.cell? ⟨cb,3,none⟩=some (.int .i64 nt)∧W.cell? ⟨cb,4,none⟩=some (.int .i64 wn)∧W.cell? ⟨cb,5,none⟩=some (.int .i64 o1)) (first | exact z7 | assumption | go_keep) (first | ((go_at_call 21;(with_reducible refine (NO2.out _ ?_).mono ?_);(exact BD.out);rintro e w8 ⟨rfl,b8,z8⟩)) | ((go_at_call 19;(first | (with_reducible refine (WA.out _ b8).mono ?_) | (with_reducible refine (WB.out _ b9).mono ?_));rintro e w9 ⟨rfl,b9,z9⟩)))
      go_wp2
      go_ret
      exact ⟨rfl,B4.out.trans (b9.mono B4.out.size)⟩
    · have RW:Hid (∀ W,Below w3.heap.size w3 W→(W.cell? ⟨cb,0,none⟩=some (.int .i64 y)∧W.cell? ⟨cb,1,none⟩=some (.int .i64 x)∧W.cell? ⟨cb,2,none⟩=some (.int .i64 y)∧W.cell? ⟨cb,3,none⟩=some (.int .i64 nt)∧W.cell? ⟨cb,4,none⟩=some (.int .i64 wn)∧W.cell? ⟨cb,5,none⟩=some (.int .i64 o1))):=fun W hW=>by
        have r:=ROW.out W hW
        rw [show min x y=y by omega,show max x y=x by omega] at r
        exact r
      have NO2:=hid_as (fun (W:World) (hW:Below w3.heap.size w3 W)=>(NO.out W).mono (fun e w' (q:e=.returned (.int .i64 nt)∧Kept W w')=>show e=.returned (.int .i64 nt)∧Below w3.heap.size w3 w'∧(w'.cell? ⟨cb,0,none⟩=some (.int .i64 y)∧w'.cell? ⟨cb,1,none⟩=some (.int .i64 x)∧w'.cell? ⟨cb,2,none⟩=some (.int .i64 y)∧w'.cell? ⟨cb,3,none⟩=some (.int .i64 nt)∧w'.cell? ⟨cb,4,none⟩=some (.int .i64 wn)∧w'.cell? ⟨cb,5,none⟩=some (.int .i64 o1)) from ⟨q.1,below_and hW (show Below W.heap.size W w' from q.2),RW.out _ (below_and hW (show Below W.heap.size W w' from q.2))⟩))
      have WA:=hid_as (fun (W:World) (hW:Below w3.heap.size w3 W)=>(W5.out W).mono (fun e w' (q:e=.returned (.int .i64 wn)∧Kept W w')=>show e=.returned (.int .i64 wn)∧Below w3.heap.size w3 w'∧(w'.cell? ⟨cb,0,none⟩=some (.int .i64 y)∧w'.cell? ⟨cb,1,none⟩=some (.int .i64 x)∧w'.cell? ⟨cb,2,none⟩=some (.int .i64 y)∧w'.cell? ⟨cb,3,none⟩=some (.int .i64 nt)∧w'.cell? ⟨cb,4,none⟩=some (.int .i64 wn)∧w'.cell? ⟨cb,5,none⟩=some (.int .i64 o1)) from ⟨q.1,below_and hW (show Below W.heap.size W w' from q.2),RW.out _ (below_and hW (show Below W.heap.size W w' from q.2))⟩))
      have WB:=hid_as (fun (W:World) (hW:Below w3.heap.size w3 W)=>(W4.out W).mono (fun e w' (q:e=.returned (.int .i64 o1)∧Kept W w')=>show e=.returned (.int .i64 o1)∧Below w3.heap.size w3 w'∧(w'.cell? ⟨cb,0,none⟩=some (.int .i64 y)∧w'.cell? ⟨cb,1,none⟩=some (.int .i64 x)∧w'.cell? ⟨cb,2,none⟩=some (.int .i64 y)∧w'.cell? ⟨cb,3,none⟩=some (.int .i64 nt)∧w'.cell? ⟨cb,4,none⟩=some (.int .i64 wn)∧w'.cell? ⟨cb,5,none⟩=some (.int .i64 o1)) from ⟨q.1,below_and hW (show Below W.heap.size W w' from q.2),RW.out _ (below_and hW (show Below W.heap.size W w' from q.2))⟩))
      have BD:=hid_as (below_and B8.out (Same.drewN w7 1).below)
      have z7:=RW.out _ B8.out
      clear NO W4 W5 ROW
      go_wp2
      have hm1:(if y < x then y else x)=y:=if_pos hxy
      have hm2:(if x < y then y else x)=x:=if_neg (by omega)
      have hm3:(if y > x then y else x)=x:=if_neg (by omega)
      go_region_held3 (fun W=>W.cell? ⟨cb,0,none⟩=some (.int .i64 y)∧W.cell? ⟨cb,1,none⟩=some (.int .i64 x)∧W.cell? ⟨cb,2,none⟩=some (.int .i64 y)∧W.cell? ⟨cb,3,none⟩=some (.int .i64 nt)∧W.cell? ⟨cb,4,none⟩=some (.int .i64 wn)∧W.cell? ⟨cb,5,none⟩=some (.int .i64 o1)) (first | exact z7 | assumption | go_keep) (first | ((go_at_call 21;(with_reducible refine (NO2.out _ ?_).mono ?_);(exact BD.out);rintro e w8 ⟨rfl,b8,z8⟩)) | ((go_at_call 19;(first | (with_reducible refine (WA.out _ b8).mono ?_) | (with_reducible refine (WB.out _ b9).mono ?_));rintro e w9 ⟨rfl,b9,z9⟩)))
      go_wp2
      go_ret
      exact ⟨rfl,B4.out.trans (b9.mono B4.out.size)⟩
end Go.Proofs.YthjclogkcmomkaaGreatDoor
