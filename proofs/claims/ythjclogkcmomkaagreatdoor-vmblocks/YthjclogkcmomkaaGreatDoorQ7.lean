/- The walks of types' count, names, kindOf, Block, Pins, Pin (stage 21). · The walks of types' Block, Pins, Pin (stage 21). -/
import Derived.Test.YthjclogkcmomkaaGreatDoorQ1
namespace Go.Proofs.YthjclogkcmomkaaGreatDoor
open Go.RowKit
open Fb
theorem pinsOf_c (k:Nat) (hk:k < 10) (w:World):Calls Tryz.prog 127 #[.string (nm k)] w fun e w'=>e=.returned (.tuple #[.agg (p5 (pI k)).toArray,.agg (p5 (pO k)).toArray])∧Below w.heap.size w w':=by
  match k,hk with
  | 0,_=>exact pinsOf_0 w
  | 1,_=>exact pinsOf_1 w
  | 2,_=>exact pinsOf_2 w
  | 3,_=>exact pinsOf_3 w
  | 4,_=>exact pinsOf_4 w
  | 5,_=>exact pinsOf_5 w
  | 6,_=>exact pinsOf_6 w
  | 7,_=>exact pinsOf_7 w
  | 8,_=>exact pinsOf_8 w
  | 9,_=>exact pinsOf_9 w
set_option maxHeartbeats 800000 in
/-- How many pins have a name. -/
theorem count_c {w:World} {g:Nat} {l:List (List UInt8 × Int)} (hl:Pn l) (h:Lies w g 0 (p5 l)) :
    Calls Tryz.prog 140 #[.pointer (some ⟨g,0,none⟩)] w fun e w'=>e=.returned (.int .i64 (l.length:Int))∧w'=w:=by
  have H:=hid_as h
  have hn:=hl.le
  have HP:=hid_as hl
  obtain ⟨n,en⟩:∃ n,n=l.length:=⟨_,rfl⟩
  rw [← en] at hn ⊢
  have EN:=hid_as en
  clear h hl en
  go_enter Tryz.func140,Tryz.ntmps140
  go_wp2
  go_loopw [3] (fun i wr=>∃ k:Nat,k≤n∧i=.int .i64 k∧wr=w) (fun i _=>n - (intOf i).toNat)
  case atStart=>exact ⟨0,by omega,rfl,rfl⟩
  case round =>
    obtain ⟨k,hk,rfl,rfl⟩:=hrel
    by_cases hkn:k < n
    · have hk5:(k:Int) < 5:=by omega
      have hkl:k < l.length:=by rw [← EN.out];exact hkn
      have c:=H.out (k * 2) _ (p5_at k hkl).1
      have ne2:((tx (l[k]'hkl).1).toList.isEmpty)=false:=by
        rw [ByteArray.toList_eq]
        have:=HP.out.ne _ (List.getElem_mem hkl)
        cases hq:(l[k]'hkl).1 with
        | nil=>exact absurd hq this
        | cons a b=>rfl
      rw [Nat.zero_add] at c
      generalize tx (l[k]'hkl).1=s at *
      clear hkl
      go_wp2
      go_roundw
      case rel=>exact ⟨k+1,by omega,by go_num,trivial⟩
      case measure=>simp [intOf];omega
    · obtain rfl:k=n:=by omega
      by_cases h5:k < 5
      · have hk5:(k:Int) < 5:=by omega
        have c:=H.out (l.length * 2) _ (p5_end (by rw [← EN.out];exact h5))
        rw [← EN.out,Nat.zero_add] at c
        go_wp2
        go_ret
        exact ⟨rfl,rfl⟩
      · have hk5:¬ (k:Int) < 5:=by omega
        go_wp2
        go_ret
        exact ⟨rfl,rfl⟩
set_option maxHeartbeats 800000 in
/-- The kind of the pin of that name. -/
theorem kindOf_c {w:World} {g:Nat} {l:List (List UInt8 × Int)} (q:List UInt8) (hl:Pn l) (h:Lies w g 0 (p5 l)) :
    Calls Tryz.prog 141 #[.pointer (some ⟨g,0,none⟩),.string (tx q)] w fun e w'=>e=.returned (.int .i64 (kdf q l))∧w'=w:=by
  have H:=hid_as h
  have CN:=hid_as (count_c hl h)
  have hn:=hl.le
  obtain ⟨n,en⟩:∃ n,n=l.length:=⟨_,rfl⟩
  rw [← en] at hn CN
  have EN:=hid_as en
  have K0:Hid (kdf q (l.drop 0)=kdf q l):=rfl
  clear h hl en
  go_enter Tryz.func141,Tryz.ntmps141
  go_wp2_with (go_at_call 140;refine CN.out.mono ?_;rintro e w' ⟨rfl,hw⟩;subst w')
  go_loopw [8] (fun i wr=>∃ k:Nat,k≤n∧i=.int .i64 k∧wr=w∧kdf q (l.drop k)=kdf q l) (fun i _=>n - (intOf i).toNat)
  case atStart=>exact ⟨0,by omega,rfl,rfl,K0.out⟩
  case round =>
    obtain ⟨k,hk,rfl,rfl,hd⟩:=hrel
    have KD:=hid_as hd
    clear hd CN K0
    by_cases hkn:k < n
    · have hk5:(k:Int) < (n:Int):=by omega
      have hkl:k < l.length:=by rw [← EN.out];exact hkn
      have hk6:(k:Int) < 5:=by omega
      have c:=H.out (k * 2) _ (p5_at k hkl).1
      have c1:=H.out (k * 2+1) _ (p5_at k hkl).2
      have KD2:=KD.out
      rw [kdf_drop hkl] at KD2
      rw [Nat.zero_add] at c c1
      have te:=tx_eq (l[k]'hkl).1 q
      have KE:=hid_as KD2
      clear KD2
      obtain ⟨s,hs⟩:∃ s,s=tx (l[k]'hkl).1:=⟨_,rfl⟩
      by_cases he:(l[k]'hkl).1=q
      · have tb:((tx (l[k]'hkl).1).toList == (tx q).toList)=true:=by rw [te,decide_eq_true he]
        have KF:=hid_as (KE.out)
        rw [if_pos he] at KF
        generalize (l[k]'hkl).2=z at *
        generalize tx (l[k]'hkl).1=s at *
        clear te KE he hkl hs
        go_wp2
        go_ret
        exact ⟨ret_int KF.out,rfl⟩
      · have tb:((tx (l[k]'hkl).1).toList == (tx q).toList)=false:=by rw [te,decide_eq_false he]
        have KF:=hid_as (KE.out)
        rw [if_neg he] at KF
        generalize (l[k]'hkl).2=z at *
        generalize tx (l[k]'hkl).1=s at *
        clear te KE he hkl hs
        go_wp2
        go_roundw
        case rel=>exact ⟨k+1,by omega,by go_num,trivial,KF.out⟩
        case measure=>simp [intOf];omega
    · obtain rfl:k=n:=by omega
      have e0:kdf q l=0:=by
        rw [← KD.out,List.drop_of_length_le (by rw [← EN.out];exact Nat.le_refl _)]
        rfl
      go_wp2
      go_ret
      exact ⟨ret_int e0.symm,rfl⟩
/-- The names, k of them, blank texts behind. -/
def sp (l:List (List UInt8 × Int)) (k:Nat):List Value:=strs (l.take k) ++ List.replicate (l.length - k) (.string ⟨#[]⟩)
theorem sp_all (l:List (List UInt8 × Int)):sp l l.length=strs l:=by simp [sp]
theorem sp_next (l:List (List UInt8 × Int)) (k:Nat) (h:k < l.length):(sp l k).set k (.string (tx (l[k]'h).1))=sp l (k+1):=by
  unfold sp
  rw [take_snocL l k h,strs_app]
  have e:(strs (l.take k)).length=k:=by rw [strs_len,List.length_take];omega
  rw [List.set_append_right _ _ (by omega),e,Nat.sub_self]
  obtain ⟨m,hm⟩:∃ m,l.length - k=m+1:=⟨l.length - k - 1,by omega⟩
  rw [hm,show l.length - (k+1)=m by omega,List.replicate_succ,List.set_cons_zero,List.append_assoc]
  rfl
theorem sp_at (l:List (List UInt8 × Int)) (k:Nat) (h:k < l.length):(sp l k)[k]?=some (.string ⟨#[]⟩):=by
  unfold sp
  have e:(strs (l.take k)).length=k:=by rw [strs_len,List.length_take];omega
  rw [List.getElem?_append_right (by omega),e,Nat.sub_self,List.getElem?_replicate]
  rw [if_pos (by omega)]
abbrev RowS (w:World) (g:Nat) (l:List Value):Prop:=w.heap[g]?=some (.cells l.toArray 9 (0,0))
theorem mk_strs (W:World) (n:Nat) (hn:n≤1000):∃ W',(Instr.makeSlice 107 (.int .i64 (n:Int)) (.int .i64 (n:Int))).run Tryz.prog W=.ok (.slice (some ⟨W.heap.size,0,none⟩) n n) W'∧RowS W' W.heap.size (List.replicate n (.string ⟨#[]⟩))∧Below W.heap.size W W':=by
  obtain ⟨i0,hi0,hz0,hz1,hz2⟩:=info_parts Tryz.infoStr
  have h:=run_make (P:=Tryz.prog) W 107 9 i0 (.string ⟨#[]⟩) Tryz.underlying107 hi0 hz0 .i64 .i64 n n (by omega) (by omega) (by rw [hz2];omega) (by omega)
  rw [hz1] at h
  simp only [Int.toNat_natCast,Nat.mul_one] at h
  refine ⟨_,h,?_,below_new (Below.refl _ W) _⟩
  have e:madeCells (Value.cells (.string ⟨#[]⟩)) n=(List.replicate n (Value.string ⟨#[]⟩)).toArray:=by
    apply Array.ext'
    rw [show Value.cells (.string ⟨#[]⟩)=#[.string ⟨#[]⟩] from rfl,toList_madeCells_one]
  have r:=heap_alloc_new W (.cells (List.replicate n (Value.string ⟨#[]⟩)).toArray 9)
  rw [← e] at r
  rw [e] at r ⊢
  exact r
set_option maxHeartbeats 800000 in
/-- The pins' names. -/
theorem names_c {w:World} {g:Nat} {l:List (List UInt8 × Int)} (hl:Pn l) (h:Lies w g 0 (p5 l)) :
    Calls Tryz.prog 128 #[.pointer (some ⟨g,0,none⟩)] w fun e w'=>∃ v,e=.returned v∧w'.ownsRow w.heap.size 9 1 v l.length (strs l)∧Below w.heap.size w w':=by
  have H:=hid_as h
  have CN:=hid_as (count_c hl h)
  have hn:=hl.le
  obtain ⟨w1,hrun,hrow,hB⟩:=mk_strs w l.length (by omega)
  have hgs:g < w.heap.size:=lt_of_cell (h 0 _ (by
    show (p5 l)[0]?=some ((p5 l)[0]'(by simp [p5,prow_len];omega))
    exact List.getElem?_eq_getElem _))
  have R0:Hid (RowS w1 w.heap.size (sp l 0)):=by
    have e:sp l 0=List.replicate l.length (.string ⟨#[]⟩):=by simp [sp,strs]
    rw [e]
    exact hrow
  have B0:=hid_as hB
  obtain ⟨n,en⟩:∃ n,n=l.length:=⟨_,rfl⟩
  rw [← en] at hn CN hrun ⊢
  obtain ⟨s,es⟩:∃ s,s=w.heap.size:=⟨_,rfl⟩
  rw [← es] at hgs hrun R0 B0 ⊢
  have EN:=hid_as en
  have ES:=hid_as es
  clear h hl en es hrow hB
  go_enter Tryz.func128,Tryz.ntmps128
  go_wp2_with (go_at_call 140;refine CN.out.mono ?_;rintro e w' ⟨rfl,hw⟩;subst w')
  go_loopw [10] (fun i wr=>∃ k:Nat,k≤n∧i=.int .i64 k∧RowS wr s (sp l k)∧Below s w wr) (fun i _=>n - (intOf i).toNat)
  case atStart=>exact ⟨0,by omega,rfl,R0.out,B0.out⟩
  case round =>
    obtain ⟨k,hk,rfl,hr,hb⟩:=hrel
    have R:=hid_as hr
    have KB:=hid_as hb
    clear hr hb R0 B0 CN hrun
    by_cases hkn:k < n
    · have hk5:(k:Int) < (n:Int):=by omega
      have hkl:k < l.length:=by rw [← EN.out];exact hkn
      have hk6:(k:Int) < 5:=by omega
      have c:wr.cell? ⟨g,k * 2,none⟩=some (.string (tx (l[k]'hkl).1)):=by
        have:=H.out (k * 2) _ (p5_at k hkl).1
        rw [Nat.zero_add] at this
        exact (KB.out.cell (p:=⟨g,k * 2,none⟩) hgs).trans this
      have ck:=cell_row R.out (sp_at l k hkl)
      have fk:wr.frozen? ⟨s,k,none⟩=false:=frozen_row R.out
      have R2:Hid (RowS (wr.setCell ⟨s,k,none⟩ (.string (tx (l[k]'hkl).1))) s (sp l (k+1))):=by
        rw [← sp_next l k hkl]
        exact set_row R.out _
      have B2:Hid (Below s w (wr.setCell ⟨s,k,none⟩ (.string (tx (l[k]'hkl).1)))):=by
        have t:Turn s wr (wr.setCell ⟨s,k,none⟩ (.string (tx (l[k]'hkl).1))):=(Turn.refl s wr).set k _
        exact KB.out.trans (t.below (Nat.le_refl _) (by have:=KB.out.size;rw [← ES.out] at this;exact this))
      generalize tx (l[k]'hkl).1=z at *
      clear hkl
      go_wp2
      go_roundw
      case rel=>exact ⟨k+1,by omega,by go_num,R2.out,B2.out⟩
      case measure=>simp [intOf];omega
    · obtain rfl:k=n:=by omega
      have OW:Hid (wr.ownsRow s 9 1 (.slice (some ⟨s,0,none⟩) k k) k (strs l)):=by
        have r:=R.out
        rw [EN.out,sp_all] at r
        refine ⟨by rw [strs_len,EN.out,Nat.mul_one],Or.inr ⟨s,k,_,rfl,Nat.le_refl _,r,Nat.le_refl _,by unfold maxLen;omega,?_,?_⟩⟩
        · simp [strs_len,EN.out]
        · rw [List.take_of_length_le (by simp [strs_len,EN.out])]
      go_wp2
      go_ret
      exact ⟨_,rfl,OW.out,KB.out⟩
theorem p5_shape {l:List (List UInt8 × Int)} (h:Pn l):∃ (s0 s1 s2 s3 s4:ByteArray) (k0 k1 k2 k3 k4:Int),p5 l=[.string s0,.int .i64 k0,.string s1,.int .i64 k1,.string s2,.int .i64 k2,.string s3,.int .i64 k3,.string s4,.int .i64 k4]:=by
  have hl:=h.le
  match l,hl with
  | [],_=>exact ⟨_,_,_,_,_,_,_,_,_,_,rfl⟩
  | [a],_=>exact ⟨_,_,_,_,_,_,_,_,_,_,rfl⟩
  | [a,b],_=>exact ⟨_,_,_,_,_,_,_,_,_,_,rfl⟩
  | [a,b,c],_=>exact ⟨_,_,_,_,_,_,_,_,_,_,rfl⟩
  | [a,b,c,d],_=>exact ⟨_,_,_,_,_,_,_,_,_,_,rfl⟩
  | [a,b,c,d,e],_=>exact ⟨_,_,_,_,_,_,_,_,_,_,rfl⟩
  | a :: b :: c :: d :: e :: f :: l,hl=>exact absurd hl (by simp only [List.length_cons];omega)
theorem pn_nil:Pn []:=⟨by decide,fun p h=>by cases h⟩
end Go.Proofs.YthjclogkcmomkaaGreatDoor
namespace Go.Proofs.YthjclogkcmomkaaGreatDoor
open Go.RowKit
open Fb
theorem kdf_app (q:List UInt8):∀ (a b:List (List UInt8 × Int)),(∀ p,p ∈ a→p.2 ≠ 0)→kdf q (a ++ b)=if kdf q a=0 then kdf q b else kdf q a
  | [],b,_=>by simp [kdf]
  | p :: a,b,h=>by
    have ih:=kdf_app q a b (fun r hr=>h r (by simp [hr]))
    show (if p.1=q then p.2 else kdf q (a ++ b))=if (if p.1=q then p.2 else kdf q a)=0 then kdf q b else (if p.1=q then p.2 else kdf q a)
    by_cases e:p.1=q
    · rw [if_pos e,if_pos e,if_neg (h p (by simp))]
    · rw [if_neg e,if_neg e,ih]
theorem pI_ne (k:Nat) (hk:k < 10):∀ p,p ∈ pI k→p.2 ≠ 0:=by
  match k,hk with
  | 0,_=>decide
  | 1,_=>decide
  | 2,_=>decide
  | 3,_=>decide
  | 4,_=>decide
  | 5,_=>decide
  | 6,_=>decide
  | 7,_=>decide
  | 8,_=>decide
  | 9,_=>decide
/-- Two arrays of pins in blocks of their own. -/
theorem two_pins (w1:World) (a b:List Value):Lies ((w1.alloc (.cells a.toArray 217)).alloc (.cells b.toArray 217)) w1.heap.size 0 a∧Lies ((w1.alloc (.cells a.toArray 217)).alloc (.cells b.toArray 217)) (w1.heap.size+1) 0 b∧Below w1.heap.size w1 ((w1.alloc (.cells a.toArray 217)).alloc (.cells b.toArray 217)):=by
  refine ⟨(lies_new w1 a _).below (below_new1 _ _),?_,below_and (below_new1 _ _) (below_new1 _ _)⟩
  have:=lies_new (w1.alloc (.cells a.toArray 217)) b 217
  rwa [World.size_alloc] at this
set_option maxHeartbeats 800000 in
theorem pin_c (k:Nat) (hk:k < 10) (q:List UInt8) (w:World):Calls Tryz.prog 129 #[.string (nm k),.string (tx q)] w fun e w'=>e=.returned (.int .i64 (kdf q (pI k ++ pO k)))∧Below w.heap.size w w':=by
  have PO:=hid_as (pinsOf_c k hk w)
  have HI:=hid_as (pI_pn k hk)
  have HO:=hid_as (pO_pn k hk)
  have HA:=hid_as (kdf_app q (pI k) (pO k) (pI_ne k hk))
  obtain ⟨s0,s1,s2,s3,s4,k0,k1,k2,k3,k4,e1⟩:=p5_shape (pI_pn k hk)
  obtain ⟨r0,r1,r2,r3,r4,j0,j1,j2,j3,j4,e2⟩:=p5_shape (pO_pn k hk)
  have TP:=hid_as (fun W:World=>two_pins W (p5 (pI k)) (p5 (pO k)))
  have CI:=hid_as (fun (W:World) (g:Nat) (h:Lies W g 0 (p5 (pI k)))=>kindOf_c (w:=W) (g:=g) q HI.out h)
  have CO:=hid_as (fun (W:World) (g:Nat) (h:Lies W g 0 (p5 (pO k)))=>kindOf_c (w:=W) (g:=g) q HO.out h)
  rw [e1,e2] at PO TP
  rw [e1] at CI
  rw [e2] at CO
  obtain ⟨a,ha⟩:∃ a,a=kdf q (pI k):=⟨_,rfl⟩
  obtain ⟨b,hb⟩:∃ b,b=kdf q (pO k):=⟨_,rfl⟩
  obtain ⟨c,hc⟩:∃ c,c=kdf q (pI k ++ pO k):=⟨_,rfl⟩
  rw [← ha] at CI
  rw [← hb] at CO
  rw [← ha,← hb,← hc] at HA
  rw [← hc]
  clear e1 e2 HI HO ha hb hc
  by_cases h0:a=0
  · subst h0
    have HA2:Hid (b=c):=by have:=HA.out;rw [if_pos rfl] at this;exact this.symm
    clear HA
    go_enter Tryz.func129,Tryz.ntmps129
    go_wp2_with fail
    refine PO.out.mono ?_
    rintro e w1 ⟨rfl,b1⟩
    have B1:=hid_as b1
    have T1:=hid_as (TP.out w1)
    clear b1
    go_wp2_with fail
    refine (CI.out _ _ T1.out.1).mono ?_
    rintro e w2 ⟨rfl,hw⟩
    subst w2
    go_wp2_with fail
    refine (CO.out _ _ T1.out.2.1).mono ?_
    rintro e w2 ⟨rfl,hw⟩
    subst w2
    go_wp2
    go_ret
    exact ⟨ret_int HA2.out,below_and B1.out T1.out.2.2⟩
  · have HA2:Hid (a=c):=by have:=HA.out;rw [if_neg h0] at this;exact this.symm
    clear HA CO
    go_enter Tryz.func129,Tryz.ntmps129
    go_wp2_with fail
    refine PO.out.mono ?_
    rintro e w1 ⟨rfl,b1⟩
    have B1:=hid_as b1
    have T1:=hid_as (TP.out w1)
    clear b1
    go_wp2_with fail
    refine (CI.out _ _ T1.out.1).mono ?_
    rintro e w2 ⟨rfl,hw⟩
    subst w2
    go_wp2
    go_ret
    exact ⟨ret_int HA2.out,below_and B1.out T1.out.2.2⟩
set_option maxHeartbeats 800000 in
theorem pins_c (k:Nat) (hk:k < 10) (w:World):Calls Tryz.prog 106 #[.string (nm k)] w fun e w'=>∃ v u,e=.returned (.tuple #[v,u])∧w'.ownsRow w.heap.size 9 1 v (pI k).length (strs (pI k))∧w'.ownsRow w.heap.size 9 1 u (pO k).length (strs (pO k))∧Below w.heap.size w w':=by
  have PO:=hid_as (pinsOf_c k hk w)
  have HI:=hid_as (pI_pn k hk)
  have HO:=hid_as (pO_pn k hk)
  obtain ⟨s0,s1,s2,s3,s4,k0,k1,k2,k3,k4,e1⟩:=p5_shape (pI_pn k hk)
  obtain ⟨r0,r1,r2,r3,r4,j0,j1,j2,j3,j4,e2⟩:=p5_shape (pO_pn k hk)
  have TP:=hid_as (fun W:World=>two_pins W (p5 (pI k)) (p5 (pO k)))
  have CI:=hid_as (fun (W:World) (g:Nat) (h:Lies W g 0 (p5 (pI k)))=>names_c (w:=W) (g:=g) HI.out h)
  have CO:=hid_as (fun (W:World) (g:Nat) (h:Lies W g 0 (p5 (pO k)))=>names_c (w:=W) (g:=g) HO.out h)
  rw [e1,e2] at PO TP
  rw [e1] at CI
  rw [e2] at CO
  clear e1 e2 HI HO
  generalize (pI k).length=n at *
  generalize (pO k).length=m at *
  go_enter Tryz.func106,Tryz.ntmps106
  go_wp2_with fail
  refine PO.out.mono ?_
  rintro e w1 ⟨rfl,b1⟩
  have B1:=hid_as b1
  have T1:=hid_as (TP.out w1)
  clear b1
  go_wp2_with fail
  refine (CI.out _ _ T1.out.1).mono ?_
  rintro e w2 ⟨v,rfl,ov,b2⟩
  have OV:=hid_as ov
  have B2:=hid_as b2
  have L2:=hid_as (T1.out.2.1.below b2)
  clear ov b2
  go_wp2_with fail
  refine (CO.out _ _ L2.out).mono ?_
  rintro e w3 ⟨u,rfl,ou,b3⟩
  have B4:=below_and B1.out T1.out.2.2
  have R:Hid (w3.ownsRow w.heap.size 9 1 v n (strs (pI k))∧w3.ownsRow w.heap.size 9 1 u m (strs (pO k))∧Below w.heap.size w w3):=⟨own_base (own_below OV.out b3 (Nat.le_refl _)) B4.size,own_base ou (Nat.le_trans B4.size B2.out.size),below_and B4 (below_and B2.out b3)⟩
  clear CI CO OV B2 L2 ou b3 B4
  go_wp2
  go_ret2
  exact ⟨_,_,rfl,R.out⟩
theorem block_yes (k:Nat) (hk:k < 10) (w:World):Calls Tryz.prog 139 #[.string (nm k)] w fun e w'=>e=.returned (.bool true)∧Below w.heap.size w w':=by
  have PO:=hid_as (pinsOf_c k hk w)
  have HI:=hid_as (pI_pn k hk)
  obtain ⟨s0,s1,s2,s3,s4,k0,k1,k2,k3,k4,e1⟩:=p5_shape (pI_pn k hk)
  obtain ⟨r0,r1,r2,r3,r4,j0,j1,j2,j3,j4,e2⟩:=p5_shape (pO_pn k hk)
  have TP:=hid_as (fun W:World=>two_pins W (p5 (pI k)) (p5 (pO k)))
  have CI:=hid_as (fun (W:World) (g:Nat) (h:Lies W g 0 (p5 (pI k)))=>count_c (w:=W) (g:=g) HI.out h)
  rw [e1,e2] at PO TP
  rw [e1] at CI
  have h0:=pI_pos k hk
  have h0':(0:Int) < ((pI k).length:Int):=by omega
  clear e1 e2 HI
  generalize (pI k).length=n at *
  go_enter Tryz.func139,Tryz.ntmps139
  go_wp2_with fail
  refine PO.out.mono ?_
  rintro e w1 ⟨rfl,b1⟩
  have B1:=hid_as b1
  have T1:=hid_as (TP.out w1)
  clear b1
  go_wp2_with fail
  refine (CI.out _ _ T1.out.1).mono ?_
  rintro e w2 ⟨rfl,hw⟩
  subst w2
  go_wp2
  go_ret
  exact ⟨rfl,below_and B1.out T1.out.2.2⟩
theorem block_no (s:ByteArray) (h:Nob s) (w:World):Calls Tryz.prog 139 #[.string s] w fun e w'=>e=.returned (.bool false)∧Below w.heap.size w w':=by
  have PO:=hid_as (pinsOf_none s h w)
  have TP:=hid_as (fun W:World=>two_pins W (p5 []) (p5 []))
  have CI:=hid_as (fun (W:World) (g:Nat) (h:Lies W g 0 (p5 []))=>count_c (w:=W) (g:=g) pn_nil h)
  rw [show p5 []=[Value.string ⟨#[]⟩,.int .i64 0,.string ⟨#[]⟩,.int .i64 0,.string ⟨#[]⟩,.int .i64 0,.string ⟨#[]⟩,.int .i64 0,.string ⟨#[]⟩,.int .i64 0] from rfl] at PO TP CI
  clear h
  go_enter Tryz.func139,Tryz.ntmps139
  go_wp2_with fail
  refine PO.out.mono ?_
  rintro e w1 ⟨rfl,b1⟩
  have B1:=hid_as b1
  have T1:=hid_as (TP.out w1)
  clear b1
  go_wp2_with fail
  refine (CI.out _ _ T1.out.1).mono ?_
  rintro e w2 ⟨rfl,hw⟩
  subst w2
  go_wp2
  go_ret
  exact ⟨rfl,below_and B1.out T1.out.2.2⟩
end Go.Proofs.YthjclogkcmomkaaGreatDoor
