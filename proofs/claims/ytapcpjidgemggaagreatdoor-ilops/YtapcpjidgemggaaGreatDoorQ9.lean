/- Plain mathematics of tokens: a token in a text that is cut behind it; a piece of a text, told as Structured Text, has the tokens that it had in Instruction List, less the lines' ends (stage 14). -/
import Derived.Test.YtapcpjidgemggaaGreatDoorQ6
import Derived.Test.YtapcpjidgemggaaGreatDoorQ8
namespace Go.Proofs.YtapcpjidgemggaaGreatDoor
open Go.RowKit
open Adr Lx
theorem rdl_chars (b:Nat):∀ (l:List UInt8) (n z i j:Nat) (h:j < l.length),z≤i→i+j < (rdl b l n z i).2→okd b l[j]=true ∨ l[j].toNat=95
  | [],n,z,i,j,h,_,_=>by simp at h
  | c :: l,n,z,i,j,h,hz,hr=>by
    rw [rdl_cons] at hr
    by_cases q:(decide (c.toNat=95) && (decide (0 < i) && decide (i=z)))=true
    · rw [if_pos q] at hr
      cases j with
      | zero=>right;rw [Bool.and_eq_true] at q;exact of_decide_eq_true q.1
      | succ j=>exact rdl_chars b l n z (i+1) j (by simpa using h) (by omega) (by omega)
    · rw [if_neg q] at hr
      by_cases q2:okd b c=true
      · rw [if_pos q2] at hr
        cases j with
        | zero=>left;exact q2
        | succ j=>exact rdl_chars b l (min (n * b+(dv c).toNat) 8589934592) (i+1) (i+1) j (by simpa using h) (by omega) (by omega)
      · rw [if_neg q2] at hr
        have hr:i+j < z:=hr
        omega
/-- None of the signs that are read as digits begins a unit. -/
theorem un_digits {l:List UInt8} {k:Nat} (hk:k < (rd 10 l).2):un (yt (l.take k))=5:=by
  have key:∀ c ∈ yt (l.take k),okd 10 c=true ∨ c.toNat=95:=by
    intro c hc
    have hc2:c ∈ l.take k:=List.mem_of_mem_drop hc
    obtain ⟨j,hj,rfl⟩:=List.getElem_of_mem hc2
    rw [List.length_take] at hj
    rw [List.getElem_take]
    exact rdl_chars 10 l 0 0 0 j (by omega) (Nat.le_refl _) (by show 0+j < (rd 10 l).2;omega)
  by_cases h:un (yt (l.take k))=5
  · exact h
  · exfalso
    obtain ⟨c,r,hr,hc⟩:=un_head h
    have h1:=key c (by rw [hr];exact List.mem_cons_self)
    have h2:=unit_stop hc
    rw [h2.1] at h1
    rcases h1 with h1 | h1
    · cases h1
    · exact h2.2 h1
theorem un_cut (x:List UInt8) (j:Nat):un (x.take j)=un x ∨ un (x.take j)=5 ∨ un x=4:=by
  by_cases h5:un x=5
  · right;left
    match x,j with
    | [],j=>simpa using h5
    | c :: x,0=>rfl
    | [c],j+1=>simpa using h5
    | c :: d :: x,1 =>
      show un [c]=5
      rw [un_cons] at h5
      rw [un_one,← unC_4 (d:=d) (by rw [h5];decide),h5]
    | c :: d :: x,j+2 =>
      rw [List.take_succ_cons,List.take_succ_cons,un_cons]
      rw [un_cons] at h5
      exact h5
  · by_cases h4:un x=4
    · exact Or.inr (Or.inr h4)
    · match x,j with
      | x,0=>exact Or.inr (Or.inl rfl)
      | x,j+1 =>
        left
        refine un_take h5 ?_
        have hl:=un_lt x
        generalize un x=u at *
        have hc:u=0 ∨ u=1 ∨ u=2 ∨ u=3:=by omega
        rcases hc with rfl | rfl | rfl | rfl <;> (show 1≤j+1;omega)
theorem u1_cut (x:List UInt8) (j:Nat):u1 (x.take j)≤u1 x:=by
  rcases un_cut x j with h | h | h
  · unfold u1;rw [h];exact Nat.le_refl _
  · unfold u1;rw [h];exact Nat.zero_le _
  · have:=u1_le (x.take j)
    have e:u1 x=5:=by unfold u1;rw [h];rfl
    omega
theorem ptl_room:∀ (f:Nat) (l:List UInt8) (lp k:Nat),(ptl f l lp).2≤k→ptl f (l.take k) lp=ptl f l lp
  | 0,l,lp,k,_=>rfl
  | f+1,l,lp,k,hk=>by
    cases q:(hdk 10 l && decide (lp < u1 (yt l))) with
    | false =>
      have e:ptl (f+1) l lp=(0,0):=by rw [ptl_succ,q];rfl
      rw [e,ptl_succ]
      have : (hdk 10 (l.take k) && decide (lp < u1 (yt (l.take k))))=false:=by
        by_cases h0:k=0
        · subst h0
          rw [List.take_zero]
          rfl
        · rw [hdk_take (by omega)]
          rw [Bool.and_eq_false_iff] at q ⊢
          rcases q with q | q
          · exact Or.inl q
          · right
            have q:=of_decide_eq_false q
            apply decide_eq_false
            by_cases hr:(rd 10 l).2≤k
            · have hy:yt (l.take k)=(yt l).take (k - (rd 10 l).2):=by unfold yt;rw [rd_take hr,List.drop_take]
              have:=u1_cut (yt l) (k - (rd 10 l).2)
              rw [hy]
              omega
            · have:=un_digits (l:=l) (k:=k) (by omega)
              unfold u1
              rw [this]
              simp
      rw [this]
      rfl
    | true =>
      have e:ptl (f+1) l lp=((rd 10 l).1 * uM (un (yt l))+(ptl f (l.drop (pz l)) (u1 (yt l))).1,pz l+(ptl f (l.drop (pz l)) (u1 (yt l))).2):=by rw [ptl_succ,q];rfl
      rw [e] at hk ⊢
      have hk:pz l+(ptl f (l.drop (pz l)) (u1 (yt l))).2≤k:=hk
      rw [Bool.and_eq_true,decide_eq_true_eq] at q
      obtain ⟨q1,q2⟩:=q
      have q3:=(u1_un q2).1
      have hz:(rd 10 l).2+uz (un (yt l))=pz l:=rfl
      have h0:1≤(rd 10 l).2:=by have e:=hdk_rd 10 l;rw [q1] at e;exact decide_eq_true_iff.1 e.symm
      have hr:rd 10 (l.take k)=rd 10 l:=rd_take (by omega)
      have hy:yt (l.take k)=(yt l).take (k - (rd 10 l).2):=by unfold yt;rw [hr,List.drop_take]
      have hu:un (yt (l.take k))=un (yt l):=by rw [hy];exact un_take q3 (by omega)
      have hu1:u1 (yt (l.take k))=u1 (yt l):=by unfold u1;rw [hu]
      have hp:pz (l.take k)=pz l:=by unfold pz;rw [hr,hu]
      have hd:(l.take k).drop (pz l)=(l.drop (pz l)).take (k - pz l):=List.drop_take
      rw [ptl_succ,hu1,hp,hu,hr,hd,ptl_room f (l.drop (pz l)) (u1 (yt l)) (k - pz l) (by omega),hdk_take (by omega),q1,decide_eq_true q2]
      rfl
theorem span_room {l:List UInt8} {k:Nat} (h:(span l).2≤k):span (l.take k)=span l:=by
  have h1:=span_ptl l (l.length+1) (by omega)
  have h2:=span_ptl (l.take k) (l.length+1) (by rw [List.length_take];omega)
  rw [h2,h1]
  rw [h1] at h
  exact ptl_room _ l 0 k h
theorem tmQ_room {y:List UInt8} {a k:Nat} (h:(tmQ y a).e=0) (hk:(tmQ y a).z≤a+k):a+1≤(tmQ y a).z∧tmQ (y.take k) a=tmQ y a:=by
  cases q:hp y [45] with
  | true =>
    have e:tmQ y a=ltR 4 11 (-((span (y.drop 1)).1:Int)) (a+1) (span (y.drop 1)).2:=by unfold tmQ;rw [q];repeat (first | rw [if_pos rfl] | rw [if_neg Bool.false_ne_true])
    have hz:=(ltR_z (by rw [← e];exact h)).1
    rw [← e] at hz
    rw [hz] at hk ⊢
    refine ⟨by omega,?_⟩
    have e2:(y.take k).drop 1=(y.drop 1).take (k - 1):=by rw [List.drop_take]
    have e3:tmQ (y.take k) a=ltR 4 11 (-((span ((y.take k).drop 1)).1:Int)) (a+1) (span ((y.take k).drop 1)).2:=by unfold tmQ;rw [hp_take (by show 1≤k;omega),q];repeat (first | rw [if_pos rfl] | rw [if_neg Bool.false_ne_true])
    rw [e3,e,e2,span_room (by omega)]
  | false =>
    have e:tmQ y a=ltR 4 11 (span y).1 a (span y).2:=by unfold tmQ;rw [q];repeat (first | rw [if_pos rfl] | rw [if_neg Bool.false_ne_true])
    obtain ⟨hz,h1,_⟩:=ltR_z (by rw [← e];exact h)
    rw [← e] at hz
    rw [hz] at hk ⊢
    refine ⟨by omega,?_⟩
    have e3:tmQ (y.take k) a=ltR 4 11 (span (y.take k)).1 a (span (y.take k)).2:=by unfold tmQ;rw [hp_of_take q];repeat (first | rw [if_pos rfl] | rw [if_neg Bool.false_ne_true])
    rw [e3,e,span_room (by omega)]
theorem tyQ_room {y:List UInt8} {a k n:Nat} (h:(tyQ y a k).e=0) (hn:(tyQ y a k).z≤a+n):a+1≤(tyQ y a k).z∧tyQ (y.take n) a k=tyQ y a k:=by
  cases q0:(decide (k=1) && hp y [84,82,85,69]) with
  | true =>
    have e:tyQ y a k=⟨tru 1,a+4,0⟩:=by unfold tyQ;rw [q0];repeat (first | rw [if_pos rfl] | rw [if_neg Bool.false_ne_true])
    rw [e] at hn ⊢
    have hn:a+4≤a+n:=hn
    refine ⟨by show a+1≤a+4;omega,?_⟩
    unfold tyQ
    rw [hp_take (p:=[84,82,85,69]) (by show 4≤n;omega),q0]
    repeat (first | rw [if_pos rfl] | rw [if_neg Bool.false_ne_true])
  | false =>
    have n0:(decide (k=1) && hp (y.take n) [84,82,85,69])=false:=by
      rw [Bool.and_eq_false_iff] at *
      rcases q0 with q | q
      · exact Or.inl q
      · exact Or.inr (hp_of_take q)
    cases q1:(decide (k=1) && hp y [70,65,76,83,69]) with
    | true =>
      have e:tyQ y a k=⟨tru 0,a+5,0⟩:=by unfold tyQ;rw [q0,q1];repeat (first | rw [if_pos rfl] | rw [if_neg Bool.false_ne_true])
      rw [e] at hn ⊢
      have hn:a+5≤a+n:=hn
      refine ⟨by show a+1≤a+5;omega,?_⟩
      unfold tyQ
      rw [n0,hp_take (p:=[70,65,76,83,69]) (by show 5≤n;omega),q1]
      repeat (first | rw [if_pos rfl] | rw [if_neg Bool.false_ne_true])
    | false =>
      have n1:(decide (k=1) && hp (y.take n) [70,65,76,83,69])=false:=by
        rw [Bool.and_eq_false_iff] at *
        rcases q1 with q | q
        · exact Or.inl q
        · exact Or.inr (hp_of_take q)
      cases q2:(hp y [45] && decide (klo k < 0)) with
      | true =>
        have e:tyQ y a k=ltR 3 k (-((rd 10 (y.drop 1)).1:Int)) (a+1) (rd 10 (y.drop 1)).2:=by unfold tyQ;rw [q0,q1,q2];repeat (first | rw [if_pos rfl] | rw [if_neg Bool.false_ne_true])
        have hz:=(ltR_z (by rw [← e];exact h)).1
        rw [← e] at hz
        rw [hz] at hn ⊢
        refine ⟨by omega,?_⟩
        have e2:(y.take n).drop 1=(y.drop 1).take (n - 1):=by rw [List.drop_take]
        have e3:tyQ (y.take n) a k=ltR 3 k (-((rd 10 ((y.take n).drop 1)).1:Int)) (a+1) (rd 10 ((y.take n).drop 1)).2:=by
          unfold tyQ
          rw [n0,n1,hp_take (p:=[45]) (by show 1≤n;omega),q2]
          repeat (first | rw [if_pos rfl] | rw [if_neg Bool.false_ne_true])
        rw [e3,e,e2,rd_take (by omega)]
      | false =>
        have e:tyQ y a k=ltR 3 k (num y).1 a (num y).2:=by unfold tyQ;rw [q0,q1,q2];repeat (first | rw [if_pos rfl] | rw [if_neg Bool.false_ne_true])
        obtain ⟨hz,h1,_⟩:=ltR_z (by rw [← e];exact h)
        rw [← e] at hz
        rw [hz] at hn ⊢
        refine ⟨by omega,?_⟩
        have n2:(hp (y.take n) [45] && decide (klo k < 0))=false:=by
          rw [Bool.and_eq_false_iff] at *
          rcases q2 with q | q
          · exact Or.inl (hp_of_take q)
          · exact Or.inr q
        have e3:tyQ (y.take n) a k=ltR 3 k (num (y.take n)).1 a (num (y.take n)).2:=by unfold tyQ;rw [n0,n1,n2];repeat (first | rw [if_pos rfl] | rw [if_neg Bool.false_ne_true])
        rw [e3,e,num_take (by omega) (by omega)]
theorem wdR_room {l:List UInt8} {K:Nat} (h:(wdR l).e=0) (hK:(wdR l).z≤K):wdR (l.take K)=wdR l:=by
  cases q:(hp (l.drop (cz inW l)) [35] && (decide (kf (l.take (cz inW l))=11) || (l.take (cz inW l) == [84]))) with
  | true =>
    have e:=wdR_time q
    rw [e] at h hK ⊢
    have h1:=(tmQ_room (k:=(tmQ (l.drop (cz inW l+1)) (cz inW l+1)).z) h (by omega)).1
    obtain ⟨c1,c2,c3,c4⟩:=wd_cut (l:=l) (K:=K) (by omega)
    rw [wdR_time (by rw [c1,c2,c3];exact q),c1,c4]
    exact (tmQ_room h (by omega)).2
  | false =>
    cases q2:(hp (l.drop (cz inW l)) [35] && !decide (kf (l.take (cz inW l))=0)) with
    | true =>
      have e:=wdR_typed q q2
      rw [e] at h hK ⊢
      have h1:=(tyQ_room (n:=(tyQ (l.drop (cz inW l+1)) (cz inW l+1) (kf (l.take (cz inW l)))).z) h (by omega)).1
      obtain ⟨c1,c2,c3,c4⟩:=wd_cut (l:=l) (K:=K) (by omega)
      rw [wdR_typed (by rw [c1,c2,c3];exact q) (by rw [c1,c2,c3];exact q2),c1,c2,c4]
      exact (tyQ_room h (by omega)).2
    | false =>
      have e:=wdR_plain q q2
      have hz:=cz_le inW l
      rw [e] at h hK ⊢
      rw [plainW_ok h,List.length_take,Nat.min_eq_left hz] at hK
      have c1:cz inW (l.take K)=cz inW l:=cz_take hK
      have c2:(l.take K).take (cz inW l)=l.take (cz inW l):=by rw [List.take_take,Nat.min_eq_left hK]
      have c3:hp (l.drop (cz inW l)) [35]=false→hp ((l.take K).drop (cz inW l)) [35]=false:=fun q=>by rw [List.drop_take];exact hp_of_take q
      have off:∀ {X:Bool},(hp (l.drop (cz inW l)) [35] && X)=false→(hp ((l.take K).drop (cz inW l)) [35] && X)=false:=fun {X} q=>by
        rw [Bool.and_eq_false_iff] at *
        rcases q with q | q
        · exact Or.inl (c3 q)
        · exact Or.inr q
      rw [wdR_plain (by rw [c1,c2];exact off q) (by rw [c1,c2];exact off q2),c1,c2]
theorem unR_room {l:List UInt8} {K:Nat} (h:(unR l).e=0) (hK:(unR l).z≤K):unR (l.take K)=unR l:=by
  unfold unR at h
  by_cases h0:(num l).2=0
  · rw [if_pos h0] at h;cases h
  · rw [if_neg h0] at h
    by_cases h1:4294967295 < (num l).1
    · rw [if_pos h1] at h;cases h
    · have e:unR l=⟨⟨3,0,(num l).1,[]⟩,(num l).2,0⟩:=by unfold unR;rw [if_neg h0,if_neg h1]
      rw [e] at hK ⊢
      have hK:(num l).2≤K:=hK
      unfold unR
      rw [num_take h0 hK,if_neg h0,if_neg h1]
theorem adR_room {d:UInt8} {l:List UInt8} {K:Nat} (h:(adR (d :: l)).e=0) (hK:(adR (d :: l)).z≤K):adR ((d :: l).take K)=adR (d :: l):=by
  by_cases h0:pe ((d :: l).take (adz (d :: l)))=0
  · have e:adR (d :: l)=⟨⟨5,0,0,(d :: l).take (adz (d :: l))⟩,adz (d :: l),0⟩:=by unfold adR;rw [if_pos h0]
    rw [e] at hK ⊢
    have hK:adz (d :: l)≤K:=hK
    have e2:adz ((d :: l).take K)=adz (d :: l):=by
      have hK:1+cz inA l≤K:=hK
      obtain ⟨K,rfl⟩:∃ k',K=k'+1:=⟨K - 1,by omega⟩
      unfold adz
      rw [List.take_succ_cons,show (d :: l.take K).drop 1=l.take K from rfl,show (d :: l).drop 1=l from rfl,cz_take (by omega)]
    unfold adR
    rw [e2,List.take_take,Nat.min_eq_left hK,if_pos h0]
  · unfold adR at h
    rw [if_neg h0] at h
    exact absurd h h0
theorem sgR_room {d:UInt8} {l:List UInt8} {K:Nat} (h:(sgR (d :: l)).e=0) (hK:(sgR (d :: l)).z≤K):sgR ((d :: l).take K)=sgR (d :: l):=by
  by_cases h0:sgz (d :: l)=0
  · unfold sgR at h;rw [if_pos h0] at h;cases h
  · have e:sgR (d :: l)=⟨⟨6,0,0,(d :: l).take (sgz (d :: l))⟩,sgz (d :: l),0⟩:=by unfold sgR;rw [if_neg h0]
    rw [e] at hK ⊢
    have hK:sgz (d :: l)≤K:=hK
    have e2:sgz ((d :: l).take K)=sgz (d :: l):=by
      cases q:(decide (1 < (d :: l).length) && two.contains ((d :: l).take 2)) with
      | true =>
        have e3:sgz (d :: l)=2:=by unfold sgz;rw [if_pos q]
        rw [e3] at hK ⊢
        rw [Bool.and_eq_true,decide_eq_true_eq] at q
        unfold sgz
        rw [List.take_take,Nat.min_eq_left hK,q.2,List.length_take,decide_eq_true (show 1 < min K (d :: l).length by omega)]
        rfl
      | false =>
        have e3:sgz (d :: l)=if ((d :: l).take 1).all one.contains then 1 else 0:=by unfold sgz;rw [q];rfl
        rw [e3] at h0 hK ⊢
        split at h0
        · rename_i q2
          rw [if_pos q2] at hK ⊢
          have n2:(decide (1 < ((d :: l).take K).length) && two.contains (((d :: l).take K).take 2))=false:=by
            by_cases h2:2≤K
            · rw [List.take_take,Nat.min_eq_left h2]
              rw [Bool.and_eq_false_iff] at *
              rcases q with q | q
              · left
                have q:=of_decide_eq_false q
                apply decide_eq_false
                rw [List.length_take]
                omega
              · exact Or.inr q
            · have:K=1:=by omega
              subst this
              simp
          unfold sgz
          rw [n2,if_neg Bool.false_ne_true,List.take_take,Nat.min_eq_left hK,if_pos q2]
        · exact absurd rfl h0
    unfold sgR
    rw [e2,if_neg h0,List.take_take,Nat.min_eq_left hK]
/-- A token in a text that is cut behind it is told as it was. -/
theorem nx_room {d:UInt8} {l:List UInt8} {K:Nat} (h:(nx (d :: l)).e=0) (hK:(nx (d :: l)).z≤K):nx ((d :: l).take K)=nx (d :: l):=by
  have hk:=nx_ok (l:=d :: l) (by simp) h
  have hh:nx ((d :: l).take K)=if isL d then wdR ((d :: l).take K) else if dgt d then unR ((d :: l).take K) else if decide (d.toNat=37) then adR ((d :: l).take K) else if decide (d.toNat=10) then ⟨⟨7,0,0,[10]⟩,1,0⟩ else sgR ((d :: l).take K):=by
    have h1:=hk.1
    obtain ⟨K,rfl⟩:∃ k',K=k'+1:=⟨K - 1,by omega⟩
    rw [List.take_succ_cons,nx_cons]
  rw [hh]
  rw [nx_cons] at h hK ⊢
  cases q1:isL d with
  | true=>rw [q1,if_pos rfl] at h hK;simp only [if_true];exact wdR_room h hK
  | false =>
    rw [q1,if_neg Bool.false_ne_true] at h hK
    simp only [Bool.false_eq_true,if_false]
    cases q2:dgt d with
    | true=>rw [q2,if_pos rfl] at h hK;simp only [if_true];exact unR_room h hK
    | false =>
      rw [q2,if_neg Bool.false_ne_true] at h hK
      simp only [Bool.false_eq_true,if_false]
      cases q3:decide (d.toNat=37) with
      | true=>rw [q3,if_pos rfl] at h hK;simp only [if_true];exact adR_room h hK
      | false =>
        rw [q3,if_neg Bool.false_ne_true] at h hK
        simp only [Bool.false_eq_true,if_false]
        cases q4:decide (d.toNat=10) with
        | true=>simp only [if_true]
        | false =>
          rw [q4,if_neg Bool.false_ne_true] at h hK
          simp only [Bool.false_eq_true,if_false]
          exact sgR_room h hK
theorem index_cut {sub:List UInt8} (h0:sub ≠ []):∀ (s:List UInt8) (m i:Nat),Lib.index s sub=i→i+sub.length≤m→Lib.index (s.take m) sub=i
  | [],m,i,h,_=>by
    cases sub with
    | nil=>exact absurd rfl h0
    | cons c r=>have:(-1:Int)=i:=h;omega
  | b :: l,m,i,h,hm=>by
    have hs:0 < sub.length:=List.length_pos_iff.2 h0
    obtain ⟨m,rfl⟩:∃ m',m=m'+1:=⟨m - 1,by omega⟩
    have e:(b :: l).take (m+1)=b :: l.take m:=rfl
    unfold Lib.index at h
    by_cases q:sub.isPrefixOf (b :: l)=true
    · rw [if_pos q] at h
      have hp:hp ((b :: l).take (m+1)) sub=true:=by rw [hp_take (by omega)];exact q
      rw [e] at hp ⊢
      unfold Lib.index
      rw [if_pos (show sub.isPrefixOf (b :: l.take m)=true from hp)]
      exact h
    · rw [if_neg q] at h
      have hq:hp ((b :: l).take (m+1)) sub=false:=hp_of_take (by unfold hp Lib.hasPrefix;exact (Bool.not_eq_true _).mp q)
      rw [e] at hq ⊢
      unfold Lib.index
      rw [if_neg (show ¬ sub.isPrefixOf (b :: l.take m)=true by have hq:sub.isPrefixOf (b :: l.take m)=false:=hq;rw [hq];exact Bool.false_ne_true)]
      split at h
      · omega
      · rename_i q2
        have hge:=Lib.index_ge l sub
        obtain ⟨j,hj⟩:∃ j:Nat,Lib.index l sub=j:=⟨(Lib.index l sub).toNat,by
          have:Lib.index l sub ≠ -1:=fun e=>q2 (by rw [e];rfl)
          omega⟩
        have ih:=index_cut h0 l m j hj (by omega)
        rw [ih,if_neg (show ¬ (((j:Int)) == -1)=true by rw [beq_iff_eq];omega)]
        rw [hj] at h
        exact h
theorem index_more {sub r:List UInt8} (h0:sub ≠ []):∀ (s:List UInt8) (i:Nat),Lib.index s sub=i→Lib.index (s ++ r) sub=i:=by
  intro s i h
  by_cases hi:i+sub.length≤s.length
  · have hlen:0 < sub.length:=List.length_pos_iff.2 h0
    revert i
    induction s with
    | nil=>intro i h hi;simp at hi;exact absurd hi.2 h0
    | cons b l ih =>
      intro i h hi
      unfold Lib.index at h
      rw [List.cons_append]
      by_cases q:sub.isPrefixOf (b :: l)=true
      · rw [if_pos q] at h
        unfold Lib.index
        rw [if_pos (show sub.isPrefixOf (b :: (l ++ r))=true by rw [List.isPrefixOf_iff_prefix] at *;exact q.trans (List.prefix_append (b :: l) r))]
        exact h
      · rw [if_neg q] at h
        split at h
        · omega
        · rename_i q2
          have hge:=Lib.index_ge l sub
          obtain ⟨j,hj⟩:∃ j:Nat,Lib.index l sub=j:=⟨(Lib.index l sub).toNat,by
            have:Lib.index l sub ≠ -1:=fun e=>q2 (by rw [e];rfl)
            omega⟩
          rw [List.length_cons] at hi
          have e1:=ih j hj (by rw [hj] at h;omega)
          have q3:¬ sub.isPrefixOf (b :: (l ++ r))=true:=by
            intro q3
            apply q
            rw [List.isPrefixOf_iff_prefix] at *
            have e2:(b :: l) <+: (b :: (l ++ r)):=List.prefix_append (b :: l) r
            exact List.prefix_of_prefix_length_le q3 e2 (by rw [List.length_cons];rw [hj] at h;omega)
          unfold Lib.index
          rw [if_neg q3,e1,if_neg (show ¬ (((j:Int)) == -1)=true by rw [beq_iff_eq];omega)]
          rw [hj] at h
          exact h
  · exfalso
    have e:=index_cut h0 s s.length i h
    have key:∀ (s:List UInt8) (i:Nat),Lib.index s sub=i→i+sub.length≤s.length:=by
      intro s
      induction s with
      | nil =>
        intro i h
        cases sub with
        | nil=>exact absurd rfl h0
        | cons c r=>have:(-1:Int)=i:=h;omega
      | cons b l ih =>
        intro i h
        unfold Lib.index at h
        by_cases q:sub.isPrefixOf (b :: l)=true
        · rw [if_pos q] at h
          have:=(List.isPrefixOf_iff_prefix.1 q).length_le
          omega
        · rw [if_neg q] at h
          split at h
          · omega
          · rename_i q2
            have hge:=Lib.index_ge l sub
            obtain ⟨j,hj⟩:∃ j:Nat,Lib.index l sub=j:=⟨(Lib.index l sub).toNat,by
              have:Lib.index l sub ≠ -1:=fun e=>q2 (by rw [e];rfl)
              omega⟩
            have:=ih j hj
            rw [hj] at h
            rw [List.length_cons]
            omega
    exact hi (key s i h)
theorem csz_val {l:List UInt8} (h:¬ csz l=0):∃ i:Nat,Lib.index (l.drop 2) [42,41]=i∧csz l=i+4:=by
  unfold csz at *
  by_cases q:Lib.index (l.drop 2) [42,41] < 0
  · rw [if_pos q] at h;exact absurd rfl h
  · rw [if_neg q] at h ⊢
    exact ⟨(Lib.index (l.drop 2) [42,41]).toNat,by omega,rfl⟩
theorem csz_of {l:List UInt8} {i:Nat} (h:Lib.index (l.drop 2) [42,41]=i):csz l=i+4:=by
  unfold csz
  rw [h,if_neg (by omega)]
  simp
theorem csz_room {l:List UInt8} {n:Nat} (h:¬ csz l=0) (hn:csz l≤n):csz (l.take n)=csz l:=by
  obtain ⟨i,h1,h2⟩:=csz_val h
  rw [h2] at hn ⊢
  refine csz_of ?_
  rw [List.drop_take]
  exact index_cut (by decide) _ _ i h1 (by show i+2≤n - 2;omega)
theorem csz_more {l r:List UInt8} (h:¬ csz l=0) (h2:2≤l.length):csz (l ++ r)=csz l:=by
  obtain ⟨i,h1,h3⟩:=csz_val h
  rw [h3]
  refine csz_of ?_
  rw [List.drop_append_of_le_length h2]
  exact index_more (by decide) _ i h1
/-- No line's end. -/
def nl (t:Tk × Nat):Bool:=!decide (t.1.tok=7)
theorem scn_low (il:Bool):∀ (f:Nat) (l:List UInt8) (a:Nat) (A B:List (Tk × Nat)),scn il f l a A=(B,none)→∃ E,B=A ++ E∧∀ t ∈ E,a≤t.2
  | 0,l,a,A,B,h=>by
    have e:scn il 0 l a A=(A,none):=by cases l <;> rfl
    rw [e] at h;cases h;exact ⟨[],by simp,by simp⟩
  | f+1,[],a,A,B,h=>by rw [scn_end] at h;cases h;exact ⟨[],by simp,by simp⟩
  | f+1,c :: l,a,A,B,h=>by
    rw [scn_cons] at h
    by_cases hb:blk c il=true
    · rw [if_pos hb] at h
      obtain ⟨E,h1,h2⟩:=scn_low il f _ _ _ _ h
      exact ⟨E,h1,fun t ht=>by have:=h2 t ht;omega⟩
    · rw [if_neg hb] at h
      by_cases hc:hp (c :: l) [40,42]=true
      · rw [if_pos hc] at h
        by_cases h0:csz (c :: l)=0
        · rw [if_pos h0] at h;cases (Prod.mk.inj h).2
        · rw [if_neg h0] at h
          obtain ⟨E,h1,h2⟩:=scn_low il f _ _ _ _ h
          exact ⟨E,h1,fun t ht=>by have:=h2 t ht;omega⟩
      · rw [if_neg hc] at h
        by_cases he:(nx (c :: l)).e=0
        · rw [if_pos he] at h
          obtain ⟨E,h1,h2⟩:=scn_low il f _ _ _ _ h
          refine ⟨((nx (c :: l)).t,a) :: E,by rw [h1];simp,fun t ht=>?_⟩
          rcases List.mem_cons.1 ht with rfl | ht
          · exact Nat.le_refl _
          · have:=h2 t ht;omega
        · rw [if_neg he] at h;cases (Prod.mk.inj h).2
/-- From this place on a text is told as these tokens, the end with them. -/
def Tf (l:List UInt8) (a:Nat) (L:List (Tk × Nat)):Prop:=∃ f A B,l.length≤f∧scn true f l a A=(B,none)∧B ++ [(nul,a+l.length)]=A ++ L
theorem Tf.of {l:List UInt8} {T:List (Tk × Nat)} (h:toks l true=(T,none)):Tf l 0 T∧l.length≤65536:=by
  unfold toks at h
  by_cases hb:65536 < l.length
  · rw [if_pos hb] at h;cases (Prod.mk.inj h).2
  · rw [if_neg hb] at h
    obtain ⟨h1,h2⟩:=Prod.mk.inj h
    exact ⟨⟨l.length,[],(scn true l.length l 0 []).1,Nat.le_refl _,by rw [← h2],by rw [Nat.zero_add,h1];rfl⟩,by omega⟩
/-- What the scan says at its first sign. -/
theorem Tf.head {l:List UInt8} {a:Nat} {L:List (Tk × Nat)} (h:Tf l a L):(l=[]∧L=[(nul,a)]) ∨ ∃ c m,l=c :: m ∧
    ((blk c true=true∧Tf m (a+1) L) ∨ (blk c true=false∧hp l [40,42]=true∧¬ csz l=0∧csz l≤l.length∧Tf (l.drop (csz l)) (a+csz l) L) ∨
     (blk c true=false∧hp l [40,42]=false∧(nx l).e=0∧1≤(nx l).z∧(nx l).z≤l.length∧∃ D,L=((nx l).t,a) :: D∧Tf (l.drop (nx l).z) (a+(nx l).z) D)):=by
  obtain ⟨f,A,B,hf,hs,hB⟩:=h
  cases l with
  | nil =>
    left
    rw [scn_end] at hs
    cases hs
    exact ⟨rfl,by simpa using hB.symm⟩
  | cons c m =>
    right
    refine ⟨c,m,rfl,?_⟩
    rw [List.length_cons] at hf
    obtain ⟨f,rfl⟩:∃ f',f=f'+1:=⟨f - 1,by omega⟩
    rw [scn_cons] at hs
    by_cases hb:blk c true=true
    · left
      rw [if_pos hb] at hs
      exact ⟨hb,f,A,B,by omega,hs,by rw [← hB,List.length_cons];congr 3;omega⟩
    · right
      rw [if_neg hb] at hs
      have hb:blk c true=false:=by simpa using hb
      by_cases hc:hp (c :: m) [40,42]=true
      · left
        rw [if_pos hc] at hs
        by_cases h0:csz (c :: m)=0
        · rw [if_pos h0] at hs;cases (Prod.mk.inj hs).2
        · rw [if_neg h0] at hs
          have hz:=csz_le (l:=c :: m) (hp_le hc)
          rw [List.length_cons] at hz
          exact ⟨hb,hc,h0,by rw [List.length_cons];exact hz,f,A,B,by rw [List.length_drop,List.length_cons];obtain ⟨i,_,h3⟩:=csz_val h0;omega,hs,by rw [← hB,List.length_drop,List.length_cons];congr 3;omega⟩
      · right
        rw [if_neg hc] at hs
        have hc:hp (c :: m) [40,42]=false:=by simpa using hc
        by_cases he:(nx (c :: m)).e=0
        · rw [if_pos he] at hs
          have hz:=nx_ok (l:=c :: m) (by simp) he
          refine ⟨hb,hc,he,hz.1,hz.2,?_⟩
          obtain ⟨E,h1,h2⟩:=scn_low true f _ _ _ _ hs
          refine ⟨E ++ [(nul,a+(c :: m).length)],?_,?_⟩
          · have:A ++ L=A ++ (((nx (c :: m)).t,a) :: (E ++ [(nul,a+(c :: m).length)])):=by rw [← hB,h1];simp
            exact List.append_cancel_left this
          · have hz2:=hz.2
            rw [List.length_cons] at hz2
            exact ⟨f,A ++ [((nx (c :: m)).t,a)],B,by rw [List.length_drop,List.length_cons];omega,hs,by rw [h1,List.append_assoc,List.length_drop];congr 4;omega⟩
        · rw [if_neg he] at hs;cases (Prod.mk.inj hs).2
theorem Tf.low {l:List UInt8} {a:Nat} {L:List (Tk × Nat)} (h:Tf l a L):∀ t ∈ L,a≤t.2:=by
  obtain ⟨f,A,B,hf,hs,hB⟩:=h
  obtain ⟨E,h1,h2⟩:=scn_low true f _ _ _ _ hs
  have e:L=E ++ [(nul,a+l.length)]:=by
    rw [h1,List.append_assoc] at hB
    exact (List.append_cancel_left hB).symm
  intro t ht
  rw [e] at ht
  rcases List.mem_append.1 ht with ht | ht
  · exact h2 t ht
  · obtain rfl:=List.mem_singleton.1 ht
    exact Nat.le_add_right _ _
/-- From a token of it on. -/
theorem Tf.cut:∀ (n:Nat) (l:List UInt8) (a:Nat) (P:List (Tk × Nat)) (x:Tk) (q:Nat) (D:List (Tk × Nat)),l.length≤n→Tf l a (P ++ (x,q) :: D)→a≤q∧q≤a+l.length∧Tf (l.drop (q - a)) q ((x,q) :: D)
  | n,l,a,P,x,q,D,hn,h=>by
    have key:=h
    rcases h.head with ⟨rfl,hL⟩ | ⟨c,m,rfl,h | h | h⟩
    · cases P with
      | nil=>cases hL;exact ⟨Nat.le_refl _,by omega,by simpa using key⟩
      | cons p P =>
        exfalso
        have:=congrArg List.length hL
        simp at this
    · obtain ⟨_,h⟩:=h
      rw [List.length_cons] at hn
      obtain ⟨n,rfl⟩:∃ n',n=n'+1:=⟨n - 1,by omega⟩
      obtain ⟨h1,h2,h3⟩:=Tf.cut n m (a+1) P x q D (by omega) h
      refine ⟨by omega,by rw [List.length_cons];omega,?_⟩
      rw [show q - a=(q - (a+1))+1 by omega,List.drop_succ_cons]
      exact h3
    · obtain ⟨_,hc,h0,hz,h⟩:=h
      obtain ⟨i,_,h4⟩:=csz_val h0
      rw [List.length_cons] at hn
      obtain ⟨n,rfl⟩:∃ n',n=n'+1:=⟨n - 1,by omega⟩
      obtain ⟨h1,h2,h3⟩:=Tf.cut n _ _ P x q D (by rw [List.length_drop,List.length_cons];omega) h
      rw [List.length_drop] at h2
      refine ⟨by omega,by omega,?_⟩
      rw [List.drop_drop,show csz (c :: m)+(q - (a+csz (c :: m)))=q - a by omega] at h3
      exact h3
    · obtain ⟨_,_,_,hz1,hz,E,hE,h'⟩:=h
      cases P with
      | nil =>
        have e:=(List.cons.inj hE).1
        have e2:q=a:=congrArg Prod.snd e
        subst e2
        exact ⟨Nat.le_refl _,by omega,by rw [Nat.sub_self];exact key⟩
      | cons p P =>
        have e:=(List.cons.inj hE).2
        rw [← e] at h'
        rw [List.length_cons] at hn
        obtain ⟨n,rfl⟩:∃ n',n=n'+1:=⟨n - 1,by omega⟩
        obtain ⟨h1,h2,h3⟩:=Tf.cut n _ _ P x q D (by rw [List.length_drop,List.length_cons];omega) h'
        rw [List.length_drop] at h2
        refine ⟨by omega,by omega,?_⟩
        rw [List.drop_drop,show (nx (c :: m)).z+(q - (a+(nx (c :: m)).z))=q - a by omega] at h3
        exact h3
theorem blk_st {c:UInt8} (h:blk c true=true) (il:Bool):blk c il=true:=by
  unfold blk at *
  rw [Bool.not_true,Bool.and_false,Bool.or_false] at h
  rw [Bool.or_eq_true] at h ⊢
  rcases h with h | h
  · exact Or.inl h
  · right
    rw [Bool.or_eq_true] at h ⊢
    rcases h with h | h
    · exact Or.inl h
    · right;rw [Bool.or_eq_true];exact Or.inl h
theorem blk_no {c:UInt8} (h:blk c true=false) (h10:¬ c.toNat=10) (il:Bool):blk c il=false:=by
  unfold blk at *
  rw [decide_eq_false h10] at *
  exact h
theorem ltR_tok {tok k:Nat} {n:Int} {a z:Nat} (h:(ltR tok k n a z).e=0):(ltR tok k n a z).t.tok=tok:=by rw [(ltR_z h).2.2.2.2]
/-- Only a line feed is told as a line's end. -/
theorem nx_line {c:UInt8} {l:List UInt8} (he:(nx (c :: l)).e=0):(nx (c :: l)).t.tok=7 ↔ c.toNat=10:=by
  rw [nx_cons] at he ⊢
  by_cases h1:isL c=true
  · rw [if_pos h1] at he ⊢
    have h10:¬ c.toNat=10:=by
      intro e
      have:c=10:=UInt8.toNat_inj.1 e
      subst this
      exact absurd h1 (by decide)
    refine ⟨fun e=>?_,fun e=>absurd e h10⟩
    exfalso
    unfold wdR at he e
    split at he
    · rename_i q
      rw [if_pos q] at e
      unfold tmR at he e
      split at he
      · rename_i q2;rw [if_pos q2,ltR_tok he] at e;exact absurd e (by decide)
      · rename_i q2;rw [if_neg q2,ltR_tok he] at e;exact absurd e (by decide)
    · rename_i q
      rw [if_neg q] at e
      split at he
      · rename_i q2
        rw [if_pos q2] at e
        unfold tyR at he e
        split at he
        · rename_i q3;rw [if_pos q3] at e;exact absurd e (show ¬ (3:Nat)=7 by decide)
        · rename_i q3
          rw [if_neg q3] at e
          split at he
          · rename_i q4;rw [if_pos q4] at e;exact absurd e (show ¬ (3:Nat)=7 by decide)
          · rename_i q4
            rw [if_neg q4] at e
            split at he
            · rename_i q5;rw [if_pos q5,ltR_tok he] at e;exact absurd e (by decide)
            · rename_i q5;rw [if_neg q5,ltR_tok he] at e;exact absurd e (by decide)
      · rename_i q2
        rw [if_neg q2] at e
        unfold plainW at he e
        split at he
        · rename_i q3;rw [if_pos q3] at e;exact absurd e (show ¬ (3:Nat)=7 by decide)
        · rename_i q3
          rw [if_neg q3] at e
          split at he
          · rename_i q4;rw [if_pos q4] at e;exact absurd e (show ¬ (3:Nat)=7 by decide)
          · rename_i q4
            rw [if_neg q4] at e
            split at he
            · rename_i q5;rw [if_pos q5] at e;exact absurd e (show ¬ (1:Nat)=7 by decide)
            · rename_i q5
              rw [if_neg q5] at e
              split at he
              · cases he
              · rename_i q6;rw [if_neg q6] at e;exact absurd e (show ¬ (2:Nat)=7 by decide)
  · rw [if_neg h1] at he ⊢
    by_cases h2:dgt c=true
    · rw [if_pos h2] at he ⊢
      have h10:¬ c.toNat=10:=by
        intro e
        have:c=10:=UInt8.toNat_inj.1 e
        subst this
        exact absurd h2 (by decide)
      refine ⟨fun e=>?_,fun e=>absurd e h10⟩
      exfalso
      unfold unR at he e
      split at he
      · cases he
      · rename_i q
        rw [if_neg q] at e
        split at he
        · cases he
        · rename_i q2;rw [if_neg q2] at e;exact absurd e (show ¬ (3:Nat)=7 by decide)
    · rw [if_neg h2] at he ⊢
      by_cases h3:(decide (c.toNat=37))=true
      · rw [if_pos h3] at he ⊢
        have h3:=of_decide_eq_true h3
        refine ⟨fun e=>?_,fun e=>by omega⟩
        exfalso
        unfold adR at he e
        split at he
        · rename_i q;rw [if_pos q] at e;exact absurd e (show ¬ (5:Nat)=7 by decide)
        · rename_i q;exact q he
      · rw [if_neg h3] at he ⊢
        by_cases h4:(decide (c.toNat=10))=true
        · rw [if_pos h4]
          exact ⟨fun _=>of_decide_eq_true h4,fun _=>rfl⟩
        · rw [if_neg h4] at he ⊢
          refine ⟨fun e=>?_,fun e=>absurd (decide_eq_true e) h4⟩
          exfalso
          unfold sgR at he e
          split at he
          · cases he
          · rename_i q;rw [if_neg q] at e;exact absurd e (show ¬ (6:Nat)=7 by decide)
/-- No token is told as an end. -/
theorem nx_some {c:UInt8} {l:List UInt8} (he:(nx (c :: l)).e=0):(nx (c :: l)).t.tok=0 ↔ False:=by
  rw [nx_cons] at he ⊢
  by_cases h1:isL c=true
  · rw [if_pos h1] at he ⊢
    have h10:¬ c.toNat=10:=by
      intro e
      have:c=10:=UInt8.toNat_inj.1 e
      subst this
      exact absurd h1 (by decide)
    refine ⟨fun e=>?_,fun e=>e.elim⟩
    exfalso
    unfold wdR at he e
    split at he
    · rename_i q
      rw [if_pos q] at e
      unfold tmR at he e
      split at he
      · rename_i q2;rw [if_pos q2,ltR_tok he] at e;exact absurd e (by decide)
      · rename_i q2;rw [if_neg q2,ltR_tok he] at e;exact absurd e (by decide)
    · rename_i q
      rw [if_neg q] at e
      split at he
      · rename_i q2
        rw [if_pos q2] at e
        unfold tyR at he e
        split at he
        · rename_i q3;rw [if_pos q3] at e;exact absurd e (show ¬ (3:Nat)=0 by decide)
        · rename_i q3
          rw [if_neg q3] at e
          split at he
          · rename_i q4;rw [if_pos q4] at e;exact absurd e (show ¬ (3:Nat)=0 by decide)
          · rename_i q4
            rw [if_neg q4] at e
            split at he
            · rename_i q5;rw [if_pos q5,ltR_tok he] at e;exact absurd e (by decide)
            · rename_i q5;rw [if_neg q5,ltR_tok he] at e;exact absurd e (by decide)
      · rename_i q2
        rw [if_neg q2] at e
        unfold plainW at he e
        split at he
        · rename_i q3;rw [if_pos q3] at e;exact absurd e (show ¬ (3:Nat)=0 by decide)
        · rename_i q3
          rw [if_neg q3] at e
          split at he
          · rename_i q4;rw [if_pos q4] at e;exact absurd e (show ¬ (3:Nat)=0 by decide)
          · rename_i q4
            rw [if_neg q4] at e
            split at he
            · rename_i q5;rw [if_pos q5] at e;exact absurd e (show ¬ (1:Nat)=0 by decide)
            · rename_i q5
              rw [if_neg q5] at e
              split at he
              · cases he
              · rename_i q6;rw [if_neg q6] at e;exact absurd e (show ¬ (2:Nat)=0 by decide)
  · rw [if_neg h1] at he ⊢
    by_cases h2:dgt c=true
    · rw [if_pos h2] at he ⊢
      have h10:¬ c.toNat=10:=by
        intro e
        have:c=10:=UInt8.toNat_inj.1 e
        subst this
        exact absurd h2 (by decide)
      refine ⟨fun e=>?_,fun e=>e.elim⟩
      exfalso
      unfold unR at he e
      split at he
      · cases he
      · rename_i q
        rw [if_neg q] at e
        split at he
        · cases he
        · rename_i q2;rw [if_neg q2] at e;exact absurd e (show ¬ (3:Nat)=0 by decide)
    · rw [if_neg h2] at he ⊢
      by_cases h3:(decide (c.toNat=37))=true
      · rw [if_pos h3] at he ⊢
        have h3:=of_decide_eq_true h3
        refine ⟨fun e=>?_,fun e=>e.elim⟩
        exfalso
        unfold adR at he e
        split at he
        · rename_i q;rw [if_pos q] at e;exact absurd e (show ¬ (5:Nat)=0 by decide)
        · rename_i q;exact q he
      · rw [if_neg h3] at he ⊢
        by_cases h4:(decide (c.toNat=10))=true
        · rw [if_pos h4]
          exact ⟨fun e=>absurd e (show ¬ (7:Nat)=0 by decide),fun e=>e.elim⟩
        · rw [if_neg h4] at he ⊢
          refine ⟨fun e=>?_,fun e=>e.elim⟩
          exfalso
          unfold sgR at he e
          split at he
          · cases he
          · rename_i q;rw [if_neg q] at e;exact absurd e (show ¬ (6:Nat)=0 by decide)
/-- A piece of a text, from one token's place up to another's, has these tokens between them; as Structured Text less the lines' ends. -/
theorem Tf.piece (il:Bool):∀ (n:Nat) (l:List UInt8) (a:Nat) (C:List (Tk × Nat)) (x:Tk) (q:Nat) (D:List (Tk × Nat)),l.length≤n→Tf l a (C ++ (x,q) :: D)→∀ (f b:Nat) (A:List (Tk × Nat)),(l.take (q - a)).length≤f →
    scn il f (l.take (q - a)) b A=(A ++ (C.filter fun t=>il || nl t).map (fun t=>(t.1,t.2+b - a)),none)
  | n,l,a,C,x,q,D,hn,h,f,b,A,hf=>by
    have hq:=Tf.cut n l a C x q D hn h
    rcases h.head with ⟨rfl,hL⟩ | ⟨c,m,rfl,h | h | h⟩
    · cases C with
      | nil=>rw [List.take_nil,scn_end];simp
      | cons p C =>
        exfalso
        have:=congrArg List.length hL
        simp at this
    · obtain ⟨hb,h⟩:=h
      rw [List.length_cons] at hn
      obtain ⟨n,rfl⟩:∃ n',n=n'+1:=⟨n - 1,by omega⟩
      have hq2:=Tf.cut n m (a+1) C x q D (by omega) h
      have e:(c :: m).take (q - a)=c :: m.take (q - (a+1)):=by rw [show q - a=(q - (a+1))+1 by omega,List.take_succ_cons]
      rw [e] at hf ⊢
      rw [List.length_cons] at hf
      obtain ⟨f,rfl⟩:∃ f',f=f'+1:=⟨f - 1,by omega⟩
      rw [scn_cons,if_pos (blk_st hb il),Tf.piece il n m (a+1) C x q D (by omega) h f (b+1) A (by omega)]
      congr 2
      apply List.map_congr_left
      intro t _
      rw [show t.2+(b+1) - (a+1)=t.2+b - a by omega]
    · obtain ⟨hb,hc,h0,hz,h⟩:=h
      obtain ⟨i,_,h4⟩:=csz_val h0
      rw [List.length_cons] at hn
      obtain ⟨n,rfl⟩:∃ n',n=n'+1:=⟨n - 1,by omega⟩
      have hq2:=Tf.cut n _ _ C x q D (by rw [List.length_drop,List.length_cons];omega) h
      have hr:csz ((c :: m).take (q - a))=csz (c :: m):=csz_room h0 (by omega)
      have hp2:hp ((c :: m).take (q - a)) [40,42]=true:=by rw [hp_take (by show 2≤q - a;omega)];exact hc
      have e:(c :: m).take (q - a)=c :: m.take (q - a - 1):=by rw [show q - a=(q - a - 1)+1 by omega,List.take_succ_cons,Nat.add_sub_cancel]
      have e2:((c :: m).take (q - a)).drop (csz (c :: m))=((c :: m).drop (csz (c :: m))).take (q - (a+csz (c :: m))):=by rw [List.drop_take,show q - a - csz (c :: m)=q - (a+csz (c :: m)) by omega]
      have hl2:((c :: m).take (q - a)).length≤f:=hf
      rw [List.length_take,List.length_cons] at hl2
      have h10:¬ c.toNat=10:=by
        intro e10
        have:c=10:=UInt8.toNat_inj.1 e10
        subst this
        simp [hp,Lib.hasPrefix,List.isPrefixOf] at hc
      rw [List.length_cons] at hz
      obtain ⟨f,rfl⟩:∃ f',f=f'+1:=⟨f - 1,by omega⟩
      rw [e] at hr hp2 e2 ⊢
      rw [scn_cons,if_neg (by rw [blk_no hb h10 il];exact Bool.false_ne_true),if_pos hp2,hr,if_neg h0,e2,Tf.piece il n _ _ C x q D (by rw [List.length_drop,List.length_cons];omega) h f (b+csz (c :: m)) A (by rw [List.length_take,List.length_drop,List.length_cons];omega)]
      congr 2
      apply List.map_congr_left
      intro t _
      rw [show t.2+(b+csz (c :: m)) - (a+csz (c :: m))=t.2+b - a by omega]
    · obtain ⟨hb,hc,he,hz1,hz,E,hE,h'⟩:=h
      cases C with
      | nil =>
        have e:=(List.cons.inj hE).1
        have e2:q=a:=congrArg Prod.snd e
        subst e2
        rw [Nat.sub_self,List.take_zero,scn_end]
        simp
      | cons p C =>
        obtain ⟨ep,e⟩:=List.cons.inj hE
        rw [← e] at h'
        subst ep
        rw [List.length_cons] at hn
        obtain ⟨n,rfl⟩:∃ n',n=n'+1:=⟨n - 1,by omega⟩
        have hq2:=Tf.cut n _ _ C x q D (by rw [List.length_drop,List.length_cons];omega) h'
        have hr:nx ((c :: m).take (q - a))=nx (c :: m):=nx_room he (by omega)
        have hp2:hp ((c :: m).take (q - a)) [40,42]=false:=hp_of_take hc
        have e1:(c :: m).take (q - a)=c :: m.take (q - a - 1):=by rw [show q - a=(q - a - 1)+1 by omega,List.take_succ_cons,Nat.add_sub_cancel]
        have e2:((c :: m).take (q - a)).drop (nx (c :: m)).z=((c :: m).drop (nx (c :: m)).z).take (q - (a+(nx (c :: m)).z)):=by rw [List.drop_take,show q - a - (nx (c :: m)).z=q - (a+(nx (c :: m)).z) by omega]
        have hl2:((c :: m).take (q - a)).length≤f:=hf
        rw [List.length_take,List.length_cons] at hl2
        rw [List.length_cons] at hz
        obtain ⟨f,rfl⟩:∃ f',f=f'+1:=⟨f - 1,by omega⟩
        have ih:∀ (A:List (Tk × Nat)),scn il f (((c :: m).drop (nx (c :: m)).z).take (q - (a+(nx (c :: m)).z))) (b+(nx (c :: m)).z) A=(A ++ (C.filter fun t=>il || nl t).map (fun t=>(t.1,t.2+b - a)),none):=fun A=>by
          rw [Tf.piece il n _ _ C x q D (by rw [List.length_drop,List.length_cons];omega) h' f (b+(nx (c :: m)).z) A (by rw [List.length_take,List.length_drop,List.length_cons];omega)]
          congr 2
          apply List.map_congr_left
          intro t _
          rw [show t.2+(b+(nx (c :: m)).z) - (a+(nx (c :: m)).z)=t.2+b - a by omega]
        by_cases h10:c.toNat=10
        · have ec:c=10:=UInt8.toNat_inj.1 h10
          subst ec
          have ez:(nx (10 :: m)).z=1:=rfl
          have et:(nx (10 :: m)).t=⟨7,0,0,[10]⟩:=rfl
          cases il with
          | true =>
            rw [e1] at hr hp2 e2 ⊢
            rw [scn_cons,if_neg (by decide),if_neg (by rw [hp2];exact Bool.false_ne_true),hr,if_pos he,e2,ih]
            rw [show ((((nx (10 :: m)).t,a) :: C).filter fun t=>true || nl t)=((nx (10 :: m)).t,a) :: (C.filter fun t=>true || nl t) by rw [List.filter_cons_of_pos (by simp)],List.map_cons]
            rw [show a+b - a=b by omega]
            simp
          | false =>
            rw [e1] at e2 ⊢
            rw [ez] at e2 ih
            rw [scn_cons,if_pos (by decide)]
            have e3:List.take (q - a - 1) m=((10 :: m).drop 1).take (q - (a+1)):=by rw [← e2];rfl
            rw [e3,ih]
            rw [show ((((nx (10 :: m)).t,a) :: C).filter fun t=>false || nl t)=(C.filter fun t=>false || nl t) by rw [List.filter_cons_of_neg (by rw [et];show ¬ (false || !decide ((7:Nat)=7))=true;decide)]]
        · have hnl:nl ((nx (c :: m)).t,a)=true:=by
            unfold nl
            rw [decide_eq_false (fun e=>h10 ((nx_line he).1 e))]
            rfl
          rw [e1] at hr hp2 e2 ⊢
          rw [scn_cons,if_neg (by rw [blk_no hb h10 il];exact Bool.false_ne_true),if_neg (by rw [hp2];exact Bool.false_ne_true),hr,if_pos he,e2,ih]
          rw [show ((((nx (c :: m)).t,a) :: C).filter fun t=>il || nl t)=((nx (c :: m)).t,a) :: (C.filter fun t=>il || nl t) by rw [List.filter_cons_of_pos (by rw [hnl];simp)],List.map_cons]
          rw [show a+b - a=b by omega]
          simp
end Go.Proofs.YtapcpjidgemggaaGreatDoor
