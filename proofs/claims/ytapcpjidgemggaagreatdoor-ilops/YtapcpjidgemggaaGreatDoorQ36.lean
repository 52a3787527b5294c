/- A text's tokens, and those of the text with more lines' ends, blanks, comments where its lines end (stage 14). -/
import Derived.Test.YtapcpjidgemggaaGreatDoorQ34
namespace Go.Proofs.YtapcpjidgemggaaGreatDoor
open Go.RowKit
open Adr Lx Sx
open Ilx (Wk Wl Rl Inc lnQ lnk)
theorem ltR_text (tok k:Nat) (n:Int) (a z:Nat):(ltR tok k n a z).t.text=[]:=by
  unfold ltR
  split
  · rfl
  · split <;> rfl
/-- A token's text is what stands there, or none. -/
theorem nx_text (c:UInt8) (l:List UInt8):∃ k,(nx (c :: l)).t.text=(c :: l).take k:=by
  rw [nx_cons]
  have z:∀ r:List UInt8,r=[]→∃ k,r=(c :: l).take k:=fun r h=>⟨0,by rw [h];rfl⟩
  split
  · unfold wdR
    split
    · unfold tmR
      split
      · exact z _ (ltR_text _ _ _ _ _)
      · exact z _ (ltR_text _ _ _ _ _)
    · split
      · unfold tyR
        split
        · exact z _ rfl
        · split
          · exact z _ rfl
          · split
            · exact z _ (ltR_text _ _ _ _ _)
            · exact z _ (ltR_text _ _ _ _ _)
      · unfold plainW
        split
        · exact z _ rfl
        · split
          · exact z _ rfl
          · split
            · exact ⟨_,rfl⟩
            · split
              · exact z _ rfl
              · exact ⟨_,rfl⟩
  · split
    · unfold unR
      split
      · exact z _ rfl
      · split
        · exact z _ rfl
        · exact z _ rfl
    · split
      · unfold adR
        split
        · exact ⟨_,rfl⟩
        · exact z _ rfl
      · split
        · rename_i h
          have h:=of_decide_eq_true h
          have e:c=10:=UInt8.toNat_inj.1 h
          subst e
          exact ⟨1,rfl⟩
        · unfold sgR
          split
          · exact z _ rfl
          · exact ⟨_,rfl⟩
theorem nx_ln {c:UInt8} {l:List UInt8} (h:((nx (c :: l)).t.text == [10])=true):(nx (c :: l)).t=lnQ:=by
  obtain ⟨k,e⟩:=nx_text c l
  have h:=eq_of_beq h
  rw [e] at h
  cases k with
  | zero=>cases h
  | succ k =>
    rw [List.take_succ_cons] at h
    have hc:c=10:=(List.cons.inj h).1
    subst hc
    rfl
theorem scn_all (il:Bool) {P:Tk→Prop} {N:Nat} (hP:∀ c l,(c :: l:List UInt8).length≤N→(nx (c :: l)).e=0→P (nx (c :: l)).t):∀ (f:Nat) (l:List UInt8) (a:Nat) (A B:List (Tk × Nat)),l.length≤N→(∀ t ∈ A,P t.1)→scn il f l a A=(B,none)→∀ t ∈ B,P t.1
  | 0,l,a,A,B,_,hA,h=>by
    have e:scn il 0 l a A=(A,none):=by cases l <;> rfl
    rw [e] at h;cases h;exact hA
  | f+1,[],a,A,B,_,hA,h=>by rw [scn_end] at h;cases h;exact hA
  | f+1,c :: l,a,A,B,hl,hA,h=>by
    rw [scn_cons] at h
    by_cases hb:blk c il=true
    · rw [if_pos hb] at h
      exact scn_all il hP f _ _ _ _ (by rw [List.length_cons] at hl;omega) hA h
    · rw [if_neg hb] at h
      by_cases hc:hp (c :: l) [40,42]=true
      · rw [if_pos hc] at h
        by_cases h0:csz (c :: l)=0
        · rw [if_pos h0] at h;cases (Prod.mk.inj h).2
        · rw [if_neg h0] at h
          exact scn_all il hP f _ _ _ _ (by rw [List.length_drop];omega) hA h
      · rw [if_neg hc] at h
        by_cases he:(nx (c :: l)).e=0
        · rw [if_pos he] at h
          refine scn_all il hP f _ _ _ _ (by rw [List.length_drop];omega) (fun t ht=>?_) h
          rcases List.mem_append.1 ht with ht | ht
          · exact hA t ht
          · obtain rfl:=List.mem_singleton.1 ht
            exact hP c l hl he
        · rw [if_neg he] at h;cases (Prod.mk.inj h).2
theorem toks_all {l:List UInt8} {T:TL} (h:toks l true=(T,none)):Wk T∧Wl T∧(∀ t ∈ T,t.1.text.length≤65536)∧∀ t ∈ T,t.1.tok=7→t.1=lnQ:=by
  unfold toks at h
  by_cases hb:65536 < l.length
  · rw [if_pos hb] at h;cases (Prod.mk.inj h).2
  · rw [if_neg hb] at h
    obtain ⟨h1,h2⟩:=Prod.mk.inj h
    have q:=scn_all true (P:=fun t=>((t.text == [10])=true→t=lnQ)∧¬ t.tok=0∧t.text.length≤65536∧(t.tok=7→t=lnQ)) (N:=65536) (fun c m hl he=>⟨nx_ln,fun e=>(nx_some he).1 e,by
      obtain ⟨k,e⟩:=nx_text c m
      rw [e,List.length_take]
      omega,fun e=>by
      have hc:c=10:=UInt8.toNat_inj.1 ((nx_line he).1 e)
      subst hc
      rfl⟩) l.length l 0 [] (scn true l.length l 0 []).1 (by omega) (by simp) (by rw [← h2])
    refine ⟨fun t ht=>?_,⟨(scn true l.length l 0 []).1,l.length,h1.symm,fun t ht=>(q t ht).2.1⟩,fun t ht=>?_,fun t ht=>?_⟩
    · rw [← h1] at ht
      rcases List.mem_append.1 ht with ht | ht
      · exact (q t ht).1
      · obtain rfl:=List.mem_singleton.1 ht
        intro e
        exact absurd (show lnk (nul,0)=true from e) (by decide)
    · rw [← h1] at ht
      rcases List.mem_append.1 ht with ht | ht
      · exact (q t ht).2.2.1
      · obtain rfl:=List.mem_singleton.1 ht
        exact Nat.zero_le _
    · rw [← h1] at ht
      rcases List.mem_append.1 ht with ht | ht
      · exact (q t ht).2.2.2
      · obtain rfl:=List.mem_singleton.1 ht
        intro e
        exact absurd (show (0:Nat)=7 from e) (by decide)
/-- A token lies where the scan stands. -/
theorem Tf.at {l:List UInt8} {x:Tk} {q:Nat} {D:TL} (h:Tf l q ((x,q) :: D)):(l=[]∧x=nul∧D=[]) ∨ (1≤(nx l).z∧(nx l).z≤l.length∧x=(nx l).t∧Tf (l.drop (nx l).z) (q+(nx l).z) D):=by
  rcases h.head with ⟨rfl,hL⟩ | ⟨c,m,rfl,h | h | h⟩
  · left
    cases hL
    exact ⟨rfl,rfl,rfl⟩
  · exfalso
    have:=h.2.low _ (List.mem_cons_self)
    have this:q+1≤q:=this
    omega
  · exfalso
    obtain ⟨_,_,h0,_,h⟩:=h
    have this:q+csz (c :: m)≤q:=h.low _ (List.mem_cons_self)
    omega
  · right
    obtain ⟨_,_,_,h1,h2,E,hE,h⟩:=h
    cases hE
    exact ⟨h1,h2,rfl,h⟩
theorem Tf.inc {l:List UInt8} {a:Nat} {T:TL} (h:Tf l a T):Inc T:=by
  intro P t D e u hu
  obtain ⟨P1,P2,rfl⟩:=List.append_of_mem hu
  subst e
  rw [List.append_assoc,List.cons_append] at h
  obtain ⟨_,_,h2⟩:=Tf.cut l.length l a P1 u.1 u.2 (P2 ++ t :: D) (Nat.le_refl _) h
  rcases h2.at with ⟨_,_,h3⟩ | ⟨h3,_,_,h4⟩
  · cases P2 <;> cases h3
  · have:=h4.low t (by simp)
    omega
/-- What a scan comes to hangs neither on what was told ahead nor on how long it may go on. -/
theorem scn_any (il:Bool):∀ (f:Nat) (l:List UInt8) (a:Nat) (A B:TL),l.length≤f→scn il f l a A=(B,none)→∃ E,B=A ++ E∧∀ f' A',l.length≤f'→scn il f' l a A'=(A' ++ E,none)
  | f,[],a,A,B,_,h=>by
    rw [scn_end] at h
    cases h
    exact ⟨[],by simp,fun f' A' _=>by rw [scn_end,List.append_nil]⟩
  | 0,c :: l,a,A,B,hf,_=>by simp at hf
  | f+1,c :: l,a,A,B,hf,h=>by
    rw [List.length_cons] at hf
    rw [scn_cons] at h
    by_cases hb:blk c il=true
    · rw [if_pos hb] at h
      obtain ⟨E,h1,h2⟩:=scn_any il f _ _ _ _ (by omega) h
      refine ⟨E,h1,fun f' A' hf'=>?_⟩
      rw [List.length_cons] at hf'
      obtain ⟨f',rfl⟩:∃ g,f'=g+1:=⟨f' - 1,by omega⟩
      rw [scn_cons,if_pos hb]
      exact h2 f' A' (by omega)
    · rw [if_neg hb] at h
      by_cases hc:hp (c :: l) [40,42]=true
      · rw [if_pos hc] at h
        by_cases h0:csz (c :: l)=0
        · rw [if_pos h0] at h;cases (Prod.mk.inj h).2
        · rw [if_neg h0] at h
          obtain ⟨i,_,h4⟩:=csz_val h0
          have hd:((c :: l).drop (csz (c :: l))).length≤l.length:=by rw [List.length_drop,List.length_cons];omega
          obtain ⟨E,h1,h2⟩:=scn_any il f _ _ _ _ (by omega) h
          refine ⟨E,h1,fun f' A' hf'=>?_⟩
          rw [List.length_cons] at hf'
          obtain ⟨f',rfl⟩:∃ g,f'=g+1:=⟨f' - 1,by omega⟩
          rw [scn_cons,if_neg hb,if_pos hc,if_neg h0]
          exact h2 f' A' (by omega)
      · rw [if_neg hc] at h
        by_cases he:(nx (c :: l)).e=0
        · rw [if_pos he] at h
          have hz:=nx_ok (l:=c :: l) (by simp) he
          have hd:((c :: l).drop (nx (c :: l)).z).length≤l.length:=by rw [List.length_drop,List.length_cons];omega
          obtain ⟨E,h1,h2⟩:=scn_any il f _ _ _ _ (by omega) h
          refine ⟨((nx (c :: l)).t,a) :: E,by rw [h1];simp,fun f' A' hf'=>?_⟩
          rw [List.length_cons] at hf'
          obtain ⟨f',rfl⟩:∃ g,f'=g+1:=⟨f' - 1,by omega⟩
          rw [scn_cons,if_neg hb,if_neg hc,if_pos he,h2 f' _ (by omega)]
          simp
        · rw [if_neg he] at h;cases (Prod.mk.inj h).2
theorem Tf.any {l:List UInt8} {a:Nat} {L:TL} (h:Tf l a L):∃ E,L=E ++ [(nul,a+l.length)]∧∀ f A,l.length≤f→scn true f l a A=(A ++ E,none):=by
  obtain ⟨f,A,B,hf,hs,hB⟩:=h
  obtain ⟨E,h1,h2⟩:=scn_any true f l a A B hf hs
  refine ⟨E,?_,h2⟩
  rw [h1,List.append_assoc] at hB
  exact (List.append_cancel_left hB).symm
theorem Tf.nil (a:Nat):Tf [] a [(nul,a)]:=⟨0,[],[],Nat.le_refl _,rfl,rfl⟩
theorem Tf.blank {c:UInt8} {m:List UInt8} {a:Nat} {L:TL} (hb:blk c true=true) (h:Tf m (a+1) L):Tf (c :: m) a L:=by
  obtain ⟨E,h1,h2⟩:=h.any
  refine ⟨m.length+1,[],E,by simp,by rw [scn_cons,if_pos hb,h2 _ _ (Nat.le_refl _)];rfl,?_⟩
  rw [h1,List.length_cons,show a+(m.length+1)=a+1+m.length by omega]
  rfl
theorem Tf.comment {c:UInt8} {m:List UInt8} {a:Nat} {L:TL} (hb:blk c true=false) (hc:hp (c :: m) [40,42]=true) (h0:¬ csz (c :: m)=0) (hz:csz (c :: m)≤(c :: m).length) (h:Tf ((c :: m).drop (csz (c :: m))) (a+csz (c :: m)) L):Tf (c :: m) a L:=by
  obtain ⟨E,h1,h2⟩:=h.any
  obtain ⟨i,_,h4⟩:=csz_val h0
  rw [List.length_cons] at hz
  have hd:((c :: m).drop (csz (c :: m))).length≤m.length:=by rw [List.length_drop,List.length_cons];omega
  refine ⟨m.length+1,[],E,by simp,by rw [scn_cons,if_neg (by rw [hb];exact Bool.false_ne_true),if_pos hc,if_neg h0,h2 _ _ hd];rfl,?_⟩
  rw [h1,List.length_drop,List.length_cons,show a+(m.length+1)=a+csz (c :: m)+(m.length+1 - csz (c :: m)) by omega]
  rfl
theorem Tf.tok {c:UInt8} {m:List UInt8} {a:Nat} {D:TL} (hb:blk c true=false) (hc:hp (c :: m) [40,42]=false) (he:(nx (c :: m)).e=0) (h:Tf ((c :: m).drop (nx (c :: m)).z) (a+(nx (c :: m)).z) D):Tf (c :: m) a (((nx (c :: m)).t,a) :: D):=by
  obtain ⟨E,h1,h2⟩:=h.any
  have hz:=nx_ok (l:=c :: m) (by simp) he
  rw [List.length_cons] at hz
  have hd:((c :: m).drop (nx (c :: m)).z).length≤m.length:=by rw [List.length_drop,List.length_cons];omega
  refine ⟨m.length+1,[],((nx (c :: m)).t,a) :: E,by simp,by rw [scn_cons,if_neg (by rw [hb];exact Bool.false_ne_true),if_neg (by rw [hc];exact Bool.false_ne_true),if_pos he,h2 _ _ hd];rfl,?_⟩
  rw [h1,List.length_drop,List.length_cons,show a+(m.length+1)=a+(nx (c :: m)).z+(m.length+1 - (nx (c :: m)).z) by omega]
  rfl
theorem Tf.line {m:List UInt8} {a:Nat} {D:TL} (h:Tf m (a+1) D):Tf (10 :: m) a ((lnQ,a) :: D):=Tf.tok (c:=10) (m:=m) rfl (by simp [hp,Lib.hasPrefix,List.isPrefixOf]) rfl h
theorem hp_two {p m z:List UInt8} {c:UInt8} (hn:p ≠ []) (h:hp (p ++ m) [40,42]=false) (hz:¬ c.toNat=42):hp (p ++ c :: z) [40,42]=false:=by
  match p,hn with
  | [d],_ =>
    show (Lib.hasPrefix (d :: c :: z) [40,42])=false
    simp only [Lib.hasPrefix,List.isPrefixOf]
    have:((42:UInt8) == c)=false:=by
      rw [beq_eq_false_iff_ne]
      intro e
      exact hz (by rw [← e];rfl)
    rw [this]
    simp
  | d :: e :: p,_ =>
    have h:(Lib.hasPrefix (d :: e :: (p ++ m)) [40,42])=false:=h
    show (Lib.hasPrefix (d :: e :: (p ++ c :: z)) [40,42])=false
    simpa [Lib.hasPrefix,List.isPrefixOf] using h
theorem hp_yes {p m z:List UInt8} (hn:2≤p.length) (h:hp (p ++ m) [40,42]=true):hp (p ++ z) [40,42]=true:=by
  match p,hn with
  | d :: e :: p,_ =>
    have h:(Lib.hasPrefix (d :: e :: (p ++ m)) [40,42])=true:=h
    show (Lib.hasPrefix (d :: e :: (p ++ z)) [40,42])=true
    simpa [Lib.hasPrefix,List.isPrefixOf] using h
/-- What stands ahead of a line's end is told as it was, whatever begins there with a blank or a line's end. -/
theorem Tf.fore:∀ (n:Nat) (p r:List UInt8) (a:Nat) (C:TL) (x:Tk) (q:Nat) (D:TL),p.length≤n→q=a+p.length→Tf (p ++ r) a (C ++ (x,q) :: D)→∀ (c:UInt8) (z:List UInt8) (b:Nat) (E:TL),Stp c→¬ c.toNat=42→Tf (c :: z) (b+p.length) E→∃ C',C'=C.map (fun t=>(t.1,t.2+b - a))∧Tf (p ++ c :: z) b (C' ++ E)
  | n,p,r,a,C,x,q,D,hn,hq,h,c,z,b,E,hs,h42,hz=>by
    cases p with
    | nil =>
      have hC:C=[]:=by
        cases C with
        | nil=>rfl
        | cons u C =>
          exfalso
          have h1:=h.inc (u :: C) (x,q) D rfl u (by simp)
          have h2:=h.low u (by simp)
          have h1:u.2 < q:=h1
          simp at hq
          omega
      subst hC
      exact ⟨[],rfl,by simpa using hz⟩
    | cons d p =>
      rw [List.length_cons] at hn hq hz
      obtain ⟨n,rfl⟩:∃ n',n=n'+1:=⟨n - 1,by omega⟩
      rcases h.head with ⟨hh,_⟩ | ⟨c0,m0,hcm,h | h | h⟩
      · cases hh
      · cases hcm
        obtain ⟨hb,h⟩:=h
        obtain ⟨C',h1,h2⟩:=Tf.fore n p r (a+1) C x q D (by omega) (by omega) h c z (b+1) E hs h42 (by rw [show b+1+p.length=b+(p.length+1) by omega];exact hz)
        refine ⟨C',h1.trans ?_,Tf.blank hb h2⟩
        apply List.map_congr_left
        intro t _
        rw [show t.2+(b+1) - (a+1)=t.2+b - a by omega]
      · cases hcm
        obtain ⟨hb,hc,h0,hl,h⟩:=h
        obtain ⟨i,_,h4⟩:=csz_val h0
        have hle:=h.low (x,q) (by simp)
        have hle:a+csz (d :: p ++ r)≤q:=hle
        have hcp:csz (d :: p ++ r)≤(d :: p).length:=by rw [List.length_cons];omega
        have e1:csz (d :: p)=csz (d :: p ++ r):=by
          have:=csz_room h0 hcp
          rw [List.take_left] at this
          exact this
        have n0:¬ csz (d :: p)=0:=by rw [e1];exact h0
        have l2:2≤(d :: p).length:=by omega
        have e2:csz ((d :: p) ++ c :: z)=csz (d :: p):=csz_more n0 l2
        have hcz:csz (d :: p)≤(d :: p).length:=by rw [e1];exact hcp
        have dr:∀ y:List UInt8,((d :: p) ++ y).drop (csz (d :: p))=(d :: p).drop (csz (d :: p)) ++ y:=fun y=>List.drop_append_of_le_length hcz
        rw [← e1] at h h4 hle
        rw [dr] at h
        have lp:((d :: p).drop (csz (d :: p))).length=p.length+1 - csz (d :: p):=by rw [List.length_drop,List.length_cons]
        rw [List.length_cons] at hcz
        obtain ⟨C',h1,h2⟩:=Tf.fore n ((d :: p).drop (csz (d :: p))) r (a+csz (d :: p)) C x q D (by omega) (by omega) h c z (b+csz (d :: p)) E hs h42 (by rw [lp,show b+csz (d :: p)+(p.length+1 - csz (d :: p))=b+(p.length+1) by omega];exact hz)
        refine ⟨C',h1.trans (List.map_congr_left fun t _=>by rw [show t.2+(b+csz (d :: p)) - (a+csz (d :: p))=t.2+b - a by omega]),?_⟩
        have hcc:hp ((d :: p) ++ c :: z) [40,42]=true:=hp_yes l2 (show hp ((d :: p) ++ r) [40,42]=true from hc)
        refine Tf.comment (c:=d) (m:=p ++ c :: z) hb hcc (by rw [show d :: (p ++ c :: z)=(d :: p) ++ c :: z from rfl,e2];exact n0) ?_ ?_
        · rw [show d :: (p ++ c :: z)=(d :: p) ++ c :: z from rfl,e2,List.length_append,List.length_cons];omega
        · rw [show d :: (p ++ c :: z)=(d :: p) ++ c :: z from rfl,e2,dr];exact h2
      · cases hcm
        obtain ⟨hb,hc,he,hz1,hz2,F,hF,h9⟩:=h
        cases C with
        | nil =>
          exfalso
          have e:=(List.cons.inj hF).1
          have e2:q=a:=congrArg Prod.snd e
          omega
        | cons u C =>
          obtain ⟨eu,eF⟩:=List.cons.inj hF
          rw [← eF] at h9
          have hle:=h9.low (x,q) (by simp)
          have hle:a+(nx (d :: p ++ r)).z≤q:=hle
          have hzp:(nx (d :: p ++ r)).z≤(d :: p).length:=by rw [List.length_cons];omega
          have e1:nx (d :: p)=nx (d :: p ++ r):=by
            have this:nx ((d :: p ++ r).take (d :: p).length)=nx (d :: p ++ r):=nx_room he hzp
            rw [List.take_left] at this
            exact this
          have e2:nx ((d :: p) ++ c :: z)=nx (d :: p):=nx_app hs d p z
          rw [← e1] at h9 hz1 hle hzp he
          have dr:∀ y:List UInt8,((d :: p) ++ y).drop (nx (d :: p)).z=(d :: p).drop (nx (d :: p)).z ++ y:=fun y=>List.drop_append_of_le_length hzp
          rw [dr] at h9
          have lp:((d :: p).drop (nx (d :: p)).z).length=p.length+1 - (nx (d :: p)).z:=by rw [List.length_drop,List.length_cons]
          rw [List.length_cons] at hzp
          obtain ⟨C',h1,h2⟩:=Tf.fore n ((d :: p).drop (nx (d :: p)).z) r (a+(nx (d :: p)).z) C x q D (by omega) (by omega) h9 c z (b+(nx (d :: p)).z) E hs h42 (by rw [lp,show b+(nx (d :: p)).z+(p.length+1 - (nx (d :: p)).z)=b+(p.length+1) by omega];exact hz)
          refine ⟨((nx (d :: p)).t,b) :: C',?_,?_⟩
          · rw [List.map_cons,h1,eu,e1]
            show ((nx (d :: p ++ r)).t,b) :: _=((nx (d :: p ++ r)).t,a+b - a) :: _
            rw [show a+b - a=b by omega]
            congr 1
            exact List.map_congr_left fun t _=>by rw [show t.2+(b+(nx (d :: p ++ r)).z) - (a+(nx (d :: p ++ r)).z)=t.2+b - a by omega]
          · have hcc:hp ((d :: p) ++ c :: z) [40,42]=false:=hp_two (by simp) (show hp ((d :: p) ++ r) [40,42]=false from hc) h42
            have e3:nx (d :: (p ++ c :: z))=nx (d :: p):=e2
            have g:=Tf.tok (c:=d) (m:=p ++ c :: z) (a:=b) (D:=C' ++ E) hb hcc (by rw [e3];exact he) (by rw [e3,show d :: (p ++ c :: z)=(d :: p) ++ c :: z from rfl,dr];exact h2)
            rw [e3] at g
            exact g
/-- The piece of a text ahead of a token, as Structured Text. -/
theorem head_toks {x:List UInt8} {T L:TL} (h:toks x true=(T,none)) (hL:L <:+ T) (h0:L ≠ []):(Ilx.hd L).2≤x.length∧toks (x.take (Ilx.hd L).2) false=(Ilx.hdT T L,none):=by
  obtain ⟨hT,hlen⟩:=Tf.of h
  obtain ⟨C,rfl⟩:=hL
  cases L with
  | nil=>exact absurd rfl h0
  | cons t D =>
    obtain ⟨y,q⟩:=t
    obtain ⟨_,c2,_⟩:=Tf.cut x.length x 0 C y q D (Nat.le_refl _) hT
    rw [Nat.zero_add] at c2
    refine ⟨c2,?_⟩
    show toks (x.take q) false=_
    have hl:(x.take q).length=q:=by rw [List.length_take];omega
    have e:=Tf.piece false x.length x 0 C y q D (Nat.le_refl _) hT (x.take q).length 0 [] (by rw [Nat.sub_zero];exact Nat.le_refl _)
    rw [Nat.sub_zero] at e
    unfold toks
    rw [if_neg (by rw [hl];omega),e,hl]
    unfold Ilx.hdT
    rw [List.length_append,Nat.add_sub_cancel,List.take_left]
    have e2:(C.filter fun t=>false || nl t).map (fun t=>(t.1,t.2+0 - 0))=C.filter nl:=by
      rw [show (fun t:Tk × Nat=>false || nl t)=nl by funext t;exact Bool.false_or _]
      rw [show (fun t:Tk × Nat=>(t.1,t.2+0 - 0))=id by funext t;rfl,List.map_id]
    rw [e2]
    rfl
theorem endp_tf (q:Nat):Tf (10 :: [69,78,68,95,80,82,79,71,82,65,77]) q [(lnQ,q),(Ilx.endW,q+1),(nul,q+12)]:=by
  refine Tf.line ?_
  have e:nx [69,78,68,95,80,82,79,71,82,65,77]=⟨Ilx.endW,11,0⟩:=by rfl
  have g:=Tf.tok (c:=69) (m:=[78,68,95,80,82,79,71,82,65,77]) (a:=q+1) (D:=[(nul,q+12)]) (by decide) (by decide) (by rw [show (69 :: [78,68,95,80,82,79,71,82,65,77]:List UInt8)=[69,78,68,95,80,82,79,71,82,65,77] from rfl,e]) (by rw [show (69 :: [78,68,95,80,82,79,71,82,65,77]:List UInt8)=[69,78,68,95,80,82,79,71,82,65,77] from rfl,e];exact Tf.nil (q+12))
  rw [show (69 :: [78,68,95,80,82,79,71,82,65,77]:List UInt8)=[69,78,68,95,80,82,79,71,82,65,77] from rfl,e] at g
  exact g
/-- The same with a program's end behind it. -/
theorem headE_toks {x:List UInt8} {T L:TL} (h:toks x true=(T,none)) (hL:L <:+ T) (h0:L ≠ []) (hs:(Ilx.hd L).2+12≤65536):toks (x.take (Ilx.hd L).2 ++ 10 :: [69,78,68,95,80,82,79,71,82,65,77]) false=(Ilx.hdE T L,none):=by
  obtain ⟨hT,hlen⟩:=Tf.of h
  obtain ⟨C,rfl⟩:=hL
  cases L with
  | nil=>exact absurd rfl h0
  | cons t D =>
    obtain ⟨y,q⟩:=t
    obtain ⟨_,c2,_⟩:=Tf.cut x.length x 0 C y q D (Nat.le_refl _) hT
    rw [Nat.zero_add] at c2
    have hs:q+12≤65536:=hs
    show toks (x.take q ++ 10 :: [69,78,68,95,80,82,79,71,82,65,77]) false=_
    have hl:(x.take q).length=q:=by rw [List.length_take];omega
    rw [show x=x.take q ++ x.drop q from (List.take_append_drop q x).symm] at hT
    obtain ⟨C',e1,e2⟩:=Tf.fore (x.take q).length (x.take q) (x.drop q) 0 C y q D (Nat.le_refl _) (by omega) hT 10 [69,78,68,95,80,82,79,71,82,65,77] 0 _ (Or.inr (Or.inl rfl)) (by decide) (by rw [hl,Nat.zero_add];exact endp_tf q)
    have e1:C'=C:=e1.trans (by rw [show (fun t:Tk × Nat=>(t.1,t.2+0 - 0))=id by funext t;rfl,List.map_id])
    subst e1
    generalize hy:x.take q ++ 10 :: [69,78,68,95,80,82,79,71,82,65,77]=Y at *
    have hY:Y.length=q+12:=by rw [← hy,List.length_append,hl];rfl
    have e2:Tf Y 0 ((C' ++ [(lnQ,q),(Ilx.endW,q+1)]) ++ (nul,q+12) :: []):=by rw [List.append_assoc];exact e2
    have e:=Tf.piece false Y.length Y 0 _ nul (q+12) [] (Nat.le_refl _) e2 Y.length 0 [] (by rw [Nat.sub_zero,List.length_take];omega)
    rw [Nat.sub_zero,List.take_of_length_le (by omega)] at e
    unfold toks
    rw [if_neg (by omega),e,hY]
    unfold Ilx.hdE
    rw [List.length_append,Nat.add_sub_cancel,List.take_left]
    have e3:((C' ++ [(lnQ,q),(Ilx.endW,q+1)]).filter fun t=>false || nl t).map (fun t=>(t.1,t.2+0 - 0))=C'.filter nl ++ [(Ilx.endW,q+1)]:=by
      rw [show (fun t:Tk × Nat=>false || nl t)=nl by funext t;exact Bool.false_or _]
      rw [show (fun t:Tk × Nat=>(t.1,t.2+0 - 0))=id by funext t;rfl,List.map_id,List.filter_append]
      rfl
    rw [e3,List.nil_append,List.append_assoc]
    rfl
end Go.Proofs.YtapcpjidgemggaaGreatDoor
