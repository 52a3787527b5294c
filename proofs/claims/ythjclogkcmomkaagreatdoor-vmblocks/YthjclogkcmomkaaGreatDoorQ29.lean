/- What a scan stands on goes on from instruction to instruction (stage 21). -/
import Derived.Test.YthjclogkcmomkaaGreatDoorQ13
import Derived.Test.YthjclogkcmomkaaGreatDoorQ28
namespace Go.Proofs.YthjclogkcmomkaaGreatDoor
open Go.RowKit
open Fb Cod Nm Vmx
namespace Vmx
/-- Code that is right. -/
structure Rgt (K:List Int) (L:List Ins):Prop where
  wh:whole K L.length=true
  all:∀ (i:Nat) (x:Ins),L[i]?=some x→rgt K L.length x=true
  fin:∀ i,i < L.length→¬ Wrong L i
theorem Rgt.of {K:List Int} {L:List Ins} (h:Ver K L none):Rgt K L:=by
  rcases h with ⟨k,_,h2⟩ | ⟨h1,m,hF,hm⟩
  · cases h2
  · have hm':¬ m < L.length:=by
      intro hl
      rw [if_pos hl] at hm
      cases hm
    unfold alone at h1
    by_cases hw:whole K L.length=true
    · rw [if_pos hw,List.findIdx?_eq_none_iff] at h1
      refine ⟨hw,fun i x hx=>?_,fun i hi=>hF.low i (by have:=hF.le;omega)⟩
      have:=h1 x (List.mem_iff_getElem?.2 ⟨i,hx⟩)
      simpa using this
    · rw [if_neg hw] at h1
      cases h1
theorem Rgt.pos {K:List Int} {L:List Ins} (h:Rgt K L):0 < L.length∧L.length≤32768∧K.length≤4096∧∀ k,k ∈ K→scal k=true:=by
  have:=h.wh
  unfold whole at this
  simp only [Bool.and_eq_true,decide_eq_true_iff,List.all_eq_true] at this
  exact ⟨this.1.2,this.2,this.1.1.2,this.1.1.1⟩
theorem Rgt.lt {K:List Int} {L:List Ins} (h:Rgt K L) {q:Nat × Nat} (hr:Cod.Reach L q):q.1 < L.length:=by
  refine hr (fun q=>q.1 < L.length) h.pos.1 (fun s r ih hg=>?_)
  obtain ⟨x,hx,_,_,⟨hj,he⟩ | ⟨_,he,hl⟩⟩:=hg
  · have o:=rgt_ok (h.all _ _ hx)
    have:=o.jmp hj
    show r.1 < L.length
    omega
  · show r.1 < L.length
    omega
theorem Rgt.at_ {K:List Int} {L:List Ins} (h:Rgt K L) {s:St} (o:Okv K L s):∃ x,L[s.pc]?=some x∧rgt K L.length x=true∧x.t≤s.sk.length∧x.dl s.sk.length≤256∧(x.falls→s.pc+1 < L.length):=by
  have hl:=h.lt o.reach
  simp only at hl
  have hx:=List.getElem?_eq_getElem hl
  refine ⟨_,hx,h.all _ _ hx,?_⟩
  have hn:¬ fault L (s.pc,s.sk.length):=fun hf=>h.fin _ hl ⟨_,o.reach,Or.inl hf⟩
  have hb:¬ (L[s.pc]'hl).bad s.sk.length:=fun hb=>hn ⟨_,hx,Or.inl hb⟩
  unfold Ins.bad at hb
  refine ⟨by omega,by omega,fun hf=>?_⟩
  rcases Nat.lt_or_ge (s.pc+1) L.length with hq | hq
  · exact hq
  · exact absurd ⟨_,hx,Or.inr ⟨hf,by show s.pc+1=_;omega⟩⟩ hn
theorem reach_to {L:List Ins} {s:St} {x:Ins} {p l:Nat} (hr:Cod.Reach L (s.pc,s.sk.length)) (hx:L[s.pc]?=some x) (h1:x.t≤s.sk.length) (h2:x.dl s.sk.length≤256) (hl:l=x.dl s.sk.length) (h:(x.jmp∧p=x.a.toNat) ∨ (x.falls∧p=s.pc+1∧s.pc+1 < L.length)):Cod.Reach L (p,l) :=
  Cod.Reach.step hr ⟨x,hx,by unfold Ins.bad;simp only;omega,hl,h⟩
theorem sml_of {z:Int} (h:-2147483648≤z∧z≤2147483647):sml z:=⟨h.1,by omega⟩
theorem sml_wr (k n:Int):sml (wr k n):=by
  have h1:=wr_lo k n
  have h2:=wr_hi k n
  have l1:-2147483648≤lo k:=by unfold lo;repeat' split <;> omega
  have l2:hi k≤4294967295:=by unfold hi;repeat' split <;> omega
  exact ⟨by omega,by omega⟩
theorem sml_0:sml 0:=⟨by decide,by decide⟩
theorem sml_1:sml 1:=⟨by decide,by decide⟩
theorem sml_tr (b:Bool):sml (Nm.tr b):=by
  cases b
  · exact sml_0
  · exact sml_1
theorem sml_ite {c:Prop} [Decidable c] {a b:Int} (ha:sml a) (hb:sml b):sml (if c then a else b):=by
  by_cases h:c
  · rw [if_pos h];exact ha
  · rw [if_neg h];exact hb
theorem sml_apv (o k a b:Int):sml (apv o k a b):=by
  have H:∀ x y,sml (Nm.opv o k x y):=fun x y=>by
    unfold Nm.opv
    repeat' (first | with_reducible exact sml_wr _ _ | with_reducible exact sml_tr _ | with_reducible exact sml_0 | with_reducible refine sml_ite ?_ ?_)
  unfold apv
  split
  · exact H _ _
  · exact sml_0
theorem sml_ngv (k a:Int):sml (ngv k a):=sml_wr _ _
theorem sml_ntv (k a:Int):sml (ntv k a):=by
  unfold ntv
  split
  · exact sml_tr _
  · exact sml_wr _ _
theorem sml_shrv (k a m:Int):sml (shrv k (wr k a) m):=by
  unfold shrv
  split
  · exact sml_0
  · have h:=sml_wr k a
    have hp:(0:Int) < 2 ^ m.toNat:=Int.pow_pos (by decide)
    unfold sml at *
    refine ⟨?_,?_⟩
    · rw [Int.le_ediv_iff_mul_le hp]
      have:(1:Int)≤2 ^ m.toNat:=hp
      have:=Int.mul_le_mul_of_nonpos_left (a:=-2147483648) (by decide:(-2147483648:Int)≤0) this
      omega
    · refine Int.le_trans (Int.ediv_le_ediv hp h.2) (Int.ediv_le_self _ (by decide))
theorem sml_shv (s:ByteArray) (k a n:Int):sml (shv s k a n):=by
  unfold shv
  repeat' split
  all_goals first | exact sml_wr _ _ | exact sml_shrv _ _ _ | exact sml_0 | (unfold shlv;split;exact sml_0;exact sml_wr _ _)
theorem sml_absv (k a:Int):sml (absv k a):=by
  unfold absv
  split
  · exact sml_ngv _ _
  · exact sml_wr _ _
theorem lay_len {cs l:List Int} {a:Nat} (h:a+l.length≤cs.length):(lay cs a l).length=cs.length:=by
  unfold lay
  simp only [List.length_append,List.length_take,List.length_drop]
  omega
theorem lay_mem {cs l:List Int} {a:Nat} {x:Int} (h:x ∈ lay cs a l):x ∈ cs ∨ x ∈ l:=by
  unfold lay at h
  rcases List.mem_append.1 h with h | h
  · rcases List.mem_append.1 h with h | h
    · exact Or.inl (List.mem_of_mem_take h)
    · exact Or.inr h
  · exact Or.inl (List.mem_of_mem_drop h)
theorem sml_b01 (b:Bool):sml (Fb.b01 b):=by
  cases b
  · exact sml_0
  · exact sml_1
theorem sml_2:sml 2:=⟨by decide,by decide⟩
theorem sml_w32 (n:Int):sml (w32 n):=sml_of (w32_ok n)
theorem ton_ks {a:Bool} {pt k0 k1 k2 nw:Int} (h1:sml k1) (hn:sml nw):sml (ton a pt k0 k1 k2 nw).k0∧sml (ton a pt k0 k1 k2 nw).k1∧sml (ton a pt k0 k1 k2 nw).k2:=by
  unfold ton
  dsimp only
  refine ⟨?_,?_,?_⟩
  all_goals repeat' split
  all_goals first | assumption | exact sml_0 | exact sml_1 | exact sml_b01 _
theorem tof_ks {a:Bool} {pt et k0 k1 k2 nw:Int} (h1:sml k1) (h2:sml k2) (hn:sml nw):sml (tof a pt et k0 k1 k2 nw).k0∧sml (tof a pt et k0 k1 k2 nw).k1∧sml (tof a pt et k0 k1 k2 nw).k2:=by
  unfold tof
  dsimp only
  refine ⟨?_,?_,?_⟩
  all_goals repeat' split
  all_goals first | assumption | exact sml_0 | exact sml_1 | exact sml_b01 _
theorem tp_ks {a:Bool} {pt et k0 k1 k2 nw:Int} (h1:sml k1) (h2:sml k2) (hn:sml nw):sml (tp a pt et k0 k1 k2 nw).k0∧sml (tp a pt et k0 k1 k2 nw).k1∧sml (tp a pt et k0 k1 k2 nw).k2:=by
  unfold tp
  dsimp only
  refine ⟨?_,?_,?_⟩
  all_goals repeat' split
  all_goals first | assumption | exact sml_0 | exact sml_1 | exact sml_2 | exact sml_b01 _
theorem ks_ok (k:Nat) (l q:List Int) (p0 p1 p2 t:Int):sml (stp k l q p0 p1 p2 t).k0∧sml (stp k l q p0 p1 p2 t).k1∧sml (stp k l q p0 p1 p2 t).k2:=by
  have h0:=sml_w32 p0
  have h1:=sml_w32 p1
  have h2:=sml_w32 p2
  have ht:=sml_w32 t
  unfold stp
  dsimp only
  split
  · exact ton_ks h1 ht
  · exact tof_ks h1 h2 ht
  · exact tp_ks h1 h2 ht
  · exact ⟨sml_b01 _,h1,h2⟩
  · exact ⟨sml_b01 _,h1,h2⟩
  · exact ⟨sml_b01 _,sml_b01 _,h2⟩
  · exact ⟨sml_b01 _,h1,h2⟩
  · exact ⟨sml_b01 _,h1,h2⟩
  · exact ⟨h0,h1,h2⟩
  · exact ⟨h0,h1,h2⟩
  · exact ⟨sml_0,sml_0,sml_0⟩
theorem cal_mem {k:Nat} {cs:List Int} {a:Nat} {now:Int} (h:∀ x,x ∈ cs→sml x):∀ x,x ∈ cal k cs a now→sml x:=by
  intro x hx
  rcases lay_mem hx with hx | hx
  · exact h x hx
  · rcases List.mem_append.1 hx with hx | hx
    · exact sml_of (stp_ok _ _ _ _ _ _ _ x hx)
    · have:=ks_ok k ((cs.drop a).take (nI k)) ((cs.drop (a+nI k)).take (nO k)) (cs.getD (a+nI k+nO k) 0) (cs.getD (a+nI k+nO k+1) 0) (cs.getD (a+nI k+nO k+2) 0) now
      simp only [List.mem_cons,List.not_mem_nil,or_false] at hx
      rcases hx with rfl | rfl | rfl
      · exact this.1
      · exact this.2.1
      · exact this.2.2
theorem cal_len {k:Nat} {cs:List Int} {a:Nat} {now:Int} (h:a+nI k+nO k+3≤cs.length):(cal k cs a now).length=cs.length:=by
  unfold cal
  refine lay_len ?_
  rw [List.length_append]
  show a+nI k+((stp _ _ _ _ _ _ _).o.length+3)≤_
  rw [stp_len]
  show a+nI k+(nO k+3)≤_
  omega
theorem getD_sml {l:List Int} (h:∀ x,x ∈ l→sml x) (i:Nat):sml (l.getD i 0):=by
  rw [List.getD_eq_getElem?_getD]
  cases hq:l[i]? with
  | none=>exact sml_0
  | some v=>exact h v (List.mem_of_getElem? hq)
theorem set_sml {l:List Int} {v:Int} (h:∀ x,x ∈ l→sml x) (hv:sml v) (i:Nat):∀ x,x ∈ l.set i v→sml x:=fun x hx=>by
  rcases List.mem_or_eq_of_mem_set hx with hx | rfl
  · exact h x hx
  · exact hv
theorem cons_sml {l:List Int} {v:Int} (h:∀ x,x ∈ l→sml x) (hv:sml v):∀ x,x ∈ v :: l→sml x:=fun x hx=>by
  rcases List.mem_cons.1 hx with rfl | hx
  · exact hv
  · exact h x hx
theorem drop_sml {l:List Int} (h:∀ x,x ∈ l→sml x) (n:Nat):∀ x,x ∈ l.drop n→sml x:=fun x hx=>h x (List.mem_of_mem_drop hx)
theorem blk_at {K:List Int} {x:Ins} (h:blk K x=true):kno x.name < 10∧x.name.toList=nml (kno x.name)∧0≤x.a∧x.a.toNat+nI (kno x.name)+nO (kno x.name)+3≤K.length∧(K.drop x.a.toNat).take (pk (kno x.name)).length=pk (kno x.name):=by
  unfold blk at h
  rw [List.any_eq_true] at h
  obtain ⟨k,hk,h⟩:=h
  rw [Bool.and_eq_true] at h
  have e:x.name.toList=nml k:=by simpa using h.1
  have hk':kno x.name=k:=by
    have h10:k < 10:=by simpa using hk
    unfold kno
    rw [e]
    match k,h10 with
    | 0,_=>decide
    | 1,_=>decide
    | 2,_=>decide
    | 3,_=>decide
    | 4,_=>decide
    | 5,_=>decide
    | 6,_=>decide
    | 7,_=>decide
    | 8,_=>decide
    | 9,_=>decide
  rw [hk']
  have h2:=h.2
  unfold blkAt at h2
  simp only [Bool.and_eq_true,decide_eq_true_iff] at h2
  refine ⟨by simpa using hk,e,h2.1.1,?_,h2.2⟩
  have l:(pk k).length=nI k+nO k+3:=by simp [pk,nI,nO];omega
  omega
/-- From instruction to instruction. -/
theorem ex1_ok {K:List Int} {L:List Ins} {now most:Int} (R:Rgt K L) {s t:St} {x:Ins} (o:Okv K L s) (hx:L[s.pc]?=some x) (he:ex1 K now most x s=.go t):Okv K L t:=by
  obtain ⟨x',hx',hr,h1,h2,h3⟩:=R.at_ o
  rw [hx] at hx'
  obtain rfl:x=x':=by simpa using hx'
  clear hx'
  have g:=rgt_ok hr
  have hlo:=g.lo
  have hhi:=g.hi
  obtain ⟨n,hn⟩:∃ n:Nat,x.op=n:=⟨x.op.toNat,by omega⟩
  have hop:x.op.toNat=n:=by omega
  have hn1:1≤n:=by omega
  have hn2:n≤24:=by omega
  unfold ex1 at he
  rw [hop] at he
  have ss:=o.ssm
  have cc:=o.csm
  match n,hn1,hn2 with
  | 1,_,_ =>
    have fl:x.falls:=by unfold Ins.falls;omega
    (simp only [Res.go_eq] at he;subst he;refine ⟨reach_to o.reach hx h1 h2 ?_ (Or.inr ⟨fl,rfl,h3 fl⟩),?_,?_,?_⟩)
    · simp [Ins.dl,Ins.t,Ins.p,tk,pt,more,hn] at h1 h2 ⊢;try omega
    · simp [o.len]
    · first | exact cc | exact set_sml cc (sml_wr _ _) _
    · first | exact ss | exact drop_sml ss _ | (refine cons_sml (by first | exact ss | exact drop_sml ss _) ?_;first | exact sml_wr _ _ | exact getD_sml ss _ | exact getD_sml cc _ | exact sml_ngv _ _ | exact sml_ntv _ _ | exact sml_apv _ _ _ _ | exact sml_shv _ _ _ _ | exact sml_absv _ _ | (have a:=getD_sml ss 1;have b:=getD_sml ss 0;unfold sml at *;omega) | (split;exact getD_sml ss _;exact getD_sml ss _))
  | 2,_,_ =>
    have fl:x.falls:=by unfold Ins.falls;omega
    (simp only [Res.go_eq] at he;subst he;refine ⟨reach_to o.reach hx h1 h2 ?_ (Or.inr ⟨fl,rfl,h3 fl⟩),?_,?_,?_⟩)
    · simp [Ins.dl,Ins.t,Ins.p,tk,pt,more,hn] at h1 h2 ⊢;try omega
    · simp [o.len]
    · first | exact cc | exact set_sml cc (sml_wr _ _) _
    · first | exact ss | exact drop_sml ss _ | (refine cons_sml (by first | exact ss | exact drop_sml ss _) ?_;first | exact sml_wr _ _ | exact getD_sml ss _ | exact getD_sml cc _ | exact sml_ngv _ _ | exact sml_ntv _ _ | exact sml_apv _ _ _ _ | exact sml_shv _ _ _ _ | exact sml_absv _ _ | (have a:=getD_sml ss 1;have b:=getD_sml ss 0;unfold sml at *;omega) | (split;exact getD_sml ss _;exact getD_sml ss _))
  | 3,_,_ =>
    have fl:x.falls:=by unfold Ins.falls;omega
    (simp only [Res.go_eq] at he;subst he;refine ⟨reach_to o.reach hx h1 h2 ?_ (Or.inr ⟨fl,rfl,h3 fl⟩),?_,?_,?_⟩)
    · simp [Ins.dl,Ins.t,Ins.p,tk,pt,more,hn] at h1 h2 ⊢;try omega
    · simp [o.len]
    · first | exact cc | exact set_sml cc (sml_wr _ _) _
    · first | exact ss | exact drop_sml ss _ | (refine cons_sml (by first | exact ss | exact drop_sml ss _) ?_;first | exact sml_wr _ _ | exact getD_sml ss _ | exact getD_sml cc _ | exact sml_ngv _ _ | exact sml_ntv _ _ | exact sml_apv _ _ _ _ | exact sml_shv _ _ _ _ | exact sml_absv _ _ | (have a:=getD_sml ss 1;have b:=getD_sml ss 0;unfold sml at *;omega) | (split;exact getD_sml ss _;exact getD_sml ss _))
  | 4,_,_ =>
    have fl:x.falls:=by unfold Ins.falls;omega
    replace he:(if outb x (s.sk.getD 0 0) then Res.stop s 2 else Res.go ⟨s.pc+1,s.cs,s.cs.getD (cl x (s.sk.getD 0 0)) 0 :: s.sk.drop 1,s.st⟩)=Res.go t:=he
    split at he
    · cases he
    · (simp only [Res.go_eq] at he;subst he;refine ⟨reach_to o.reach hx h1 h2 ?_ (Or.inr ⟨fl,rfl,h3 fl⟩),?_,?_,?_⟩)
      · simp [Ins.dl,Ins.t,Ins.p,tk,pt,more,hn] at h1 h2 ⊢;try omega
      · simp [o.len]
      · first | exact cc | exact set_sml cc (sml_wr _ _) _
      · first | exact ss | exact drop_sml ss _ | (refine cons_sml (by first | exact ss | exact drop_sml ss _) ?_;first | exact sml_wr _ _ | exact getD_sml ss _ | exact getD_sml cc _ | exact sml_ngv _ _ | exact sml_ntv _ _ | exact sml_apv _ _ _ _ | exact sml_shv _ _ _ _ | exact sml_absv _ _ | (have a:=getD_sml ss 1;have b:=getD_sml ss 0;unfold sml at *;omega) | (split;exact getD_sml ss _;exact getD_sml ss _))
  | 5,_,_ =>
    have fl:x.falls:=by unfold Ins.falls;omega
    replace he:(if outb x (s.sk.getD 0 0) then Res.stop s 2 else Res.go ⟨s.pc+1,s.cs,s.sk.getD 0 0 :: s.sk.drop 1,s.st⟩)=Res.go t:=he
    split at he
    · cases he
    · (simp only [Res.go_eq] at he;subst he;refine ⟨reach_to o.reach hx h1 h2 ?_ (Or.inr ⟨fl,rfl,h3 fl⟩),?_,?_,?_⟩)
      · simp [Ins.dl,Ins.t,Ins.p,tk,pt,more,hn] at h1 h2 ⊢;try omega
      · simp [o.len]
      · first | exact cc | exact set_sml cc (sml_wr _ _) _
      · first | exact ss | exact drop_sml ss _ | (refine cons_sml (by first | exact ss | exact drop_sml ss _) ?_;first | exact sml_wr _ _ | exact getD_sml ss _ | exact getD_sml cc _ | exact sml_ngv _ _ | exact sml_ntv _ _ | exact sml_apv _ _ _ _ | exact sml_shv _ _ _ _ | exact sml_absv _ _ | (have a:=getD_sml ss 1;have b:=getD_sml ss 0;unfold sml at *;omega) | (split;exact getD_sml ss _;exact getD_sml ss _))
  | 6,_,_ =>
    have fl:x.falls:=by unfold Ins.falls;omega
    replace he:(if outb x (s.sk.getD 1 0) then Res.stop s 2 else Res.go ⟨s.pc+1,s.cs.set (cl x (s.sk.getD 1 0)) (wr (K.getD (cl x (s.sk.getD 1 0)) 0) (s.sk.getD 0 0)),s.sk.drop 2,s.st⟩)=Res.go t:=he
    split at he
    · cases he
    · (simp only [Res.go_eq] at he;subst he;refine ⟨reach_to o.reach hx h1 h2 ?_ (Or.inr ⟨fl,rfl,h3 fl⟩),?_,?_,?_⟩)
      · simp [Ins.dl,Ins.t,Ins.p,tk,pt,more,hn] at h1 h2 ⊢;try omega
      · simp [o.len]
      · first | exact cc | exact set_sml cc (sml_wr _ _) _
      · first | exact ss | exact drop_sml ss _ | (refine cons_sml (by first | exact ss | exact drop_sml ss _) ?_;first | exact sml_wr _ _ | exact getD_sml ss _ | exact getD_sml cc _ | exact sml_ngv _ _ | exact sml_ntv _ _ | exact sml_apv _ _ _ _ | exact sml_shv _ _ _ _ | exact sml_absv _ _ | (have a:=getD_sml ss 1;have b:=getD_sml ss 0;unfold sml at *;omega) | (split;exact getD_sml ss _;exact getD_sml ss _))
  | 7,_,_ =>
    have fl:x.falls:=by unfold Ins.falls;omega
    (simp only [Res.go_eq] at he;subst he;refine ⟨reach_to o.reach hx h1 h2 ?_ (Or.inr ⟨fl,rfl,h3 fl⟩),?_,?_,?_⟩)
    · simp [Ins.dl,Ins.t,Ins.p,tk,pt,more,hn] at h1 h2 ⊢;try omega
    · simp [o.len]
    · first | exact cc | exact set_sml cc (sml_wr _ _) _
    · first | exact ss | exact drop_sml ss _ | (refine cons_sml (by first | exact ss | exact drop_sml ss _) ?_;first | exact sml_wr _ _ | exact getD_sml ss _ | exact getD_sml cc _ | exact sml_ngv _ _ | exact sml_ntv _ _ | exact sml_apv _ _ _ _ | exact sml_shv _ _ _ _ | exact sml_absv _ _ | (have a:=getD_sml ss 1;have b:=getD_sml ss 0;unfold sml at *;omega) | (split;exact getD_sml ss _;exact getD_sml ss _))
  | 8,_,_ =>
    have fl:x.falls:=by unfold Ins.falls;omega
    (simp only [Res.go_eq] at he;subst he;refine ⟨reach_to o.reach hx h1 h2 ?_ (Or.inr ⟨fl,rfl,h3 fl⟩),?_,?_,?_⟩)
    · simp [Ins.dl,Ins.t,Ins.p,tk,pt,more,hn] at h1 h2 ⊢;try omega
    · simp [o.len]
    · first | exact cc | exact set_sml cc (sml_wr _ _) _
    · first | exact ss | exact drop_sml ss _ | (refine cons_sml (by first | exact ss | exact drop_sml ss _) ?_;first | exact sml_wr _ _ | exact getD_sml ss _ | exact getD_sml cc _ | exact sml_ngv _ _ | exact sml_ntv _ _ | exact sml_apv _ _ _ _ | exact sml_shv _ _ _ _ | exact sml_absv _ _ | (have a:=getD_sml ss 1;have b:=getD_sml ss 0;unfold sml at *;omega) | (split;exact getD_sml ss _;exact getD_sml ss _))
  | 9,_,_ =>
    have fl:x.falls:=by unfold Ins.falls;omega
    replace he:(if apf x.b x.a (s.sk.getD 0 0)=0 then Res.go ⟨s.pc+1,s.cs,apv x.b x.a (s.sk.getD 1 0) (s.sk.getD 0 0) :: s.sk.drop 2,s.st⟩ else Res.stop s (apf x.b x.a (s.sk.getD 0 0)))=Res.go t:=he
    split at he
    · (simp only [Res.go_eq] at he;subst he;refine ⟨reach_to o.reach hx h1 h2 ?_ (Or.inr ⟨fl,rfl,h3 fl⟩),?_,?_,?_⟩)
      · simp [Ins.dl,Ins.t,Ins.p,tk,pt,more,hn] at h1 h2 ⊢;try omega
      · simp [o.len]
      · first | exact cc | exact set_sml cc (sml_wr _ _) _
      · first | exact ss | exact drop_sml ss _ | (refine cons_sml (by first | exact ss | exact drop_sml ss _) ?_;first | exact sml_wr _ _ | exact getD_sml ss _ | exact getD_sml cc _ | exact sml_ngv _ _ | exact sml_ntv _ _ | exact sml_apv _ _ _ _ | exact sml_shv _ _ _ _ | exact sml_absv _ _ | (have a:=getD_sml ss 1;have b:=getD_sml ss 0;unfold sml at *;omega) | (split;exact getD_sml ss _;exact getD_sml ss _))
    · cases he
  | 10,_,_ =>
    have fl:x.falls:=by unfold Ins.falls;omega
    (simp only [Res.go_eq] at he;subst he;refine ⟨reach_to o.reach hx h1 h2 ?_ (Or.inr ⟨fl,rfl,h3 fl⟩),?_,?_,?_⟩)
    · simp [Ins.dl,Ins.t,Ins.p,tk,pt,more,hn] at h1 h2 ⊢;try omega
    · simp [o.len]
    · first | exact cc | exact set_sml cc (sml_wr _ _) _
    · first | exact ss | exact drop_sml ss _ | (refine cons_sml (by first | exact ss | exact drop_sml ss _) ?_;first | exact sml_wr _ _ | exact getD_sml ss _ | exact getD_sml cc _ | exact sml_ngv _ _ | exact sml_ntv _ _ | exact sml_apv _ _ _ _ | exact sml_shv _ _ _ _ | exact sml_absv _ _ | (have a:=getD_sml ss 1;have b:=getD_sml ss 0;unfold sml at *;omega) | (split;exact getD_sml ss _;exact getD_sml ss _))
  | 11,_,_ =>
    have fl:x.falls:=by unfold Ins.falls;omega
    (simp only [Res.go_eq] at he;subst he;refine ⟨reach_to o.reach hx h1 h2 ?_ (Or.inr ⟨fl,rfl,h3 fl⟩),?_,?_,?_⟩)
    · simp [Ins.dl,Ins.t,Ins.p,tk,pt,more,hn] at h1 h2 ⊢;try omega
    · simp [o.len]
    · first | exact cc | exact set_sml cc (sml_wr _ _) _
    · first | exact ss | exact drop_sml ss _ | (refine cons_sml (by first | exact ss | exact drop_sml ss _) ?_;first | exact sml_wr _ _ | exact getD_sml ss _ | exact getD_sml cc _ | exact sml_ngv _ _ | exact sml_ntv _ _ | exact sml_apv _ _ _ _ | exact sml_shv _ _ _ _ | exact sml_absv _ _ | (have a:=getD_sml ss 1;have b:=getD_sml ss 0;unfold sml at *;omega) | (split;exact getD_sml ss _;exact getD_sml ss _))
  | 12,_,_ =>
    have fl:x.falls:=by unfold Ins.falls;omega
    (simp only [Res.go_eq] at he;subst he;refine ⟨reach_to o.reach hx h1 h2 ?_ (Or.inr ⟨fl,rfl,h3 fl⟩),?_,?_,?_⟩)
    · simp [Ins.dl,Ins.t,Ins.p,tk,pt,more,hn] at h1 h2 ⊢;try omega
    · simp [o.len]
    · first | exact cc | exact set_sml cc (sml_wr _ _) _
    · first | exact ss | exact drop_sml ss _ | (refine cons_sml (by first | exact ss | exact drop_sml ss _) ?_;first | exact sml_wr _ _ | exact getD_sml ss _ | exact getD_sml cc _ | exact sml_ngv _ _ | exact sml_ntv _ _ | exact sml_apv _ _ _ _ | exact sml_shv _ _ _ _ | exact sml_absv _ _ | (have a:=getD_sml ss 1;have b:=getD_sml ss 0;unfold sml at *;omega) | (split;exact getD_sml ss _;exact getD_sml ss _))
  | 13,_,_ =>
    have fl:x.falls:=by unfold Ins.falls;omega
    (simp only [Res.go_eq] at he;subst he;refine ⟨reach_to o.reach hx h1 h2 ?_ (Or.inr ⟨fl,rfl,h3 fl⟩),?_,?_,?_⟩)
    · simp [Ins.dl,Ins.t,Ins.p,tk,pt,more,hn] at h1 h2 ⊢;try omega
    · simp [o.len]
    · first | exact cc | exact set_sml cc (sml_wr _ _) _
    · first | exact ss | exact drop_sml ss _ | (refine cons_sml (by first | exact ss | exact drop_sml ss _) ?_;first | exact sml_wr _ _ | exact getD_sml ss _ | exact getD_sml cc _ | exact sml_ngv _ _ | exact sml_ntv _ _ | exact sml_apv _ _ _ _ | exact sml_shv _ _ _ _ | exact sml_absv _ _ | (have a:=getD_sml ss 1;have b:=getD_sml ss 0;unfold sml at *;omega) | (split;exact getD_sml ss _;exact getD_sml ss _))
  | 14,_,_ =>
    have fl:x.falls:=by unfold Ins.falls;omega
    (simp only [Res.go_eq] at he;subst he;refine ⟨reach_to o.reach hx h1 h2 ?_ (Or.inr ⟨fl,rfl,h3 fl⟩),?_,?_,?_⟩)
    · simp [Ins.dl,Ins.t,Ins.p,tk,pt,more,hn] at h1 h2 ⊢;try omega
    · simp [o.len]
    · first | exact cc | exact set_sml cc (sml_wr _ _) _
    · first | exact ss | exact drop_sml ss _ | (refine cons_sml (by first | exact ss | exact drop_sml ss _) ?_;first | exact sml_wr _ _ | exact getD_sml ss _ | exact getD_sml cc _ | exact sml_ngv _ _ | exact sml_ntv _ _ | exact sml_apv _ _ _ _ | exact sml_shv _ _ _ _ | exact sml_absv _ _ | (have a:=getD_sml ss 1;have b:=getD_sml ss 0;unfold sml at *;omega) | (split;exact getD_sml ss _;exact getD_sml ss _))
  | 15,_,_ =>
    have fl:x.falls:=by unfold Ins.falls;omega
    (simp only [Res.go_eq] at he;subst he;refine ⟨reach_to o.reach hx h1 h2 ?_ (Or.inr ⟨fl,rfl,h3 fl⟩),?_,?_,?_⟩)
    · simp [Ins.dl,Ins.t,Ins.p,tk,pt,more,hn] at h1 h2 ⊢;try omega
    · simp [o.len]
    · first | exact cc | exact set_sml cc (sml_wr _ _) _
    · first | exact ss | exact drop_sml ss _ | (refine cons_sml (by first | exact ss | exact drop_sml ss _) ?_;first | exact sml_wr _ _ | exact getD_sml ss _ | exact getD_sml cc _ | exact sml_ngv _ _ | exact sml_ntv _ _ | exact sml_apv _ _ _ _ | exact sml_shv _ _ _ _ | exact sml_absv _ _ | (have a:=getD_sml ss 1;have b:=getD_sml ss 0;unfold sml at *;omega) | (split;exact getD_sml ss _;exact getD_sml ss _))
  | 16,_,_ =>
    have fl:x.falls:=by unfold Ins.falls;omega
    (simp only [Res.go_eq] at he;subst he;refine ⟨reach_to o.reach hx h1 h2 ?_ (Or.inr ⟨fl,rfl,h3 fl⟩),?_,?_,?_⟩)
    · simp [Ins.dl,Ins.t,Ins.p,tk,pt,more,hn] at h1 h2 ⊢;try omega
    · simp [o.len]
    · first | exact cc | exact set_sml cc (sml_wr _ _) _
    · first | exact ss | exact drop_sml ss _ | (refine cons_sml (by first | exact ss | exact drop_sml ss _) ?_;first | exact sml_wr _ _ | exact getD_sml ss _ | exact getD_sml cc _ | exact sml_ngv _ _ | exact sml_ntv _ _ | exact sml_apv _ _ _ _ | exact sml_shv _ _ _ _ | exact sml_absv _ _ | (have a:=getD_sml ss 1;have b:=getD_sml ss 0;unfold sml at *;omega) | (split;exact getD_sml ss _;exact getD_sml ss _))
  | 17,_,_ =>
    have fl:x.falls:=by unfold Ins.falls;omega
    (simp only [Res.go_eq] at he;subst he;refine ⟨reach_to o.reach hx h1 h2 ?_ (Or.inr ⟨fl,rfl,h3 fl⟩),?_,?_,?_⟩)
    · simp [Ins.dl,Ins.t,Ins.p,tk,pt,more,hn] at h1 h2 ⊢;try omega
    · simp [o.len]
    · first | exact cc | exact set_sml cc (sml_wr _ _) _
    · first | exact ss | exact drop_sml ss _ | (refine cons_sml (by first | exact ss | exact drop_sml ss _) ?_;first | exact sml_wr _ _ | exact getD_sml ss _ | exact getD_sml cc _ | exact sml_ngv _ _ | exact sml_ntv _ _ | exact sml_apv _ _ _ _ | exact sml_shv _ _ _ _ | exact sml_absv _ _ | (have a:=getD_sml ss 1;have b:=getD_sml ss 0;unfold sml at *;omega) | (split;exact getD_sml ss _;exact getD_sml ss _))
  | 18,_,_ =>
    have fj:x.jmp:=by unfold Ins.jmp;omega
    (simp only [Res.go_eq] at he;subst he;refine ⟨reach_to o.reach hx h1 h2 ?_ (Or.inl ⟨fj,rfl⟩),o.len,cc,ss⟩)
    simp [Ins.dl,Ins.t,Ins.p,tk,pt,more,hn] at h1 h2 ⊢
  | 19,_,_ =>
    have fj:x.jmp:=by unfold Ins.jmp;omega
    have fl:x.falls:=by unfold Ins.falls;omega
    simp only [Res.go_eq] at he
    subst he
    refine ⟨reach_to o.reach hx h1 h2 ?_ ?_,o.len,cc,drop_sml ss _⟩
    · simp [Ins.dl,Ins.t,Ins.p,tk,pt,more,hn] at h1 h2 ⊢
    · dsimp only
      split
      · first | exact Or.inl ⟨fj,rfl⟩ | exact Or.inr ⟨fl,rfl,h3 fl⟩
      · first | exact Or.inl ⟨fj,rfl⟩ | exact Or.inr ⟨fl,rfl,h3 fl⟩
  | 20,_,_ =>
    have fj:x.jmp:=by unfold Ins.jmp;omega
    have fl:x.falls:=by unfold Ins.falls;omega
    simp only [Res.go_eq] at he
    subst he
    refine ⟨reach_to o.reach hx h1 h2 ?_ ?_,o.len,cc,drop_sml ss _⟩
    · simp [Ins.dl,Ins.t,Ins.p,tk,pt,more,hn] at h1 h2 ⊢
    · dsimp only
      split
      · first | exact Or.inl ⟨fj,rfl⟩ | exact Or.inr ⟨fl,rfl,h3 fl⟩
      · first | exact Or.inl ⟨fj,rfl⟩ | exact Or.inr ⟨fl,rfl,h3 fl⟩
  | 21,_,_ =>
    have fl:x.falls:=by unfold Ins.falls;omega
    replace he:(if most≤(s.st:Int) then Res.stop s 3 else Res.go ⟨s.pc+1,s.cs,s.sk,s.st+1⟩)=Res.go t:=he
    split at he
    · cases he
    · (simp only [Res.go_eq] at he;subst he;refine ⟨reach_to o.reach hx h1 h2 ?_ (Or.inr ⟨fl,rfl,h3 fl⟩),?_,?_,?_⟩)
      · simp [Ins.dl,Ins.t,Ins.p,tk,pt,more,hn] at h1 h2 ⊢;try omega
      · simp [o.len]
      · first | exact cc | exact set_sml cc (sml_wr _ _) _
      · first | exact ss | exact drop_sml ss _ | (refine cons_sml (by first | exact ss | exact drop_sml ss _) ?_;first | exact sml_wr _ _ | exact getD_sml ss _ | exact getD_sml cc _ | exact sml_ngv _ _ | exact sml_ntv _ _ | exact sml_apv _ _ _ _ | exact sml_shv _ _ _ _ | exact sml_absv _ _ | (have a:=getD_sml ss 1;have b:=getD_sml ss 0;unfold sml at *;omega) | (split;exact getD_sml ss _;exact getD_sml ss _))
  | 22,_,_ =>
    have fl:x.falls:=by unfold Ins.falls;omega
    (simp only [Res.go_eq] at he;subst he;refine ⟨reach_to o.reach hx h1 h2 ?_ (Or.inr ⟨fl,rfl,h3 fl⟩),?_,cal_mem cc,ss⟩)
    · simp [Ins.dl,Ins.t,Ins.p,tk,pt,more,hn] at h1 h2 ⊢
    · have hb:blk K x=true:=by
        unfold rgt at hr
        simpa [hn] using hr
      rw [cal_len (by rw [o.len];exact (blk_at hb).2.2.2.1),o.len]
  | 23,_,_=>cases he
  | 24,_,_ =>
    have fl:x.falls:=by unfold Ins.falls;omega
    (simp only [Res.go_eq] at he;subst he;refine ⟨reach_to o.reach hx h1 h2 ?_ (Or.inr ⟨fl,rfl,h3 fl⟩),?_,?_,?_⟩)
    · simp [Ins.dl,Ins.t,Ins.p,tk,pt,more,hn] at h1 h2 ⊢;try omega
    · simp [o.len]
    · first | exact cc | exact set_sml cc (sml_wr _ _) _
    · first | exact ss | exact drop_sml ss _ | (refine cons_sml (by first | exact ss | exact drop_sml ss _) ?_;first | exact sml_wr _ _ | exact getD_sml ss _ | exact getD_sml cc _ | exact sml_ngv _ _ | exact sml_ntv _ _ | exact sml_apv _ _ _ _ | exact sml_shv _ _ _ _ | exact sml_absv _ _ | (have a:=getD_sml ss 1;have b:=getD_sml ss 0;unfold sml at *;omega) | (split;exact getD_sml ss _;exact getD_sml ss _))
end Vmx
end Go.Proofs.YthjclogkcmomkaaGreatDoor
