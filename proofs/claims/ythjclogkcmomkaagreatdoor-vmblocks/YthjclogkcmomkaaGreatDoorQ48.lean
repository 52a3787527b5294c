/- VmBlocks in plain mathematics (stage 21). · What the law of blocks holds (stage 21). -/
import Derived.Test.YthjclogkcmomkaaGreatDoorQ31
import Derived.Test.YthjclogkcmomkaaGreatDoorQ39
import Derived.Test.YthjclogkcmomkaaGreatDoorQ40
import Derived.Test.YthjclogkcmomkaaGreatDoorQ47
namespace Go.Proofs.YthjclogkcmomkaaGreatDoor
open Go.RowKit
open Fb Cod Nm Vmx
namespace Vmx
def kB (b a:Nat):List Int:=List.replicate b 2 ++ ([1,11,1,11,4,4,4] ++ List.replicate a 6)
def lT (b:Nat):List Ins:=[⟨22,b,0,0,nm 2⟩,⟨23,0,0,0,nos⟩]
def preB (b:Nat):List Int:=(List.range b).map fun (i:Nat)=>(i:Int)+1
def posB (a:Nat):List Int:=(List.range a).map fun (i:Nat)=>(i:Int)+100
def cB (b a:Nat) (m:List Int):List Int:=preB b ++ (m ++ posB a)
theorem preB_len (b:Nat):(preB b).length=b:=by simp [preB]
theorem posB_len (a:Nat):(posB a).length=a:=by simp [posB]
theorem kB_len (b a:Nat):(kB b a).length=b+7+a:=by simp [kB];omega
theorem cB_len (b a:Nat) {m:List Int} (h:m.length=7):(cB b a m).length=b+7+a:=by simp [cB,preB_len,posB_len,h];omega
theorem cB_drop (b a:Nat) (m:List Int):(cB b a m).drop b=m ++ posB a:=by
  unfold cB
  rw [List.drop_append_of_le_length (by rw [preB_len];exact Nat.le_refl _),List.drop_of_length_le (by rw [preB_len];exact Nat.le_refl _),List.nil_append]
theorem cB_at (b a:Nat) (m:List Int) {j:Nat} (h:j < m.length):(cB b a m).getD (b+j) 0=m.getD j 0:=by
  unfold cB
  rw [List.getD_eq_getElem?_getD,List.getElem?_append_right (by rw [preB_len];omega),preB_len,show b+j - b=j by omega,List.getElem?_append_left h,← List.getD_eq_getElem?_getD]
theorem cB_set (b a:Nat) (m:List Int) {j:Nat} (h:j < m.length) (x:Int):(cB b a m).set (b+j) x=cB b a (m.set j x):=by
  unfold cB
  rw [List.set_append_right _ _ (by rw [preB_len];omega),preB_len,show b+j - b=j by omega,List.set_append_left _ _ h]
theorem cB_lay (b a:Nat) (m l:List Int) {j:Nat} (h:j+l.length≤m.length):lay (cB b a m) (b+j) l=cB b a (lay m j l):=by
  unfold lay cB
  have e:=preB_len b
  rw [List.take_append,e,List.take_of_length_le (by omega),show b+j - b=j by omega,List.take_append_of_le_length (by omega),List.drop_append,e,List.drop_of_length_le (by omega),List.nil_append,show b+j+l.length - b=j+l.length by omega,List.drop_append_of_le_length h]
  simp only [List.append_assoc]
theorem whole_kB {b a:Nat} (hb:b < 9) (ha:a < 9):whole (kB b a) 2=true:=by
  unfold whole
  rw [kB_len,decide_eq_true (show b+7+a≤4096 by omega)]
  unfold kB
  simp [show scal 2=true from rfl,show scal 6=true from rfl,show scal 1=true from rfl,show scal 11=true from rfl,show scal 4=true from rfl]
theorem blkAt_kB {b a:Nat}:blkAt (kB b a) ⟨22,b,0,0,nm 2⟩ 2=true:=by
  have e:((kB b a).drop b).take 7=[1,11,1,11,4,4,4]:=by
    unfold kB
    rw [List.drop_append_of_le_length (by simp),List.drop_of_length_le (by simp),List.nil_append,List.take_append_of_le_length (by simp)]
    rfl
  show (decide ((0:Int)≤(b:Int)) && decide ((b:Int)≤((kB b a).length:Int) - 7) && decide (((kB b a).drop b).take 7=[1,11,1,11,4,4,4]))=true
  rw [e,kB_len,decide_eq_true (show (0:Int)≤(b:Int) by omega),decide_eq_true (show (b:Int)≤((b+7+a:Nat):Int) - 7 by omega)]
  rfl
theorem lT_ver {b a:Nat} (hb:b < 9) (ha:a < 9):Ver (kB b a) (lT b) none:=by
  refine Or.inr ⟨?_,2,okS_fin (S:=[(0,0),(1,0)]) (by kernel_rfl),rfl⟩
  unfold alone
  rw [if_pos (show whole (kB b a) (lT b).length=true from whole_kB hb ha),List.findIdx?_eq_none_iff]
  intro x hx
  simp only [lT,List.mem_cons,List.not_mem_nil,or_false] at hx
  have R0:rgt (kB b a) (lT b).length ⟨22,b,0,0,nm 2⟩=true:=by
    show blk (kB b a) ⟨22,b,0,0,nm 2⟩=true
    unfold blk
    rw [List.any_eq_true]
    refine ⟨2,by decide,?_⟩
    rw [blkAt_kB,Bool.and_true]
    kernel_rfl
  have R1:rgt (kB b a) (lT b).length ⟨23,0,0,0,nos⟩=true:=rfl
  rcases hx with rfl | rfl
  · rw [R0];rfl
  · rw [R1];rfl
theorem wrs_zip {K cs:List Int} (h:K.length=cs.length):wrs K cs=List.zipWith wr K cs:=by
  refine List.ext_getElem (by simp [wrs,h]) (fun j h1 h2=>?_)
  simp only [wrs,List.getElem_map,List.getElem_range,List.getElem_zipWith]
  have hj:j < K.length:=by simpa [wrs] using h1
  rw [List.getD_eq_getElem?_getD,List.getD_eq_getElem?_getD,List.getElem?_eq_getElem hj,List.getElem?_eq_getElem (by omega)]
  rfl
theorem zip_pre {b:Nat} (hb:b < 9):List.zipWith wr (List.replicate b 2) (preB b)=preB b:=by
  refine List.ext_getElem (by simp [preB]) (fun j h1 h2=>?_)
  rw [preB_len] at h2
  simp only [List.getElem_zipWith,List.getElem_replicate,preB,List.getElem_map,List.getElem_range]
  show sw 256 ((j:Int)+1)=_
  unfold sw
  omega
theorem zip_pos {a:Nat} (ha:a < 9):List.zipWith wr (List.replicate a 6) (posB a)=posB a:=by
  refine List.ext_getElem (by simp [posB]) (fun j h1 h2=>?_)
  rw [posB_len] at h2
  simp only [List.getElem_zipWith,List.getElem_replicate,posB,List.getElem_map,List.getElem_range]
  show uw 65536 ((j:Int)+100)=_
  unfold uw
  omega
/-- Seven cells of a TP that are of their kinds. -/
structure Tp7 (m:List Int) (o:List Int) (k0 k1 k2:Int):Prop where
  ex:∃ x y q e,m=[x,y,q,e,k0,k1,k2]∧wr 1 x=x∧wr 11 y=y∧wr 1 q=q∧wr 11 e=e∧(o=[]∧e=0 ∨ o=[q,e])
  h0:wr 4 k0=k0
  h1:wr 4 k1=k1
  h2:wr 4 k2=k2
theorem Tp7.len {m o:List Int} {k0 k1 k2:Int} (h:Tp7 m o k0 k1 k2):m.length=7:=by
  obtain ⟨x,y,q,e,rfl,_⟩:=h.ex
  rfl
theorem Tp7.start:Tp7 [0,0,0,0,0,0,0] [] 0 0 0:=⟨⟨0,0,0,0,rfl,by decide,by decide,by decide,by decide,Or.inl ⟨rfl,rfl⟩⟩,by decide,by decide,by decide⟩
theorem Tp7.ins {m o:List Int} {k0 k1 k2:Int} (h:Tp7 m o k0 k1 k2) (i p:Int):Tp7 ((m.set 0 (wr 1 i)).set 1 (wr 11 p)) o k0 k1 k2:=by
  obtain ⟨x,y,q,e,rfl,_,_,h3,h4,h5⟩:=h.ex
  exact ⟨⟨wr 1 i,wr 11 p,q,e,rfl,wr_wr _ _,wr_wr _ _,h3,h4,h5⟩,h.h0,h.h1,h.h2⟩
theorem wrs_cB {b a:Nat} {m o:List Int} {k0 k1 k2:Int} (hb:b < 9) (ha:a < 9) (h:Tp7 m o k0 k1 k2):wrs (kB b a) (cB b a m)=cB b a m:=by
  rw [wrs_zip (by rw [kB_len,cB_len b a h.len])]
  unfold kB cB
  rw [List.zipWith_append (by rw [List.length_replicate,preB_len]),zip_pre hb,List.zipWith_append (by rw [h.len];rfl),zip_pos ha]
  obtain ⟨x,y,q,e,rfl,h1,h2,h3,h4,_⟩:=h.ex
  simp only [List.zipWith_cons_cons,List.zipWith_nil_left,h1,h2,h3,h4,h.h0,h.h1,h.h2]
/-- What the law's reference tells of them. -/
def tpR (m o:List Int) (k0 k1 k2 now:Int):Rs:=stp 2 (m.take 2) o k0 k1 k2 now
theorem w4_b01 (c:Bool):wr 4 (b01 c)=b01 c:=by cases c <;> decide
theorem w1_b01 (c:Bool):wr 1 (b01 c)=b01 c:=by cases c <;> decide
theorem w4_is {x:Int} (h:-2147483648≤x∧x≤2147483647):wr 4 x=x:=by
  show sw 4294967296 x=x
  unfold sw;omega
theorem w11_is {x:Int} (h:-2147483648≤x∧x≤2147483647):wr 11 x=x:=by
  show sw 4294967296 x=x
  unfold sw;omega
theorem w_if {c:Prop} [Decidable c] {k x y:Int} (hx:wr k x=x) (hy:wr k y=y):wr k (if c then x else y)=if c then x else y:=by
  split
  · exact hx
  · exact hy
/-- A TP, once its clock has begun or not. -/
def tpB (a:Bool) (pt et nw k1 k2:Int):Rs :=
  if (if k2=1∧¬ el pt nw k1 < pt then 2 else k2) ≠ 1∧a=false then ⟨[b01 (decide (k2=1) && decide (el pt nw k1 < pt)),0],b01 a,k1,0⟩ else ⟨[b01 (decide (k2=1) && decide (el pt nw k1 < pt)),if k2=1 then el pt nw k1 else et],b01 a,k1,if k2=1∧¬ el pt nw k1 < pt then 2 else k2⟩
theorem tpB_form (a:Bool) {pt et nw k1 k2:Int} (hp:0≤pt∧pt≤2147483647) (he:-2147483648≤et∧et≤2147483647) (h1:wr 4 k1=k1) (h2:wr 4 k2=k2) :
    ∃ q e,(tpB a pt et nw k1 k2).o=[b01 q,e]∧wr 11 e=e∧wr 4 (tpB a pt et nw k1 k2).k0=(tpB a pt et nw k1 k2).k0∧wr 4 (tpB a pt et nw k1 k2).k1=(tpB a pt et nw k1 k2).k1∧wr 4 (tpB a pt et nw k1 k2).k2=(tpB a pt et nw k1 k2).k2:=by
  have hel:-2147483648≤el pt nw k1∧el pt nw k1≤2147483647:=el_ok hp
  unfold tpB
  by_cases hc:(if k2=1∧¬ el pt nw k1 < pt then 2 else k2) ≠ 1∧a=false
  · rw [if_pos hc]
    exact ⟨_,0,rfl,by decide,w4_b01 a,h1,(by decide:wr 4 (0:Int)=0)⟩
  · rw [if_neg hc]
    exact ⟨_,_,rfl,w_if (w11_is hel) (w11_is he),w4_b01 a,h1,w_if (by decide) h2⟩
theorem tp_form (a:Bool) {pt et k0 k1 k2 nw:Int} (hp:0≤pt∧pt≤2147483647) (he:-2147483648≤et∧et≤2147483647) (h1:-2147483648≤k1∧k1≤2147483647) (h2:-2147483648≤k2∧k2≤2147483647) (hn:-2147483648≤nw∧nw≤2147483647) :
    ∃ q e,(tp a pt et k0 k1 k2 nw).o=[b01 q,e]∧wr 11 e=e∧wr 4 (tp a pt et k0 k1 k2 nw).k0=(tp a pt et k0 k1 k2 nw).k0∧wr 4 (tp a pt et k0 k1 k2 nw).k1=(tp a pt et k0 k1 k2 nw).k1∧wr 4 (tp a pt et k0 k1 k2 nw).k2=(tp a pt et k0 k1 k2 nw).k2:=by
  have e:tp a pt et k0 k1 k2 nw=tpB a pt et nw (if (a && !tr k0 && !decide (k2=1))=true then nw else k1) (if (a && !tr k0 && !decide (k2=1))=true then 1 else k2):=rfl
  rw [e]
  exact tpB_form a hp he (w_if (w4_is hn) (w4_is h1)) (w_if (by decide) (w4_is h2))
theorem tpR_ok {m o:List Int} {k0 k1 k2:Int} (h:Tp7 m o k0 k1 k2) (now:Int):(tpR m o k0 k1 k2 now).o.length=2∧Tp7 (lay m 2 ((tpR m o k0 k1 k2 now).o ++ [(tpR m o k0 k1 k2 now).k0,(tpR m o k0 k1 k2 now).k1,(tpR m o k0 k1 k2 now).k2])) (tpR m o k0 k1 k2 now).o (tpR m o k0 k1 k2 now).k0 (tpR m o k0 k1 k2 now).k1 (tpR m o k0 k1 k2 now).k2:=by
  obtain ⟨x,y,q,e,rfl,h1,h2,h3,h4,h5⟩:=h.ex
  obtain ⟨q',e',ho,he,w0,w1,w2⟩:=tp_form (tr x) (pt:=max (w32 y) 0) (et:=w32 (o.getD 1 0)) (k0:=w32 k0) (k1:=w32 k1) (k2:=w32 k2) (nw:=w32 now) (pt_ok y) (w32_ok _) (w32_ok _) (w32_ok _) (w32_ok _)
  have e0:tpR [x,y,q,e,k0,k1,k2] o k0 k1 k2 now=tp (tr x) (max (w32 y) 0) (w32 (o.getD 1 0)) (w32 k0) (w32 k1) (w32 k2) (w32 now):=rfl
  rw [e0]
  generalize tp (tr x) (max (w32 y) 0) (w32 (o.getD 1 0)) (w32 k0) (w32 k1) (w32 k2) (w32 now)=r at *
  rw [ho]
  exact ⟨rfl,⟨x,y,b01 q',e',rfl,h1,h2,w1_b01 _,he,Or.inr rfl⟩,w0,w1,w2⟩
/-- What the machine tells of them. -/
theorem cal_cB {b a:Nat} {m o:List Int} {k0 k1 k2:Int} (h:Tp7 m o k0 k1 k2) (now:Int):cal 2 (cB b a m) b now=cB b a (lay m 2 ((tpR m o k0 k1 k2 now).o ++ [(tpR m o k0 k1 k2 now).k0,(tpR m o k0 k1 k2 now).k1,(tpR m o k0 k1 k2 now).k2])):=by
  have hl:=(tpR_ok h now).1
  have e0:rsAt 2 (cB b a m) b now=tpR m o k0 k1 k2 now:=by
    unfold rsAt
    show stp 2 (((cB b a m).drop b).take 2) (((cB b a m).drop (b+2)).take 2) ((cB b a m).getD (b+4) 0) ((cB b a m).getD (b+5) 0) ((cB b a m).getD (b+6) 0) now=_
    have hm:=h.len
    rw [cB_at b a m (by omega),cB_at b a m (by omega),cB_at b a m (by omega),← List.drop_drop,cB_drop]
    obtain ⟨x,y,q,e,rfl,h1,h2,h3,h4,h5⟩:=h.ex
    rcases h5 with ⟨rfl,rfl⟩ | rfl <;> rfl
  unfold cal
  rw [e0]
  show lay (cB b a m) (b+2) _=_
  rw [cB_lay b a m _ (by rw [List.length_append,hl,h.len];show 2+(2+3)≤7;decide)]
theorem scanB {b a:Nat} {m o:List Int} {k0 k1 k2:Int} (hb:b < 9) (ha:a < 9) (h:Tp7 m o k0 k1 k2) (now:Int):exn (kB b a) (lT b) now 10 4194304 ⟨0,wrs (kB b a) (cB b a m),[],0⟩=(⟨1,cB b a (lay m 2 ((tpR m o k0 k1 k2 now).o ++ [(tpR m o k0 k1 k2 now).k0,(tpR m o k0 k1 k2 now).k1,(tpR m o k0 k1 k2 now).k2])),[],0⟩,0):=by
  rw [wrs_cB hb ha h]
  have hn:kno (nm 2)=2:=by kernel_rfl
  have he:ex1 (kB b a) now 10 ⟨22,b,0,0,nm 2⟩ ⟨0,cB b a m,[],0⟩=.go ⟨1,cB b a (lay m 2 ((tpR m o k0 k1 k2 now).o ++ [(tpR m o k0 k1 k2 now).k0,(tpR m o k0 k1 k2 now).k1,(tpR m o k0 k1 k2 now).k2])),[],0⟩:=by
    show Res.go ⟨1,cal (kno (nm 2)) (cB b a m) b now,[],0⟩=_
    rw [hn,cal_cB h now]
  have g:=exn_on (K:=kB b a) (L:=lT b) (now:=now) (most:=10) (n:=4194303) (s:=⟨0,cB b a m,[],0⟩) (x:=⟨22,b,0,0,nm 2⟩) rfl he
  rw [show (4194304:Nat)=4194303+1 from rfl,g]
  exact exn_off (n:=4194302) (x:=⟨23,0,0,0,nos⟩) rfl rfl
end Vmx
end Go.Proofs.YthjclogkcmomkaaGreatDoor
namespace Go.Proofs.YthjclogkcmomkaaGreatDoor
open Go.RowKit
open Fb Cod Nm Vmx
theorem tmod_9 (k:Int):(k.tmod 9 < 0∧-9 < k.tmod 9∧k.tmod 9+9=k % 9) ∨ (¬ k.tmod 9 < 0∧k.tmod 9=k % 9):=by
  by_cases h:0≤k
  · rw [Int.tmod_eq_emod_of_nonneg h];omega
  · have e:k.tmod 9=-((-k) % 9):=by
      have:=Int.neg_tmod (-k) 9
      rw [Int.neg_neg] at this
      rw [this,Int.tmod_eq_emod_of_nonneg (by omega)]
    rw [e];omega
set_option maxHeartbeats 400000 in
theorem place_9 (k:Int) (w:World):Calls Tryz.prog 18 #[.int .i64 k,.int .i64 9] w fun e w'=>∃ q:Nat,q < 9∧e=.returned (.int .i64 (q:Int))∧w'=w:=by
  obtain ⟨q,hq⟩:∃ q:Nat,(q:Int)=k % 9:=⟨(k % 9).toNat,by omega⟩
  have hl:q < 9:=by omega
  rcases tmod_9 k with ⟨h,h2,h3⟩ | ⟨h,h3⟩
  · have HQ:=hid_as (h3.trans hq.symm)
    clear hq h3
    go_enter Tryz.func18,Tryz.ntmps18
    go_wp2
    go_ret
    exact ⟨q,hl,ret_int HQ.out,rfl⟩
  · have HQ:=hid_as (h3.trans hq.symm)
    clear hq h3
    go_enter Tryz.func18,Tryz.ntmps18
    go_wp2
    go_ret
    exact ⟨q,hl,ret_int HQ.out,rfl⟩

/-- Kinds and cells that are being written, side by side. -/
structure Bp (w1 W:World) (cb:Nat) (kv k' v:Value) (K l:List Int):Prop where
  row:W.heap[cb]?=some (.cells [kv,.slice none 0 0].toArray 25 (0,0))
  ok:W.ownsRow w1.heap.size 3 1 k' K.length (i64s K)
  oc:W.ownsRow w1.heap.size 2 1 v l.length (i64s l)
  nk:k'.ownBlock ≠ some cb
  nc:v.ownBlock ≠ some cb
  dj:∀ g,k'.ownBlock=some g→v.ownBlock ≠ some g
  cB:w1.heap.size≤cb
  kb:Below w1.heap.size w1 W
theorem Bp.start (w1:World):Bp w1 (w1.alloc (.cells #[.slice none 0 0,.slice none 0 0] 25)) w1.heap.size (.slice none 0 0) (.slice none 0 0) (.slice none 0 0) [] [] :=
  ⟨heap_alloc_new w1 _,World.ownsRow_nil ..,World.ownsRow_nil ..,by simp [Value.ownBlock],by simp [Value.ownBlock],fun g h=>by simp [Value.ownBlock] at h,Nat.le_refl _,below_new1 _ _⟩
theorem Bp.lt {w1 W:World} {cb:Nat} {kv k' v:Value} {K l:List Int} (h:Bp w1 W cb kv k' v K l):cb < W.heap.size:=row_lt h.row
theorem Bp.pushK {w1 W w3:World} {cb:Nat} {kv k0 k' v:Value} {K N l:List Int} {o:Obj} (h:Bp w1 W cb kv k0 v K l) (h3:w3.ownsRow w1.heap.size 3 1 k' (K.length+N.length) (i64s K ++ i64s N)) (hg:(W.alloc o).grownBy w3 k0.ownBlock) (hat:k'.ownBlock=k0.ownBlock ∨ k'.ownBlock=some (W.alloc o).heap.size):Bp w1 w3 cb kv k' v (K ++ N) l:=by
  have k1:=below_new1 W o
  have hl:=h.lt
  refine ⟨(hg.block cb (by simp;omega) (fun e=>h.nk e.symm)).trans ((k1.block cb hl).trans h.row),?_,?_,?_,h.nc,?_,h.cB,(below_and h.kb k1).grown hg (below_and h.kb k1).size (fun k hk=>(h.ok.lt k hk).1)⟩
  · rw [List.length_append,show i64s (K ++ N)=i64s K ++ i64s N by simp [i64s]];exact h3
  · refine (own_below h.oc k1 (Nat.le_refl _)).kept hg ?_
    cases hv:v.ownBlock with
    | none=>exact Or.inl rfl
    | some g=>exact Or.inr (fun e=>h.dj g e.symm hv)
  · intro e
    rcases hat with q | q
    · exact h.nk (q.symm.trans e)
    · rw [e] at q
      simp only [Option.some.injEq,World.size_alloc] at q
      omega
  · intro g hg' e
    rcases hat with q | q
    · exact h.dj g (q.symm.trans hg') e
    · rw [hg'] at q
      simp only [Option.some.injEq,World.size_alloc] at q
      have:=(h.oc.lt g e).2
      omega
theorem Bp.pushC {w1 W w3:World} {cb:Nat} {kv k' v v':Value} {K N l:List Int} {o:Obj} (h:Bp w1 W cb kv k' v K l) (h3:w3.ownsRow w1.heap.size 2 1 v' (l.length+N.length) (i64s l ++ i64s N)) (hg:(W.alloc o).grownBy w3 v.ownBlock) (hat:v'.ownBlock=v.ownBlock ∨ v'.ownBlock=some (W.alloc o).heap.size):Bp w1 w3 cb kv k' v' K (l ++ N):=by
  have k1:=below_new1 W o
  have hl:=h.lt
  refine ⟨(hg.block cb (by simp;omega) (fun e=>h.nc e.symm)).trans ((k1.block cb hl).trans h.row),?_,?_,h.nk,?_,?_,h.cB,(below_and h.kb k1).grown hg (below_and h.kb k1).size (fun k hk=>(h.oc.lt k hk).1)⟩
  · refine (own_below h.ok k1 (Nat.le_refl _)).kept hg ?_
    cases hv:k'.ownBlock with
    | none=>exact Or.inl rfl
    | some g=>exact Or.inr (fun e=>h.dj g hv e.symm)
  · rw [List.length_append,show i64s (l ++ N)=i64s l ++ i64s N by simp [i64s]];exact h3
  · intro e
    rcases hat with q | q
    · exact h.nc (q.symm.trans e)
    · rw [e] at q
      simp only [Option.some.injEq,World.size_alloc] at q
      omega
  · intro g hg' e
    rcases hat with q | q
    · exact h.dj g hg' (q.symm.trans e)
    · rw [e] at q
      simp only [Option.some.injEq,World.size_alloc] at q
      have:=(h.ok.lt g hg').2
      omega
theorem Bp.store {w1 W:World} {cb:Nat} {kv k' v:Value} {K l:List Int} (h:Bp w1 W cb kv k' v K l):W.cell? ⟨cb,0,none⟩=some kv∧W.frozen? ⟨cb,0,none⟩=false∧Bp w1 (W.setCell ⟨cb,0,none⟩ k') cb k' k' v K l:=by
  have t:Turn cb W (W.setCell ⟨cb,0,none⟩ k'):=(Turn.refl cb W).set 0 _
  exact ⟨cell_row (k:=0) h.row rfl,frozen_row h.row,set_row h.row _,h.ok.kept t (Or.inr (fun e=>h.nk e)),h.oc.kept t (Or.inr (fun e=>h.nc e)),h.nk,h.nc,h.dj,h.cB,h.kb.trans (t.below h.cB h.kb.size)⟩
theorem Bp.bk {w1 W:World} {cb:Nat} {kv v:Value} {K l:List Int} (h:Bp w1 W cb kv kv v K l):Bk w1 W cb kv (.slice none 0 0) K:=⟨h.row,h.ok,h.nk,h.cB,h.kb⟩
theorem Bp.cast {w1 W:World} {cb:Nat} {kv k' v:Value} {K K2 l l2:List Int} (h:Bp w1 W cb kv k' v K l) (e:K=K2) (f:l=l2):Bp w1 W cb kv k' v K2 l2:=e ▸ f ▸ h
namespace Vmx
theorem preB_next (j:Nat):preB (j+1)=preB j ++ [(j:Int)+1]:=by simp [preB,List.range_succ]
theorem posB_next (j:Nat):posB (j+1)=posB j ++ [(j:Int)+100]:=by simp [posB,List.range_succ]
end Vmx
/-- A round's state: the cells, the keeps, the outputs so far. -/
structure Tr (w W:World) (B g kp bb c b a:Nat) (m o:List Int) (k0 k1 k2:Int) (ov:Value) (t:Nat):Prop where
  tp:Tp7 m o k0 k1 k2
  oc:W.ownsRow w.heap.size 2 1 (.slice (some ⟨bb,0,none⟩) (b+7+a) c) (b+7+a) (i64s (cB b a m))
  kr:W.heap[kp]?=some (.cells [Value.int .i64 k0,.int .i64 k1,.int .i64 k2].toArray 57 (0,0))
  ou:(o=[]∧ov=.slice none 0 0) ∨ ∃ ob,ov=.slice (some ⟨ob,0,none⟩) o.length o.length∧Row64 W ob o∧ob ≠ bb∧ob ≠ kp∧ob ≠ g
  mh:Mb B W g (kB b a) (lT b) t
  hB:bb < B
  gk:g < kp
  gb:g ≠ bb
  kb:kp ≠ bb
  hk:w.heap.size≤kp
  hg:w.heap.size≤g
  bl:Below w.heap.size w W
theorem turn_far {W W':World} {b:Nat} {p q:Addr} {x y:Value} (t:Turn b W W') (h1:p.block ≠ b) (h2:q.block ≠ b) (z:W.cell? p=some x∧W.cell? q=some y):W'.cell? p=some x∧W'.cell? q=some y:=by
  have e1:W'.heap[p.block]?=W.heap[p.block]?:=t.block p.block (lt_of_cell z.1) (fun e=>h1 (by simpa using e))
  have e2:W'.heap[q.block]?=W.heap[q.block]?:=t.block q.block (lt_of_cell z.2) (fun e=>h2 (by simpa using e))
  exact ⟨(World.cell?_of_block (w:=W) (a:=p) e1).trans z.1,(World.cell?_of_block (w:=W) (a:=q) e2).trans z.2⟩
theorem Tr.scan {w W W':World} {B g kp bb c b a:Nat} {m o:List Int} {k0 k1 k2:Int} {ov:Value} {t:Nat} (h:Tr w W B g kp bb c b a m o k0 k1 k2 ov t) (ht:Turn g W W') (hm:Mb B W' g (kB b a) (lT b) (t+1)):Tr w W' B g kp bb c b a m o k0 k1 k2 ov (t+1):=by
  have hgb:=h.gb
  have hgk:=h.gk
  refine ⟨h.tp,h.oc.kept ht (Or.inr (by simpa [Value.ownBlock] using Ne.symm hgb)),(ht.block kp (row_lt h.kr) (fun e=>by simp at e;omega)).trans h.kr,?_,hm,h.hB,h.gk,h.gb,h.kb,h.hk,h.hg,h.bl.trans (ht.below h.hg h.bl.size)⟩
  rcases h.ou with q | ⟨ob,h1,h2,h3,h4,h5⟩
  · exact Or.inl q
  · exact Or.inr ⟨ob,h1,(ht.block ob (row_lt h2) (fun e=>h5 (by simpa using e))).trans h2,h3,h4,h5⟩
theorem Tr.same {w W W':World} {B g kp bb c b a:Nat} {m o:List Int} {k0 k1 k2:Int} {ov:Value} {t:Nat} (h:Tr w W B g kp bb c b a m o k0 k1 k2 ov t) (k:Below W.heap.size W W'):Tr w W' B g kp bb c b a m o k0 k1 k2 ov t:=by
  refine ⟨h.tp,own_below h.oc k (Nat.le_refl _),(k.block kp (row_lt h.kr)).trans h.kr,?_,h.mh.below k,h.hB,h.gk,h.gb,h.kb,h.hk,h.hg,below_and h.bl k⟩
  rcases h.ou with q | ⟨ob,h1,h2,h3,h4,h5⟩
  · exact Or.inl q
  · exact Or.inr ⟨ob,h1,(k.block ob (row_lt h2)).trans h2,h3,h4,h5⟩
theorem Tr.ins {w W:World} {B g kp bb c b a:Nat} {m o:List Int} {k0 k1 k2:Int} {ov:Value} {t:Nat} (h:Tr w W B g kp bb c b a m o k0 k1 k2 ov t) (x y:Int):Tr w ((W.setCell ⟨bb,b,none⟩ (.int .i64 (wr 1 x))).setCell ⟨bb,b+1,none⟩ (.int .i64 (wr 11 y))) B g kp bb c b a ((m.set 0 (wr 1 x)).set 1 (wr 11 y)) o k0 k1 k2 ov t:=by
  have hl:=h.tp.len
  have o1:=(own_put h.oc (j:=b) (by omega) (wr 1 x)).1
  have o2:=(own_put o1 (j:=b+1) (by omega) (wr 11 y)).1
  have e:((cB b a m).set b (wr 1 x)).set (b+1) (wr 11 y)=cB b a ((m.set 0 (wr 1 x)).set 1 (wr 11 y)):=by
    have q:=cB_set b a m (j:=0) (by omega) (wr 1 x)
    rw [Nat.add_zero] at q
    rw [q,cB_set b a _ (j:=1) (by rw [List.length_set];omega)]
  rw [e] at o2
  have hbb:=h.oc.lt bb rfl
  have t2:Turn bb W ((W.setCell ⟨bb,b,none⟩ (.int .i64 (wr 1 x))).setCell ⟨bb,b+1,none⟩ (.int .i64 (wr 11 y))):=((Turn.refl bb W).set b _).set (b+1) _
  refine ⟨h.tp.ins x y,o2,(t2.block kp (row_lt h.kr) (fun e=>h.kb (by simpa using e))).trans h.kr,?_,h.mh.turn t2 h.hB h.gb,h.hB,h.gk,h.gb,h.kb,h.hk,h.hg,h.bl.trans (t2.below hbb.1 h.bl.size)⟩
  rcases h.ou with q | ⟨ob,h1,h2,h3,h4,h5⟩
  · exact Or.inl q
  · exact Or.inr ⟨ob,h1,(t2.block ob (row_lt h2) (fun e=>h3 (by simpa using e))).trans h2,h3,h4,h5⟩
theorem take_splice {cur cs:List Value} {off n:Nat} (h:off+cs.length≤n) (hn:n≤cur.length):(splice cur off cs).take n=splice (cur.take n) off cs:=by
  unfold splice
  have hA:(cur.take off ++ cs).length=off+cs.length:=by rw [List.length_append,List.length_take];omega
  rw [← List.append_assoc,← List.append_assoc,List.take_append,hA,List.take_of_length_le (by rw [hA];exact h),List.take_take,Nat.min_eq_left (by omega),List.drop_take]
/-- Numbers are copied into a row of one's own. -/
theorem own_copy {w:World} {base n g c:Nat} {l cs:List Int} {off:Nat} (h:w.ownsRow base 2 1 (.slice (some ⟨g,0,none⟩) n c) n (i64s l)) (ad:Addr) (sLen sCap dLen dCap:Nat) (hn:cs.length=Nat.min sLen dLen) (hsrc:∀ j v,(i64s cs)[j]?=some v→w.cell? (ad.add j)=some v) (hfit:off+cs.length≤n) :
    ∃ w' v,(Builtin.copy_ #[26,26] 3 #[.slice (some ⟨g,off,none⟩) dLen dCap,.slice (some ad) sLen sCap]).run Tryz.prog w=.ok v w'∧w'.ownsRow base 2 1 (.slice (some ⟨g,0,none⟩) n c) n (i64s (lay l off cs))∧Turn g w w':=by
  have hl:l.length=n:=by have:=h.1;rw [i64s_len] at this;omega
  rcases h.2 with ⟨e,_⟩ | ⟨g',cap,cur,e,hb,hg,h1,h2,h3,h4⟩
  · simp at e
  · simp only [Value.slice.injEq,Option.some.injEq,Addr.mk.injEq] at e
    obtain ⟨⟨rfl,_,_⟩,_,rfl⟩:=e
    have hr:w.heap[g]?=some (.cells cur.toList.toArray 2 (0,0)):=by rw [Array.toArray_toList];exact hg
    have hcl:cur.toList.length=c:=by rw [Array.length_toList,h3,Nat.mul_one]
    obtain ⟨w',e1,e2,e3⟩:=run_copy_turn (P:=Tryz.prog) (w:=w) 26 26 3 2 Tryz.underlying26 (by kernel_rfl) (some ⟨g,off,none⟩) (some ad) dLen dCap sLen sCap g off cur.toList 2 hr (i64s cs) (by rw [i64s_len];exact hn) (fun _=>⟨rfl,ad,rfl,hsrc⟩) (by rw [i64s_len,hcl];omega) (one_nums cs)
    rw [Nat.mul_one] at h4
    refine ⟨w',_,e1,⟨?_,Or.inr ⟨g,c,_,rfl,hb,e2,h1,h2,?_,?_⟩⟩,e3⟩
    · rw [i64s_len,lay_len (by omega),hl,Nat.mul_one]
    · rw [List.size_toArray]
      unfold splice
      simp only [List.length_append,List.length_take,List.length_drop,i64s_len,hcl]
      omega
    · rw [Nat.mul_one,take_splice (by rw [i64s_len];exact hfit) (by rw [hcl];exact h1),h4,splice_lay]
/-- Behind the reference's step: its outputs and keeps are copied into the cells. -/
theorem Tr.copied {w W W':World} {B g kp bb c b a ob:Nat} {m o:List Int} {k0 k1 k2 now:Int} {ov:Value} {t:Nat} (h:Tr w W B g kp bb c b a m o k0 k1 k2 ov t) (k:Below W.heap.size W W') (hob:W.heap.size≤ob) (r:Rs) (hr:r=tpR m o k0 k1 k2 now) (ro:Row64 W' ob r.o) :
    ∃ W5 W6 v5 v6,(Builtin.copy_ #[26,26] 3 #[.slice (some ⟨bb,b+2,none⟩) (5+a) (c - (b+2)),.slice (some ⟨ob,0,none⟩) r.o.length r.o.length]).run Tryz.prog (((W'.setCell ⟨kp,0,none⟩ (.int .i64 r.k0)).setCell ⟨kp,1,none⟩ (.int .i64 r.k1)).setCell ⟨kp,2,none⟩ (.int .i64 r.k2))=.ok v5 W5
      ∧ (Builtin.copy_ #[26,26] 3 #[.slice (some ⟨bb,b+4,none⟩) (3+a) (c - (b+4)),.slice (some ⟨kp,0,none⟩) 3 3]).run Tryz.prog W5.drew=.ok v6 W6
      ∧ Tr w W6 B g kp bb c b a (lay m 2 (r.o ++ [r.k0,r.k1,r.k2])) r.o r.k0 r.k1 r.k2 (.slice (some ⟨ob,0,none⟩) r.o.length r.o.length) t
      ∧ ∀ q,q < W.heap.size→q ≠ bb→q ≠ kp→W6.heap[q]?=W.heap[q]?:=by
  obtain ⟨h2,htp⟩:=tpR_ok h.tp now
  rw [← hr] at h2 htp
  have hm:=h.tp.len
  have hS:=h.same k
  have hkl:=row_lt h.kr
  have hbl:=(h.oc.lt bb rfl).2
  have hgl:=h.mh.mh.lt
  have hgk:=h.gk
  have tk:Turn kp W' (((W'.setCell ⟨kp,0,none⟩ (.int .i64 r.k0)).setCell ⟨kp,1,none⟩ (.int .i64 r.k1)).setCell ⟨kp,2,none⟩ (.int .i64 r.k2)):=(((Turn.refl _ W').set 0 _).set 1 _).set 2 _
  have kr:(((W'.setCell ⟨kp,0,none⟩ (.int .i64 r.k0)).setCell ⟨kp,1,none⟩ (.int .i64 r.k1)).setCell ⟨kp,2,none⟩ (.int .i64 r.k2)).heap[kp]?=some (.cells [Value.int .i64 r.k0,.int .i64 r.k1,.int .i64 r.k2].toArray 57 (0,0)):=set_row (set_row (set_row hS.kr _) _) _
  have oc:=hS.oc.kept tk (Or.inr (by simpa [Value.ownBlock] using Ne.symm h.kb))
  have ro2:Row64 (((W'.setCell ⟨kp,0,none⟩ (.int .i64 r.k0)).setCell ⟨kp,1,none⟩ (.int .i64 r.k1)).setCell ⟨kp,2,none⟩ (.int .i64 r.k2)) ob r.o:=(tk.block ob (row_lt ro) (fun e=>by simp at e;omega)).trans ro
  have m2:=hS.mh.later tk h.gk
  generalize (((W'.setCell ⟨kp,0,none⟩ (.int .i64 r.k0)).setCell ⟨kp,1,none⟩ (.int .i64 r.k1)).setCell ⟨kp,2,none⟩ (.int .i64 r.k2))=W4 at *
  have lro:Lies W4 ob 0 (i64s r.o):=fun j u hj=>by rw [Nat.zero_add];exact cell_row ro2 hj
  obtain ⟨W5,v5,e5,o5,t5⟩:=own_copy (cs:=r.o) (off:=b+2) oc ⟨ob,0,none⟩ r.o.length r.o.length (5+a) (c - (b+2)) (by rw [h2];exact (Nat.min_eq_left (by omega)).symm) lro.news (by rw [h2];omega)
  have o5:=own_below o5 (show Below W5.heap.size W5 W5.drew from (Same.drewN W5 1).below) (Nat.le_refl _)
  have t5:Turn bb W4 W5.drew:=t5.drew
  have kr5:=(t5.block kp (row_lt kr) (fun e=>h.kb (by simpa using e))).trans kr
  have lk:Lies W5.drew kp 0 (i64s [r.k0,r.k1,r.k2]):=fun j u hj=>by rw [Nat.zero_add];exact cell_row kr5 hj
  obtain ⟨W6,v6,e6,o6,t6⟩:=own_copy (cs:=[r.k0,r.k1,r.k2]) (off:=b+4) o5 ⟨kp,0,none⟩ 3 3 (3+a) (c - (b+4)) (show 3=Nat.min 3 (3+a) from (Nat.min_eq_left (by omega)).symm) lk.news (by show b+4+3≤_;omega)
  have ec:lay (lay (cB b a m) (b+2) r.o) (b+4) [r.k0,r.k1,r.k2]=cB b a (lay m 2 (r.o ++ [r.k0,r.k1,r.k2])):=by
    have q:=lay_lay (cs:=cB b a m) (l:=r.o) (m:=[r.k0,r.k1,r.k2]) (a:=b+2) (by rw [h2,cB_len b a hm];show b+2+2+3≤_;omega)
    rw [h2] at q
    rw [q,cB_lay b a m _ (by rw [List.length_append,h2,hm];show 2+(2+3)≤7;decide)]
  rw [ec] at o6
  have hW4:W'.heap.size≤W4.heap.size:=tk.size
  have hWW:=k.size
  have ob5:ob ≠ bb:=by omega
  have kr6:=(t6.block kp (row_lt kr5) (fun e=>h.kb (by simpa using e))).trans kr5
  have ro5:Row64 W5.drew ob r.o:=(t5.block ob (row_lt ro2) (fun e=>ob5 (by simpa using e))).trans ro2
  have ro6:Row64 W6 ob r.o:=(t6.block ob (row_lt ro5) (fun e=>ob5 (by simpa using e))).trans ro5
  have m6:=(m2.turn t5 h.hB h.gb).turn t6 h.hB h.gb
  have hbw:=(h.oc.lt bb rfl).1
  have bl4:Below w.heap.size w W4:=(below_and h.bl k).trans (tk.below h.hk (below_and h.bl k).size)
  refine ⟨W5,W6,v5,v6,e5,e6,⟨htp,o6,kr6,Or.inr ⟨ob,rfl,ro6,ob5,by omega,by omega⟩,m6,h.hB,h.gk,h.gb,h.kb,h.hk,h.hg,?_⟩,fun q hq n1 n2=>?_⟩
  · have s4:=bl4.size
    have s5:=t5.size
    exact (bl4.trans (t5.below hbw s4)).trans (t6.below hbw (Nat.le_trans s4 s5))
  · have s5:=t5.size
    rw [t6.block q (by omega) (fun e=>n1 (by simpa using e)),t5.block q (by omega) (fun e=>n1 (by simpa using e)),tk.block q (by omega) (fun e=>n2 (by simpa using e)),k.block q hq]
/-- The two inputs, as the reference is handed them. -/
theorem Tr.two {w W:World} {B g kp bb c b a:Nat} {m o:List Int} {k0 k1 k2:Int} {ov:Value} {t:Nat} (h:Tr w W B g kp bb c b a m o k0 k1 k2 ov t) {W':World} (k:Below W.heap.size W W'):Sl W' (.slice (some ⟨bb,b,none⟩) 2 (c - b)) (i64s (m.take 2)):=by
  have hm:=h.tp.len
  have ho:=own_below h.oc k (Nat.le_refl _)
  have hc:b+7+a≤c:=by
    rcases h.oc.2 with ⟨e,_⟩ | ⟨g',cap,cur,e,_,_,h1,_⟩
    · simp at e
    · simp only [Value.slice.injEq] at e
      omega
  have l2:(m.take 2).length=2:=by rw [List.length_take];omega
  refine Or.inr ⟨bb,b,c - b,by rw [i64s_len,l2],by rw [i64s_len,l2];omega,fun i u hi=>?_⟩
  have hil:i < 2:=by have:=(List.getElem?_eq_some_iff.1 hi).1;rw [i64s_len,l2] at this;exact this
  have q:=ho.cells (g:=bb) rfl (b+i) u (by
    have e1:=i64s_at (m.take 2) i (by omega)
    rw [e1] at hi
    have e2:=i64s_at (cB b a m) (b+i) (by rw [cB_len b a hm];omega)
    rw [cB_at b a m (by omega)] at e2
    rw [e2,← hi]
    congr 2
    rw [List.getD_eq_getElem?_getD,List.getD_eq_getElem?_getD,List.getElem?_take,if_pos hil])
  have hadd:(⟨bb,0,none⟩:Addr).add (b+i)=⟨bb,b+i,none⟩:=by unfold Addr.add;split <;> simp_all
  rw [hadd] at q
  exact q
theorem Tr.cap {w W:World} {B g kp bb c b a:Nat} {m o:List Int} {k0 k1 k2:Int} {ov:Value} {t:Nat} (h:Tr w W B g kp bb c b a m o k0 k1 k2 ov t):b+7+a≤c:=by
  rcases h.oc.2 with ⟨e,_⟩ | ⟨g',cap,cur,e,_,_,h1,_⟩
  · simp at e
  · simp only [Value.slice.injEq] at e
    omega
theorem Tr.out {w W:World} {B g kp bb c b a:Nat} {m o:List Int} {k0 k1 k2:Int} {ov:Value} {t:Nat} (h:Tr w W B g kp bb c b a m o k0 k1 k2 ov t):∃ oa on oc,ov=.slice oa on oc∧on=o.length∧∀ W',Below W.heap.size W W'→Sl W' (.slice oa on oc) (i64s o):=by
  rcases h.ou with ⟨rfl,rfl⟩ | ⟨ob,rfl,h2,_⟩
  · exact ⟨_,_,_,rfl,rfl,fun W' _=>Sl.nil W'⟩
  · exact ⟨_,_,_,rfl,rfl,fun W' k=>row_sl (row_below h2 k) rfl⟩
end Go.Proofs.YthjclogkcmomkaaGreatDoor
