/- Straight code with every operator, in plain mathematics (stage 21). -/
import Derived.Test.YthjclogkcmomkaaGreatDoorQ46
namespace Go.Proofs.YthjclogkcmomkaaGreatDoor
open Go.RowKit
open Fb Cod Nm Vmx
namespace Vmx
def lK (k a b d op:Int):List Ins:=[⟨1,k,0,a,nos⟩,⟨1,k,0,b,nos⟩,⟨13,0,0,0,nos⟩,⟨3,0,0,0,nos⟩,⟨1,k,0,a,nos⟩,⟨1,k,0,b,nos⟩,⟨14,0,0,0,nos⟩,⟨3,1,0,0,nos⟩,⟨1,k,0,d,nos⟩,⟨1,k,0,a,nos⟩,⟨1,k,0,b,nos⟩,⟨15,0,0,0,nos⟩,⟨3,2,0,0,nos⟩,⟨1,k,0,a,nos⟩,⟨8,k,0,0,nos⟩,⟨16,0,0,0,nos⟩,⟨24,1,0,0,nos⟩,⟨17,0,0,0,nos⟩,⟨17,0,0,0,nos⟩,⟨3,3,0,0,nos⟩,⟨1,k,0,a,nos⟩,⟨1,k,0,b,nos⟩,⟨9,k,op,0,nos⟩,⟨3,4,0,0,nos⟩,⟨23,0,0,0,nos⟩]
theorem lK_ver {k op:Int} (a b d:Int) (hk:1≤k∧k≤11) (ho:5≤op∧op≤18):Ver [k,k,k,k,k,k] (lK k a b d op) none:=by
  have hs:scal k=true:=scal_in hk
  refine Or.inr ⟨?_,25,okS_fin (S:=[(0,0),(1,1),(2,2),(3,1),(4,0),(5,1),(6,2),(7,1),(8,0),(9,1),(10,2),(11,3),(12,1),(13,0),(14,1),(15,1),(16,2),(17,3),(18,2),(19,1),(20,0),(21,1),(22,2),(23,1),(24,0)]) (by kernel_rfl),rfl⟩
  unfold alone
  have hw:whole [k,k,k,k,k,k] (lK k a b d op).length=true:=by
    show ([k,k,k,k,k,k].all scal && decide ([k,k,k,k,k,k].length≤4096) && decide (0 < 25) && decide (25≤32768))=true
    simp [hs]
  rw [if_pos hw,List.findIdx?_eq_none_iff]
  intro x hx
  simp only [lK,List.mem_cons,List.not_mem_nil,or_false] at hx
  have h5:decide (5≤op)=true:=decide_eq_true ho.1
  have h18:decide (op≤18)=true:=decide_eq_true ho.2
  have R1:∀ c,rgt [k,k,k,k,k,k] (lK k a b d op).length ⟨1,k,0,c,nos⟩=true:=fun c=>hs
  have R9:rgt [k,k,k,k,k,k] (lK k a b d op).length ⟨9,k,op,0,nos⟩=true:=by
    show (scal k && decide (5≤op) && decide (op≤18))=true
    rw [hs,h5,h18];rfl
  have R8:rgt [k,k,k,k,k,k] (lK k a b d op).length ⟨8,k,0,0,nos⟩=true:=hs
  rcases hx with rfl | rfl | rfl | rfl | rfl | rfl | rfl | rfl | rfl | rfl | rfl | rfl | rfl | rfl | rfl | rfl | rfl | rfl | rfl | rfl | rfl | rfl | rfl | rfl | rfl
  · simp only [R1 _];decide
  · simp only [R1 _];decide
  · have e:=(show rgt [k,k,k,k,k,k] (lK k a b d op).length ⟨13,0,0,0,nos⟩=true by kernel_rfl)
    simp only [e];decide
  · have e:=(show rgt [k,k,k,k,k,k] (lK k a b d op).length ⟨3,0,0,0,nos⟩=true by kernel_rfl)
    simp only [e];decide
  · simp only [R1 _];decide
  · simp only [R1 _];decide
  · have e:=(show rgt [k,k,k,k,k,k] (lK k a b d op).length ⟨14,0,0,0,nos⟩=true by kernel_rfl)
    simp only [e];decide
  · have e:=(show rgt [k,k,k,k,k,k] (lK k a b d op).length ⟨3,1,0,0,nos⟩=true by kernel_rfl)
    simp only [e];decide
  · simp only [R1 _];decide
  · simp only [R1 _];decide
  · simp only [R1 _];decide
  · have e:=(show rgt [k,k,k,k,k,k] (lK k a b d op).length ⟨15,0,0,0,nos⟩=true by kernel_rfl)
    simp only [e];decide
  · have e:=(show rgt [k,k,k,k,k,k] (lK k a b d op).length ⟨3,2,0,0,nos⟩=true by kernel_rfl)
    simp only [e];decide
  · simp only [R1 _];decide
  · simp only [R8];decide
  · have e:=(show rgt [k,k,k,k,k,k] (lK k a b d op).length ⟨16,0,0,0,nos⟩=true by kernel_rfl)
    simp only [e];decide
  · have e:=(show rgt [k,k,k,k,k,k] (lK k a b d op).length ⟨24,1,0,0,nos⟩=true by kernel_rfl)
    simp only [e];decide
  · have e:=(show rgt [k,k,k,k,k,k] (lK k a b d op).length ⟨17,0,0,0,nos⟩=true by kernel_rfl)
    simp only [e];decide
  · have e:=(show rgt [k,k,k,k,k,k] (lK k a b d op).length ⟨17,0,0,0,nos⟩=true by kernel_rfl)
    simp only [e];decide
  · have e:=(show rgt [k,k,k,k,k,k] (lK k a b d op).length ⟨3,3,0,0,nos⟩=true by kernel_rfl)
    simp only [e];decide
  · simp only [R1 _];decide
  · simp only [R1 _];decide
  · simp only [R9];decide
  · have e:=(show rgt [k,k,k,k,k,k] (lK k a b d op).length ⟨3,4,0,0,nos⟩=true by kernel_rfl)
    simp only [e];decide
  · have e:=(show rgt [k,k,k,k,k,k] (lK k a b d op).length ⟨23,0,0,0,nos⟩=true by kernel_rfl)
    simp only [e];decide
theorem runK {k op:Int} (a b d:Int) (n:Nat) (hf:apf op k (wr k b)=0):exn [k,k,k,k,k,k] (lK k a b d op) 0 10 (n+25) ⟨0,[wr k 0,wr k 0,wr k 0,wr k 0,wr k 0,wr k 1],[],0⟩=(⟨24,[wr k (min (wr k a) (wr k b)),wr k (max (wr k a) (wr k b)),wr k (if wr k d=0 then wr k a else wr k b),wr k (ntv k (wr k a)),wr k (apv op k (wr k a) (wr k b)),wr k 1],[],0⟩,0):=by
  rw [exn_on (n:=n+24) (t:=⟨1,[wr k 0,wr k 0,wr k 0,wr k 0,wr k 0,wr k 1],[wr k a],0⟩) (x:=⟨1,k,0,a,nos⟩) rfl rfl]
  rw [exn_on (n:=n+23) (t:=⟨2,[wr k 0,wr k 0,wr k 0,wr k 0,wr k 0,wr k 1],[wr k b,wr k a],0⟩) (x:=⟨1,k,0,b,nos⟩) rfl rfl]
  rw [exn_on (n:=n+22) (t:=⟨3,[wr k 0,wr k 0,wr k 0,wr k 0,wr k 0,wr k 1],[min (wr k a) (wr k b)],0⟩) (x:=⟨13,0,0,0,nos⟩) rfl rfl]
  rw [exn_on (n:=n+21) (t:=⟨4,[wr k (min (wr k a) (wr k b)),wr k 0,wr k 0,wr k 0,wr k 0,wr k 1],[],0⟩) (x:=⟨3,0,0,0,nos⟩) rfl rfl]
  rw [exn_on (n:=n+20) (t:=⟨5,[wr k (min (wr k a) (wr k b)),wr k 0,wr k 0,wr k 0,wr k 0,wr k 1],[wr k a],0⟩) (x:=⟨1,k,0,a,nos⟩) rfl rfl]
  rw [exn_on (n:=n+19) (t:=⟨6,[wr k (min (wr k a) (wr k b)),wr k 0,wr k 0,wr k 0,wr k 0,wr k 1],[wr k b,wr k a],0⟩) (x:=⟨1,k,0,b,nos⟩) rfl rfl]
  rw [exn_on (n:=n+18) (t:=⟨7,[wr k (min (wr k a) (wr k b)),wr k 0,wr k 0,wr k 0,wr k 0,wr k 1],[max (wr k a) (wr k b)],0⟩) (x:=⟨14,0,0,0,nos⟩) rfl rfl]
  rw [exn_on (n:=n+17) (t:=⟨8,[wr k (min (wr k a) (wr k b)),wr k (max (wr k a) (wr k b)),wr k 0,wr k 0,wr k 0,wr k 1],[],0⟩) (x:=⟨3,1,0,0,nos⟩) rfl rfl]
  rw [exn_on (n:=n+16) (t:=⟨9,[wr k (min (wr k a) (wr k b)),wr k (max (wr k a) (wr k b)),wr k 0,wr k 0,wr k 0,wr k 1],[wr k d],0⟩) (x:=⟨1,k,0,d,nos⟩) rfl rfl]
  rw [exn_on (n:=n+15) (t:=⟨10,[wr k (min (wr k a) (wr k b)),wr k (max (wr k a) (wr k b)),wr k 0,wr k 0,wr k 0,wr k 1],[wr k a,wr k d],0⟩) (x:=⟨1,k,0,a,nos⟩) rfl rfl]
  rw [exn_on (n:=n+14) (t:=⟨11,[wr k (min (wr k a) (wr k b)),wr k (max (wr k a) (wr k b)),wr k 0,wr k 0,wr k 0,wr k 1],[wr k b,wr k a,wr k d],0⟩) (x:=⟨1,k,0,b,nos⟩) rfl rfl]
  rw [exn_on (n:=n+13) (t:=⟨12,[wr k (min (wr k a) (wr k b)),wr k (max (wr k a) (wr k b)),wr k 0,wr k 0,wr k 0,wr k 1],[if wr k d=0 then wr k a else wr k b],0⟩) (x:=⟨15,0,0,0,nos⟩) rfl rfl]
  rw [exn_on (n:=n+12) (t:=⟨13,[wr k (min (wr k a) (wr k b)),wr k (max (wr k a) (wr k b)),wr k (if wr k d=0 then wr k a else wr k b),wr k 0,wr k 0,wr k 1],[],0⟩) (x:=⟨3,2,0,0,nos⟩) rfl rfl]
  rw [exn_on (n:=n+11) (t:=⟨14,[wr k (min (wr k a) (wr k b)),wr k (max (wr k a) (wr k b)),wr k (if wr k d=0 then wr k a else wr k b),wr k 0,wr k 0,wr k 1],[wr k a],0⟩) (x:=⟨1,k,0,a,nos⟩) rfl rfl]
  rw [exn_on (n:=n+10) (t:=⟨15,[wr k (min (wr k a) (wr k b)),wr k (max (wr k a) (wr k b)),wr k (if wr k d=0 then wr k a else wr k b),wr k 0,wr k 0,wr k 1],[ntv k (wr k a)],0⟩) (x:=⟨8,k,0,0,nos⟩) rfl rfl]
  rw [exn_on (n:=n+9) (t:=⟨16,[wr k (min (wr k a) (wr k b)),wr k (max (wr k a) (wr k b)),wr k (if wr k d=0 then wr k a else wr k b),wr k 0,wr k 0,wr k 1],[ntv k (wr k a),ntv k (wr k a)],0⟩) (x:=⟨16,0,0,0,nos⟩) rfl rfl]
  rw [exn_on (n:=n+8) (t:=⟨17,[wr k (min (wr k a) (wr k b)),wr k (max (wr k a) (wr k b)),wr k (if wr k d=0 then wr k a else wr k b),wr k 0,wr k 0,wr k 1],[ntv k (wr k a),ntv k (wr k a),ntv k (wr k a)],0⟩) (x:=⟨24,1,0,0,nos⟩) rfl rfl]
  rw [exn_on (n:=n+7) (t:=⟨18,[wr k (min (wr k a) (wr k b)),wr k (max (wr k a) (wr k b)),wr k (if wr k d=0 then wr k a else wr k b),wr k 0,wr k 0,wr k 1],[ntv k (wr k a),ntv k (wr k a)],0⟩) (x:=⟨17,0,0,0,nos⟩) rfl rfl]
  rw [exn_on (n:=n+6) (t:=⟨19,[wr k (min (wr k a) (wr k b)),wr k (max (wr k a) (wr k b)),wr k (if wr k d=0 then wr k a else wr k b),wr k 0,wr k 0,wr k 1],[ntv k (wr k a)],0⟩) (x:=⟨17,0,0,0,nos⟩) rfl rfl]
  rw [exn_on (n:=n+5) (t:=⟨20,[wr k (min (wr k a) (wr k b)),wr k (max (wr k a) (wr k b)),wr k (if wr k d=0 then wr k a else wr k b),wr k (ntv k (wr k a)),wr k 0,wr k 1],[],0⟩) (x:=⟨3,3,0,0,nos⟩) rfl rfl]
  rw [exn_on (n:=n+4) (t:=⟨21,[wr k (min (wr k a) (wr k b)),wr k (max (wr k a) (wr k b)),wr k (if wr k d=0 then wr k a else wr k b),wr k (ntv k (wr k a)),wr k 0,wr k 1],[wr k a],0⟩) (x:=⟨1,k,0,a,nos⟩) rfl rfl]
  rw [exn_on (n:=n+3) (t:=⟨22,[wr k (min (wr k a) (wr k b)),wr k (max (wr k a) (wr k b)),wr k (if wr k d=0 then wr k a else wr k b),wr k (ntv k (wr k a)),wr k 0,wr k 1],[wr k b,wr k a],0⟩) (x:=⟨1,k,0,b,nos⟩) rfl rfl]
  rw [exn_on (n:=n+2) (t:=⟨23,[wr k (min (wr k a) (wr k b)),wr k (max (wr k a) (wr k b)),wr k (if wr k d=0 then wr k a else wr k b),wr k (ntv k (wr k a)),wr k 0,wr k 1],[apv op k (wr k a) (wr k b)],0⟩) (x:=⟨9,k,op,0,nos⟩) rfl (by
    show (if apf op k (wr k b)=0 then Res.go ⟨23,[wr k (min (wr k a) (wr k b)),wr k (max (wr k a) (wr k b)),wr k (if wr k d=0 then wr k a else wr k b),wr k (ntv k (wr k a)),wr k 0,wr k 1],[apv op k (wr k a) (wr k b)],0⟩ else _)=_
    rw [if_pos hf])]
  rw [exn_on (n:=n+1) (t:=⟨24,[wr k (min (wr k a) (wr k b)),wr k (max (wr k a) (wr k b)),wr k (if wr k d=0 then wr k a else wr k b),wr k (ntv k (wr k a)),wr k (apv op k (wr k a) (wr k b)),wr k 1],[],0⟩) (x:=⟨3,4,0,0,nos⟩) rfl rfl]
  exact exn_off (x:=⟨23,0,0,0,nos⟩) rfl rfl
theorem runK_f {k op:Int} (a b d:Int) (n:Nat) (hf:¬ apf op k (wr k b)=0):exn [k,k,k,k,k,k] (lK k a b d op) 0 10 (n+25) ⟨0,[wr k 0,wr k 0,wr k 0,wr k 0,wr k 0,wr k 1],[],0⟩=(⟨22,[wr k (min (wr k a) (wr k b)),wr k (max (wr k a) (wr k b)),wr k (if wr k d=0 then wr k a else wr k b),wr k (ntv k (wr k a)),wr k 0,wr k 1],[wr k b,wr k a],0⟩,apf op k (wr k b)):=by
  rw [exn_on (n:=n+24) (t:=⟨1,[wr k 0,wr k 0,wr k 0,wr k 0,wr k 0,wr k 1],[wr k a],0⟩) (x:=⟨1,k,0,a,nos⟩) rfl rfl]
  rw [exn_on (n:=n+23) (t:=⟨2,[wr k 0,wr k 0,wr k 0,wr k 0,wr k 0,wr k 1],[wr k b,wr k a],0⟩) (x:=⟨1,k,0,b,nos⟩) rfl rfl]
  rw [exn_on (n:=n+22) (t:=⟨3,[wr k 0,wr k 0,wr k 0,wr k 0,wr k 0,wr k 1],[min (wr k a) (wr k b)],0⟩) (x:=⟨13,0,0,0,nos⟩) rfl rfl]
  rw [exn_on (n:=n+21) (t:=⟨4,[wr k (min (wr k a) (wr k b)),wr k 0,wr k 0,wr k 0,wr k 0,wr k 1],[],0⟩) (x:=⟨3,0,0,0,nos⟩) rfl rfl]
  rw [exn_on (n:=n+20) (t:=⟨5,[wr k (min (wr k a) (wr k b)),wr k 0,wr k 0,wr k 0,wr k 0,wr k 1],[wr k a],0⟩) (x:=⟨1,k,0,a,nos⟩) rfl rfl]
  rw [exn_on (n:=n+19) (t:=⟨6,[wr k (min (wr k a) (wr k b)),wr k 0,wr k 0,wr k 0,wr k 0,wr k 1],[wr k b,wr k a],0⟩) (x:=⟨1,k,0,b,nos⟩) rfl rfl]
  rw [exn_on (n:=n+18) (t:=⟨7,[wr k (min (wr k a) (wr k b)),wr k 0,wr k 0,wr k 0,wr k 0,wr k 1],[max (wr k a) (wr k b)],0⟩) (x:=⟨14,0,0,0,nos⟩) rfl rfl]
  rw [exn_on (n:=n+17) (t:=⟨8,[wr k (min (wr k a) (wr k b)),wr k (max (wr k a) (wr k b)),wr k 0,wr k 0,wr k 0,wr k 1],[],0⟩) (x:=⟨3,1,0,0,nos⟩) rfl rfl]
  rw [exn_on (n:=n+16) (t:=⟨9,[wr k (min (wr k a) (wr k b)),wr k (max (wr k a) (wr k b)),wr k 0,wr k 0,wr k 0,wr k 1],[wr k d],0⟩) (x:=⟨1,k,0,d,nos⟩) rfl rfl]
  rw [exn_on (n:=n+15) (t:=⟨10,[wr k (min (wr k a) (wr k b)),wr k (max (wr k a) (wr k b)),wr k 0,wr k 0,wr k 0,wr k 1],[wr k a,wr k d],0⟩) (x:=⟨1,k,0,a,nos⟩) rfl rfl]
  rw [exn_on (n:=n+14) (t:=⟨11,[wr k (min (wr k a) (wr k b)),wr k (max (wr k a) (wr k b)),wr k 0,wr k 0,wr k 0,wr k 1],[wr k b,wr k a,wr k d],0⟩) (x:=⟨1,k,0,b,nos⟩) rfl rfl]
  rw [exn_on (n:=n+13) (t:=⟨12,[wr k (min (wr k a) (wr k b)),wr k (max (wr k a) (wr k b)),wr k 0,wr k 0,wr k 0,wr k 1],[if wr k d=0 then wr k a else wr k b],0⟩) (x:=⟨15,0,0,0,nos⟩) rfl rfl]
  rw [exn_on (n:=n+12) (t:=⟨13,[wr k (min (wr k a) (wr k b)),wr k (max (wr k a) (wr k b)),wr k (if wr k d=0 then wr k a else wr k b),wr k 0,wr k 0,wr k 1],[],0⟩) (x:=⟨3,2,0,0,nos⟩) rfl rfl]
  rw [exn_on (n:=n+11) (t:=⟨14,[wr k (min (wr k a) (wr k b)),wr k (max (wr k a) (wr k b)),wr k (if wr k d=0 then wr k a else wr k b),wr k 0,wr k 0,wr k 1],[wr k a],0⟩) (x:=⟨1,k,0,a,nos⟩) rfl rfl]
  rw [exn_on (n:=n+10) (t:=⟨15,[wr k (min (wr k a) (wr k b)),wr k (max (wr k a) (wr k b)),wr k (if wr k d=0 then wr k a else wr k b),wr k 0,wr k 0,wr k 1],[ntv k (wr k a)],0⟩) (x:=⟨8,k,0,0,nos⟩) rfl rfl]
  rw [exn_on (n:=n+9) (t:=⟨16,[wr k (min (wr k a) (wr k b)),wr k (max (wr k a) (wr k b)),wr k (if wr k d=0 then wr k a else wr k b),wr k 0,wr k 0,wr k 1],[ntv k (wr k a),ntv k (wr k a)],0⟩) (x:=⟨16,0,0,0,nos⟩) rfl rfl]
  rw [exn_on (n:=n+8) (t:=⟨17,[wr k (min (wr k a) (wr k b)),wr k (max (wr k a) (wr k b)),wr k (if wr k d=0 then wr k a else wr k b),wr k 0,wr k 0,wr k 1],[ntv k (wr k a),ntv k (wr k a),ntv k (wr k a)],0⟩) (x:=⟨24,1,0,0,nos⟩) rfl rfl]
  rw [exn_on (n:=n+7) (t:=⟨18,[wr k (min (wr k a) (wr k b)),wr k (max (wr k a) (wr k b)),wr k (if wr k d=0 then wr k a else wr k b),wr k 0,wr k 0,wr k 1],[ntv k (wr k a),ntv k (wr k a)],0⟩) (x:=⟨17,0,0,0,nos⟩) rfl rfl]
  rw [exn_on (n:=n+6) (t:=⟨19,[wr k (min (wr k a) (wr k b)),wr k (max (wr k a) (wr k b)),wr k (if wr k d=0 then wr k a else wr k b),wr k 0,wr k 0,wr k 1],[ntv k (wr k a)],0⟩) (x:=⟨17,0,0,0,nos⟩) rfl rfl]
  rw [exn_on (n:=n+5) (t:=⟨20,[wr k (min (wr k a) (wr k b)),wr k (max (wr k a) (wr k b)),wr k (if wr k d=0 then wr k a else wr k b),wr k (ntv k (wr k a)),wr k 0,wr k 1],[],0⟩) (x:=⟨3,3,0,0,nos⟩) rfl rfl]
  rw [exn_on (n:=n+4) (t:=⟨21,[wr k (min (wr k a) (wr k b)),wr k (max (wr k a) (wr k b)),wr k (if wr k d=0 then wr k a else wr k b),wr k (ntv k (wr k a)),wr k 0,wr k 1],[wr k a],0⟩) (x:=⟨1,k,0,a,nos⟩) rfl rfl]
  rw [exn_on (n:=n+3) (t:=⟨22,[wr k (min (wr k a) (wr k b)),wr k (max (wr k a) (wr k b)),wr k (if wr k d=0 then wr k a else wr k b),wr k (ntv k (wr k a)),wr k 0,wr k 1],[wr k b,wr k a],0⟩) (x:=⟨1,k,0,b,nos⟩) rfl rfl]
  exact exn_off (n:=n+2) (x:=⟨9,k,op,0,nos⟩) rfl (by
    show (if apf op k (wr k b)=0 then _ else Res.stop ⟨22,[wr k (min (wr k a) (wr k b)),wr k (max (wr k a) (wr k b)),wr k (if wr k d=0 then wr k a else wr k b),wr k (ntv k (wr k a)),wr k 0,wr k 1],[wr k b,wr k a],0⟩ (apf op k (wr k b)))=_
    rw [if_neg hf])
end Vmx
end Go.Proofs.YthjclogkcmomkaaGreatDoor
