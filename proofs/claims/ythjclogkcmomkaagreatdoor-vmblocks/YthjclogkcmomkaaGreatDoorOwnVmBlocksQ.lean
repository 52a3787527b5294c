/- Every call of the law of blocks returns true, with all numbers and rows of numbers, and leaves them as they were; conditions: none beyond the table lying as the program lays it (of more than 20 numbers the law itself says true). · What the rows' list gives: the tables lie as the program lays them; and a world in which they do (stage 21). · A row of numbers as an argument (stage 21, after stage 17). -/
import Derived.Test.YthjclogkcmomkaaGreatDoorCards
import Derived.Test.YthjclogkcmomkaaGreatDoorTie
import Derived.WalkKit
import Derived.ProofKit
import Derived.OpenShut
import Derived.Deep.DeepHandedRow
import Derived.Lib.LaidTab
import Derived.Lib.Strings
import Derived.Stop.LaidErr
import Derived.LaidHandle
import Derived.LaidLaws
import Derived.Shelf.Vars
import Derived.Deep.Matrix
import Derived.Deep.Grids
import Derived.Lib.SmallJoins
import Derived.Carry
import Derived.Test.YthjclogkcmomkaaGreatDoorQ1
import Derived.Test.YthjclogkcmomkaaGreatDoorQ2
import Derived.Test.YthjclogkcmomkaaGreatDoorQ3
import Derived.Test.YthjclogkcmomkaaGreatDoorQ49
namespace Go.Proofs.YthjclogkcmomkaaGreatDoor
open Go.ChangeShapes Go.WideShapes Go.ChangeAt Go.RowKit
open Cod Fb
theorem own:ownKnob Tryz.prog.godebug=none:=by kernel_rfl
theorem laidOut:laidOutB Tryz.prog=true:=by kernel_rfl
theorem cellsInt:Tryz.prog.cellsOf 3=1:=by kernel_rfl
theorem cellsStr:Tryz.prog.cellsOf 9=1:=by kernel_rfl
theorem is_str {H:Type} {enc:TypeId × Value→H} {w:World} {base:Nat} {sp:Nat→Bool} {held:Bool} {fuel:Nat} {cs:List Value} {l:List UInt8} {p:List MemPlace} (h:DataW.trod enc Tryz.prog w base sp held fuel 9 cs=some (.lit (.string l),p)):cs=[.string ⟨l.toArray⟩]:=by
  obtain ⟨s,hc,e,_⟩:=DataW.trod_string Tryz.underlying9 h
  have e1:=congrArg Prod.fst e
  simp only [DataW.lit.injEq,Lit.string.injEq] at e1
  rw [hc,e1,Lib.mk_data]
theorem is_int {H:Type} {enc:TypeId × Value→H} {w:World} {base:Nat} {sp:Nat→Bool} {held:Bool} {fuel:Nat} {cs:List Value} {n:Int} {p:List MemPlace} (h:DataW.trod enc Tryz.prog w base sp held fuel 3 cs=some (.lit (.int .i64 n),p)):cs=[.int .i64 n]:=by
  obtain ⟨m,hc,e,_⟩:=DataW.trod_int Tryz.underlying3 h
  have e1:=congrArg Prod.fst e
  simp only [DataW.lit.injEq,Lit.int.injEq,true_and] at e1
  rw [hc,e1]
theorem g_ops : Tryz.prog.globalNamed "rung/code.operators" = some 1 := by kernel_rfl
theorem gt_ops:(Tryz.prog.globals[1]?).map (·.type)=some 203:=by kernel_rfl
theorem c_ops:Tryz.prog.cellsOf 203=75:=by kernel_rfl
theorem cr_ops:Tryz.prog.cellsOf 202=3:=by kernel_rfl
theorem row_ops {H:Type} {enc:TypeId × Value→H} {w:World} {base:Nat} {sp:Nat→Bool} {held:Bool} {fuel:Nat} {cs:List Value} {x0:List UInt8} {x1 x2:Int} {p:List MemPlace}
    (h:DataW.trod enc Tryz.prog w base sp held fuel 202 cs=some (.agg [.lit (.string x0),.lit (.int .i64 x1),.lit (.int .i64 x2)],p)):cs=[.string ⟨x0.toArray⟩,.int .i64 x1,.int .i64 x2]:=by
  cases fuel with
  | zero=>simp [DataW.trod] at h
  | succ fuel =>
    simp only [DataW.trod,Tryz.underlying202,cr_ops] at h
    split at h
    · rename_i hl
      obtain ⟨xs,hm,hx⟩:=Option.map_eq_some_iff.1 h
      have hxs:xs.map (·.1)=[.lit (.string x0),.lit (.int .i64 x1),.lit (.int .i64 x2)]:=by
        have:=congrArg Prod.fst hx
        simpa using this
      have g0:cs[0]?=some (.string ⟨x0.toArray⟩):=by
        obtain ⟨y,hy,hf⟩:=Lib.mapM_at hm 0 _ rfl
        have hy2:(xs.map (·.1))[0]?=some y.1:=by simp [hy]
        rw [hxs] at hy2
        obtain ⟨y1,y2⟩:=y
        obtain rfl:=Option.some.inj hy2
        have q:=is_str hf
        have q2:=congrArg (·[0]?) q
        simpa [List.getElem?_take,List.getElem?_drop,cellsInt,cellsStr] using q2
      have g1:cs[1]?=some (.int .i64 x1):=by
        obtain ⟨y,hy,hf⟩:=Lib.mapM_at hm 1 _ rfl
        have hy2:(xs.map (·.1))[1]?=some y.1:=by simp [hy]
        rw [hxs] at hy2
        obtain ⟨y1,y2⟩:=y
        obtain rfl:=Option.some.inj hy2
        have q:=is_int hf
        have q2:=congrArg (·[0]?) q
        simpa [List.getElem?_take,List.getElem?_drop,cellsInt,cellsStr] using q2
      have g2:cs[2]?=some (.int .i64 x2):=by
        obtain ⟨y,hy,hf⟩:=Lib.mapM_at hm 2 _ rfl
        have hy2:(xs.map (·.1))[2]?=some y.1:=by simp [hy]
        rw [hxs] at hy2
        obtain ⟨y1,y2⟩:=y
        obtain rfl:=Option.some.inj hy2
        have q:=is_int hf
        have q2:=congrArg (·[0]?) q
        simpa [List.getElem?_take,List.getElem?_drop,cellsInt,cellsStr] using q2
      apply List.ext_getElem?
      intro i
      match i with
      | 0=>exact g0
      | 1=>exact g1
      | 2=>exact g2
      | k+3=>rw [List.getElem?_eq_none (by omega),List.getElem?_eq_none (by simp)]
    · cases h
def D_ops {H:Type} (k:Nat):DataW H:=.agg [.lit (.string (opw k)),.lit (.int .i64 (tk k:Nat)),.lit (.int .i64 (pt k:Nat))]
theorem ops_of_trod {w:World} {sp:Nat→Bool} {held:Bool} {fuel:Nat} {cs:List Value} {p:List MemPlace}
    (h:DataW.trod (H:=Unit) (fun _=>()) Tryz.prog w 0 sp held fuel 203 cs=some (Rows.laid_rung_code_operators,p)):cs=ops75:=by
  cases fuel with
  | zero=>simp [DataW.trod] at h
  | succ fuel =>
    simp only [DataW.trod,Tryz.underlying203,cr_ops,c_ops] at h
    split at h
    · rename_i hl
      obtain ⟨xs,hm,hx⟩:=Option.map_eq_some_iff.1 h
      have hxs:xs.map (·.1)=[D_ops 0,D_ops 1,D_ops 2,D_ops 3,D_ops 4,D_ops 5,D_ops 6,D_ops 7,D_ops 8,D_ops 9,D_ops 10,D_ops 11,D_ops 12,D_ops 13,D_ops 14,D_ops 15,D_ops 16,D_ops 17,D_ops 18,D_ops 19,D_ops 20,D_ops 21,D_ops 22,D_ops 23,D_ops 24]:=by
        have:=congrArg Prod.fst hx
        exact DataW.agg.inj this
      have hrow:∀ i,i < 25→(cs.drop (i * 3)).take 3=opv i:=by
        intro i hi
        obtain ⟨y,hy,hf⟩:=Lib.mapM_at hm i i (by simp [hi])
        have hy2:(xs.map (·.1))[i]?=some y.1:=by simp [hy]
        rw [hxs] at hy2
        obtain ⟨y1,y2⟩:=y
        have e:y1=D_ops i:=by
          have hc:i=0 ∨ i=1 ∨ i=2 ∨ i=3 ∨ i=4 ∨ i=5 ∨ i=6 ∨ i=7 ∨ i=8 ∨ i=9 ∨ i=10 ∨ i=11 ∨ i=12 ∨ i=13 ∨ i=14 ∨ i=15 ∨ i=16 ∨ i=17 ∨ i=18 ∨ i=19 ∨ i=20 ∨ i=21 ∨ i=22 ∨ i=23 ∨ i=24:=by omega
          rcases hc with rfl | rfl | rfl | rfl | rfl | rfl | rfl | rfl | rfl | rfl | rfl | rfl | rfl | rfl | rfl | rfl | rfl | rfl | rfl | rfl | rfl | rfl | rfl | rfl | rfl <;> exact (Option.some.inj hy2).symm
        subst e
        exact row_ops hf
      apply List.ext_getElem?
      intro j
      by_cases hj:j < 75
      · have e:ops75[j / 3 * 3+j % 3]?=(opv (j / 3))[j % 3]?:=flat3 (f:=opv) (fun _=>rfl) 25 (j / 3) (j % 3) (by omega) (by omega)
        rw [show j / 3 * 3+j % 3=j by omega] at e
        rw [e,← hrow (j / 3) (by omega),List.getElem?_take,if_pos (by omega),List.getElem?_drop]
        congr 1
        omega
      · rw [List.getElem?_eq_none (by omega),List.getElem?_eq_none (by rw [ops_len];omega)]
    · cases h
theorem ops_of_laid {W : World} {rest : List (String × DataW Unit)} (h : laidMet Tryz.prog (("rung/code.operators", Rows.laid_rung_code_operators) :: rest) W) : ∃ t fr, W.heap[1]? = some (.cells ops75.toArray t fr) := by
  obtain ⟨ps,⟨g,t,cs,fuel,p,q,hg,ht,hvar,hd,_,_⟩,_⟩:=h
  obtain rfl:=Option.some.inj (g_ops.symm.trans hg)
  obtain rfl:=Option.some.inj (gt_ops.symm.trans ht)
  have e:=ops_of_trod hd
  have e2:cs=ops75.toArray:=by
    obtain ⟨l⟩:=cs
    exact congrArg Array.mk e
  subst e2
  simp only [World.var?,g_ops,Option.bind_some] at hvar
  split at hvar
  · rename_i cs t fr hh
    exact ⟨t,fr,by rw [hh,Option.some.inj hvar]⟩
  · cases hvar
theorem big_of_laid {W : World} {rest : List (String × DataW Unit)} (h : laidMet Tryz.prog (("rung/code.operators", Rows.laid_rung_code_operators) :: rest) W) : 1 < W.heap.size := by
  obtain ⟨t,fr,ho⟩:=ops_of_laid h
  exact row_lt ho
/-- What a row's premises give. -/
theorem tabs_of {W : World} (h : laidMetH Tryz.prog [("rung/code.operators", Rows.laid_rung_code_operators)] W) : Tabs W := by
  have h' : laidMet Tryz.prog [("rung/code.operators", Rows.laid_rung_code_operators)] W := h
  obtain ⟨t,fr,ho⟩:=ops_of_laid h'
  refine ⟨fun j u hj=>?_,big_of_laid h'⟩
  simp [World.cell?,ho,hj]
def setV (cs:Array Value):Obj→Obj
  | .cells _ t frozen=>.cells cs t frozen
  | o=>o
def laidIn (w:World):World :=
  { w with heap:=(w.heap.modify 0 (setV #[.iface 142 (.agg #[.pointer (some ⟨2,31,none⟩)])])).modify 1 (setV ops75.toArray) }
end Go.Proofs.YthjclogkcmomkaaGreatDoor
namespace Go.Proofs.YthjclogkcmomkaaGreatDoor
open Go.ChangeShapes Go.WideShapes Go.ChangeAt Go.RowKit Go.Deep Go.Joins
/-- A slice value whose cells are these values. -/
theorem sl_of {W:World} {a:Addr} {len cap:Nat} {vs:List Value} (hl:len=vs.length) (hc:len≤cap) (hcell:∀ i u,vs[i]?=some u→W.cell? (a.add i)=some u):Sl W (.slice (some a) len cap) vs:=by
  by_cases h0:vs=[]
  · subst h0
    subst hl
    exact Or.inl ⟨rfl,some a,cap,rfl,fun h=>by simp at h⟩
  · obtain ⟨b,off,spot⟩:=a
    have hpos:0 < vs.length:=List.length_pos_iff.2 h0
    have hspot:spot=none:=by simpa [Addr.add] using World.cell?_spot (hcell 0 _ (List.getElem?_eq_getElem hpos))
    subst hspot
    refine Or.inr ⟨b,off,cap,by rw [hl],by omega,fun k u hk=>?_⟩
    have hplain:(⟨b,off,none⟩:Addr).add k=⟨b,off+k,none⟩:=by unfold Addr.add;split <;> simp_all
    rw [← hplain]
    exact hcell k u hk
theorem Tryz.cells64:Tryz.prog.cellsOf 2=1:=by kernel_rfl
set_option maxRecDepth 100000 in
theorem open_nums {H:Type} {enc:TypeId × Value→H} {W:World} {base:Nat} {v:Value} {d:DataW H} {p:List MemPlace} (hok:Value.okWide Tryz.prog W .any base 26 v) (h:DataW.Trod enc Tryz.prog W 0 (fun _=>true) true 26 v d p) :
    ∃ ao n c l,v=.slice ao n c∧n=l.length∧Sl W (.slice ao n c) (i64s l)∧n≤9223372036854775807:=by
  obtain ⟨a0,len,cap,rfl⟩:=okWide_slice Tryz.underlying26 hok
  obtain ⟨fuel,hf⟩:=h
  rcases open_ints Tryz.underlying26 Tryz.underlying2 Tryz.cells64 hf with ⟨hcs,_⟩ | ⟨a,len',cap',zs,hcs,_,hl,hm,hz,_,hcell,hwz⟩
  · simp [Value.cells] at hcs
    obtain ⟨rfl,rfl,rfl⟩:=hcs
    exact ⟨none,0,0,[],rfl,rfl,Sl.nil W,by decide⟩
  · simp [Value.cells] at hcs
    obtain ⟨rfl,rfl,rfl⟩:=hcs
    simp only [if_true] at hz
    unfold maxLen at hm
    have hlen:(zs.take len).length=len:=by simp;omega
    refine ⟨_,_,_,zs.take len,rfl,hlen.symm,sl_of (by rw [i64s_len,hlen]) (by omega) fun i u hi=>?_,by omega⟩
    have hil:i < len:=by have:=(List.getElem?_eq_some_iff.1 hi).1;rw [i64s_len,hlen] at this;exact this
    rw [i64s_at _ i (by rw [hlen];exact hil)] at hi
    have e:(zs.take len).getD i 0=zs.getD i 0:=by
      simp only [List.getD_eq_getElem?_getD,List.getElem?_take,if_pos hil]
    rw [hcell i (by omega),← hi,e]
end Go.Proofs.YthjclogkcmomkaaGreatDoor
namespace Go.Proofs.YthjclogkcmomkaaGreatDoor.vmBlocks
open Go.ChangeShapes Go.WideShapes Go.ChangeAt Go.RowKit
open Cod Fb

set_option maxRecDepth 100000 in
theorem contract (H:Type) (enc:TypeId × Value→H) (W:World) (base:Nat) (args:Array Value) (ds gs:List (DataW H)) (before:List MemPlace)
    (hval:∀ (j:Nat) t v,Tryz.f8.params[j]?=some t→args[j]?=some v→Value.okWide Tryz.prog W .any base t v)
    (hW:DataW.Whole enc Tryz.prog Tryz.f8.params.toList Rows.vmBlocksSpec.vars false W args.toList ds gs before) (hL:laidMetH Tryz.prog Rows.vmBlocksRow.laid W) (_hsh:W.ShapedOpen Tryz.prog) :
    Calls Tryz.prog 8 args W fun e W'=>∃ v,e=.returned v∧Rows.vmBlocksSpec.post enc Tryz.prog Tryz.f8 false true false false W args v W':=by
  have hW':=hW
  obtain ⟨p,q,hA0,hV,rfl,hfz,hnd⟩:=hW
  have hA:DataW.TrodAll enc Tryz.prog W 0 (fun _=>true) true Tryz.f8.params.toList args.toList ds p:=hA0
  rw [Tryz.params8] at hA hval
  obtain ⟨v0,vs0,d0,ds0,p0,q0,hargs,rfl,rfl,h0,r0⟩:=trodAll_cons hA
  obtain ⟨v1,vs1,d1,ds1,p1,q1,rfl,rfl,rfl,h1,r1⟩:=trodAll_cons r0
  obtain ⟨v2,vs2,d2,ds2,p2,q2,rfl,rfl,rfl,h2,r2⟩:=trodAll_cons r1
  obtain ⟨v3,vs3,d3,ds3,p3,q3,rfl,rfl,rfl,h3,r3⟩:=trodAll_cons r2
  obtain ⟨v4,vs4,d4,ds4,p4,q4,rfl,rfl,rfl,h4,r4⟩:=trodAll_cons r3
  obtain ⟨rfl,rfl,rfl⟩:=trodAll_nil r4
  obtain rfl:args=#[v0,v1,v2,v3,v4]:=by cases args;simp_all
  obtain ⟨rfl,rfl⟩:=trodVars_none hV
  obtain ⟨before,rfl,rfl,rfl,wbefore⟩:=open_int Tryz.underlying3 (hval 0 3 v0 rfl rfl) h0
  obtain ⟨after,rfl,rfl,rfl,wafter⟩:=open_int Tryz.underlying3 (hval 1 3 v1 rfl rfl) h1
  obtain ⟨a2,n2,c2,l2,rfl,e2,s2,m2⟩:=open_nums (hval 2 26 v2 rfl rfl) h2
  obtain ⟨a3,n3,c3,l3,rfl,e3,s3,m3⟩:=open_nums (hval 3 26 v3 rfl rfl) h3
  obtain ⟨a4,n4,c4,l4,rfl,e4,s4,m4⟩:=open_nums (hval 4 26 v4 rfl rfl) h4
  clear hA0
  simp only [List.append_nil] at hW'
  have hlt2:∀ x ∈ p2,x.block < W.heap.size:=fun x hx=>by simpa using hW'.lt x (by simp [hx])
  have hlt3:∀ x ∈ p3,x.block < W.heap.size:=fun x hx=>by simpa using hW'.lt x (by simp [hx])
  have hlt4:∀ x ∈ p4,x.block < W.heap.size:=fun x hx=>by simpa using hW'.lt x (by simp [hx])
  refine (blocks_all before after s2 e2 s3 e3 s4 e4 (tabs_of hL)).mono fun e W' ⟨he,hb⟩=>?_
  subst he
  exact ⟨_,rfl,_,_,_,[],[] ++ ([] ++ (p2 ++ (p3 ++ (p4 ++ ([]))))),[],(show DataW.Whole enc Tryz.prog _ _ false W _ [.lit (.int .i64 before),.lit (.int .i64 after),d2,d3,d4] [] ([] ++ ([] ++ (p2 ++ (p3 ++ (p4 ++ ([])))))) by simpa using hW'),trodAll_cons_mk (shut_bool Tryz.underlying4 _) trodAll_mk0,trodAll_cons_mk (shut_int Tryz.underlying3 wbefore) (trodAll_cons_mk (shut_int Tryz.underlying3 wafter) (trodAll_cons_mk (Below.trod laidOut (by kernel_rfl) (of_decide_eq_true (by kernel_rfl)) h2 hb hlt2) (trodAll_cons_mk (Below.trod laidOut (by kernel_rfl) (of_decide_eq_true (by kernel_rfl)) h3 hb hlt3) (trodAll_cons_mk (Below.trod laidOut (by kernel_rfl) (of_decide_eq_true (by kernel_rfl)) h4 hb hlt4) (trodAll_mk0))))),rfl,hb.frame _,fun h=>by cases h⟩


theorem laid_met (os:Os):laidMetH Tryz.prog Rows.vmBlocksRow.laid ((laidIn (World.holding Tryz.prog os ⟨#[],#[],[]⟩)).forCall (fun _ _=>0) ⟨#[],#[.int .i64 0,.int .i64 0,.slice none 0 0,.slice none 0 0,.slice none 0 0],[]⟩).memory :=
  laidMetH_of_parts (laidMet_of_run' 8 (by kernel_rfl) (by kernel_rfl)) (by kernel_rfl)
theorem reads (os:Os) {H:Type} (enc:TypeId × Value→H):∃ places,DataW.whole enc Tryz.prog ((laidIn (World.holding Tryz.prog os ⟨#[],#[],[]⟩)).forCall (fun _ _=>0) ⟨#[],#[.int .i64 0,.int .i64 0,.slice none 0 0,.slice none 0 0,.slice none 0 0],[]⟩).memory Tryz.f8.params.toList Rows.vmBlocksSpec.vars false #[Value.int .i64 0,Value.int .i64 0,Value.slice none 0 0,Value.slice none 0 0,Value.slice none 0 0].toList 8=some ([.lit (.int .i64 0),.lit (.int .i64 0),.nil,.nil,.nil],[],places) :=
  ⟨[],by kernel_rfl⟩

set_option maxRecDepth 100000 in
theorem lifted (os:Os) (started:os.Started) (H:Type) (enc:TypeId × Value→H) (F:Stop.Interp) :
    ReturnsInHanded {} Tryz.checked os 8 .any ((OpenSpec.ofChange Rows.vmBlocksSpec).preRow enc Tryz.prog Tryz.f8 Rows.vmBlocksRow.domain false Rows.vmBlocksRow.laid) (((OpenSpec.ofChange Rows.vmBlocksSpec).at F).post enc Tryz.prog Tryz.f8 false true false false):=by
  obtain ⟨places,hx⟩:=reads os enc
  refine returnsInHanded_of_row (C:=Tryz.checked) (s:=OpenSpec.ofChange Rows.vmBlocksSpec) own started (by kernel_rfl) Tryz.func8
    (witness_row_at (enc:=enc) (C:=Tryz.checked) false (laidIn (World.holding Tryz.prog os ⟨#[],#[],[]⟩)) #[.int .i64 0,.int .i64 0,.slice none 0 0,.slice none 0 0,.slice none 0 0] rfl (by kernel_rfl) (by kernel_rfl) (by kernel_rfl)
      (OpenSpec.preRow_of_cond 8 hx (by kernel_rfl) (fun k hk=>by cases hk) (by kernel_rfl) (laid_met os))) ?_
  intro W base args ds gs before hval hW _ _ _ hL hsh _
  exact contract H enc W base args ds gs before hval hW hL hsh

theorem said:Rows.VmBlocksSaid :=
  OpenClaim.holds_of_cond 8 Tryz.f8 rfl rfl rfl rfl rfl rfl rfl ⟨rfl,rfl,rfl,rfl,rfl⟩ rfl rfl rfl rfl rfl (by kernel_rfl) Tryz.func8 (by kernel_rfl)
    (of_decide_eq_true (by kernel_rfl)) (by unfold Func.isWrapper;first | (rw [if_pos (by decide +kernel)];kernel_rfl) | (rw [if_neg (by decide +kernel)];exact ⟨rfl,rfl⟩))
    (fun os started H enc _ F=>by rw [OpenClaim.pre_eq_preRow];exact lifted os started H enc F)

theorem plain (f : FuncId) (fn : Func) (hf : Tryz.pinned.checked.prog.funcNamed "rung/runglaw21.VmBlocks" = some f) (hfn : Tryz.pinned.checked.prog.funcs[f]? = some fn) :
    true=Tryz.pinned.checked.prog.looks []∧∀ (j:Nat) t,fn.params[j]?=some t→Tryz.pinned.checked.prog.wantsStandIn t=false:=by
  obtain rfl : f = 8 := Option.some.inj ((show Tryz.prog.funcNamed "rung/runglaw21.VmBlocks" = some 8 by kernel_rfl).symm.trans hf) |>.symm
  obtain rfl:fn=Tryz.f8:=(Option.some.inj (Tryz.func8.symm.trans hfn)).symm
  refine ⟨by kernel_rfl,fun j t ht=>?_⟩
  rw [Tryz.params8] at ht
  have hm:=Array.mem_of_getElem? ht
  have hc:t=3 ∨ t=26:=by simpa using hm
  rcases hc with rfl | rfl
  · exact (show Tryz.prog.wantsStandIn 3=false by kernel_rfl)
  · exact (show Tryz.prog.wantsStandIn 26=false by kernel_rfl)

end Go.Proofs.YthjclogkcmomkaaGreatDoor.vmBlocks
namespace Go.Proofs.YthjclogkcmomkaaGreatDoor
theorem vmBlocks_card:Rows.VmBlocksCardSaid :=
  Claim7.holds_tied_plain_at .later [] _ _ _ _ vmBlocks.said (fun _ h=>by cases h) (by kernel_rfl) (fun _ h=>by cases h) vmBlocks_row_tie rfl ⟨rfl,rfl⟩ (by kernel_rfl) rfl vmBlocks.plain (by kernel_rfl)
end Go.Proofs.YthjclogkcmomkaaGreatDoor
