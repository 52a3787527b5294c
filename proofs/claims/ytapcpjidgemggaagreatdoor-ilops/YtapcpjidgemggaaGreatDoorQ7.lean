/- What an error tells: errors.As at our one sort of error, the help's Told (stage 12, carried over). · What an error tells: errors.As walked, the help's Told (stage 12, carried over). · The help's Told (stage 12, carried over). -/
import Derived.LaidEql
import Derived.Stop.Asserts
import Derived.RowKitTokens
import Derived.Deep.CutRange
import Derived.Test.YtapcpjidgemggaaGreatDoorQ1
import Derived.Test.YtapcpjidgemggaaGreatDoorQ3
namespace Go.Proofs.YtapcpjidgemggaaGreatDoor
open Go.RowKit Go.Extern.Stop Go.Stop Go.Extern
open Adr Lx
theorem as_valueOf (t:Addr) (w:World):(ReflectliteValue.unpack (.iface 80 (.pointer (some t)))).run Tryz.prog w
    = .ok (.agg #[.pointer (some ⟨6,80,none⟩),.pointer (some ⟨w.heap.size,0,none⟩),.int .u64 150]) (w.alloc (.cells #[.pointer (some t)] 80)):=by kernel_rfl
theorem as_type (a : Addr) (w : World) : (ReflectliteValue.methodAny (ReflectliteValue.valueError "reflectlite.Value.Type" 0) (fun t _ _ _ => ReflectliteType.toType t) #[.agg #[.pointer (some ⟨6, 80, none⟩), .pointer (some a), .int .u64 150]]).run Tryz.prog w
    = .ok (.iface 166 (.agg #[.pointer (some ⟨6,80,none⟩)])) w:=by kernel_rfl
theorem as_mKind (h : Value) (w : World) : (Go.method 375 166 (.agg #[h]) "Kind").run Tryz.prog w = .ok (214, h) w := by kernel_rfl
theorem as_kind2 (w:World):((ReflectliteType.abiMethod fun t=>(fun a:Nat=>Value.int IntKind.u8 (a:Int)) <$> Rtype.kind t) #[.pointer (some ⟨6,80,none⟩)]).run Tryz.prog w=.ok (.int .u8 22) w:=by kernel_rfl
theorem as_kind1 (w:World):((ReflectliteType.abiMethod fun t=>(fun a:Nat=>Value.int IntKind.u8 (a:Int)) <$> Rtype.kind t) #[.pointer (some ⟨6,78,none⟩)]).run Tryz.prog w=.ok (.int .u8 22) w:=by kernel_rfl
theorem run_parts1 {c:Sem Value} {v:Value} {R:Option (TypeId × Addr × Nat)→Sem Value} {W:World} {p:Option (TypeId × Addr × Nat)} {res:Result Value} (hc:c=(ReflectliteValue.parts v >>= fun p=>R p)) (hp:(ReflectliteValue.parts v).run Tryz.prog W=.ok p W) (h:(R p).run Tryz.prog W=res):c.run Tryz.prog W=res:=by
  subst hc
  simp only [Sem.run_bind,hp,Result.andThen]
  exact h
theorem run_parts2 {c:Sem Value} {v x:Value} {R:Option (TypeId × Addr × Nat)→Option (TypeId × Addr × Nat)→Sem Value} {W:World} {p q:Option (TypeId × Addr × Nat)} {res:Result Value} (hc:c=(ReflectliteValue.parts v >>= fun p=>ReflectliteValue.parts x >>= fun q=>R p q)) (hp:(ReflectliteValue.parts v).run Tryz.prog W=.ok p W) (hq:(ReflectliteValue.parts x).run Tryz.prog W=.ok q W) (h:(R p q).run Tryz.prog W=res):c.run Tryz.prog W=res:=by
  subst hc
  simp only [Sem.run_bind,hp,hq,Result.andThen]
  exact h
theorem as_parts2 (a:Addr) (w:World):(ReflectliteValue.parts (.agg #[.pointer (some ⟨6,80,none⟩),.pointer (some a),.int .u64 150])).run Tryz.prog w=.ok (some (80,a,150)) w:=by kernel_rfl
theorem as_isNil (a p:Addr) (W:World) (ha:W.cell? a=some (.pointer (some p))) :
    (ReflectliteValue.method (ReflectliteValue.valueError "reflectlite.Value.IsNil" 0) ReflectliteValue.isNil #[.agg #[.pointer (some ⟨6, 80, none⟩), .pointer (some a), .int .u64 150]]).run Tryz.prog W = .ok (.bool false) W := by
  refine run_parts1 rfl (as_parts2 _ _) ?_
  dsimp only
  simp [ReflectliteValue.isNil,loadVar,isAgg,underlying,Tryz.underlying80,ha,Result.andThen]
theorem as_mElem (h : Value) (w : World) : (Go.method 375 166 (.agg #[h]) "Elem").run Tryz.prog w = .ok (226, .agg #[h]) w := by kernel_rfl
theorem as_mImpl (h : Value) (w : World) : (Go.method 375 166 (.agg #[h]) "Implements").run Tryz.prog w = .ok (227, .agg #[h]) w := by kernel_rfl
theorem as_mAssign (h : Value) (w : World) : (Go.method 375 166 (.agg #[h]) "AssignableTo").run Tryz.prog w = .ok (224, .agg #[h]) w := by kernel_rfl
theorem as_elemT (w:World):(ReflectliteType.method ReflectliteType.elem #[.agg #[.pointer (some ⟨6,80,none⟩)]]).run Tryz.prog w=.ok (.iface 166 (.agg #[.pointer (some ⟨6,78,none⟩)])) w:=by kernel_rfl
theorem as_impl (w : World) : (ReflectliteType.relation "Implements" ReflectliteType.implements_ #[.agg #[.pointer (some ⟨6, 78, none⟩)], .iface 166 (.agg #[.pointer (some ⟨6, 35, none⟩)])]).run Tryz.prog w = .ok (.bool true) w := by kernel_rfl
theorem as_typeOf (v:Value) (w:World):(ReflectliteType.typeOf #[.iface 78 v]).run Tryz.prog w=.ok (.iface 166 (.agg #[.pointer (some ⟨6,78,none⟩)])) w:=by kernel_rfl
theorem as_assign (w : World) : (ReflectliteType.relation "AssignableTo" ReflectliteType.assignableTo #[.agg #[.pointer (some ⟨6, 78, none⟩)], .iface 166 (.agg #[.pointer (some ⟨6, 78, none⟩)])]).run Tryz.prog w = .ok (.bool true) w := by kernel_rfl
theorem as_valueOf1 (e:Addr) (w:World):(ReflectliteValue.unpack (.iface 78 (.pointer (some e)))).run Tryz.prog w
    = .ok (.agg #[.pointer (some ⟨6,78,none⟩),.pointer (some ⟨w.heap.size,0,none⟩),.int .u64 150]) (w.alloc (.cells #[.pointer (some e)] 78)):=by kernel_rfl
theorem as_elemOf (w:World):(Rtype.elem? 80).run Tryz.prog w=.ok (some 78) w:=by kernel_rfl
theorem as_mk (p:Addr) (w:World):(ReflectliteValue.mk 78 p ReflectliteValue.flagAddr).run Tryz.prog w=.ok (.agg #[.pointer (some ⟨6,78,none⟩),.pointer (some p),.int .u64 406]) w:=by kernel_rfl
theorem as_elemV (a p:Addr) (W:World) (ha:W.cell? a=some (.pointer (some p))) :
    (ReflectliteValue.method (ReflectliteValue.valueError "reflectlite.Value.Elem" 0) ReflectliteValue.elem #[.agg #[.pointer (some ⟨6, 80, none⟩), .pointer (some a), .int .u64 150]]).run Tryz.prog W
      = .ok (.agg #[.pointer (some ⟨6,78,none⟩),.pointer (some p),.int .u64 406]) W:=by
  refine run_parts1 rfl (as_parts2 _ _) ?_
  dsimp only
  simp [ReflectliteValue.elem,loadVar,isAgg,underlying,Tryz.underlying80,ha,Result.andThen,as_elemOf,as_mk]
theorem as_parts1a (a:Addr) (w:World):(ReflectliteValue.parts (.agg #[.pointer (some ⟨6,78,none⟩),.pointer (some a),.int .u64 406])).run Tryz.prog w=.ok (some (78,a,406)) w:=by kernel_rfl
theorem as_parts1 (a:Addr) (w:World):(ReflectliteValue.parts (.agg #[.pointer (some ⟨6,78,none⟩),.pointer (some a),.int .u64 150])).run Tryz.prog w=.ok (some (78,a,150)) w:=by kernel_rfl
theorem as_direct (w:World):(Rtype.directlyAssignable 78 78).run Tryz.prog w=.ok true w:=by kernel_rfl
theorem as_set (ta b e:Addr) (old:Value) (W:World) (hb:W.cell? b=some (.pointer (some e))) (ht:W.cell? ta=some old) (hf:W.frozen? ta=false) :
    (ReflectliteValue.set #[.agg #[.pointer (some ⟨6,78,none⟩),.pointer (some ta),.int .u64 406],.agg #[.pointer (some ⟨6,78,none⟩),.pointer (some b),.int .u64 150]]).run Tryz.prog W
      = .ok (.tuple #[]) (W.setCell ta (.pointer (some e))):=by
  refine run_parts2 rfl (as_parts1a _ _) (as_parts1 _ _) ?_
  dsimp only
  simp [ReflectliteValue.flagAddr,loadVar,isAgg,underlying,Tryz.underlying78,hb,Result.andThen,as_direct,storeVar,Value.cells,storeCells,Addr.add]
  rw [run_store Tryz.prog W ta _ _ (by rfl)]
  simp [ht,hf]
open Go.RowKit Go.Extern.Stop Go.Stop Go.Extern
open Adr Lx
set_option maxHeartbeats 4000000 in
set_option maxRecDepth 100000 in
theorem as_hit (e t:Addr) (old:Value) (w:World) (hg:w.cell? ⟨0,0,none⟩=some (.iface 166 (.agg #[.pointer (some ⟨6,35,none⟩)]))) (ht0:w.cell? t=some old) (hf0:w.frozen? t=false) :
    Calls Tryz.prog 26 #[.iface 78 (.pointer (some e)),.iface 80 (.pointer (some t))] w fun ev w'=>ev=.returned (.bool true)∧w'=((((w.alloc (.cells #[.pointer (some t)] 80)).alloc (.cells #[.pointer (some ⟨6,80,none⟩),.pointer (some ⟨w.heap.size,0,none⟩),.int .u64 150] 123)).alloc (.cells #[.pointer (some ⟨6,80,none⟩),.pointer (some ⟨w.heap.size,0,none⟩),.int .u64 150] 123)).alloc (.cells #[.pointer (some e)] 78)).setCell t (.pointer (some e)):=by
  have h37:=@run_callFunc_extern Tryz.prog 53 _ (fun args=>ReflectliteValue.unpack (args.getD 0 (.tuple #[]))) Tryz.func53 (by kernel_rfl) (by kernel_rfl) (by kernel_rfl) (by kernel_rfl)
  have h38 := @run_callFunc_extern Tryz.prog 54 _ (ReflectliteValue.methodAny (ReflectliteValue.valueError "reflectlite.Value.Type" 0) (fun t _ _ _ => ReflectliteType.toType t)) Tryz.func54 (by kernel_rfl) (by kernel_rfl) (by kernel_rfl) (by kernel_rfl)
  have h39 := @run_callFunc_extern Tryz.prog 55 _ (ReflectliteValue.method (ReflectliteValue.valueError "reflectlite.Value.IsNil" 0) ReflectliteValue.isNil) Tryz.func55 (by kernel_rfl) (by kernel_rfl) (by kernel_rfl) (by kernel_rfl)
  have h103:=@run_callFunc_extern Tryz.prog 214 _ (ReflectliteType.abiMethod fun t=>do pure (.int .u8 (← Rtype.kind t))) Tryz.func214 (by kernel_rfl) (by kernel_rfl) (by kernel_rfl) (by kernel_rfl)
  have h115:=@run_callFunc_extern Tryz.prog 226 _ (ReflectliteType.method ReflectliteType.elem) Tryz.func226 (by kernel_rfl) (by kernel_rfl) (by kernel_rfl) (by kernel_rfl)
  have h116 := @run_callFunc_extern Tryz.prog 227 _ (ReflectliteType.relation "Implements" ReflectliteType.implements_) Tryz.func227 (by kernel_rfl) (by kernel_rfl) (by kernel_rfl) (by kernel_rfl)
  have h56:=@run_callFunc_extern Tryz.prog 100 _ ReflectliteType.typeOf Tryz.func100 (by kernel_rfl) (by kernel_rfl) (by kernel_rfl) (by kernel_rfl)
  have h113 := @run_callFunc_extern Tryz.prog 224 _ (ReflectliteType.relation "AssignableTo" ReflectliteType.assignableTo) Tryz.func224 (by kernel_rfl) (by kernel_rfl) (by kernel_rfl) (by kernel_rfl)
  have h57 := @run_callFunc_extern Tryz.prog 101 _ (ReflectliteValue.method (ReflectliteValue.valueError "reflectlite.Value.Elem" 0) ReflectliteValue.elem) Tryz.func101 (by kernel_rfl) (by kernel_rfl) (by kernel_rfl) (by kernel_rfl)
  have h58:=@run_callFunc_extern Tryz.prog 102 _ ReflectliteValue.set Tryz.func102 (by kernel_rfl) (by kernel_rfl) (by kernel_rfl) (by kernel_rfl)
  have tO:=as_typeOf
  have mA:=as_mAssign
  have a25:=as_assign
  have v25:=as_valueOf1
  have f6:=as_valueOf
  have f7:=as_type
  have mK:=as_mKind
  have mE:=as_mElem
  have mI:=as_mImpl
  have k27:=as_kind2
  have k25:=as_kind1
  have e27:=as_elemT
  have i25:=as_impl
  have hlt:0 < w.heap.size:=by
    by_cases h:0 < w.heap.size
    · exact h
    · simp [World.cell?,Array.getElem?_eq_none (Nat.le_of_not_lt h)] at hg
  have htl:t.block < w.heap.size:=by
    rcases Nat.lt_or_ge t.block w.heap.size with h | h
    · exact h
    · simp [World.cell?,Array.getElem?_eq_none h] at ht0
  have n8:=as_isNil ⟨w.heap.size,0,none⟩ t ((w.alloc (.cells #[.pointer (some t)] 80)).alloc (.cells #[.pointer (some ⟨6,80,none⟩),.pointer (some ⟨w.heap.size,0,none⟩),.int .u64 150] 123)) (by simp)
  have hg2:((w.alloc (.cells #[.pointer (some t)] 80)).alloc (.cells #[.pointer (some ⟨6,80,none⟩),.pointer (some ⟨w.heap.size,0,none⟩),.int .u64 150] 123)).cell? ⟨0,0,none⟩=some (.iface 166 (.agg #[.pointer (some ⟨6,35,none⟩)])):=by
    rw [World.cell?_alloc_lt _ _ ⟨0,0,none⟩ (by simp),World.cell?_alloc_lt _ _ ⟨0,0,none⟩ hlt];exact hg
  have el:=as_elemV ⟨w.heap.size,0,none⟩ t (((w.alloc (.cells #[.pointer (some t)] 80)).alloc (.cells #[.pointer (some ⟨6,80,none⟩),.pointer (some ⟨w.heap.size,0,none⟩),.int .u64 150] 123)).alloc (.cells #[.pointer (some ⟨6,80,none⟩),.pointer (some ⟨w.heap.size,0,none⟩),.int .u64 150] 123)) (by rw [World.cell?_alloc_lt _ _ ⟨w.heap.size,0,none⟩ (by simp;omega)];simp)
  have st:=as_set t ⟨w.heap.size+1+1+1,0,none⟩ e old ((((w.alloc (.cells #[.pointer (some t)] 80)).alloc (.cells #[.pointer (some ⟨6,80,none⟩),.pointer (some ⟨w.heap.size,0,none⟩),.int .u64 150] 123)).alloc (.cells #[.pointer (some ⟨6,80,none⟩),.pointer (some ⟨w.heap.size,0,none⟩),.int .u64 150] 123)).alloc (.cells #[.pointer (some e)] 78))
    (by rw [World.cell?_alloc_at _ _ _ _ (by simp)];rfl)
    (by rw [World.cell?_alloc_lt _ _ t (by simp;omega),World.cell?_alloc_lt _ _ t (by simp;omega),World.cell?_alloc_lt _ _ t (by simp;omega),World.cell?_alloc_lt _ _ t htl];exact ht0)
    (by rw [World.frozen?_alloc_old _ _ t (by simp;omega),World.frozen?_alloc_old _ _ t (by simp;omega),World.frozen?_alloc_old _ _ t (by simp;omega),World.frozen?_alloc_old _ _ t (Nat.ne_of_lt htl)];exact hf0)
  go_enter Tryz.func26,Tryz.ntmps26
  go_wp2
  refine wp_loop_rounds 1 ?_
  rw [rounds_succ]
  go_wp2
  go_ret
  exact ⟨rfl,rfl⟩
open Go.RowKit
open Adr Lx
/-- The place and the number of an error. -/
theorem told_err (g a n:Nat) (w:World) (hT:Tabs w) (h0:w.cell? ⟨g,0,none⟩=some (.int .i64 a)) (h1:w.cell? ⟨g,1,none⟩=some (.int .i64 n)):Calls Tryz.prog 12 #[.iface 78 (.pointer (some ⟨g,0,none⟩))] w fun e w'=>e=.returned (.tuple #[.int .i64 a,.int .i64 n])∧Below w.heap.size w w':=by
  have hgl:g < w.heap.size:=by
    rcases Nat.lt_or_ge g w.heap.size with h | h
    · exact h
    · simp [World.cell?,Array.getElem?_eq_none h] at h0
  have hN:=below_new1 w (.cells #[.pointer none] 78)
  have q0:(w.alloc (.cells #[.pointer none] 78)).cell? ⟨w.heap.size,0,none⟩=some (.pointer none):=by simp
  have qf:(w.alloc (.cells #[.pointer none] 78)).frozen? ⟨w.heap.size,0,none⟩=false:=by simp
  have A:=hid_as (as_hit ⟨g,0,none⟩ ⟨w.heap.size,0,none⟩ _ _ (hT.below hN).err q0 qf)
  clear q0 qf
  have hs:(w.alloc (.cells #[.pointer none] 78)).heap.size=w.heap.size+1:=by simp
  have B:Hid (Calls Tryz.prog 26 #[.iface 78 (.pointer (some ⟨g,0,none⟩)),.iface 80 (.pointer (some ⟨w.heap.size,0,none⟩))] (w.alloc (.cells #[.pointer none] 78)) fun e w'=>e=.returned (.bool true)∧Below w.heap.size w w'∧w'.cell? ⟨w.heap.size,0,none⟩=some (.pointer (some ⟨g,0,none⟩))∧w'.cell? ⟨g,0,none⟩=some (.int .i64 a)∧w'.cell? ⟨g,1,none⟩=some (.int .i64 n)):=by
    refine A.out.mono ?_
    rintro e w' ⟨rfl,rfl⟩
    have hB:Below w.heap.size w (((((w.alloc (.cells #[.pointer none] 78)).alloc (.cells #[.pointer (some ⟨w.heap.size,0,none⟩)] 80)).alloc (.cells #[.pointer (some ⟨6,80,none⟩),.pointer (some ⟨(w.alloc (.cells #[.pointer none] 78)).heap.size,0,none⟩),.int .u64 150] 123)).alloc (.cells #[.pointer (some ⟨6,80,none⟩),.pointer (some ⟨(w.alloc (.cells #[.pointer none] 78)).heap.size,0,none⟩),.int .u64 150] 123)).alloc (.cells #[.pointer (some ⟨g,0,none⟩)] 78)) :=
      (((hN.alloc (by simp) _).alloc (by simp;omega) _).alloc (by simp;omega) _).alloc (by simp;omega) _
    have hB2:=hB.setCell (p:=⟨w.heap.size,0,none⟩) (Nat.le_refl _) (.pointer (some ⟨g,0,none⟩))
    refine ⟨rfl,hB2,?_,(hB2.cell (p:=⟨g,0,none⟩) hgl).trans h0,(hB2.cell (p:=⟨g,1,none⟩) hgl).trans h1⟩
    refine World.cell?_setCell_same _ _ _ (u:=.pointer none) ?_
    rw [World.cell?_alloc_lt _ _ ⟨w.heap.size,0,none⟩ (by simp;omega),World.cell?_alloc_lt _ _ ⟨w.heap.size,0,none⟩ (by simp;omega),World.cell?_alloc_lt _ _ ⟨w.heap.size,0,none⟩ (by simp;omega),World.cell?_alloc_lt _ _ ⟨w.heap.size,0,none⟩ (by simp)]
    simp
  clear A hs hN
  go_enter Tryz.func12,Tryz.ntmps12
  go_upto_region 6 with (go_at_call 26;refine B.out.mono ?_;rintro e w3 ⟨rfl,hb3,p0,p1,p2⟩)
  have HB:=hid_as hb3
  clear hb3
  go_region
  go_wp2
  go_ret2
  first | exact ⟨rfl,HB.out.drew⟩ | exact ⟨rfl,HB.out.trans ((Same.drewN _ _).below.mono HB.out.size)⟩
end Go.Proofs.YtapcpjidgemggaaGreatDoor
