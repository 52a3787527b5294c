/- What the rows' list gives: the tables lie as the program lays them; and a world in which they do (stage 12, carried over). -/
import Derived.Test.YtapcpjidgemggaaGreatDoorCards
import Derived.Test.YtapcpjidgemggaaGreatDoorTie
import Derived.WalkKit
import Derived.ProofKit
import Derived.OpenShut
import Derived.Deep.DeepHandedRow
import Derived.Lib.LaidTab
import Derived.Lib.Strings
import Derived.Stop.LaidErr
import Derived.LaidHandle
import Derived.LaidLaws
import Derived.Shelf.Vars
import Derived.Test.YtapcpjidgemggaaGreatDoorQ1
namespace Go.Proofs.YtapcpjidgemggaaGreatDoor
open Go.ChangeShapes Go.WideShapes Go.ChangeAt Go.RowKit
open Adr Lx
theorem own:ownKnob Tryz.prog.godebug=none:=by kernel_rfl
theorem cellsInt:Tryz.prog.cellsOf 3=1:=by kernel_rfl
theorem cellsInt64:Tryz.prog.cellsOf 2=1:=by kernel_rfl
theorem cellsStr:Tryz.prog.cellsOf 9=1:=by kernel_rfl
theorem cellsBool:Tryz.prog.cellsOf 4=1:=by kernel_rfl
theorem is_str {H:Type} {enc:TypeId × Value→H} {w:World} {base:Nat} {sp:Nat→Bool} {held:Bool} {fuel:Nat} {cs:List Value} {l:List UInt8} {p:List MemPlace} (h:DataW.trod enc Tryz.prog w base sp held fuel 9 cs=some (.lit (.string l),p)):cs=[.string ⟨l.toArray⟩]:=by
  obtain ⟨s,hc,e,_⟩:=DataW.trod_string Tryz.underlying9 h
  have e1:=congrArg Prod.fst e
  simp only [DataW.lit.injEq,Lit.string.injEq] at e1
  rw [hc,e1,Lib.mk_data]
theorem is_int {H:Type} {enc:TypeId × Value→H} {w:World} {base:Nat} {sp:Nat→Bool} {held:Bool} {fuel:Nat} {cs:List Value} {n:Int} {p:List MemPlace} (h:DataW.trod enc Tryz.prog w base sp held fuel 3 cs=some (.lit (.int .i64 n),p)):cs=[.int .i64 n]:=by
  obtain ⟨m,hc,e,_⟩:=DataW.trod_int Tryz.underlying3 h
  have e1:=congrArg Prod.fst e
  simp only [DataW.lit.injEq,Lit.int.injEq,true_and] at e1
  rw [hc,e1]
theorem is_int64 {H:Type} {enc:TypeId × Value→H} {w:World} {base:Nat} {sp:Nat→Bool} {held:Bool} {fuel:Nat} {cs:List Value} {n:Int} {p:List MemPlace} (h:DataW.trod enc Tryz.prog w base sp held fuel 2 cs=some (.lit (.int .i64 n),p)):cs=[.int .i64 n]:=by
  obtain ⟨m,hc,e,_⟩:=DataW.trod_int Tryz.underlying2 h
  have e1:=congrArg Prod.fst e
  simp only [DataW.lit.injEq,Lit.int.injEq,true_and] at e1
  rw [hc,e1]
theorem is_bool {H:Type} {enc:TypeId × Value→H} {w:World} {base:Nat} {sp:Nat→Bool} {held:Bool} {fuel:Nat} {cs:List Value} {b:Bool} {p:List MemPlace} (h:DataW.trod enc Tryz.prog w base sp held fuel 4 cs=some (.lit (.bool b),p)):cs=[.bool b]:=by
  obtain ⟨m,hc,e⟩:=DataW.trod_bool Tryz.underlying4 h
  have e1:=congrArg Prod.fst e
  simp only [DataW.lit.injEq,Lit.bool.injEq] at e1
  rw [hc,e1]
theorem g_areas : Tryz.prog.globalNamed "rung/addr.areas" = some 4 := by kernel_rfl
theorem gt_areas:(Tryz.prog.globals[4]?).map (·.type)=some 219:=by kernel_rfl
theorem c_areas:Tryz.prog.cellsOf 219=35:=by kernel_rfl
theorem cr_areas:Tryz.prog.cellsOf 218=5:=by kernel_rfl
theorem row_areas {H:Type} {enc:TypeId × Value→H} {w:World} {base:Nat} {sp:Nat→Bool} {held:Bool} {fuel:Nat} {cs:List Value} {x0:List UInt8} {x1:Int} {x2:Bool} {x3:Int} {x4:Int} {p:List MemPlace}
    (h:DataW.trod enc Tryz.prog w base sp held fuel 218 cs=some (.agg [.lit (.string x0),.lit (.int .i64 x1),.lit (.bool x2),.lit (.int .i64 x3),.lit (.int .i64 x4)],p)):cs=[.string ⟨x0.toArray⟩,.int .i64 x1,.bool x2,.int .i64 x3,.int .i64 x4]:=by
  cases fuel with
  | zero=>simp [DataW.trod] at h
  | succ fuel =>
    simp only [DataW.trod,Tryz.underlying218,cr_areas] at h
    split at h
    · rename_i hl
      obtain ⟨xs,hm,hx⟩:=Option.map_eq_some_iff.1 h
      have hxs:xs.map (·.1)=[.lit (.string x0),.lit (.int .i64 x1),.lit (.bool x2),.lit (.int .i64 x3),.lit (.int .i64 x4)]:=by
        have:=congrArg Prod.fst hx
        simpa using this
      have g0:cs[0]?=some (.string ⟨x0.toArray⟩):=by
        obtain ⟨y,hy,hf⟩:=Lib.mapM_at hm 0 _ rfl
        have hy2:(xs.map (·.1))[0]?=some y.1:=by simp [hy]
        rw [hxs] at hy2
        obtain ⟨y1,y2⟩:=y
        obtain rfl:=Option.some.inj hy2
        have q:=is_str hf
        have q2:=congrArg (·[0]?) q
        simpa [List.getElem?_take,List.getElem?_drop,cellsInt,cellsInt64,cellsStr,cellsBool] using q2
      have g1:cs[1]?=some (.int .i64 x1):=by
        obtain ⟨y,hy,hf⟩:=Lib.mapM_at hm 1 _ rfl
        have hy2:(xs.map (·.1))[1]?=some y.1:=by simp [hy]
        rw [hxs] at hy2
        obtain ⟨y1,y2⟩:=y
        obtain rfl:=Option.some.inj hy2
        have q:=is_int hf
        have q2:=congrArg (·[0]?) q
        simpa [List.getElem?_take,List.getElem?_drop,cellsInt,cellsInt64,cellsStr,cellsBool] using q2
      have g2:cs[2]?=some (.bool x2):=by
        obtain ⟨y,hy,hf⟩:=Lib.mapM_at hm 2 _ rfl
        have hy2:(xs.map (·.1))[2]?=some y.1:=by simp [hy]
        rw [hxs] at hy2
        obtain ⟨y1,y2⟩:=y
        obtain rfl:=Option.some.inj hy2
        have q:=is_bool hf
        have q2:=congrArg (·[0]?) q
        simpa [List.getElem?_take,List.getElem?_drop,cellsInt,cellsInt64,cellsStr,cellsBool] using q2
      have g3:cs[3]?=some (.int .i64 x3):=by
        obtain ⟨y,hy,hf⟩:=Lib.mapM_at hm 3 _ rfl
        have hy2:(xs.map (·.1))[3]?=some y.1:=by simp [hy]
        rw [hxs] at hy2
        obtain ⟨y1,y2⟩:=y
        obtain rfl:=Option.some.inj hy2
        have q:=is_int hf
        have q2:=congrArg (·[0]?) q
        simpa [List.getElem?_take,List.getElem?_drop,cellsInt,cellsInt64,cellsStr,cellsBool] using q2
      have g4:cs[4]?=some (.int .i64 x4):=by
        obtain ⟨y,hy,hf⟩:=Lib.mapM_at hm 4 _ rfl
        have hy2:(xs.map (·.1))[4]?=some y.1:=by simp [hy]
        rw [hxs] at hy2
        obtain ⟨y1,y2⟩:=y
        obtain rfl:=Option.some.inj hy2
        have q:=is_int hf
        have q2:=congrArg (·[0]?) q
        simpa [List.getElem?_take,List.getElem?_drop,cellsInt,cellsInt64,cellsStr,cellsBool] using q2
      apply List.ext_getElem?
      intro i
      match i with
      | 0=>exact g0
      | 1=>exact g1
      | 2=>exact g2
      | 3=>exact g3
      | 4=>exact g4
      | k+5=>rw [List.getElem?_eq_none (by omega),List.getElem?_eq_none (by simp)]
    · cases h
def V_areas (k:Nat):List Value:=[.string (hed k),.int .i64 (sz k),.bool (bt k),.int .i64 (tb k),.int .i64 (frs k)]
def D_areas {H:Type} (k:Nat):DataW H:=.agg [.lit (.string (hed k).data.toList),.lit (.int .i64 (sz k)),.lit (.bool (bt k)),.lit (.int .i64 (tb k)),.lit (.int .i64 (frs k))]
theorem at_areas:∀ (j:Nat),j < 35→(V_areas (j / 5))[j % 5]?=cells35.toList[j]?
  | 0,_=>rfl
  | 1,_=>rfl
  | 2,_=>rfl
  | 3,_=>rfl
  | 4,_=>rfl
  | 5,_=>rfl
  | 6,_=>rfl
  | 7,_=>rfl
  | 8,_=>rfl
  | 9,_=>rfl
  | 10,_=>rfl
  | 11,_=>rfl
  | 12,_=>rfl
  | 13,_=>rfl
  | 14,_=>rfl
  | 15,_=>rfl
  | 16,_=>rfl
  | 17,_=>rfl
  | 18,_=>rfl
  | 19,_=>rfl
  | 20,_=>rfl
  | 21,_=>rfl
  | 22,_=>rfl
  | 23,_=>rfl
  | 24,_=>rfl
  | 25,_=>rfl
  | 26,_=>rfl
  | 27,_=>rfl
  | 28,_=>rfl
  | 29,_=>rfl
  | 30,_=>rfl
  | 31,_=>rfl
  | 32,_=>rfl
  | 33,_=>rfl
  | 34,_=>rfl
  | j+35,h=>by omega
theorem areas_of_trod {w:World} {sp:Nat→Bool} {held:Bool} {fuel:Nat} {cs:List Value} {p:List MemPlace}
    (h:DataW.trod (H:=Unit) (fun _=>()) Tryz.prog w 0 sp held fuel 219 cs=some (Rows.laid_rung_addr_areas,p)):cs=cells35.toList:=by
  cases fuel with
  | zero=>simp [DataW.trod] at h
  | succ fuel =>
    simp only [DataW.trod,Tryz.underlying219,cr_areas,c_areas] at h
    split at h
    · rename_i hl
      obtain ⟨xs,hm,hx⟩:=Option.map_eq_some_iff.1 h
      have hxs:xs.map (·.1)=[D_areas 0,D_areas 1,D_areas 2,D_areas 3,D_areas 4,D_areas 5,D_areas 6]:=by
        have:=congrArg Prod.fst hx
        exact DataW.agg.inj this
      have hrow:∀ i,i < 7→(cs.drop (i * 5)).take 5=V_areas i:=by
        intro i hi
        obtain ⟨y,hy,hf⟩:=Lib.mapM_at hm i i (by simp [hi])
        have hy2:(xs.map (·.1))[i]?=some y.1:=by simp [hy]
        rw [hxs] at hy2
        obtain ⟨y1,y2⟩:=y
        have e:y1=D_areas i:=by
          have hc:i=0 ∨ i=1 ∨ i=2 ∨ i=3 ∨ i=4 ∨ i=5 ∨ i=6:=by omega
          rcases hc with rfl | rfl | rfl | rfl | rfl | rfl | rfl <;> exact (Option.some.inj hy2).symm
        subst e
        have q:=row_areas hf
        rw [q]
        unfold V_areas
        rw [Lib.mk_data]
      apply List.ext_getElem?
      intro j
      by_cases hj:j < 35
      · rw [← at_areas j hj,← hrow (j / 5) (by omega),List.getElem?_take,if_pos (by omega),List.getElem?_drop]
        congr 1
        omega
      · rw [List.getElem?_eq_none (by omega),List.getElem?_eq_none (by show 35≤j;omega)]
    · cases h
theorem areas_of_laid {W : World} {rest : List (String × DataW Unit)} (h : laidMet Tryz.prog (("rung/addr.areas", Rows.laid_rung_addr_areas) :: rest) W) : ∃ t fr, W.heap[4]? = some (.cells cells35 t fr) := by
  obtain ⟨ps,⟨g,t,cs,fuel,p,q,hg,ht,hvar,hd,_,_⟩,_⟩:=h
  obtain rfl:=Option.some.inj (g_areas.symm.trans hg)
  obtain rfl:=Option.some.inj (gt_areas.symm.trans ht)
  have e:=areas_of_trod hd
  have e2:cs=cells35:=by
    obtain ⟨l⟩:=cs
    exact congrArg Array.mk e
  subst e2
  simp only [World.var?,g_areas,Option.bind_some] at hvar
  split at hvar
  · rename_i cs t fr hh
    exact ⟨t,fr,by rw [hh,Option.some.inj hvar]⟩
  · cases hvar
theorem g_kinds : Tryz.prog.globalNamed "rung/lex.kinds" = some 2 := by kernel_rfl
theorem gt_kinds:(Tryz.prog.globals[2]?).map (·.type)=some 209:=by kernel_rfl
theorem c_kinds:Tryz.prog.cellsOf 209=36:=by kernel_rfl
theorem cr_kinds:Tryz.prog.cellsOf 208=3:=by kernel_rfl
theorem row_kinds {H:Type} {enc:TypeId × Value→H} {w:World} {base:Nat} {sp:Nat→Bool} {held:Bool} {fuel:Nat} {cs:List Value} {x0:List UInt8} {x1:Int} {x2:Int} {p:List MemPlace}
    (h:DataW.trod enc Tryz.prog w base sp held fuel 208 cs=some (.agg [.lit (.string x0),.lit (.int .i64 x1),.lit (.int .i64 x2)],p)):cs=[.string ⟨x0.toArray⟩,.int .i64 x1,.int .i64 x2]:=by
  cases fuel with
  | zero=>simp [DataW.trod] at h
  | succ fuel =>
    simp only [DataW.trod,Tryz.underlying208,cr_kinds] at h
    split at h
    · rename_i hl
      obtain ⟨xs,hm,hx⟩:=Option.map_eq_some_iff.1 h
      have hxs:xs.map (·.1)=[.lit (.string x0),.lit (.int .i64 x1),.lit (.int .i64 x2)]:=by
        have:=congrArg Prod.fst hx
        simpa using this
      have g0:cs[0]?=some (.string ⟨x0.toArray⟩):=by
        obtain ⟨y,hy,hf⟩:=Lib.mapM_at hm 0 _ rfl
        have hy2:(xs.map (·.1))[0]?=some y.1:=by simp [hy]
        rw [hxs] at hy2
        obtain ⟨y1,y2⟩:=y
        obtain rfl:=Option.some.inj hy2
        have q:=is_str hf
        have q2:=congrArg (·[0]?) q
        simpa [List.getElem?_take,List.getElem?_drop,cellsInt,cellsInt64,cellsStr,cellsBool] using q2
      have g1:cs[1]?=some (.int .i64 x1):=by
        obtain ⟨y,hy,hf⟩:=Lib.mapM_at hm 1 _ rfl
        have hy2:(xs.map (·.1))[1]?=some y.1:=by simp [hy]
        rw [hxs] at hy2
        obtain ⟨y1,y2⟩:=y
        obtain rfl:=Option.some.inj hy2
        have q:=is_int64 hf
        have q2:=congrArg (·[0]?) q
        simpa [List.getElem?_take,List.getElem?_drop,cellsInt,cellsInt64,cellsStr,cellsBool] using q2
      have g2:cs[2]?=some (.int .i64 x2):=by
        obtain ⟨y,hy,hf⟩:=Lib.mapM_at hm 2 _ rfl
        have hy2:(xs.map (·.1))[2]?=some y.1:=by simp [hy]
        rw [hxs] at hy2
        obtain ⟨y1,y2⟩:=y
        obtain rfl:=Option.some.inj hy2
        have q:=is_int64 hf
        have q2:=congrArg (·[0]?) q
        simpa [List.getElem?_take,List.getElem?_drop,cellsInt,cellsInt64,cellsStr,cellsBool] using q2
      apply List.ext_getElem?
      intro i
      match i with
      | 0=>exact g0
      | 1=>exact g1
      | 2=>exact g2
      | k+3=>rw [List.getElem?_eq_none (by omega),List.getElem?_eq_none (by simp)]
    · cases h
def V_kinds (k:Nat):List Value:=[.string (kn k),.int .i64 (klo k),.int .i64 (khi k)]
def D_kinds {H:Type} (k:Nat):DataW H:=.agg [.lit (.string (kn k).data.toList),.lit (.int .i64 (klo k)),.lit (.int .i64 (khi k))]
theorem at_kinds:∀ (j:Nat),j < 36→(V_kinds (j / 3))[j % 3]?=cells36.toList[j]?
  | 0,_=>rfl
  | 1,_=>rfl
  | 2,_=>rfl
  | 3,_=>rfl
  | 4,_=>rfl
  | 5,_=>rfl
  | 6,_=>rfl
  | 7,_=>rfl
  | 8,_=>rfl
  | 9,_=>rfl
  | 10,_=>rfl
  | 11,_=>rfl
  | 12,_=>rfl
  | 13,_=>rfl
  | 14,_=>rfl
  | 15,_=>rfl
  | 16,_=>rfl
  | 17,_=>rfl
  | 18,_=>rfl
  | 19,_=>rfl
  | 20,_=>rfl
  | 21,_=>rfl
  | 22,_=>rfl
  | 23,_=>rfl
  | 24,_=>rfl
  | 25,_=>rfl
  | 26,_=>rfl
  | 27,_=>rfl
  | 28,_=>rfl
  | 29,_=>rfl
  | 30,_=>rfl
  | 31,_=>rfl
  | 32,_=>rfl
  | 33,_=>rfl
  | 34,_=>rfl
  | 35,_=>rfl
  | j+36,h=>by omega
theorem kinds_of_trod {w:World} {sp:Nat→Bool} {held:Bool} {fuel:Nat} {cs:List Value} {p:List MemPlace}
    (h:DataW.trod (H:=Unit) (fun _=>()) Tryz.prog w 0 sp held fuel 209 cs=some (Rows.laid_rung_lex_kinds,p)):cs=cells36.toList:=by
  cases fuel with
  | zero=>simp [DataW.trod] at h
  | succ fuel =>
    simp only [DataW.trod,Tryz.underlying209,cr_kinds,c_kinds] at h
    split at h
    · rename_i hl
      obtain ⟨xs,hm,hx⟩:=Option.map_eq_some_iff.1 h
      have hxs:xs.map (·.1)=[D_kinds 0,D_kinds 1,D_kinds 2,D_kinds 3,D_kinds 4,D_kinds 5,D_kinds 6,D_kinds 7,D_kinds 8,D_kinds 9,D_kinds 10,D_kinds 11]:=by
        have:=congrArg Prod.fst hx
        exact DataW.agg.inj this
      have hrow:∀ i,i < 12→(cs.drop (i * 3)).take 3=V_kinds i:=by
        intro i hi
        obtain ⟨y,hy,hf⟩:=Lib.mapM_at hm i i (by simp [hi])
        have hy2:(xs.map (·.1))[i]?=some y.1:=by simp [hy]
        rw [hxs] at hy2
        obtain ⟨y1,y2⟩:=y
        have e:y1=D_kinds i:=by
          have hc:i=0 ∨ i=1 ∨ i=2 ∨ i=3 ∨ i=4 ∨ i=5 ∨ i=6 ∨ i=7 ∨ i=8 ∨ i=9 ∨ i=10 ∨ i=11:=by omega
          rcases hc with rfl | rfl | rfl | rfl | rfl | rfl | rfl | rfl | rfl | rfl | rfl | rfl <;> exact (Option.some.inj hy2).symm
        subst e
        have q:=row_kinds hf
        rw [q]
        unfold V_kinds
        rw [Lib.mk_data]
      apply List.ext_getElem?
      intro j
      by_cases hj:j < 36
      · rw [← at_kinds j hj,← hrow (j / 3) (by omega),List.getElem?_take,if_pos (by omega),List.getElem?_drop]
        congr 1
        omega
      · rw [List.getElem?_eq_none (by omega),List.getElem?_eq_none (by show 36≤j;omega)]
    · cases h
theorem kinds_of_laid {W : World} {rest : List (String × DataW Unit)} (h : laidMet Tryz.prog (("rung/lex.kinds", Rows.laid_rung_lex_kinds) :: rest) W) : ∃ t fr, W.heap[2]? = some (.cells cells36 t fr) := by
  obtain ⟨ps,⟨g,t,cs,fuel,p,q,hg,ht,hvar,hd,_,_⟩,_⟩:=h
  obtain rfl:=Option.some.inj (g_kinds.symm.trans hg)
  obtain rfl:=Option.some.inj (gt_kinds.symm.trans ht)
  have e:=kinds_of_trod hd
  have e2:cs=cells36:=by
    obtain ⟨l⟩:=cs
    exact congrArg Array.mk e
  subst e2
  simp only [World.var?,g_kinds,Option.bind_some] at hvar
  split at hvar
  · rename_i cs t fr hh
    exact ⟨t,fr,by rw [hh,Option.some.inj hvar]⟩
  · cases hvar
theorem g_bases : Tryz.prog.globalNamed "rung/lex.bases" = some 3 := by kernel_rfl
theorem gt_bases:(Tryz.prog.globals[3]?).map (·.type)=some 216:=by kernel_rfl
theorem c_bases:Tryz.prog.cellsOf 216=6:=by kernel_rfl
theorem cr_bases:Tryz.prog.cellsOf 215=2:=by kernel_rfl
theorem row_bases {H:Type} {enc:TypeId × Value→H} {w:World} {base:Nat} {sp:Nat→Bool} {held:Bool} {fuel:Nat} {cs:List Value} {x0:List UInt8} {x1:Int} {p:List MemPlace}
    (h:DataW.trod enc Tryz.prog w base sp held fuel 215 cs=some (.agg [.lit (.string x0),.lit (.int .i64 x1)],p)):cs=[.string ⟨x0.toArray⟩,.int .i64 x1]:=by
  cases fuel with
  | zero=>simp [DataW.trod] at h
  | succ fuel =>
    simp only [DataW.trod,Tryz.underlying215,cr_bases] at h
    split at h
    · rename_i hl
      obtain ⟨xs,hm,hx⟩:=Option.map_eq_some_iff.1 h
      have hxs:xs.map (·.1)=[.lit (.string x0),.lit (.int .i64 x1)]:=by
        have:=congrArg Prod.fst hx
        simpa using this
      have g0:cs[0]?=some (.string ⟨x0.toArray⟩):=by
        obtain ⟨y,hy,hf⟩:=Lib.mapM_at hm 0 _ rfl
        have hy2:(xs.map (·.1))[0]?=some y.1:=by simp [hy]
        rw [hxs] at hy2
        obtain ⟨y1,y2⟩:=y
        obtain rfl:=Option.some.inj hy2
        have q:=is_str hf
        have q2:=congrArg (·[0]?) q
        simpa [List.getElem?_take,List.getElem?_drop,cellsInt,cellsInt64,cellsStr,cellsBool] using q2
      have g1:cs[1]?=some (.int .i64 x1):=by
        obtain ⟨y,hy,hf⟩:=Lib.mapM_at hm 1 _ rfl
        have hy2:(xs.map (·.1))[1]?=some y.1:=by simp [hy]
        rw [hxs] at hy2
        obtain ⟨y1,y2⟩:=y
        obtain rfl:=Option.some.inj hy2
        have q:=is_int64 hf
        have q2:=congrArg (·[0]?) q
        simpa [List.getElem?_take,List.getElem?_drop,cellsInt,cellsInt64,cellsStr,cellsBool] using q2
      apply List.ext_getElem?
      intro i
      match i with
      | 0=>exact g0
      | 1=>exact g1
      | k+2=>rw [List.getElem?_eq_none (by omega),List.getElem?_eq_none (by simp)]
    · cases h
def V_bases (k:Nat):List Value:=[.string (bn k),.int .i64 ((bo k:Nat):Int)]
def D_bases {H:Type} (k:Nat):DataW H:=.agg [.lit (.string (bn k).data.toList),.lit (.int .i64 ((bo k:Nat):Int))]
theorem at_bases:∀ (j:Nat),j < 6→(V_bases (j / 2))[j % 2]?=cells6.toList[j]?
  | 0,_=>rfl
  | 1,_=>rfl
  | 2,_=>rfl
  | 3,_=>rfl
  | 4,_=>rfl
  | 5,_=>rfl
  | j+6,h=>by omega
theorem bases_of_trod {w:World} {sp:Nat→Bool} {held:Bool} {fuel:Nat} {cs:List Value} {p:List MemPlace}
    (h:DataW.trod (H:=Unit) (fun _=>()) Tryz.prog w 0 sp held fuel 216 cs=some (Rows.laid_rung_lex_bases,p)):cs=cells6.toList:=by
  cases fuel with
  | zero=>simp [DataW.trod] at h
  | succ fuel =>
    simp only [DataW.trod,Tryz.underlying216,cr_bases,c_bases] at h
    split at h
    · rename_i hl
      obtain ⟨xs,hm,hx⟩:=Option.map_eq_some_iff.1 h
      have hxs:xs.map (·.1)=[D_bases 0,D_bases 1,D_bases 2]:=by
        have:=congrArg Prod.fst hx
        exact DataW.agg.inj this
      have hrow:∀ i,i < 3→(cs.drop (i * 2)).take 2=V_bases i:=by
        intro i hi
        obtain ⟨y,hy,hf⟩:=Lib.mapM_at hm i i (by simp [hi])
        have hy2:(xs.map (·.1))[i]?=some y.1:=by simp [hy]
        rw [hxs] at hy2
        obtain ⟨y1,y2⟩:=y
        have e:y1=D_bases i:=by
          have hc:i=0 ∨ i=1 ∨ i=2:=by omega
          rcases hc with rfl | rfl | rfl <;> exact (Option.some.inj hy2).symm
        subst e
        have q:=row_bases hf
        rw [q]
        unfold V_bases
        rw [Lib.mk_data]
      apply List.ext_getElem?
      intro j
      by_cases hj:j < 6
      · rw [← at_bases j hj,← hrow (j / 2) (by omega),List.getElem?_take,if_pos (by omega),List.getElem?_drop]
        congr 1
        omega
      · rw [List.getElem?_eq_none (by omega),List.getElem?_eq_none (by show 6≤j;omega)]
    · cases h
theorem bases_of_laid {W : World} {rest : List (String × DataW Unit)} (h : laidMet Tryz.prog (("rung/lex.bases", Rows.laid_rung_lex_bases) :: rest) W) : ∃ t fr, W.heap[3]? = some (.cells cells6 t fr) := by
  obtain ⟨ps,⟨g,t,cs,fuel,p,q,hg,ht,hvar,hd,_,_⟩,_⟩:=h
  obtain rfl:=Option.some.inj (g_bases.symm.trans hg)
  obtain rfl:=Option.some.inj (gt_bases.symm.trans ht)
  have e:=bases_of_trod hd
  have e2:cs=cells6:=by
    obtain ⟨l⟩:=cs
    exact congrArg Array.mk e
  subst e2
  simp only [World.var?,g_bases,Option.bind_some] at hvar
  split at hvar
  · rename_i cs t fr hh
    exact ⟨t,fr,by rw [hh,Option.some.inj hvar]⟩
  · cases hvar
theorem g_units : Tryz.prog.globalNamed "rung/lex.units" = some 5 := by kernel_rfl
theorem gt_units:(Tryz.prog.globals[5]?).map (·.type)=some 231:=by kernel_rfl
theorem c_units:Tryz.prog.cellsOf 231=10:=by kernel_rfl
theorem cr_units:Tryz.prog.cellsOf 230=2:=by kernel_rfl
theorem row_units {H:Type} {enc:TypeId × Value→H} {w:World} {base:Nat} {sp:Nat→Bool} {held:Bool} {fuel:Nat} {cs:List Value} {x0:List UInt8} {x1:Int} {p:List MemPlace}
    (h:DataW.trod enc Tryz.prog w base sp held fuel 230 cs=some (.agg [.lit (.string x0),.lit (.int .i64 x1)],p)):cs=[.string ⟨x0.toArray⟩,.int .i64 x1]:=by
  cases fuel with
  | zero=>simp [DataW.trod] at h
  | succ fuel =>
    simp only [DataW.trod,Tryz.underlying230,cr_units] at h
    split at h
    · rename_i hl
      obtain ⟨xs,hm,hx⟩:=Option.map_eq_some_iff.1 h
      have hxs:xs.map (·.1)=[.lit (.string x0),.lit (.int .i64 x1)]:=by
        have:=congrArg Prod.fst hx
        simpa using this
      have g0:cs[0]?=some (.string ⟨x0.toArray⟩):=by
        obtain ⟨y,hy,hf⟩:=Lib.mapM_at hm 0 _ rfl
        have hy2:(xs.map (·.1))[0]?=some y.1:=by simp [hy]
        rw [hxs] at hy2
        obtain ⟨y1,y2⟩:=y
        obtain rfl:=Option.some.inj hy2
        have q:=is_str hf
        have q2:=congrArg (·[0]?) q
        simpa [List.getElem?_take,List.getElem?_drop,cellsInt,cellsInt64,cellsStr,cellsBool] using q2
      have g1:cs[1]?=some (.int .i64 x1):=by
        obtain ⟨y,hy,hf⟩:=Lib.mapM_at hm 1 _ rfl
        have hy2:(xs.map (·.1))[1]?=some y.1:=by simp [hy]
        rw [hxs] at hy2
        obtain ⟨y1,y2⟩:=y
        obtain rfl:=Option.some.inj hy2
        have q:=is_int64 hf
        have q2:=congrArg (·[0]?) q
        simpa [List.getElem?_take,List.getElem?_drop,cellsInt,cellsInt64,cellsStr,cellsBool] using q2
      apply List.ext_getElem?
      intro i
      match i with
      | 0=>exact g0
      | 1=>exact g1
      | k+2=>rw [List.getElem?_eq_none (by omega),List.getElem?_eq_none (by simp)]
    · cases h
def V_units (k:Nat):List Value:=[.string (uN k),.int .i64 ((uM k:Nat):Int)]
def D_units {H:Type} (k:Nat):DataW H:=.agg [.lit (.string (uN k).data.toList),.lit (.int .i64 ((uM k:Nat):Int))]
theorem at_units:∀ (j:Nat),j < 10→(V_units (j / 2))[j % 2]?=cells10.toList[j]?
  | 0,_=>rfl
  | 1,_=>rfl
  | 2,_=>rfl
  | 3,_=>rfl
  | 4,_=>rfl
  | 5,_=>rfl
  | 6,_=>rfl
  | 7,_=>rfl
  | 8,_=>rfl
  | 9,_=>rfl
  | j+10,h=>by omega
theorem units_of_trod {w:World} {sp:Nat→Bool} {held:Bool} {fuel:Nat} {cs:List Value} {p:List MemPlace}
    (h:DataW.trod (H:=Unit) (fun _=>()) Tryz.prog w 0 sp held fuel 231 cs=some (Rows.laid_rung_lex_units,p)):cs=cells10.toList:=by
  cases fuel with
  | zero=>simp [DataW.trod] at h
  | succ fuel =>
    simp only [DataW.trod,Tryz.underlying231,cr_units,c_units] at h
    split at h
    · rename_i hl
      obtain ⟨xs,hm,hx⟩:=Option.map_eq_some_iff.1 h
      have hxs:xs.map (·.1)=[D_units 0,D_units 1,D_units 2,D_units 3,D_units 4]:=by
        have:=congrArg Prod.fst hx
        exact DataW.agg.inj this
      have hrow:∀ i,i < 5→(cs.drop (i * 2)).take 2=V_units i:=by
        intro i hi
        obtain ⟨y,hy,hf⟩:=Lib.mapM_at hm i i (by simp [hi])
        have hy2:(xs.map (·.1))[i]?=some y.1:=by simp [hy]
        rw [hxs] at hy2
        obtain ⟨y1,y2⟩:=y
        have e:y1=D_units i:=by
          have hc:i=0 ∨ i=1 ∨ i=2 ∨ i=3 ∨ i=4:=by omega
          rcases hc with rfl | rfl | rfl | rfl | rfl <;> exact (Option.some.inj hy2).symm
        subst e
        have q:=row_units hf
        rw [q]
        unfold V_units
        rw [Lib.mk_data]
      apply List.ext_getElem?
      intro j
      by_cases hj:j < 10
      · rw [← at_units j hj,← hrow (j / 2) (by omega),List.getElem?_take,if_pos (by omega),List.getElem?_drop]
        congr 1
        omega
      · rw [List.getElem?_eq_none (by omega),List.getElem?_eq_none (by show 10≤j;omega)]
    · cases h
theorem units_of_laid {W : World} {rest : List (String × DataW Unit)} (h : laidMet Tryz.prog (("rung/lex.units", Rows.laid_rung_lex_units) :: rest) W) : ∃ t fr, W.heap[5]? = some (.cells cells10 t fr) := by
  obtain ⟨ps,⟨g,t,cs,fuel,p,q,hg,ht,hvar,hd,_,_⟩,_⟩:=h
  obtain rfl:=Option.some.inj (g_units.symm.trans hg)
  obtain rfl:=Option.some.inj (gt_units.symm.trans ht)
  have e:=units_of_trod hd
  have e2:cs=cells10:=by
    obtain ⟨l⟩:=cs
    exact congrArg Array.mk e
  subst e2
  simp only [World.var?,g_units,Option.bind_some] at hvar
  split at hvar
  · rename_i cs t fr hh
    exact ⟨t,fr,by rw [hh,Option.some.inj hvar]⟩
  · cases hvar
theorem g_err : Tryz.prog.globalNamed "errors.errorType" = some 0 := by kernel_rfl
theorem rt_is : (Tryz.prog.cutTypes.find? (·.1 == "internal/reflectlite.rtype")).map (·.2) = some 166 := by kernel_rfl
theorem oneRow:((List.range 275).filter fun t=>Tryz.prog.rowNamed t [101,114,114,111,114])=[35]:=by kernel_rfl
theorem types_n:Tryz.prog.types.size=275:=by kernel_rfl
theorem err_of_laid {W : World} (h : handlesMet Tryz.prog [("errors.errorType", Rows.laid_errors_errorType)] W) : W.cell? ⟨0, 0, none⟩ = some (.iface 166 (.agg #[.pointer (some ⟨6, 35, none⟩)])) := by
  obtain ⟨name,u,ty,e1,e2,e3,e4,e5⟩:=h _ (List.mem_singleton.2 rfl)
  have en:name=[101,114,114,111,114]:=(Option.some.inj e1).symm
  subst en
  obtain rfl:=Option.some.inj (rt_is.symm.trans e2)
  have hm:ty ∈ (List.range 275).filter fun t=>Tryz.prog.rowNamed t [101,114,114,111,114]:=List.mem_filter.2 ⟨List.mem_range.2 (by rw [← types_n];exact e3),e4⟩
  rw [oneRow] at hm
  obtain rfl:=List.mem_singleton.1 hm
  have hh:typeHandle Tryz.prog 35=.pointer (some ⟨6,35,none⟩):=by kernel_rfl
  rw [hh] at e5
  simpa using World.var?_cell g_err e5 0
theorem max_of_shape {W:World} (h:W.ShapedOpen Tryz.prog):∃ m,W.cell? ⟨1,0,none⟩=some (.int .i64 m):=by
  exact cell_of_shapedOpen_int (g:=1) (t:=3) (zero:=#[.int .i64 0]) h (of_decide_eq_true (by kernel_rfl)) (by kernel_rfl) rfl (by kernel_rfl) (by kernel_rfl) Tryz.underlying3
/-- What a row's premises give. -/
theorem tabs_of {W : World} (h : laidMetH Tryz.prog [("errors.errorType", Rows.laid_errors_errorType), ("rung/addr.areas", Rows.laid_rung_addr_areas), ("rung/lex.kinds", Rows.laid_rung_lex_kinds), ("rung/lex.bases", Rows.laid_rung_lex_bases), ("rung/lex.units", Rows.laid_rung_lex_units)] W) (hs : W.ShapedOpen Tryz.prog) : Tabs W := by
  have h' : laidMet Tryz.prog [("rung/addr.areas", Rows.laid_rung_addr_areas), ("rung/lex.kinds", Rows.laid_rung_lex_kinds), ("rung/lex.bases", Rows.laid_rung_lex_bases), ("rung/lex.units", Rows.laid_rung_lex_units)] W ∧ handlesMet Tryz.prog [("errors.errorType", Rows.laid_errors_errorType)] W := h
  exact ⟨kinds_of_laid h'.1.tail,err_of_laid h'.2,max_of_shape hs,bases_of_laid h'.1.tail.tail,areas_of_laid h'.1,units_of_laid h'.1.tail.tail.tail⟩
/-- For the witness: a world with the tables holding what their initialisers lay. -/
def setV (cs:Array Value):Obj→Obj
  | .cells _ t frozen=>.cells cs t frozen
  | o=>o
def laidIn (w:World):World :=
  { w with heap:=((((w.heap.modify 2 (setV cells36)).modify 0 (setV #[.iface 166 (.agg #[.pointer (some ⟨6,35,none⟩)])])).modify 3 (setV cells6)).modify 4 (setV cells35)).modify 5 (setV cells10) }
end Go.Proofs.YtapcpjidgemggaaGreatDoor
