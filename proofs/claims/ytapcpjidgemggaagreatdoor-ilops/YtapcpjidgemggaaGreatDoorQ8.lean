/- Tokens, of any text (stage 12, carried over). · Tokens' answers as a law holds them; the law's example (stage 12, carried over). -/
import Derived.Deep.CutRange
import Derived.Deep.CutBlock
import Derived.WalkMore
import Derived.Lib.AppendZeros
import Derived.Test.YtapcpjidgemggaaGreatDoorQ5
import Derived.Test.YtapcpjidgemggaaGreatDoorQ7
namespace Go.Proofs.YtapcpjidgemggaaGreatDoor
open Go.RowKit
open Adr Lx
theorem scn_end {il:Bool} {f a:Nat} {A:List (Tk × Nat)}:scn il f [] a A=(A,none):=by cases f <;> rfl
theorem scn_cons (il:Bool) (f:Nat) (c:UInt8) (l:List UInt8) (a:Nat) (A:List (Tk × Nat)):scn il (f+1) (c :: l) a A =
    if blk c il then scn il f l (a+1) A
    else if hp (c :: l) [40,42] then (if csz (c :: l)=0 then ([],some (a,120)) else scn il f ((c :: l).drop (csz (c :: l))) (a+csz (c :: l)) A)
    else if (nx (c :: l)).e=0 then scn il f ((c :: l).drop (nx (c :: l)).z) (a+(nx (c :: l)).z) (A ++ [((nx (c :: l)).t,a)])
    else ([],some (a,(nx (c :: l)).e)):=rfl
/-- Where the scanner is: the same tokens are still to be told. -/
def At (il:Bool) (l:List UInt8) (k:Nat) (A:List (Tk × Nat)):Prop:=∃ f,(l.drop k).length≤f∧scn il l.length l 0 []=scn il f (l.drop k) k A
theorem At.start (il:Bool) (l:List UInt8):At il l 0 []:=⟨l.length,by simp,by simp⟩
theorem At.out {il:Bool} {l:List UInt8} {k:Nat} {A:List (Tk × Nat)} (h:At il l k A) (hk:l.length≤k):scn il l.length l 0 []=(A,none):=by
  obtain ⟨f,_,e⟩:=h
  rw [e,List.drop_eq_nil_of_le hk,scn_end]
theorem At.step {il:Bool} {l:List UInt8} {k:Nat} {A:List (Tk × Nat)} (h:At il l k A) (hk:k < l.length):∃ f,(l.drop k).length≤f+1∧scn il l.length l 0 []=scn il (f+1) (l[k] :: l.drop (k+1)) k A:=by
  obtain ⟨f,hf,e⟩:=h
  have hl:(l.drop k).length=l.length - k:=List.length_drop ..
  cases f with
  | zero=>omega
  | succ f=>exact ⟨f,hf,by rw [e,← drop_at hk]⟩
theorem At.blank {il:Bool} {l:List UInt8} {k:Nat} {A:List (Tk × Nat)} (h:At il l k A) (hk:k < l.length) (hb:blk l[k] il=true):At il l (k+1) A:=by
  obtain ⟨f,hf,e⟩:=h.step hk
  rw [scn_cons,if_pos hb] at e
  exact ⟨f,by rw [List.length_drop] at *;omega,e⟩
theorem At.open_c {il:Bool} {l:List UInt8} {k:Nat} {A:List (Tk × Nat)} (h:At il l k A) (hk:k < l.length) (hb:blk l[k] il=false) (hc:hp (l.drop k) [40,42]=true) (h0:csz (l.drop k)=0):scn il l.length l 0 []=([],some (k,120)):=by
  obtain ⟨f,hf,e⟩:=h.step hk
  rw [scn_cons,if_neg (by rw [hb];exact Bool.false_ne_true),← drop_at hk,if_pos hc,if_pos h0] at e
  exact e
theorem At.comment {il:Bool} {l:List UInt8} {k:Nat} {A:List (Tk × Nat)} (h:At il l k A) (hk:k < l.length) (hb:blk l[k] il=false) (hc:hp (l.drop k) [40,42]=true) (h0:¬ csz (l.drop k)=0):At il l (k+csz (l.drop k)) A:=by
  obtain ⟨f,hf,e⟩:=h.step hk
  rw [scn_cons,if_neg (by rw [hb];exact Bool.false_ne_true),← drop_at hk,if_pos hc,if_neg h0,List.drop_drop] at e
  exact ⟨f,by rw [List.length_drop] at *;omega,e⟩
theorem At.bad {il:Bool} {l:List UInt8} {k:Nat} {A:List (Tk × Nat)} (h:At il l k A) (hk:k < l.length) (hb:blk l[k] il=false) (hc:hp (l.drop k) [40,42]=false) (h0:¬ (nx (l.drop k)).e=0):scn il l.length l 0 []=([],some (k,(nx (l.drop k)).e)):=by
  obtain ⟨f,hf,e⟩:=h.step hk
  rw [scn_cons,if_neg (by rw [hb];exact Bool.false_ne_true),← drop_at hk,if_neg (by rw [hc];exact Bool.false_ne_true),if_neg h0] at e
  exact e
theorem At.token {il:Bool} {l:List UInt8} {k:Nat} {A:List (Tk × Nat)} (h:At il l k A) (hk:k < l.length) (hb:blk l[k] il=false) (hc:hp (l.drop k) [40,42]=false) (h0:(nx (l.drop k)).e=0):At il l (k+(nx (l.drop k)).z) (A ++ [((nx (l.drop k)).t,k)]):=by
  obtain ⟨f,hf,e⟩:=h.step hk
  have hz:=nx_ok (l:=l.drop k) (by rw [List.length_drop];omega) h0
  rw [scn_cons,if_neg (by rw [hb];exact Bool.false_ne_true),← drop_at hk,if_neg (by rw [hc];exact Bool.false_ne_true),if_pos h0,List.drop_drop] at e
  exact ⟨f,by rw [List.length_drop] at *;omega,e⟩
/-- What Tokens hands back. -/
def Told12 (w:World) (r:List (Tk × Nat) × Option (Nat × Nat)) (e:Ending) (w':World):Prop :=
  match r.2 with
  | none=>(∃ v,e=.returned (.tuple #[v,.nilIface])∧Tks w.heap.size w' v r.1)∧Below w.heap.size w w'
  | some (a,n)=>(∃ g,e=.returned (.tuple #[.slice none 0 0,.iface 78 (.pointer (some ⟨g,0,none⟩))])∧w.heap.size≤g∧g < w'.heap.size∧w'.cell? ⟨g,0,none⟩=some (.int .i64 a)∧w'.cell? ⟨g,1,none⟩=some (.int .i64 n))∧Below w.heap.size w w'
theorem told_bad {w:World} {l:List UInt8} {il:Bool} {W:World} {k n g:Nat} (hl:¬ 65536 < l.length) (h:(scn il l.length l 0 []).2=some (k,n)) (hB:Below w.heap.size w W) (hg:g=W.heap.size):Told12 w (toks l il) (.returned (.tuple #[.slice none 0 0,.iface 78 (.pointer (some ⟨g,0,none⟩))])) (W.alloc (.cells #[.int .i64 k,.int .i64 n] 83)):=by
  subst hg
  unfold Told12 toks
  rw [if_neg hl]
  simp only [h]
  exact ⟨⟨_,rfl,hB.size,by simp,by simp,by simp⟩,hB.alloc hB.size _⟩
theorem told_ok {w w':World} {l:List UInt8} {il:Bool} {A:List (Tk × Nat)} {v:Value} (hl:¬ 65536 < l.length) (h:scn il l.length l 0 []=(A,none)) (hv:Tks w.heap.size w' v (A ++ [(nul,l.length)])) (hB:Below w.heap.size w w'):Told12 w (toks l il) (.returned (.tuple #[v,.nilIface])) w':=by
  unfold Told12 toks
  rw [if_neg hl,h]
  exact ⟨⟨v,rfl,hv⟩,hB⟩
set_option maxHeartbeats 4000000 in
theorem tokens_big (s:ByteArray) (il:Bool) (w:World) (hbig:65536 < s.size) (hs9:s.size≤1000000):Calls Tryz.prog 15 #[.string s,.bool il] w fun e w'=>Told12 w (toks s.data.toList il) e w':=by
  have hb':(65536:Int) < s.size:=by omega
  have e1:toks s.data.toList il=([],some (65536,121)):=by unfold toks;rw [if_pos (by rw [← Lib.size_eq];omega)]
  rw [e1]
  go_enter Tryz.func15,Tryz.ntmps15
  go_wp2
  go_step3
  go_wp2
  try rw [Exit.noGoto_ret]
  go_ret2
  exact ⟨⟨_,rfl,Nat.le_refl _,by simp,by simp,by simp⟩,below_new1 _ _⟩
set_option maxHeartbeats 8000000 in
set_option maxRecDepth 100000 in
theorem tokens_c (s:ByteArray) (il:Bool) (w:World) (hT:Tabs w) (hs9:s.size≤1000000):Calls Tryz.prog 15 #[.string s,.bool il] w fun e w'=>Told12 w (toks s.data.toList il) e w':=by
  have hL:=hid_as (Lib.size_eq s)
  by_cases hbig:65536 < s.size
  · exact tokens_big s il w hbig hs9
  · have hb':¬ (65536:Int) < s.size:=by omega
    have hbl:¬ 65536 < s.data.toList.length:=by have:=hL.out;omega
    replace hbl:=hid_as hbl
    go_enter Tryz.func15,Tryz.ntmps15
    go_wp2
    go_step3
    go_wp2
    go_step3
    go_wp2
    go_loopw [6,7] (fun v i wr=>∃ (k:Nat) (A:List (Tk × Nat)),k≤s.size∧i=.int .i64 k∧A.length≤k∧Hid (Below w.heap.size w wr)∧Hid (Tks w.heap.size wr v A)∧Hid (At il s.data.toList k A)) (fun v i wr=>s.size - (intOf i).toNat)
    case atStart=>exact ⟨0,[],by omega,rfl,Nat.le_refl _,hid_as (Below.refl _ _),hid_as (Tks.nil _ _),hid_as (At.start _ _)⟩
    case round =>
      obtain ⟨k,A,hk,rfl,hA,hB,hv,hat⟩:=hrel
      have hTr:=hid_as (hT.below hB.out)
      by_cases hlt:k < s.size
      · have hlt':(k:Int) < s.size:=by omega
        have c1:(0:Int)≤k:=by omega
        have c2:(k:Int)≤s.size:=by omega
        have hlk:k < s.data.toList.length:=by have:=hL.out;omega
        have hX:Hid ((s.extract k s.size).data.toList=s.data.toList.drop k):=by rw [tx_drop,tx_list];exact hid_as rfl
        have hX0:0 < (s.extract k s.size).size:=by rw [Lib.size_eq,hX.out,List.length_drop];omega
        have hXs:(s.extract k s.size).size≤65536:=by rw [Lib.size_eq,hX.out,List.length_drop];have:=hL.out;omega
        have hXz:Hid ((s.extract k s.size).size=s.size - k):=by rw [Lib.size_eq,hX.out,List.length_drop,← hL.out];exact hid_as rfl
        have hXk:Hid ((s.extract k s.size)[0]=s.data.toList[k]):=by
          have h:=head_at hX0
          rw [hX.out,drop_at hlk] at h
          exact hid_as (Option.some.inj h).symm
        go_upto_region 7 with fail
        generalize s.extract k s.size=X at *
        have hX0':(0:Int) < X.size:=by omega
        cases hb:blk X[0] il with
        | true =>
          have IB:Hid (∀ W,Calls Tryz.prog 29 #[.int .u8 X[0].toNat,.bool il] W fun e w'=>e=.returned (.bool true)∧w'=W):=fun W=>by have h:=isBlank_c X[0] il W;rw [hb] at h;exact h
          have h2:=hid_as (hat.out.blank hlk (by rw [← hXk.out];exact hb))
          clear hb
          go_wp2_with (go_at_call 29;(with_reducible refine (IB.out _).mono ?_);rintro e w' ⟨rfl,hw⟩;subst w')
          go_roundw
          case rel=>exact ⟨k+1,A,by omega,by go_num,by omega,hB,hv,h2⟩
          case measure=>simp [intOf];omega
        | false =>
          have IB:Hid (∀ W,Calls Tryz.prog 29 #[.int .u8 X[0].toNat,.bool il] W fun e w'=>e=.returned (.bool false)∧w'=W):=fun W=>by have h:=isBlank_c X[0] il W;rw [hb] at h;exact h
          have hb2:Hid (blk s.data.toList[k] il=false):=by rw [← hXk.out];exact hid_as hb
          clear hb
          cases hc:hp X.data.toList [40,42] with
          | true =>
            have HP:Hid (∀ W,Calls Tryz.prog 30 #[.string X,.string ⟨#[40,42]⟩] W fun e w'=>e=.returned (.bool true)∧w'=W):=fun W=>by have h:=hasPrefix_c X ⟨#[40,42]⟩ W;rw [hc] at h;exact h
            have h22:2≤X.size:=by have h:=hp_le hc;rw [← Lib.size_eq] at h;exact h
            have hcz:=csz_le (l:=X.data.toList) (by rw [← Lib.size_eq];exact h22)
            rw [← Lib.size_eq] at hcz
            have CS:=hid_as (fun W hW=>commentSize_c X h22 hXs W hW)
            have hopen:=fun h0=>hid_as (hat.out.open_c hlk hb2.out (by rw [← hX.out];exact hc) h0)
            have hcom:=fun h0=>hid_as (hat.out.comment hlk hb2.out (by rw [← hX.out];exact hc) h0)
            rw [← hX.out] at hopen hcom
            clear hc
            generalize csz X.data.toList=Z at *
            by_cases hZ:Z=0
            · have h2:=hopen hZ
              have h3:=hid_as (told_bad (w:=w) (W:=wr) hbl.out (by rw [h2.out]) hB.out rfl)
              clear hopen hcom
              subst hZ
              go_wp2_with (first | (go_at_call 29;(with_reducible refine (IB.out _).mono ?_);rintro e w' ⟨rfl,hw⟩;subst w') | (go_at_call 30;(with_reducible refine (HP.out _).mono ?_);rintro e w' ⟨rfl,hw⟩;subst w') | (go_at_call 31;refine (CS.out _ hTr.out).mono ?_;rintro e w' ⟨rfl,hw⟩;subst w'))
              try rw [Exit.noGoto_ret]
              go_ret2
              exact h3.out
            · have h2:=hcom hZ
              have hZ':¬ (Z:Int)=0:=by omega
              clear hopen hcom
              have hzz:=hXz.out
              go_wp2_with (first | (go_at_call 29;(with_reducible refine (IB.out _).mono ?_);rintro e w' ⟨rfl,hw⟩;subst w') | (go_at_call 30;(with_reducible refine (HP.out _).mono ?_);rintro e w' ⟨rfl,hw⟩;subst w') | (go_at_call 31;refine (CS.out _ hTr.out).mono ?_;rintro e w' ⟨rfl,hw⟩;subst w'))
              go_roundw
              case rel=>exact ⟨k+Z,A,by omega,by go_num,by omega,hB,hv,h2⟩
              case measure=>simp [intOf];omega
          | false =>
            have HP:Hid (∀ W,Calls Tryz.prog 30 #[.string X,.string ⟨#[40,42]⟩] W fun e w'=>e=.returned (.bool false)∧w'=W):=fun W=>by have h:=hasPrefix_c X ⟨#[40,42]⟩ W;rw [hc] at h;exact h
            have NX:=hid_as (fun W hW=>next_c X hX0 hXs W hW)
            have hbad:=fun h0=>hid_as (hat.out.bad hlk hb2.out (by rw [← hX.out];exact hc) h0)
            have htok:=fun h0=>hid_as (hat.out.token hlk hb2.out (by rw [← hX.out];exact hc) h0)
            have hok:=fun h0=>nx_ok (l:=X.data.toList) (by rw [← Lib.size_eq];exact hX0) h0
            rw [← hX.out] at hbad htok
            rw [← Lib.size_eq] at hok
            clear hc
            generalize nx X.data.toList=r at *
            obtain ⟨⟨ta,tb,tc,td⟩,tz,te⟩:=r
            replace NX:Hid (∀ W,Tabs W→Calls Tryz.prog 32 #[.string X] W fun e w'=>e=.returned (.tuple #[.agg #[.int .i64 (ta:Nat),.int .i64 (tb:Nat),.int .i64 tc,.string (tx td),.int .i64 0],.int .i64 (tz:Nat),.int .i64 (te:Nat)])∧Below W.heap.size W w'):=NX
            by_cases hE:te=0
            · have h2:=htok hE
              have hz:=hok hE
              replace hz:1≤tz∧tz≤X.size:=hz
              replace h2:Hid (At il s.data.toList (k+tz) (A ++ [(⟨ta,tb,tc,td⟩,k)])):=h2
              clear hbad htok hok
              subst hE
              have hzz:=hXz.out
              go_upto_region 18 with (first | (go_at_call 29;(with_reducible refine (IB.out _).mono ?_);rintro e w' ⟨rfl,hw⟩;subst w') | (go_at_call 30;(with_reducible refine (HP.out _).mono ?_);rintro e w' ⟨rfl,hw⟩;subst w') | (go_at_call 32;(with_reducible refine (NX.out _ hTr.out).mono ?_);rintro e w3 ⟨rfl,b3⟩))
              have hB3:=hid_as (below_and hB.out b3)
              have hv3:=hid_as (hv.out.below b3)
              clear b3 IB HP NX hX hXk hXz
              have hB4:=hid_as (below_and hB3.out (below_new1 w3 (.cells #[.int .i64 (ta:Nat),.int .i64 (tb:Nat),.int .i64 tc,.string (tx td),.int .i64 (k:Nat)] 42)))
              obtain ⟨v',w',hr,ht,hb5⟩:=tks_push (hv3.out.below (below_new1 w3 (.cells #[.int .i64 (ta:Nat),.int .i64 (tb:Nat),.int .i64 tc,.string (tx td),.int .i64 (k:Nat)] 42))) (by omega) hB4.out.size ⟨ta,tb,tc,td⟩ k
              have hB5:=hid_as (hB4.out.trans hb5)
              replace ht:=hid_as ht
              clear hb5 hB4 hv3 hB3 hv
              replace hr:(Builtin.append_ #[38,38] 38 #[_,.slice (some ⟨(w3.alloc (.cells #[.int .i64 (ta:Nat),.int .i64 (tb:Nat),.int .i64 tc,.string (tx td),.int .i64 (k:Nat)] 42)).heap.size,0,none⟩) 1 1]).run Tryz.prog ((w3.alloc (.cells #[.int .i64 (ta:Nat),.int .i64 (tb:Nat),.int .i64 tc,.string (tx td),.int .i64 (k:Nat)] 42)).alloc (.cells #[.int .i64 (ta:Nat),.int .i64 (tb:Nat),.int .i64 tc,.string (tx td),.int .i64 (k:Nat)] 42))=.ok v' w':=hr
              rw [show (w3.alloc (.cells #[.int .i64 (ta:Nat),.int .i64 (tb:Nat),.int .i64 tc,.string (tx td),.int .i64 (k:Nat)] 42)).heap.size=w3.heap.size+1 by simp] at hr
              replace hr:=hid_as hr
              go_wp2_with (at_builtin;refine Lib.wpList_append_run _ rfl _ _ _ _ rfl _ _ rfl rfl _ _ hr.out ?_)
              go_roundw
              case rel=>exact ⟨k+tz,A ++ [(⟨ta,tb,tc,td⟩,k)],by omega,by go_num,by rw [List.length_append];simp;omega,hB5,ht,h2⟩
              case measure=>simp [intOf];omega
            · have hE':¬ (te:Int)=0:=by omega
              have h2:=hbad hE
              clear hbad htok hok
              go_wp2_with (first | (go_at_call 29;(with_reducible refine (IB.out _).mono ?_);rintro e w' ⟨rfl,hw⟩;subst w') | (go_at_call 30;(with_reducible refine (HP.out _).mono ?_);rintro e w' ⟨rfl,hw⟩;subst w') | (go_at_call 32;(with_reducible refine (NX.out _ hTr.out).mono ?_);rintro e w3 ⟨rfl,b3⟩;have hB3:=hid_as (below_and hB.out b3)))
              try rw [Exit.noGoto_ret]
              go_ret2
              exact told_bad hbl.out (by rw [h2.out]) (below_and hB3.out (below_new1 w3 _)) (by simp)
      · obtain rfl:k=s.size:=by omega
        have h2:=hid_as (hat.out.out (by have:=hL.out;omega))
        obtain ⟨v',w',hr,ht,hb5⟩:=tks_push hv.out (by omega) hB.out.size nul s.size
        have hB5:=hid_as (hB.out.trans hb5)
        have h3:=hid_as (told_ok hbl.out h2.out (by rw [← hL.out];exact ht) hB5.out)
        clear hb5 ht hB5 hv h2
        replace hr:(Builtin.append_ #[38,38] 38 #[_,.slice (some ⟨wr.heap.size,0,none⟩) 1 1]).run Tryz.prog (wr.alloc (.cells #[.int .i64 0,.int .i64 0,.int .i64 0,.string ⟨#[]⟩,.int .i64 (s.size:Nat)] 42))=.ok v' w':=hr
        replace hr:=hid_as hr
        go_wp2_with (at_builtin;refine Lib.wpList_append_run _ rfl _ _ _ _ rfl _ _ rfl rfl _ _ hr.out ?_)
        try rw [Exit.noGoto_ret]
        go_ret2
        exact h3.out
open Go.RowKit
open Adr Lx
/-- These tokens lie in block g. -/
def Laid (W:World) (g:Nat) (L:List (Tk × Nat)):Prop:=∀ j u,(tcs L)[j]?=some u→W.cell? ⟨g,j,none⟩=some u
theorem Laid.below {W W':World} {g:Nat} {L:List (Tk × Nat)} (h:Laid W g L) (hg:g < W.heap.size) (k:Below W.heap.size W W'):Laid W' g L:=fun j u hj=>(k.cell (p:=⟨g,j,none⟩) hg).trans (h j u hj)
theorem Tks.laid {base:Nat} {W:World} {v:Value} {L:List (Tk × Nat)} (o:Tks base W v L) (h0:0 < L.length):∃ g cap,v=.slice (some ⟨g,0,none⟩) L.length cap∧base≤g∧g < W.heap.size∧Laid W g L:=by
  rcases o.2 with ⟨rfl,h⟩ | ⟨g,cap,cur,rfl,hb,hg,hn,hm,hs,ht⟩
  · omega
  · refine ⟨g,cap,rfl,hb,(World.ownsRow.lt o g rfl).2,fun j u hj=>?_⟩
    rw [cell_of_row W g j cur _ _ hg,← Array.getElem?_toList]
    rw [← ht,List.getElem?_take] at hj
    split at hj
    · exact hj
    · cases hj
theorem toks_pos {l:List UInt8} {il:Bool} {L:List (Tk × Nat)} (h:toks l il=(L,none)):0 < L.length:=by
  unfold toks at h
  split at h
  · cases h
  · have e:=congrArg Prod.fst h
    simp only at e
    rw [← e]
    simp
theorem tokens_yes {s:ByteArray} {il:Bool} {L:List (Tk × Nat)} (h:toks s.data.toList il=(L,none)) (hs9:s.size≤1000000) (w:World) (hT:Tabs w):Calls Tryz.prog 15 #[.string s,.bool il] w fun e w'=>∃ g cap,e=.returned (.tuple #[.slice (some ⟨g,0,none⟩) L.length cap,.nilIface])∧w.heap.size≤g∧g < w'.heap.size∧Laid w' g L∧Below w.heap.size w w':=by
  have hp:=toks_pos h
  refine (tokens_c s il w hT hs9).mono ?_
  intro e w' t
  rw [h] at t
  obtain ⟨⟨v,he,hv⟩,hB⟩:=t
  obtain ⟨g,cap,rfl,h1,h2,h3⟩:=hv.laid hp
  exact ⟨g,cap,he,h1,h2,h3,hB⟩
end Go.Proofs.YtapcpjidgemggaaGreatDoor
