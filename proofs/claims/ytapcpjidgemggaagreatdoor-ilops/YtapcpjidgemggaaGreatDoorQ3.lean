/- Signs: letters, digits, blanks; heads of texts (stage 12, carried over). · How many signs are of a sort; digits (stage 12, carried over). · Digits with low lines between them (stage 12, carried over). · Which kind a name is; keywords (stage 12, carried over). · Literals' tokens (stage 12, carried over). · Numbers by a base (stage 12, carried over). · A time's units (stage 12, carried over). · A time's milliseconds (stage 12, carried over). -/
import Derived.Deep.RegionHeld3
import Derived.Deep.CutRange
import Derived.Deep.CutBlock
import Derived.Test.YtapcpjidgemggaaGreatDoorQ1
namespace Go.Proofs.YtapcpjidgemggaaGreatDoor
open Go.RowKit
open Adr Lx
theorem ret_bool {a b:Bool} (h:a=b):Ending.returned (.bool a)=.returned (.bool b):=by rw [h]
theorem ret_int {a b:Int} (h:a=b):Ending.returned (.int .i64 a)=.returned (.int .i64 b):=by rw [h]
theorem isDigit_c (c:UInt8) (w:World):Calls Tryz.prog 72 #[.int .u8 c.toNat] w fun e w'=>e=.returned (.bool (dgt c))∧w'=w:=by
  go_enter Tryz.func72,Tryz.ntmps72
  go_wp2
  all_goals go_ret
  all_goals refine ⟨ret_bool ?_,rfl⟩
  all_goals unfold dgt
  all_goals (first | rfl | grind)
theorem isLetter_c (c:UInt8) (w:World):Calls Tryz.prog 70 #[.int .u8 c.toNat] w fun e w'=>e=.returned (.bool (isL c))∧w'=w:=by
  go_enter Tryz.func70,Tryz.ntmps70
  go_wp2
  all_goals go_ret
  all_goals refine ⟨ret_bool ?_,rfl⟩
  all_goals unfold isL
  all_goals (first | rfl | grind)
theorem isBlank_c (c:UInt8) (il:Bool) (w:World):Calls Tryz.prog 29 #[.int .u8 c.toNat,.bool il] w fun e w'=>e=.returned (.bool (blk c il))∧w'=w:=by
  cases il
  all_goals
    go_enter Tryz.func29,Tryz.ntmps29
    go_wp2
    all_goals go_ret
    all_goals refine ⟨ret_bool ?_,rfl⟩
    all_goals unfold blk
    all_goals (first | rfl | grind)
theorem inWord_c (c:UInt8) (w:World):Calls Tryz.prog 111 #[.int .u8 c.toNat] w fun e w'=>e=.returned (.bool (inW c))∧w'=w:=by
  unfold inW
  cases h:isL c
  all_goals
    go_enter Tryz.func111,Tryz.ntmps111
    go_wp2_with (first | (go_at_call 70;refine (isLetter_c _ _).mono ?_;rintro e w' ⟨rfl,hw⟩;subst w';rw [h]) | (go_at_call 72;refine (isDigit_c _ _).mono ?_;rintro e w' ⟨rfl,hw⟩;subst w'))
    go_ret
    exact ⟨rfl,rfl⟩
theorem inAddress_c (c:UInt8) (w:World):Calls Tryz.prog 118 #[.int .u8 c.toNat] w fun e w'=>e=.returned (.bool (inA c))∧w'=w:=by
  unfold inA
  by_cases h5:c.toNat=95
  · rw [decide_eq_true h5,decide_eq_false (p:=c.toNat=46) (by omega)]
    have h5':(c.toNat:Int)=95:=by omega
    go_enter Tryz.func118,Tryz.ntmps118
    go_wp2
    go_ret
    exact ⟨rfl,rfl⟩
  · rw [decide_eq_false h5]
    have h5':¬ (c.toNat:Int)=95:=by omega
    cases h:inW c
    all_goals
      go_enter Tryz.func118,Tryz.ntmps118
      go_wp2_with (go_at_call 111;refine (inWord_c _ _).mono ?_;rintro e w' ⟨rfl,hw⟩;subst w';rw [h])
      go_ret
      refine ⟨ret_bool ?_,rfl⟩
      first | rfl | grind
theorem digit_c (c:UInt8) (w:World):Calls Tryz.prog 164 #[.int .u8 c.toNat] w fun e w'=>e=.returned (.int .i64 (dv c))∧w'=w:=by
  have hc:=c.toNat_lt
  unfold dv
  cases h:dgt c
  · rw [if_neg Bool.false_ne_true]
    by_cases h6:65≤c.toNat∧c.toNat≤70
    · rw [decide_eq_true h6.1,decide_eq_true h6.2]
      have a1:(65:Int)≤c.toNat:=by omega
      have a2:(c.toNat:Int)≤70:=by omega
      go_enter Tryz.func164,Tryz.ntmps164
      go_wp2_with (go_at_call 72;refine (isDigit_c _ _).mono ?_;rintro e w' ⟨rfl,hw⟩;subst w';rw [h])
      go_ret
      refine ⟨ret_int ?_,rfl⟩
      omega
    · have e0:(decide (65≤c.toNat) && decide (c.toNat≤70))=false:=by
        rw [Bool.and_eq_false_iff,decide_eq_false_iff_not,decide_eq_false_iff_not];omega
      rw [e0]
      go_enter Tryz.func164,Tryz.ntmps164
      go_wp2_with (go_at_call 72;refine (isDigit_c _ _).mono ?_;rintro e w' ⟨rfl,hw⟩;subst w';rw [h])
      all_goals first | (go_ret;exact ⟨rfl,rfl⟩) | (exfalso;omega)
  · rw [if_pos rfl]
    have hd:48≤c.toNat∧c.toNat≤57:=by unfold dgt at h;simpa using h
    go_enter Tryz.func164,Tryz.ntmps164
    go_wp2_with (go_at_call 72;refine (isDigit_c _ _).mono ?_;rintro e w' ⟨rfl,hw⟩;subst w';rw [h])
    go_ret
    refine ⟨ret_int ?_,rfl⟩
    omega
theorem hasPrefix_c (s p:ByteArray) (w:World):Calls Tryz.prog 30 #[.string s,.string p] w fun e w'=>e=.returned (.bool (hp s.data.toList p.data.toList))∧w'=w:=by
  unfold hp
  rw [← Lib.hasPrefix_raw]
  by_cases h1:p.size≤s.size
  · rw [decide_eq_true h1]
    go_enter Tryz.func30,Tryz.ntmps30
    go_wp2
    go_ret
    exact ⟨rfl,rfl⟩
  · rw [decide_eq_false h1]
    go_enter Tryz.func30,Tryz.ntmps30
    go_wp2
    go_ret
    exact ⟨rfl,rfl⟩
open Go.RowKit
open Adr Lx
theorem cz_step {p:UInt8→Bool} {l:List UInt8} {k:Nat} (h:k < l.length) (hp:∀ j (hj:j < l.length),j < k→p l[j]=true) (hk:p l[k]=false):cz p l=k:=by
  unfold cz
  induction l generalizing k with
  | nil=>simp at h
  | cons c l ih =>
    cases k with
    | zero=>rw [List.takeWhile_cons];rw [show p c=false from hk];rfl
    | succ k =>
      have h0:p c=true:=hp 0 (by simp) (by omega)
      rw [List.takeWhile_cons,h0]
      simp only [if_true,List.length_cons]
      rw [ih (by simpa using h) (fun j hj hlt=>hp (j+1) (by simpa using hj) (by omega)) hk]
theorem cz_all {p:UInt8→Bool} {l:List UInt8} (hp:∀ j (hj:j < l.length),p l[j]=true):cz p l=l.length:=by
  unfold cz
  induction l with
  | nil=>rfl
  | cons c l ih =>
    have h0:p c=true:=hp 0 (by simp)
    rw [List.takeWhile_cons,h0]
    simp only [if_true,List.length_cons]
    rw [ih (fun j hj=>hp (j+1) (by simpa using hj))]
theorem cz_le (p:UInt8→Bool) (l:List UInt8):cz p l≤l.length:=by
  unfold cz
  exact (List.takeWhile_sublist p).length_le
theorem sizeW_c (s:ByteArray) (w:World) (hs:s.size≤70000) :
    Calls Tryz.prog 110 #[.string s,.func (.func 111) #[] #[]] w fun e w'=>e=.returned (.int .i64 (cz inW s.data.toList))∧w'=w:=by
  have hL:=hid_as (Lib.size_eq s)
  go_enter Tryz.func110,Tryz.ntmps110
  go_wp2
  go_loopw [8] (fun i wr=>∃ k:Nat,k≤s.size∧i=.int .i64 k∧wr=w∧Hid (∀ j (hj:j < s.data.toList.length),j < k→inW s.data.toList[j]=true)) (fun i wr=>s.size - (intOf i).toNat)
  case atStart=>exact ⟨0,by omega,rfl,rfl,hid_as (fun j hj hlt=>by omega)⟩
  case round =>
    obtain ⟨k,hk,rfl,hw,hn⟩:=hrel
    subst hw
    by_cases hlt:k < s.size
    · have hlt':(k:Int) < s.size:=by omega
      cases hp:inW s[k] with
      | true =>
        go_wp2_with (go_at_call 111;refine (inWord_c _ _).mono ?_;rintro e w' ⟨rfl,hw⟩;subst w';rw [hp])
        go_roundw
        case rel =>
          refine ⟨k+1,by omega,by go_num,trivial,hid_as (fun j hj hlt=>?_)⟩
          by_cases e:j=k
          · subst e;exact hp
          · exact hn.out j hj (by omega)
        case measure=>simp [intOf];omega
      | false =>
        go_wp2_with (go_at_call 111;refine (inWord_c _ _).mono ?_;rintro e w' ⟨rfl,hw⟩;subst w';rw [hp])
        go_ret
        exact ⟨ret_int (by rw [cz_step (k:=k) (by rw [← Lib.size_eq];exact hlt) hn.out hp]),rfl⟩
    · go_wp2
      go_ret
      exact ⟨ret_int (by rw [cz_all (fun j hj=>hn.out j hj (by have:=hL.out;omega)),← Lib.size_eq]),rfl⟩
theorem sizeA_c (s:ByteArray) (w:World) (hs:s.size≤70000) :
    Calls Tryz.prog 110 #[.string s,.func (.func 118) #[] #[]] w fun e w'=>e=.returned (.int .i64 (cz inA s.data.toList))∧w'=w:=by
  have hL:=hid_as (Lib.size_eq s)
  go_enter Tryz.func110,Tryz.ntmps110
  go_wp2
  go_loopw [8] (fun i wr=>∃ k:Nat,k≤s.size∧i=.int .i64 k∧wr=w∧Hid (∀ j (hj:j < s.data.toList.length),j < k→inA s.data.toList[j]=true)) (fun i wr=>s.size - (intOf i).toNat)
  case atStart=>exact ⟨0,by omega,rfl,rfl,hid_as (fun j hj hlt=>by omega)⟩
  case round =>
    obtain ⟨k,hk,rfl,hw,hn⟩:=hrel
    subst hw
    by_cases hlt:k < s.size
    · have hlt':(k:Int) < s.size:=by omega
      cases hp:inA s[k] with
      | true =>
        go_wp2_with (go_at_call 118;refine (inAddress_c _ _).mono ?_;rintro e w' ⟨rfl,hw⟩;subst w';rw [hp])
        go_roundw
        case rel =>
          refine ⟨k+1,by omega,by go_num,trivial,hid_as (fun j hj hlt=>?_)⟩
          by_cases e:j=k
          · subst e;exact hp
          · exact hn.out j hj (by omega)
        case measure=>simp [intOf];omega
      | false =>
        go_wp2_with (go_at_call 118;refine (inAddress_c _ _).mono ?_;rintro e w' ⟨rfl,hw⟩;subst w';rw [hp])
        go_ret
        exact ⟨ret_int (by rw [cz_step (k:=k) (by rw [← Lib.size_eq];exact hlt) hn.out hp]),rfl⟩
    · go_wp2
      go_ret
      exact ⟨ret_int (by rw [cz_all (fun j hj=>hn.out j hj (by have:=hL.out;omega)),← Lib.size_eq]),rfl⟩
open Go.RowKit
open Adr Lx
theorem drop_at {l:List UInt8} {k:Nat} (h:k < l.length):l.drop k=l[k] :: l.drop (k+1):=List.drop_eq_getElem_cons h
theorem rdl_end {b n z i:Nat} {l:List UInt8} (h:l.length≤i):rdl b (l.drop i) n z i=(n,z):=by rw [List.drop_eq_nil_of_le h];rfl
theorem rdl_line {b n z i:Nat} {l:List UInt8} (h:i < l.length) (h1:l[i].toNat=95) (h2:0 < i) (h3:i=z):rdl b (l.drop i) n z i=rdl b (l.drop (i+1)) n z (i+1):=by
  rw [drop_at h,rdl,decide_eq_true h1,decide_eq_true h2,decide_eq_true h3];rfl
theorem rdl_more {b n z i:Nat} {l:List UInt8} (h:i < l.length) (h1:¬ (l[i].toNat=95∧0 < i∧i=z)) (h2:okd b l[i]=true):rdl b (l.drop i) n z i=rdl b (l.drop (i+1)) (min (n * b+(dv l[i]).toNat) 8589934592) (i+1) (i+1):=by
  rw [drop_at h,rdl,h2]
  rw [show (decide (l[i].toNat=95) && (decide (0 < i) && decide (i=z)))=false by simpa using h1]
  rfl
theorem rdl_stop {b n z i:Nat} {l:List UInt8} (h:i < l.length) (h1:¬ (l[i].toNat=95∧0 < i∧i=z)) (h2:okd b l[i]=false):rdl b (l.drop i) n z i=(n,z):=by
  rw [drop_at h,rdl,h2]
  rw [show (decide (l[i].toNat=95) && (decide (0 < i) && decide (i=z)))=false by simpa using h1]
  rfl
theorem ret_ii {a c:Int} {b d:Int} (h:a=c) (k:b=d):Ending.returned (.tuple #[.int .i64 a,.int .i64 b])=.returned (.tuple #[.int .i64 c,.int .i64 d]):=by rw [h,k]
theorem cmin (x M:Nat):((min x M:Nat):Int)=min (x:Int) M:=by omega
theorem dv_lt (c:UInt8):dv c < 100∧-1≤dv c:=by
  have:=c.toNat_lt
  unfold dv
  split
  · rename_i h;unfold dgt at h;simp at h;omega
  · split
    · rename_i h;simp at h;omega
    · omega
set_option maxHeartbeats 1000000 in
set_option maxRecDepth 100000 in
theorem readDigits_c (s:ByteArray) (b:Nat) (hb:b≤16) (w:World) (hs:s.size≤70000):Calls Tryz.prog 147 #[.string s,.int .i64 b] w fun e w'=>e=.returned (.tuple #[.int .i64 ((rd b s.data.toList).1:Int),.int .i64 ((rd b s.data.toList).2:Int)])∧w'=w:=by
  have hL:=hid_as (Lib.size_eq s)
  go_enter Tryz.func147,Tryz.ntmps147
  go_wp2
  go_loopw [6,7,12] (fun n z i wr=>∃ (k N Z:Nat),k≤s.size∧i=.int .i64 k∧n=.int .i64 N∧z=.int .i64 Z∧N≤8589934592∧Z≤k∧wr=w∧Hid (rd b s.data.toList=rdl b (s.data.toList.drop k) N Z k)) (fun n z i wr=>s.size - (intOf i).toNat)
  case atStart=>exact ⟨0,0,0,by omega,rfl,rfl,rfl,by omega,by omega,rfl,hid_as rfl⟩
  case round =>
    obtain ⟨k,N,Z,hk,rfl,rfl,rfl,hN,hZ,hw,hr⟩:=hrel
    subst hw
    by_cases hlt:k < s.size
    · have hlt':(k:Int) < s.size:=by omega
      have hl2:k < s.data.toList.length:=by rw [← Lib.size_eq];exact hlt
      have hd:=dv_lt s[k]
      have hm0:(0:Int)≤(N:Int) * b:=Int.mul_nonneg (by omega) (by omega)
      have hm1:(N:Int) * b≤137438953472:=by have h:=Nat.mul_le_mul hN hb;have h2:((N * b:Nat):Int)≤((8589934592 * 16:Nat):Int):=Int.ofNat_le.2 h;rw [Int.natCast_mul] at h2;omega
      have hw1:IntKind.i64.wrap ((N:Int) * b)=(N:Int) * b:=by rw [IntKind.wrap_i64];omega
      have D:=hid_as (digit_c s[k])
      by_cases hA:s[k].toNat=95∧0 < k∧k=Z
      · have h2:=hid_as (hr.out.trans (rdl_line hl2 hA.1 hA.2.1 hA.2.2))
        obtain ⟨a1,a2,a3⟩:=hA
        subst a3
        have a1':((s[k].toNat:Int) == 95)=true:=by rw [beq_iff_eq];omega
        replace a1:=hid_as a1
        have a2':(0:Int) < k:=by omega
        go_wp2_with (go_at_call 164;refine (D.out _).mono ?_;rintro e w' ⟨rfl,hw⟩;subst w')
        go_roundw
        case rel=>exact ⟨k+1,N,k,by omega,by go_num,rfl,rfl,hN,by omega,trivial,h2⟩
        case measure=>simp [intOf];omega
      · cases hok:okd b s[k] with
        | true =>
          have h2:=hid_as (hr.out.trans (rdl_more hl2 hA hok))
          obtain ⟨d,hd2⟩:∃ d:Nat,dv s[k]=d:=⟨(dv s[k]).toNat,by unfold okd at hok;simp at hok;omega⟩
          have hdb:(d:Int) < b:=by unfold okd at hok;simp at hok;omega
          rw [hd2] at D
          have hN2:min (N * b+(dv s[k]).toNat) 8589934592≤8589934592:=Nat.min_le_right _ _
          have hN3:((min (N * b+(dv s[k]).toNat) 8589934592:Nat):Int)=min ((N:Int) * b+d) 8589934592:=by rw [hd2,Int.toNat_natCast,cmin,Int.natCast_add,Int.natCast_mul];omega
          clear hok hd2
          have hA2:=hid_as hA
          clear hA
          have h2':Hid (∃ M:Nat,(M:Int)=min ((N:Int) * b+d) 8589934592∧M≤8589934592∧rd b s.data.toList=rdl b (s.data.toList.drop (k+1)) M (k+1) (k+1)):=⟨_,hN3,hN2,h2.out⟩
          clear h2 hN2 hN3 hr
          cases g1:((s[k].toNat:Int) == 95) with
          | false =>
            go_wp2_with (go_at_call 164;refine (D.out _).mono ?_;rintro e w' ⟨rfl,hw⟩;subst w')
            go_roundw
            case rel =>
              obtain ⟨M,e1,e2,e3⟩:=h2'
              exact ⟨k+1,M,k+1,by omega,by go_num,by rw [e1],by go_num,e2,by omega,trivial,hid_as e3⟩
            case measure=>simp [intOf];omega
          | true =>
            by_cases g2:(0:Int) < k
            · have g3:¬ (k:Int)=Z:=fun e=>hA2.out ⟨by rw [beq_iff_eq] at g1;omega,by omega,by omega⟩
              go_wp2_with (go_at_call 164;refine (D.out _).mono ?_;rintro e w' ⟨rfl,hw⟩;subst w')
              go_roundw
              case rel =>
                obtain ⟨M,e1,e2,e3⟩:=h2'
                exact ⟨k+1,M,k+1,by omega,by go_num,by rw [e1],by go_num,e2,by omega,trivial,hid_as e3⟩
              case measure=>simp [intOf];omega
            · have g3:k=0:=by omega
              subst g3
              go_wp2_with (go_at_call 164;refine (D.out _).mono ?_;rintro e w' ⟨rfl,hw⟩;subst w')
              go_roundw
              case rel =>
                obtain ⟨M,e1,e2,e3⟩:=h2'
                exact ⟨0+1,M,0+1,by omega,by go_num,by rw [e1],by go_num,e2,by omega,trivial,hid_as e3⟩
              case measure=>simp [intOf];omega
        | false =>
          have h2:=hid_as (hr.out.trans (rdl_stop hl2 hA hok))
          have hA2:=hid_as hA
          have hO:Hid (dv s[k] < 0 ∨ (b:Int)≤dv s[k]):=by unfold okd at hok;simp at hok;show _ ∨ _;omega
          clear hA hok hr
          generalize dv s[k]=d at *
          cases g1:((s[k].toNat:Int) == 95) with
          | false =>
            go_wp2_with (go_at_call 164;refine (D.out _).mono ?_;rintro e w' ⟨rfl,hw⟩;subst w')
            all_goals first | (go_ret2;exact ⟨ret_ii (by rw [h2.out]) (by rw [h2.out]),rfl⟩) | (exfalso;have:=hO.out;omega)
          | true =>
            by_cases g2:(0:Int) < k
            · have g3:¬ (k:Int)=Z:=fun e=>hA2.out ⟨by rw [beq_iff_eq] at g1;omega,by omega,by omega⟩
              go_wp2_with (go_at_call 164;refine (D.out _).mono ?_;rintro e w' ⟨rfl,hw⟩;subst w')
              all_goals first | (go_ret2;exact ⟨ret_ii (by rw [h2.out]) (by rw [h2.out]),rfl⟩) | (exfalso;have:=hO.out;omega)
            · have g3:k=0:=by omega
              subst g3
              go_wp2_with (go_at_call 164;refine (D.out _).mono ?_;rintro e w' ⟨rfl,hw⟩;subst w')
              all_goals first | (go_ret2;exact ⟨ret_ii (by rw [h2.out]) (by rw [h2.out]),rfl⟩) | (exfalso;have:=hO.out;omega)
    · have h2:=hid_as (hr.out.trans (rdl_end (by have:=hL.out;omega)))
      go_wp2
      go_ret2
      exact ⟨ret_ii (by rw [h2.out]) (by rw [h2.out]),rfl⟩
open Go.RowKit
open Adr Lx
set_option maxHeartbeats 1000000 in
theorem kindNamed_c (s:ByteArray) (w:World) (hT:Tabs w):Calls Tryz.prog 112 #[.string s] w fun e w'=>e=.returned (.int .i64 (kf s.data.toList))∧w'=w:=by
  have hK:=hid_as (hT.kind)
  go_enter Tryz.func112,Tryz.ntmps112
  go_wp2
  go_loopw [3] (fun i wr=>∃ k:Nat,1≤k∧k≤12∧i=.int .i64 k∧wr=w∧Hid (∀ j,j < k→isK s.data.toList j=false)) (fun i wr=>12 - (intOf i).toNat)
  case atStart => exact ⟨1, by omega, by omega, rfl, rfl, hid_as (fun j hj => by obtain rfl:j=0:=by omega
                                                                                 rfl)⟩
  case round =>
    obtain ⟨k,hk0,hk,rfl,hw,hn⟩:=hrel
    subst hw
    by_cases hlt:k < 12
    · obtain ⟨c0,c1,c2⟩:=hK.out k hlt
      have hlt':(k:Int) < 12:=by omega
      have hd:decide ((12:Int)≤k)=false:=decide_eq_false (by omega)
      cases hp:((kn k).toList == s.toList) with
      | false =>
        have hp2:=hid_as (isK_no (l:=s.data.toList) (k:=k) (by rw [← Lib.toList_data,← Lib.toList_data];exact hp))
        go_wp2
        go_roundw
        case rel =>
          refine ⟨k+1,by omega,by omega,by go_num,trivial,hid_as (fun j hj=>?_)⟩
          by_cases e:j=k
          · subst e;exact hp2.out
          · exact hn.out j (by omega)
        case measure=>simp [intOf];omega
      | true =>
        have e:=hid_as (kf_at hlt (isK_of (l:=s.data.toList) hk0 (by rw [← Lib.toList_data,← Lib.toList_data];exact hp)) hn.out)
        go_wp2
        go_ret
        exact ⟨ret_int (by rw [e.out]),rfl⟩
    · have e:=hid_as (kf_none (l:=s.data.toList) (fun j hj=>hn.out j (by omega)))
      go_wp2
      go_ret
      exact ⟨ret_int (by rw [e.out];rfl),rfl⟩
theorem word_leaf {s:ByteArray} {l:List UInt8} (e:(s.toList == l)=true) (h:words.contains l=true):Ending.returned (.bool true)=.returned (.bool (wrd s.data.toList)):=by
  unfold wrd
  rw [← Lib.toList_data,beq_iff_eq.1 e,h]
  rfl
theorem both {b:Bool} (h:b=true) (k:b=false):False:=by rw [h] at k;cases k
theorem neg_0 (n:Nat):(!decide ((n:Int)=0))=!decide (n=0):=by
  congr 1
  exact decide_eq_decide.2 (by omega)
set_option maxHeartbeats 4000000 in
set_option maxRecDepth 100000 in
theorem Word_c (s:ByteArray) (w:World) (hT:Tabs w):Calls Tryz.prog 116 #[.string s] w fun e w'=>e=.returned (.bool (wrd s.data.toList))∧w'=w:=by
  have K:=hid_as (kindNamed_c s w hT)
  go_enter Tryz.func116,Tryz.ntmps116
  go_wp2_with (go_at_call 112;refine K.out.mono ?_;rintro e w' ⟨rfl,hw⟩;subst w')
  all_goals go_ret
  all_goals refine ⟨?_,rfl⟩
  all_goals first | (apply word_leaf;assumption;decide) | (exfalso;apply both;assumption;assumption) | skip
  refine ret_bool ?_
  unfold wrd
  rw [← Lib.toList_data]
  simp only [words,List.contains_cons,List.contains_nil, *,Bool.or_false,Bool.false_or]
  rw [bne,← neg_0]
  rfl
open Go.RowKit
open Adr Lx
/-- A token's value. -/
def tv (t:Tk) (a:Int):Value:=.agg #[.int .i64 t.tok,.int .i64 t.kind,.int .i64 t.n,.string (tx t.text),.int .i64 a]
/-- What a reader hands back. -/
def rv (r:R):Value:=.tuple #[tv r.t 0,.int .i64 r.z,.int .i64 r.e]
theorem truth_c (n:Int) (w:World):Calls Tryz.prog 115 #[.int .i64 n] w fun e w'=>e=.returned (tv (tru n) 0)∧Below w.heap.size w w':=by
  go_enter Tryz.func115,Tryz.ntmps115
  go_wp2
  exact bodyPost_ret (v:=tv (tru n) 0) (by simp [results,Tryz.results115,go_sem,tv,tru,tx]) rfl ⟨rfl,below_new1 _ _⟩
set_option maxHeartbeats 1000000 in
theorem literal_c (tok k:Nat) (n:Int) (a z:Nat) (hk:k < 12) (ha:a≤70000) (hz:z≤70000) (w:World) (hT:Tabs w):Calls Tryz.prog 146 #[.int .i64 tok,.int .i64 k,.int .i64 n,.int .i64 a,.int .i64 z] w fun e w'=>e=.returned (rv (ltR tok k n a z))∧Below w.heap.size w w':=by
  obtain ⟨c0,c1,c2⟩:=hT.kind k hk
  have hs:=hT.five
  have hk':(k:Int) < 12:=by omega
  have hd:decide ((12:Int)≤k)=false:=decide_eq_false (by omega)
  have c1':∀ o,(w.alloc o).cell? ⟨2,k * 3+1,none⟩=some (.int .i64 (klo k)):=fun o=>by rw [World.cell?_alloc_lt _ _ ⟨2,k * 3+1,none⟩ (show 2 < w.heap.size by omega)];exact c1
  have c2':∀ o,(w.alloc o).cell? ⟨2,k * 3+2,none⟩=some (.int .i64 (khi k)):=fun o=>by rw [World.cell?_alloc_lt _ _ ⟨2,k * 3+2,none⟩ (show 2 < w.heap.size by omega)];exact c2
  by_cases h0:z=0
  · have e:ltR tok k n a z=er 120:=by unfold ltR;rw [if_pos h0]
    rw [e]
    subst h0
    go_enter Tryz.func146,Tryz.ntmps146
    go_wp2
    exact bodyPost_ret (v:=rv (er 120)) (by simp [results,Tryz.results146,go_sem,rv,er,nul,tv,tx]) rfl ⟨rfl,below_new1 _ _⟩
  · have h0':¬ (z:Int)=0:=by omega
    cases hb:(decide (n < klo k) || decide (khi k < n)) with
    | true =>
      have e:ltR tok k n a z=er 163:=by unfold ltR;rw [if_neg h0,if_pos hb]
      rw [e]
      replace hb:n < klo k ∨ (¬ n < klo k∧khi k < n):=by simp at hb;omega
      rcases hb with hb | ⟨hb1,hb⟩
      all_goals
        go_enter Tryz.func146,Tryz.ntmps146
        go_wp2
        exact bodyPost_ret (v:=rv (er 163)) (by simp [results,Tryz.results146,go_sem,rv,er,nul,tv,tx]) rfl ⟨rfl,below_new1 _ _⟩
    | false =>
      have e:ltR tok k n a z=⟨⟨tok,k,n,[]⟩,a+z,0⟩:=by unfold ltR;rw [if_neg h0,if_neg (by rw [hb];exact Bool.false_ne_true)]
      rw [e]
      have hb1:¬ n < klo k:=by intro h;rw [decide_eq_true h] at hb;cases hb
      have hb2:¬ khi k < n:=by intro h;rw [decide_eq_true h] at hb;simp at hb
      clear hb
      go_enter Tryz.func146,Tryz.ntmps146
      go_wp2
      exact bodyPost_ret (v:=rv ⟨⟨tok,k,n,[]⟩,a+z,0⟩) (by simp [results,Tryz.results146,go_sem,rv,tv,tx]) rfl ⟨rfl,below_new1 _ _⟩
open Go.RowKit
open Adr Lx
theorem readDigits_t (l:List UInt8) (b:Nat) (hb:b≤16) (hs:l.length≤70000) (w:World):Calls Tryz.prog 147 #[.string (tx l),.int .i64 b] w fun e w'=>e=.returned (.tuple #[.int .i64 ((rd b l).1:Int),.int .i64 ((rd b l).2:Int)])∧w'=w:=by
  have h:=readDigits_c (tx l) b hb w (by rw [tx_size];exact hs)
  rw [tx_list] at h
  exact h
theorem six_cells (w:World) (h:RowAt w 3 cells6):w.cell? ⟨3,0,none⟩=some (.string (bn 0))∧w.cell? ⟨3,1,none⟩=some (.int .i64 2)∧w.cell? ⟨3,2,none⟩=some (.string (bn 1))∧w.cell? ⟨3,3,none⟩=some (.int .i64 8)∧w.cell? ⟨3,4,none⟩=some (.string (bn 2))∧w.cell? ⟨3,5,none⟩=some (.int .i64 16) :=
  ⟨(h.cell 0).trans rfl,(h.cell 1).trans rfl,(h.cell 2).trans rfl,(h.cell 3).trans rfl,(h.cell 4).trans rfl,(h.cell 5).trans rfl⟩
theorem idxB_0 (W:World):(Instr.index 216 (.agg #[.string (bn 0),.int .i64 2,.string (bn 1),.int .i64 8,.string (bn 2),.int .i64 16]) (.int .i64 0)).run Tryz.prog W=.ok (.agg #[.string (bn 0),.int .i64 ((bo 0:Nat):Int)]) W:=by kernel_rfl
theorem idxB_1 (W:World):(Instr.index 216 (.agg #[.string (bn 0),.int .i64 2,.string (bn 1),.int .i64 8,.string (bn 2),.int .i64 16]) (.int .i64 1)).run Tryz.prog W=.ok (.agg #[.string (bn 1),.int .i64 ((bo 1:Nat):Int)]) W:=by kernel_rfl
theorem idxB_2 (W:World):(Instr.index 216 (.agg #[.string (bn 0),.int .i64 2,.string (bn 1),.int .i64 8,.string (bn 2),.int .i64 16]) (.int .i64 2)).run Tryz.prog W=.ok (.agg #[.string (bn 2),.int .i64 ((bo 2:Nat):Int)]) W:=by kernel_rfl
theorem idxB (k:Nat) (hk:k < 3) (W:World):(Instr.index 216 (.agg #[.string (bn 0),.int .i64 2,.string (bn 1),.int .i64 8,.string (bn 2),.int .i64 16]) (.int .i64 (k:Int))).run Tryz.prog W=.ok (.agg #[.string (bn k),.int .i64 ((bo k:Nat):Int)]) W:=by
  have hc:k=0 ∨ k=1 ∨ k=2:=by omega
  rcases hc with rfl | rfl | rfl
  · exact idxB_0 W
  · exact idxB_1 W
  · exact idxB_2 W
theorem bo_le (k:Nat):bo k≤16:=by unfold bo;split <;> decide
theorem bn_size (k:Nat):(bn k).size≤3:=by unfold bn;split <;> decide
theorem num_at {l:List UInt8} {k:Nat} (hk:k < 3) (hn:∀ j,j < k→hp l (bn j).data.toList=false) (h:hp l (bn k).data.toList=true):num l=byB k l:=by
  have hc:k=0 ∨ k=1 ∨ k=2:=by omega
  unfold num
  rcases hc with rfl | rfl | rfl
  · rw [if_pos h]
  · rw [if_neg (by rw [hn 0 (by omega)];exact Bool.false_ne_true),if_pos h]
  · rw [if_neg (by rw [hn 0 (by omega)];exact Bool.false_ne_true),if_neg (by rw [hn 1 (by omega)];exact Bool.false_ne_true),if_pos h]
theorem num_no {l:List UInt8} (hn:∀ j,j < 3→hp l (bn j).data.toList=false):num l=rd 10 l:=by
  unfold num
  rw [if_neg (by rw [hn 0 (by omega)];exact Bool.false_ne_true),if_neg (by rw [hn 1 (by omega)];exact Bool.false_ne_true),if_neg (by rw [hn 2 (by omega)];exact Bool.false_ne_true)]
theorem byB_no {l:List UInt8} {k:Nat} (h:(rd (bo k) (l.drop (bn k).data.toList.length)).2=0):byB k l=(0,0):=by unfold byB;rw [if_pos h]
theorem byB_yes {l:List UInt8} {k:Nat} (h:¬ (rd (bo k) (l.drop (bn k).data.toList.length)).2=0):byB k l=((rd (bo k) (l.drop (bn k).data.toList.length)).1,(bn k).data.toList.length+(rd (bo k) (l.drop (bn k).data.toList.length)).2):=by unfold byB;rw [if_neg h]
theorem rdl_le:∀ (b:Nat) (l:List UInt8) (n z i:Nat),z≤i→(rdl b l n z i).2≤i+l.length∧(n≤8589934592→(rdl b l n z i).1≤8589934592)
  | b,[],n,z,i,h=>⟨by simpa [rdl] using h,fun hn=>hn⟩
  | b,c :: l,n,z,i,h=>by
    unfold rdl
    split
    · obtain ⟨a,q⟩:=rdl_le b l n z (i+1) (by omega)
      exact ⟨by simp only [List.length_cons];omega,q⟩
    · split
      · obtain ⟨a,q⟩:=rdl_le b l (min (n * b+(dv c).toNat) 8589934592) (i+1) (i+1) (by omega)
        exact ⟨by simp only [List.length_cons];omega,fun _=>q (Nat.min_le_right _ _)⟩
      · exact ⟨by simp only [List.length_cons];omega,fun hn=>hn⟩
theorem rd_le (b:Nat) (l:List UInt8):(rd b l).2≤l.length∧(rd b l).1≤8589934592:=by
  obtain ⟨a,q⟩:=rdl_le b l 0 0 0 (by omega)
  exact ⟨by unfold rd;omega,q (by omega)⟩
set_option maxHeartbeats 1000000 in
theorem readNumber_c (s:ByteArray) (w:World) (hT:Tabs w) (hs:s.size≤70000):Calls Tryz.prog 117 #[.string s] w fun e w'=>e=.returned (.tuple #[.int .i64 ((num s.data.toList).1:Int),.int .i64 ((num s.data.toList).2:Int)])∧Below w.heap.size w w':=by
  obtain ⟨c0,c1,c2,c3,c4,c5⟩:=six_cells w hT.bases
  have hL:=hid_as (Lib.size_eq s)
  go_enter Tryz.func117,Tryz.ntmps117
  go_wp2
  clear c0 c1 c2 c3 c4 c5
  go_loopw [11] (fun i wr=>∃ k:Nat,k≤3∧i=.int .i64 k∧Hid (Below w.heap.size w wr)∧Hid (∀ j,j < k→hp s.data.toList (bn j).data.toList=false)) (fun i wr=>3 - (intOf i).toNat)
  case atStart=>exact ⟨0,by omega,rfl,hid_as (Below.refl _ _),hid_as (fun j hj=>by omega)⟩
  case round =>
    obtain ⟨k,hk,rfl,hB,hn⟩:=hrel
    by_cases hlt:k < 3
    · have hlt':(k:Int) < 3:=by omega
      have hix:=idxB k hlt
      have hbo:=bo_le k
      have hbn:=bn_size k
      have hB2:∀ o,Hid (Below w.heap.size w (wr.alloc o)):=fun o=>hid_as (Below.alloc hB.out hB.out.size o)
      cases hp':hp s.data.toList (bn k).data.toList with
      | false =>
        have hq:=hid_as hp'
        go_wp2_with (go_at_call 144;refine (head_no _ _ _ hp').mono ?_;rintro e w' ⟨rfl,hw⟩;subst w')
        go_roundw
        case rel =>
          refine ⟨k+1,by omega,by go_num,hB2 _,hid_as (fun j hj=>?_)⟩
          by_cases e:j=k
          · subst e;exact hq.out
          · exact hn.out j (by omega)
        case measure=>simp [intOf];omega
      | true =>
        have hnum:=hid_as (num_at hlt hn.out hp')
        have P:=hid_as (fun W=>head_yes s (bn k) W hp')
        have hlen:(s.data.toList.drop (bn k).data.toList.length).length≤s.size:=by rw [List.length_drop,Lib.size_eq];omega
        have D:=hid_as (fun W=>readDigits_t (s.data.toList.drop (bn k).data.toList.length) (bo k) hbo (by omega) W)
        have hbs:=hid_as (Lib.size_eq (bn k))
        obtain ⟨hr1,hr2⟩:=rd_le (bo k) (s.data.toList.drop (bn k).data.toList.length)
        have hno:=fun h=>hid_as (byB_no (l:=s.data.toList) (k:=k) h)
        have hyes:=fun h=>hid_as (byB_yes (l:=s.data.toList) (k:=k) h)
        clear hp'
        generalize (rd (bo k) (s.data.toList.drop (bn k).data.toList.length)).2=Z at *
        generalize (rd (bo k) (s.data.toList.drop (bn k).data.toList.length)).1=N at *
        by_cases hz:Z=0
        · have e2:=hid_as (hnum.out.trans (hno hz).out)
          have hz':(Z:Int)=0:=by omega
          clear hno hyes
          subst hz
          go_wp2_with (first | (go_at_call 144;refine (P.out _).mono ?_;rintro e w' ⟨rfl,hw⟩;subst w') | (go_at_call 147;refine (D.out _).mono ?_;rintro e w' ⟨rfl,hw⟩;subst w'))
          go_ret2
          exact ⟨ret_ii (by rw [e2.out];rfl) (by rw [e2.out];rfl),(hB2 _).out⟩
        · have e2:=hid_as (hnum.out.trans (hyes hz).out)
          have hz':¬ (Z:Int)=0:=by omega
          clear hno hyes
          have hZ:Z≤70000:=by omega
          clear hr1 hlen
          go_wp2_with (first | (go_at_call 144;refine (P.out _).mono ?_;rintro e w' ⟨rfl,hw⟩;subst w') | (go_at_call 147;refine (D.out _).mono ?_;rintro e w' ⟨rfl,hw⟩;subst w'))
          go_region
          go_wp2
          go_ret2
          refine ⟨ret_ii (by rw [e2.out]) (by rw [e2.out,hbs.out];simp),?_⟩
          exact (hB2 _).out.drew
    · have e:=hid_as (num_no (l:=s.data.toList) (fun j hj=>hn.out j (by omega)))
      have D:=hid_as (fun W=>readDigits_c s 10 (by omega) W hs)
      go_wp2_with (go_at_call 147;refine (D.out _).mono ?_;rintro e w' ⟨rfl,hw⟩;subst w')
      go_ret2
      exact ⟨ret_ii (by rw [e.out]) (by rw [e.out]),hB.out⟩
open Go.RowKit
open Adr Lx
def uz:Nat→Nat
  | 0 | 1 | 2 | 3=>1
  | 4=>2
  | _=>0
theorem uN_size:∀ k,k < 6→(uN k).size=uz k
  | 0,_=>rfl
  | 1,_=>rfl
  | 2,_=>rfl
  | 3,_=>rfl
  | 4,_=>rfl
  | 5,_=>rfl
  | k+6,h=>by omega
/-- Of the first k units the longest that stands ahead. -/
def bst (l:List UInt8):Nat→Nat
  | 0=>5
  | k+1=>if hp l (uN k).data.toList && decide (uz (bst l k) < uz k) then k else bst l k
theorem bst_un:∀ (l:List UInt8),bst l 5=un l
  | []=>by decide
  | [c] => by
    by_cases h1:100=c
    · subst h1;decide
    · by_cases h2:104=c
      · subst h2;decide
      · by_cases h3:109=c
        · subst h3;decide
        · by_cases h4:115=c
          · subst h4;decide
          · have e:un [c]=5:=by unfold un;split <;> simp_all
            rw [e]
            simp [bst,hp,Lib.hasPrefix,uN,h1,h2,h3,h4]
  | c :: d :: l=>by
    by_cases h1:100=c
    · subst h1;simp [bst,hp,Lib.hasPrefix,uN,un,uz]
    · by_cases h2:104=c
      · subst h2;simp [bst,hp,Lib.hasPrefix,uN,un,uz]
      · by_cases h3:109=c
        · subst h3
          by_cases h5:115=d
          · subst h5;simp [bst,hp,Lib.hasPrefix,uN,un,uz]
          · have e:un (109 :: d :: l)=2:=by unfold un;split <;> simp_all
            rw [e]
            simp [bst,hp,Lib.hasPrefix,uN,uz,h5]
        · by_cases h4:115=c
          · subst h4;simp [bst,hp,Lib.hasPrefix,uN,un,uz]
          · have e:un (c :: d :: l)=5:=by unfold un;split <;> simp_all
            rw [e]
            simp [bst,hp,Lib.hasPrefix,uN,h1,h2,h3,h4]
theorem ten_cells (w:World) (h:RowAt w 5 cells10):w.cell? ⟨5,0,none⟩=some (.string (uN 0))∧w.cell? ⟨5,1,none⟩=some (.int .i64 86400000)∧w.cell? ⟨5,2,none⟩=some (.string (uN 1))∧w.cell? ⟨5,3,none⟩=some (.int .i64 3600000)∧w.cell? ⟨5,4,none⟩=some (.string (uN 2))∧w.cell? ⟨5,5,none⟩=some (.int .i64 60000)∧w.cell? ⟨5,6,none⟩=some (.string (uN 3))∧w.cell? ⟨5,7,none⟩=some (.int .i64 1000)∧w.cell? ⟨5,8,none⟩=some (.string (uN 4))∧w.cell? ⟨5,9,none⟩=some (.int .i64 1) :=
  ⟨(h.cell 0).trans rfl,(h.cell 1).trans rfl,(h.cell 2).trans rfl,(h.cell 3).trans rfl,(h.cell 4).trans rfl,(h.cell 5).trans rfl,(h.cell 6).trans rfl,(h.cell 7).trans rfl,(h.cell 8).trans rfl,(h.cell 9).trans rfl⟩
theorem idxU_0 (W:World):(Instr.index 231 (.agg #[.string (uN 0),.int .i64 86400000,.string (uN 1),.int .i64 3600000,.string (uN 2),.int .i64 60000,.string (uN 3),.int .i64 1000,.string (uN 4),.int .i64 1]) (.int .i64 0)).run Tryz.prog W=.ok (.agg #[.string (uN 0),.int .i64 ((uM 0:Nat):Int)]) W:=by kernel_rfl
theorem idxU_1 (W:World):(Instr.index 231 (.agg #[.string (uN 0),.int .i64 86400000,.string (uN 1),.int .i64 3600000,.string (uN 2),.int .i64 60000,.string (uN 3),.int .i64 1000,.string (uN 4),.int .i64 1]) (.int .i64 1)).run Tryz.prog W=.ok (.agg #[.string (uN 1),.int .i64 ((uM 1:Nat):Int)]) W:=by kernel_rfl
theorem idxU_2 (W:World):(Instr.index 231 (.agg #[.string (uN 0),.int .i64 86400000,.string (uN 1),.int .i64 3600000,.string (uN 2),.int .i64 60000,.string (uN 3),.int .i64 1000,.string (uN 4),.int .i64 1]) (.int .i64 2)).run Tryz.prog W=.ok (.agg #[.string (uN 2),.int .i64 ((uM 2:Nat):Int)]) W:=by kernel_rfl
theorem idxU_3 (W:World):(Instr.index 231 (.agg #[.string (uN 0),.int .i64 86400000,.string (uN 1),.int .i64 3600000,.string (uN 2),.int .i64 60000,.string (uN 3),.int .i64 1000,.string (uN 4),.int .i64 1]) (.int .i64 3)).run Tryz.prog W=.ok (.agg #[.string (uN 3),.int .i64 ((uM 3:Nat):Int)]) W:=by kernel_rfl
theorem idxU_4 (W:World):(Instr.index 231 (.agg #[.string (uN 0),.int .i64 86400000,.string (uN 1),.int .i64 3600000,.string (uN 2),.int .i64 60000,.string (uN 3),.int .i64 1000,.string (uN 4),.int .i64 1]) (.int .i64 4)).run Tryz.prog W=.ok (.agg #[.string (uN 4),.int .i64 ((uM 4:Nat):Int)]) W:=by kernel_rfl
theorem idxU (k:Nat) (hk:k < 5) (W:World):(Instr.index 231 (.agg #[.string (uN 0),.int .i64 86400000,.string (uN 1),.int .i64 3600000,.string (uN 2),.int .i64 60000,.string (uN 3),.int .i64 1000,.string (uN 4),.int .i64 1]) (.int .i64 (k:Int))).run Tryz.prog W=.ok (.agg #[.string (uN k),.int .i64 ((uM k:Nat):Int)]) W:=by
  have hc:k=0 ∨ k=1 ∨ k=2 ∨ k=3 ∨ k=4:=by omega
  rcases hc with rfl | rfl | rfl | rfl | rfl
  · exact idxU_0 W
  · exact idxU_1 W
  · exact idxU_2 W
  · exact idxU_3 W
  · exact idxU_4 W
theorem ret_str {b c:Nat} (h:b=c):Ending.returned (.string (uN b))=.returned (.string (uN c)):=by rw [h]
set_option maxHeartbeats 1000000 in
theorem unitName_c (s:ByteArray) (w:World) (hT:Tabs w):Calls Tryz.prog 163 #[.string s] w fun e w'=>e=.returned (.string (uN (un s.data.toList)))∧Below w.heap.size w w':=by
  obtain ⟨c0,c1,c2,c3,c4,c5,c6,c7,c8,c9⟩:=ten_cells w hT.units
  have hU:=hid_as (bst_un s.data.toList)
  have h0:uN 5=⟨#[]⟩:=rfl
  go_enter Tryz.func163,Tryz.ntmps163
  go_wp2
  clear c0 c1 c2 c3 c4 c5 c6 c7 c8 c9
  go_loopw [3,7] (fun g i wr=>∃ k b:Nat,k≤5∧b < 6∧i=.int .i64 k∧g=.string (uN b)∧Hid (Below w.heap.size w wr)∧Hid (b=bst s.data.toList k)) (fun g i wr=>5 - (intOf i).toNat)
  case atStart=>exact ⟨0,5,by omega,by omega,rfl,by rw [h0],hid_as (Below.refl _ _),hid_as rfl⟩
  case round =>
    obtain ⟨k,b,hk,hb,rfl,rfl,hB,hn⟩:=hrel
    clear h0
    by_cases hlt:k < 5
    · have hlt':(k:Int) < 5:=by omega
      have hix:=idxU k hlt
      have hB2:∀ o,Hid (Below w.heap.size w (wr.alloc o)):=fun o=>hid_as (Below.alloc hB.out hB.out.size o)
      have z1:=hid_as (uN_size k (by omega))
      have z2:=hid_as (uN_size b hb)
      cases hp':hp s.data.toList (uN k).data.toList with
      | false =>
        have hq:Hid (b=bst s.data.toList (k+1)):=by rw [bst,hp'];exact hn
        have H:=hid_as (fun W=>hasPrefix_c s (uN k) W)
        rw [hp'] at H
        clear hp'
        go_wp2_with (go_at_call 30;refine (H.out _).mono ?_;rintro e w' ⟨rfl,hw⟩;subst w')
        go_roundw
        case rel=>exact ⟨k+1,b,by omega,hb,by go_num,rfl,hB2 _,hq⟩
        case measure=>simp [intOf];omega
      | true =>
        have H:=hid_as (fun W=>hasPrefix_c s (uN k) W)
        rw [hp'] at H
        by_cases hlz:(uN b).size < (uN k).size
        · have hq:Hid (k=bst s.data.toList (k+1)):=by rw [bst,hp',← hn.out,← z1.out,← z2.out,decide_eq_true hlz];exact hid_as rfl
          have hlz':((uN b).size:Int) < (uN k).size:=by omega
          clear hp'
          go_wp2_with (go_at_call 30;refine (H.out _).mono ?_;rintro e w' ⟨rfl,hw⟩;subst w')
          go_roundw
          case rel=>exact ⟨k+1,k,by omega,by omega,by go_num,rfl,hB2 _,hq⟩
          case measure=>simp [intOf];omega
        · have hq:Hid (b=bst s.data.toList (k+1)):=by rw [bst,hp',← hn.out,← z1.out,← z2.out,decide_eq_false hlz];exact hid_as rfl
          have hlz':¬ ((uN b).size:Int) < (uN k).size:=by omega
          clear hp'
          go_wp2_with (go_at_call 30;refine (H.out _).mono ?_;rintro e w' ⟨rfl,hw⟩;subst w')
          go_roundw
          case rel=>exact ⟨k+1,b,by omega,hb,by go_num,rfl,hB2 _,hq⟩
          case measure=>simp [intOf];omega
    · have e:Hid (b=un s.data.toList):=by rw [← hU.out,hn.out,show k=5 by omega];exact hid_as rfl
      go_wp2
      go_ret
      exact ⟨ret_str e.out,hB.out⟩
open Go.RowKit
open Adr Lx
theorem uM_le (k:Nat):uM k≤86400000:=by unfold uM;split <;> decide
theorem part_le {l:List UInt8} {k:Nat} (hk:k < 5) {s:Nat × Nat} (h:s.2≤l.length):(prt l k s).2≤l.length∧(prt l k s).1≤s.1+742170348748800000:=by
  unfold prt
  split
  · rename_i hc
    rw [Bool.and_eq_true,decide_eq_true_eq,decide_eq_true_eq] at hc
    obtain ⟨h1,h2⟩:=rd_le 10 (l.drop s.2)
    rw [List.length_drop] at h1
    have h3:=Nat.mul_le_mul h2 (uM_le k)
    have h4:(uN k).size≤(l.drop (s.2+(rd 10 (l.drop s.2)).2)).length:=by
      have hu:=hc.2
      rw [uN_size k (by omega)]
      generalize l.drop (s.2+(rd 10 (l.drop s.2)).2)=m at *
      have hk5:¬ k=5:=by omega
      match m,hu with
      | [],hu=>simp [un] at hu;omega
      | [c],hu =>
        have:uz k≤1:=by
          have h44:¬ k=4:=by
            intro e
            subst e
            unfold un at hu
            split at hu <;> simp_all
          unfold uz
          split <;> omega
        simpa using this
      | c :: d :: m, hu => have:uz k≤2:=by unfold uz;split <;> omega
                           simp;omega
    rw [List.length_drop] at h4
    exact ⟨by show s.2+((rd 10 (l.drop s.2)).2+(uN k).size)≤l.length;omega,by show s.1+(rd 10 (l.drop s.2)).1 * uM k≤_;omega⟩
  · exact ⟨h,by omega⟩
theorem spanK_le (l:List UInt8):∀ k,k≤5→(spanK l k).2≤l.length∧(spanK l k).1≤k * 742170348748800000
  | 0,_=>⟨Nat.zero_le _,Nat.zero_le _⟩
  | k+1,h=>by
    obtain ⟨a,b⟩:=spanK_le l k (by omega)
    obtain ⟨c,d⟩:=part_le (k:=k) (by omega) a
    exact ⟨c,by show (prt l k (spanK l k)).1≤_;omega⟩
theorem below_and {a b c:World} (h:Below a.heap.size a b) (k:Below b.heap.size b c):Below a.heap.size a c:=h.trans (k.mono h.size)
theorem un_lt (l:List UInt8):un l < 6:=by unfold un;split <;> decide
theorem un_six {p:Nat→Nat→Prop} (h:∀ a:Fin 6,∀ b:Fin 5,p a b) {a b:Nat} (ha:a < 6) (hb:b < 5):p a b:=h ⟨a,ha⟩ ⟨b,hb⟩
theorem un_eq {a b:Nat} (ha:a < 6) (hb:b < 5):(((uN a).data.toList == (uN b).data.toList)=true∧a=b) ∨ (((uN a).data.toList == (uN b).data.toList)=false∧¬ a=b) :=
  un_six (p:=fun a b=>(((uN a).data.toList == (uN b).data.toList)=true∧a=b) ∨ (((uN a).data.toList == (uN b).data.toList)=false∧¬ a=b)) (by decide) ha hb
theorem spanK_most (l:List UInt8) (k:Nat) (h:k≤5):(spanK l k).2≤l.length∧(spanK l k).1≤3710851743744000000:=by
  obtain ⟨a,b⟩:=spanK_le l k h
  exact ⟨a,Nat.le_trans b (Nat.mul_le_mul_right 742170348748800000 h)⟩
set_option maxHeartbeats 2000000 in
theorem readSpan_c (s:ByteArray) (w:World) (hT:Tabs w) (hs:s.size≤70000):Calls Tryz.prog 145 #[.string s] w fun e w'=>e=.returned (.tuple #[.int .i64 ((span s.data.toList).1:Int),.int .i64 ((span s.data.toList).2:Int)])∧Below w.heap.size w w':=by
  obtain ⟨c0,c1,c2,c3,c4,c5,c6,c7,c8,c9⟩:=ten_cells w hT.units
  have hL:=hid_as (Lib.size_eq s)
  have hE:Hid (spanK s.data.toList 5=span s.data.toList):=hid_as rfl
  generalize span s.data.toList=S at *
  go_enter Tryz.func145,Tryz.ntmps145
  go_wp2
  clear c0 c1 c2 c3 c4 c5 c6 c7 c8 c9
  go_loopw [4,5,11] (fun n z i wr=>∃ k N Z:Nat,k≤5∧Z≤s.size∧i=.int .i64 k∧n=.int .i64 N∧z=.int .i64 Z∧Hid (Below w.heap.size w wr)∧Hid (spanK s.data.toList k=(N,Z))) (fun n z i wr=>5 - (intOf i).toNat)
  case atStart=>exact ⟨0,0,0,by omega,by omega,rfl,rfl,rfl,hid_as (Below.refl _ _),hid_as rfl⟩
  case round =>
    obtain ⟨k,N,Z,hk,hZ,rfl,rfl,rfl,hB,hn⟩:=hrel
    by_cases hlt:k < 5
    · have hlt':(k:Int) < 5:=by omega
      have hix:=idxU k hlt
      have hB2:∀ o,Hid (Below w.heap.size w (wr.alloc o)):=fun o=>hid_as (Below.alloc hB.out hB.out.size o)
      have c1:(0:Int)≤Z:=by omega
      have c2:(Z:Int)≤s.size:=by omega
      have hdrop:(s.extract Z s.size)=tx (s.data.toList.drop Z):=tx_drop s Z
      have D:=hid_as (fun W=>readDigits_t (s.data.toList.drop Z) 10 (by omega) (by rw [List.length_drop];have:=hL.out;omega) W)
      rw [← hdrop] at D
      clear hdrop
      have hp1:Hid (spanK s.data.toList (k+1)=prt s.data.toList k (N,Z)):=by rw [spanK,hn.out];exact hid_as rfl
      have hle:=spanK_most s.data.toList (k+1) (by omega)
      rw [hp1.out] at hle
      have hM:=uM_le k
      obtain ⟨hr1,hr2⟩:=rd_le 10 (s.data.toList.drop Z)
      rw [List.length_drop,← hL.out] at hr1
      have hpart:Hid (prt s.data.toList k (N,Z)=if decide (0 < (rd 10 (s.data.toList.drop Z)).2) && decide (un (s.data.toList.drop (Z+(rd 10 (s.data.toList.drop Z)).2))=k) then (N+(rd 10 (s.data.toList.drop Z)).1 * uM k,Z+((rd 10 (s.data.toList.drop Z)).2+(uN k).size)) else (N,Z)):=hid_as rfl
      generalize (rd 10 (s.data.toList.drop Z)).2=G at *
      generalize (rd 10 (s.data.toList.drop Z)).1=M at *
      by_cases hG:0 < G
      · have hG':(0:Int) < G:=by omega
        have g1:(0:Int)≤(Z:Int)+G:=by omega
        have g2:(Z:Int)+G≤s.size:=by omega
        have g3:IntKind.i64.wrap ((Z:Int)+G)=(Z:Int)+G:=by rw [IntKind.wrap_i64];omega
        have g4:((Z:Int)+G).toNat=Z+G:=by omega
        have hd2:=hid_as (tx_drop s (Z+G))
        have hTr:=hid_as (hT.below hB.out)
        go_upto_region 6 with (go_at_call 147;refine (D.out _).mono ?_;rintro e w' ⟨rfl,hw⟩;subst w')
        have hB3:=hB2 (.cells #[.string (uN k),.int .i64 ((uM k:Nat):Int)] 230)
        have q0:(wr.alloc (.cells #[.string (uN k),.int .i64 ((uM k:Nat):Int)] 230)).cell? ⟨wr.heap.size,0,none⟩=some (.string (uN k)):=by simp
        have q1:(wr.alloc (.cells #[.string (uN k),.int .i64 ((uM k:Nat):Int)] 230)).cell? ⟨wr.heap.size,1,none⟩=some (.int .i64 ((uM k:Nat):Int)):=by simp
        have hT3:=hid_as (hTr.out.below (below_new1 wr (.cells #[.string (uN k),.int .i64 ((uM k:Nat):Int)] 230)))
        have hsz:(wr.alloc (.cells #[.string (uN k),.int .i64 ((uM k:Nat):Int)] 230)).heap.size=wr.heap.size+1:=by simp
        generalize wr.alloc (.cells #[.string (uN k),.int .i64 ((uM k:Nat):Int)] 230)=W1 at *
        generalize hg:wr.heap.size=g at *
        have CA:Hid (∀ W,Below W1.heap.size W1 W→W.cell? ⟨g,0,none⟩=some (.string (uN k))∧W.cell? ⟨g,1,none⟩=some (.int .i64 ((uM k:Nat):Int))):=fun W b=>⟨(b.cell (p:=⟨g,0,none⟩) (show g < _ by omega)).trans q0,(b.cell (p:=⟨g,1,none⟩) (show g < _ by omega)).trans q1⟩
        have U:Hid (∀ W,Same W1 W→Calls Tryz.prog 163 #[.string (s.extract (Z+G) s.size)] W fun e w'=>e=.returned (.string (uN (un (s.data.toList.drop (Z+G)))))∧Below W1.heap.size W1 w'):=by
          intro W k1
          have h:=unitName_c (s.extract (Z+G) s.size) W (hT3.out.same k1)
          rw [hd2.out,tx_list] at h
          rw [hd2.out]
          refine h.mono ?_
          rintro e w' ⟨rfl,b⟩
          exact ⟨rfl,k1.below.trans (by rw [show W1.heap.size=W.heap.size by rw [k1.heap]];exact b)⟩
        clear q0 q1 hd2 D
        have hcmp:(((uN (un (s.data.toList.drop (Z+G)))).toList == (uN k).toList)=true∧un (s.data.toList.drop (Z+G))=k) ∨ (((uN (un (s.data.toList.drop (Z+G)))).toList == (uN k).toList)=false∧¬ un (s.data.toList.drop (Z+G))=k):=by
          rw [Lib.toList_data,Lib.toList_data]
          exact un_eq (un_lt _) hlt
        generalize un (s.data.toList.drop (Z+G))=u at *
        rcases hcmp with ⟨hc,hu⟩ | ⟨hc,hu⟩
        · have hq:Hid (spanK s.data.toList (k+1)=(N+M * uM k,Z+(G+(uN k).size))):=by rw [hp1.out,hpart.out,decide_eq_true hG,decide_eq_true hu];exact hid_as rfl
          have hle2:Z+(G+(uN k).size)≤s.size∧N+M * uM k≤3710851743744000000:=by
            rw [hpart.out,decide_eq_true hG,decide_eq_true hu] at hle
            exact ⟨by have:=hle.1;rw [← hL.out] at this;exact this,hle.2⟩
          clear hle hpart hp1 hn hu
          have m0:(0:Int)≤(M:Int) * (uM k:Int):=Int.mul_nonneg (by omega) (by omega)
          have m1:(N:Int)+(M:Int) * (uM k:Int)≤3710851743744000000:=by
            have h2:((N+M * uM k:Nat):Int)≤((3710851743744000000:Nat):Int):=Int.ofNat_le.2 hle2.2
            rw [Int.natCast_add,Int.natCast_mul] at h2
            exact h2
          have mw:IntKind.i64.wrap ((M:Int) * (uM k:Int))=(M:Int) * (uM k:Int):=by rw [IntKind.wrap_i64];omega
          have mw2:IntKind.i64.wrap ((N:Int)+(M:Int) * (uM k:Int))=(N:Int)+(M:Int) * (uM k:Int):=by rw [IntKind.wrap_i64];omega
          go_region_held3 (fun W=>W.cell? ⟨g,0,none⟩=some (.string (uN k))∧W.cell? ⟨g,1,none⟩=some (.int .i64 ((uM k:Nat):Int))) (first | exact CA.out _ (Same.trans (Same.drewN _ _) (Same.drew _)).below | exact CA.out _ (Same.drewN _ _).below | exact c3z) ((go_at_call 163;(with_reducible refine (U.out _ ?_).mono ?_);(first | exact (Same.drewN _ _).trans (Same.drew _) | exact Same.drewN _ _);rintro e w3 ⟨rfl,b3⟩;have c3z:=CA.out _ b3))
          have hB4:=hid_as (below_and hB3.out b3)
          obtain ⟨q0,q1⟩:=c3z
          have hUz:=uN_size k (by omega)
          clear b3 U CA
          go_wp2
          go_roundw
          case rel=>exact ⟨k+1,N+M * uM k,Z+(G+(uN k).size),by omega,hle2.1,by go_num,by rw [Int.natCast_add,Int.natCast_mul],by rw [hUz];go_num,hB4,hq⟩
          case measure=>simp [intOf];omega
        · have hq:Hid (spanK s.data.toList (k+1)=(N,Z)):=by rw [hp1.out,hpart.out,decide_eq_true hG,decide_eq_false hu];exact hid_as rfl
          clear hle hpart hp1 hn hu
          go_region_held3 (fun W=>W.cell? ⟨g,0,none⟩=some (.string (uN k))∧W.cell? ⟨g,1,none⟩=some (.int .i64 ((uM k:Nat):Int))) (first | exact CA.out _ (Same.trans (Same.drewN _ _) (Same.drew _)).below | exact CA.out _ (Same.drewN _ _).below | exact c3z) ((go_at_call 163;(with_reducible refine (U.out _ ?_).mono ?_);(first | exact (Same.drewN _ _).trans (Same.drew _) | exact Same.drewN _ _);rintro e w3 ⟨rfl,b3⟩;have c3z:=CA.out _ b3))
          have hB4:=hid_as (below_and hB3.out b3)
          clear b3 U CA c3z
          go_wp2
          go_roundw
          case rel=>exact ⟨k+1,N,Z,by omega,hZ,by go_num,rfl,rfl,hB4,hq⟩
          case measure=>simp [intOf];omega
      · have hq:Hid (spanK s.data.toList (k+1)=(N,Z)):=by rw [hp1.out,hpart.out,decide_eq_false hG];exact hid_as rfl
        have hG':¬ (0:Int) < G:=by omega
        go_wp2_with (go_at_call 147;refine (D.out _).mono ?_;rintro e w' ⟨rfl,hw⟩;subst w')
        go_region
        go_wp2
        go_roundw
        case rel=>exact ⟨k+1,N,Z,by omega,hZ,by go_num,rfl,rfl,hid_as (hB2 _).out.drew,hq⟩
        case measure=>simp [intOf];omega
    · have hk5:k=5:=by omega
      subst hk5
      obtain rfl:S=(N,Z):=hE.out.symm.trans hn.out
      clear hE hn
      go_wp2
      go_ret2
      exact ⟨rfl,hB.out⟩
end Go.Proofs.YtapcpjidgemggaaGreatDoor
