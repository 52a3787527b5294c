/- Words (stage 12, carried over). · The next token (stage 12, carried over). · How far the next token reaches; tokens in a row of memory (stage 12, carried over). -/
import Derived.Lib.IndexMore
import Derived.Laws.AppendOwn
import Derived.Test.YtapcpjidgemggaaGreatDoorQ4
namespace Go.Proofs.YtapcpjidgemggaaGreatDoor
open Go.RowKit
open Adr Lx
/-- What is known of a word ahead: its length, the word, what stands behind. -/
theorem kindNamed_take (s:ByteArray) (z:Nat) (W:World) (hW:Tabs W):Calls Tryz.prog 112 #[.string (s.extract 0 z)] W fun e w'=>e=.returned (.int .i64 (kf (s.data.toList.take z)))∧w'=W:=by
  have h:=kindNamed_c (s.extract 0 z) W hW
  rw [tx_take,tx_list] at h
  rw [tx_take]
  exact h
theorem Word_take (s:ByteArray) (z:Nat) (W:World) (hW:Tabs W):Calls Tryz.prog 116 #[.string (s.extract 0 z)] W fun e w'=>e=.returned (.bool (wrd (s.data.toList.take z)))∧w'=W:=by
  have h:=Word_c (s.extract 0 z) W hW
  rw [tx_take,tx_list] at h
  rw [tx_take]
  exact h
theorem take_eq (s:ByteArray) (z:Nat) (l:List UInt8):((s.extract 0 z).toList == l)=(s.data.toList.take z == l):=by rw [Lib.toList_data,tx_take,tx_list]
set_option maxHeartbeats 2000000 in
theorem word_time (s:ByteArray) (hs:s.size≤65536) (w:World) (hT:Tabs w) (z:Nat) (hz:z≤s.size) (Zc:Hid (∀ W,Calls Tryz.prog 110 #[.string s,.func (.func 111) #[] #[]] W fun e w'=>e=.returned (.int .i64 z)∧w'=W)) (hlt:z+1≤s.size) (hh:hp (s.data.toList.drop z) [35]=true) (hq:kf (s.data.toList.take z)=11):Calls Tryz.prog 71 #[.string s] w fun e w'=>e=.returned (rv (tmR s.data.toList (z+1)))∧Below w.heap.size w w':=by
  have _u:=And.intro hs hz
  clear _u
  have hN:=hid_as (below_new1 w (.cells #[.int .i64 0,.int .i64 0,.int .i64 0,.string ⟨#[]⟩,.int .i64 0] 42))
  have hR:=hid_as (room_new w)
  have hTn:=hid_as (hT.below hN.out)
  have c1:(0:Int)≤z:=by omega
  have c2:(z:Int)≤s.size:=by omega
  have H:Hid (∀ W,Calls Tryz.prog 30 #[.string (s.extract z s.size),.string ⟨#[35]⟩] W fun e w'=>e=.returned (.bool true)∧w'=W):=fun W=>has_rest s z ⟨#[35]⟩ true hh W
  have K:=hid_as (kindNamed_take s z)
  generalize kf (s.data.toList.take z)=q at *
  subst hq
  have LT:Hid (∀ W,Tabs W→Calls Tryz.prog 113 #[.string s,.int .i64 ((z:Int)+1)] W fun e w'=>e=.returned (rv (tmR s.data.toList (z+1)))∧Below W.heap.size W w'):=fun W hW=>readTime_c s (z+1) hlt hs W hW
  generalize tmR s.data.toList (z+1)=r at *
  obtain ⟨⟨ta,tb,tc,td⟩,tz,te⟩:=r
  replace LT:Hid (∀ W,Tabs W→Calls Tryz.prog 113 #[.string s,.int .i64 ((z:Int)+1)] W fun e w'=>e=.returned (.tuple #[.agg #[.int .i64 (ta:Nat),.int .i64 (tb:Nat),.int .i64 tc,.string (tx td),.int .i64 0],.int .i64 (tz:Nat),.int .i64 (te:Nat)])∧Below W.heap.size W w'):=LT
  go_enter Tryz.func71,Tryz.ntmps71
  go_wp2_with (first
    | (go_at_call 110;(with_reducible refine (Zc.out _).mono ?_);rintro e w' ⟨rfl,hw⟩;subst w')
    | (go_at_call 30;(with_reducible refine (H.out _).mono ?_);rintro e w' ⟨rfl,hw⟩;subst w')
    | (go_at_call 112;(with_reducible refine (K.out _ hTn.out).mono ?_);rintro e w' ⟨rfl,hw⟩;subst w')
    | (go_at_call 113;(with_reducible refine (LT.out _ hTn.out).mono ?_);rintro e w4 ⟨rfl,b4⟩;have hR4:=hid_as (hR.out.below b4);have hB4:=hid_as (below_and hN.out b4);obtain ⟨r0,r1,r2,r3,r4,rf,rl⟩:=hR4.out))
  exact bodyPost_ret (v:=rv ⟨⟨ta,tb,tc,td⟩,tz,te⟩) (by simp [results,Tryz.results71,go_sem,rv,tv,r0,r1,r2,r3,r4]) rfl ⟨rfl,five_set hB4.out (Nat.le_refl _) _ _ _ _ _⟩
set_option maxHeartbeats 2000000 in
theorem word_T (s:ByteArray) (hs:s.size≤65536) (w:World) (hT:Tabs w) (z:Nat) (hz:z≤s.size) (Zc:Hid (∀ W,Calls Tryz.prog 110 #[.string s,.func (.func 111) #[] #[]] W fun e w'=>e=.returned (.int .i64 z)∧w'=W)) (hlt:z+1≤s.size) (hh:hp (s.data.toList.drop z) [35]=true) (hq:¬ kf (s.data.toList.take z)=11) (ht:((s.extract 0 z).toList == [84])=true):Calls Tryz.prog 71 #[.string s] w fun e w'=>e=.returned (rv (tmR s.data.toList (z+1)))∧Below w.heap.size w w':=by
  have _u:=And.intro hs hz
  clear _u
  have hN:=hid_as (below_new1 w (.cells #[.int .i64 0,.int .i64 0,.int .i64 0,.string ⟨#[]⟩,.int .i64 0] 42))
  have hR:=hid_as (room_new w)
  have hTn:=hid_as (hT.below hN.out)
  have c1:(0:Int)≤z:=by omega
  have c2:(z:Int)≤s.size:=by omega
  have H:Hid (∀ W,Calls Tryz.prog 30 #[.string (s.extract z s.size),.string ⟨#[35]⟩] W fun e w'=>e=.returned (.bool true)∧w'=W):=fun W=>has_rest s z ⟨#[35]⟩ true hh W
  have K:=hid_as (kindNamed_take s z)
  generalize kf (s.data.toList.take z)=q at *
  have hq':¬ (q:Int)=11:=by omega
  have LT:Hid (∀ W,Tabs W→Calls Tryz.prog 113 #[.string s,.int .i64 ((z:Int)+1)] W fun e w'=>e=.returned (rv (tmR s.data.toList (z+1)))∧Below W.heap.size W w'):=fun W hW=>readTime_c s (z+1) hlt hs W hW
  generalize tmR s.data.toList (z+1)=r at *
  obtain ⟨⟨ta,tb,tc,td⟩,tz,te⟩:=r
  replace LT:Hid (∀ W,Tabs W→Calls Tryz.prog 113 #[.string s,.int .i64 ((z:Int)+1)] W fun e w'=>e=.returned (.tuple #[.agg #[.int .i64 (ta:Nat),.int .i64 (tb:Nat),.int .i64 tc,.string (tx td),.int .i64 0],.int .i64 (tz:Nat),.int .i64 (te:Nat)])∧Below W.heap.size W w'):=LT
  go_enter Tryz.func71,Tryz.ntmps71
  go_wp2_with (first
    | (go_at_call 110;(with_reducible refine (Zc.out _).mono ?_);rintro e w' ⟨rfl,hw⟩;subst w')
    | (go_at_call 30;(with_reducible refine (H.out _).mono ?_);rintro e w' ⟨rfl,hw⟩;subst w')
    | (go_at_call 112;(with_reducible refine (K.out _ hTn.out).mono ?_);rintro e w' ⟨rfl,hw⟩;subst w')
    | (go_at_call 113;(with_reducible refine (LT.out _ hTn.out).mono ?_);rintro e w4 ⟨rfl,b4⟩;have hR4:=hid_as (hR.out.below b4);have hB4:=hid_as (below_and hN.out b4);obtain ⟨r0,r1,r2,r3,r4,rf,rl⟩:=hR4.out))
  exact bodyPost_ret (v:=rv ⟨⟨ta,tb,tc,td⟩,tz,te⟩) (by simp [results,Tryz.results71,go_sem,rv,tv,r0,r1,r2,r3,r4]) rfl ⟨rfl,five_set hB4.out (Nat.le_refl _) _ _ _ _ _⟩
set_option maxHeartbeats 2000000 in
theorem word_typed (s:ByteArray) (hs:s.size≤65536) (w:World) (hT:Tabs w) (z:Nat) (hz:z≤s.size) (Zc:Hid (∀ W,Calls Tryz.prog 110 #[.string s,.func (.func 111) #[] #[]] W fun e w'=>e=.returned (.int .i64 z)∧w'=W)) (hlt:z+1≤s.size) (hh:hp (s.data.toList.drop z) [35]=true) (hq:¬ kf (s.data.toList.take z)=11) (h0:¬ kf (s.data.toList.take z)=0) (ht:((s.extract 0 z).toList == [84])=false):Calls Tryz.prog 71 #[.string s] w fun e w'=>e=.returned (rv (tyR s.data.toList (z+1) (kf (s.data.toList.take z))))∧Below w.heap.size w w':=by
  have _u:=And.intro hs hz
  clear _u
  have hN:=hid_as (below_new1 w (.cells #[.int .i64 0,.int .i64 0,.int .i64 0,.string ⟨#[]⟩,.int .i64 0] 42))
  have hR:=hid_as (room_new w)
  have hTn:=hid_as (hT.below hN.out)
  have c1:(0:Int)≤z:=by omega
  have c2:(z:Int)≤s.size:=by omega
  have H:Hid (∀ W,Calls Tryz.prog 30 #[.string (s.extract z s.size),.string ⟨#[35]⟩] W fun e w'=>e=.returned (.bool true)∧w'=W):=fun W=>has_rest s z ⟨#[35]⟩ true hh W
  have hlt12:=kf_lt (s.data.toList.take z)
  have K:=hid_as (kindNamed_take s z)
  generalize kf (s.data.toList.take z)=q at *
  have hq':¬ (q:Int)=11:=by omega
  have h0':¬ (q:Int)=0:=by omega
  have LT:Hid (∀ W,Tabs W→Calls Tryz.prog 114 #[.string s,.int .i64 ((z:Int)+1),.int .i64 q] W fun e w'=>e=.returned (rv (tyR s.data.toList (z+1) q))∧Below W.heap.size W w'):=fun W hW=>readTyped_c s (z+1) q hlt hs hlt12 W hW
  generalize tyR s.data.toList (z+1) q=r at *
  obtain ⟨⟨ta,tb,tc,td⟩,tz,te⟩:=r
  replace LT:Hid (∀ W,Tabs W→Calls Tryz.prog 114 #[.string s,.int .i64 ((z:Int)+1),.int .i64 q] W fun e w'=>e=.returned (.tuple #[.agg #[.int .i64 (ta:Nat),.int .i64 (tb:Nat),.int .i64 tc,.string (tx td),.int .i64 0],.int .i64 (tz:Nat),.int .i64 (te:Nat)])∧Below W.heap.size W w'):=LT
  go_enter Tryz.func71,Tryz.ntmps71
  go_wp2_with (first
    | (go_at_call 110;(with_reducible refine (Zc.out _).mono ?_);rintro e w' ⟨rfl,hw⟩;subst w')
    | (go_at_call 30;(with_reducible refine (H.out _).mono ?_);rintro e w' ⟨rfl,hw⟩;subst w')
    | (go_at_call 112;(with_reducible refine (K.out _ hTn.out).mono ?_);rintro e w' ⟨rfl,hw⟩;subst w')
    | (go_at_call 114;(with_reducible refine (LT.out _ hTn.out).mono ?_);rintro e w4 ⟨rfl,b4⟩;have hR4:=hid_as (hR.out.below b4);have hB4:=hid_as (below_and hN.out b4);obtain ⟨r0,r1,r2,r3,r4,rf,rl⟩:=hR4.out))
  exact bodyPost_ret (v:=rv ⟨⟨ta,tb,tc,td⟩,tz,te⟩) (by simp [results,Tryz.results71,go_sem,rv,tv,r0,r1,r2,r3,r4]) rfl ⟨rfl,five_set hB4.out (Nat.le_refl _) _ _ _ _ _⟩
set_option maxHeartbeats 2000000 in
theorem plain_true_a (s:ByteArray) (hs:s.size≤65536) (w:World) (hT:Tabs w) (z:Nat) (hz:z≤s.size) (Zc:Hid (∀ W,Calls Tryz.prog 110 #[.string s,.func (.func 111) #[] #[]] W fun e w'=>e=.returned (.int .i64 z)∧w'=W)) (hh:hp (s.data.toList.drop z) [35]=true) (h0:kf (s.data.toList.take z)=0) (ht:((s.extract 0 z).toList == [84])=false) (hv:((s.extract 0 z).toList == [84,82,85,69])=true):Calls Tryz.prog 71 #[.string s] w fun e w'=>e=.returned (rv (⟨tru 1,z,0⟩))∧Below w.heap.size w w':=by
  have _u:=And.intro hs hz
  clear _u
  have hN:=hid_as (below_new1 w (.cells #[.int .i64 0,.int .i64 0,.int .i64 0,.string ⟨#[]⟩,.int .i64 0] 42))
  have hR:=hid_as (room_new w)
  have hTn:=hid_as (hT.below hN.out)
  have c1:(0:Int)≤z:=by omega
  have c2:(z:Int)≤s.size:=by omega
  have H:Hid (∀ W,Calls Tryz.prog 30 #[.string (s.extract z s.size),.string ⟨#[35]⟩] W fun e w'=>e=.returned (.bool true)∧w'=W):=fun W=>has_rest s z ⟨#[35]⟩ true hh W
  have K:Hid (∀ W,Tabs W→Calls Tryz.prog 112 #[.string (s.extract 0 z)] W fun e w'=>e=.returned (.int .i64 0)∧w'=W):=fun W hW=>by have h:=kindNamed_take s z W hW;rw [h0] at h;exact h
  have TC:Hid (∀ W,Calls Tryz.prog 115 #[.int .i64 1] W fun e w'=>e=.returned (.agg #[.int .i64 3,.int .i64 1,.int .i64 1,.string ⟨#[]⟩,.int .i64 0])∧Below W.heap.size W w'):=fun W=>truth_c 1 W
  go_enter Tryz.func71,Tryz.ntmps71
  go_wp2_with (first
    | (go_at_call 110;(with_reducible refine (Zc.out _).mono ?_);rintro e w' ⟨rfl,hw⟩;subst w')
    | (go_at_call 30;(with_reducible refine (H.out _).mono ?_);rintro e w' ⟨rfl,hw⟩;subst w')
    | (go_at_call 112;(with_reducible refine (K.out _ hTn.out).mono ?_);rintro e w' ⟨rfl,hw⟩;subst w')
    | (go_at_call 115;(with_reducible refine (TC.out _).mono ?_);rintro e w4 ⟨rfl,b4⟩;have hR4:=hid_as (hR.out.below b4);have hB4:=hid_as (below_and hN.out b4);obtain ⟨r0,r1,r2,r3,r4,rf,rl⟩:=hR4.out))
  exact bodyPost_ret (v:=rv ⟨tru 1,z,0⟩) (by simp [results,Tryz.results71,go_sem,rv,tv,tru,tx,r0,r1,r2,r3,r4]) rfl ⟨rfl,five_set hB4.out (Nat.le_refl _) _ _ _ _ _⟩
set_option maxHeartbeats 2000000 in
theorem plain_false_a (s:ByteArray) (hs:s.size≤65536) (w:World) (hT:Tabs w) (z:Nat) (hz:z≤s.size) (Zc:Hid (∀ W,Calls Tryz.prog 110 #[.string s,.func (.func 111) #[] #[]] W fun e w'=>e=.returned (.int .i64 z)∧w'=W)) (hh:hp (s.data.toList.drop z) [35]=true) (h0:kf (s.data.toList.take z)=0) (ht:((s.extract 0 z).toList == [84])=false) (hn:((s.extract 0 z).toList == [84,82,85,69])=false) (hv:((s.extract 0 z).toList == [70,65,76,83,69])=true):Calls Tryz.prog 71 #[.string s] w fun e w'=>e=.returned (rv (⟨tru 0,z,0⟩))∧Below w.heap.size w w':=by
  have _u:=And.intro hs hz
  clear _u
  have hN:=hid_as (below_new1 w (.cells #[.int .i64 0,.int .i64 0,.int .i64 0,.string ⟨#[]⟩,.int .i64 0] 42))
  have hR:=hid_as (room_new w)
  have hTn:=hid_as (hT.below hN.out)
  have c1:(0:Int)≤z:=by omega
  have c2:(z:Int)≤s.size:=by omega
  have H:Hid (∀ W,Calls Tryz.prog 30 #[.string (s.extract z s.size),.string ⟨#[35]⟩] W fun e w'=>e=.returned (.bool true)∧w'=W):=fun W=>has_rest s z ⟨#[35]⟩ true hh W
  have K:Hid (∀ W,Tabs W→Calls Tryz.prog 112 #[.string (s.extract 0 z)] W fun e w'=>e=.returned (.int .i64 0)∧w'=W):=fun W hW=>by have h:=kindNamed_take s z W hW;rw [h0] at h;exact h
  have TC:Hid (∀ W,Calls Tryz.prog 115 #[.int .i64 0] W fun e w'=>e=.returned (.agg #[.int .i64 3,.int .i64 1,.int .i64 0,.string ⟨#[]⟩,.int .i64 0])∧Below W.heap.size W w'):=fun W=>truth_c 0 W
  go_enter Tryz.func71,Tryz.ntmps71
  go_wp2_with (first
    | (go_at_call 110;(with_reducible refine (Zc.out _).mono ?_);rintro e w' ⟨rfl,hw⟩;subst w')
    | (go_at_call 30;(with_reducible refine (H.out _).mono ?_);rintro e w' ⟨rfl,hw⟩;subst w')
    | (go_at_call 112;(with_reducible refine (K.out _ hTn.out).mono ?_);rintro e w' ⟨rfl,hw⟩;subst w')
    | (go_at_call 115;(with_reducible refine (TC.out _).mono ?_);rintro e w4 ⟨rfl,b4⟩;have hR4:=hid_as (hR.out.below b4);have hB4:=hid_as (below_and hN.out b4);obtain ⟨r0,r1,r2,r3,r4,rf,rl⟩:=hR4.out))
  exact bodyPost_ret (v:=rv ⟨tru 0,z,0⟩) (by simp [results,Tryz.results71,go_sem,rv,tv,tru,tx,r0,r1,r2,r3,r4]) rfl ⟨rfl,five_set hB4.out (Nat.le_refl _) _ _ _ _ _⟩
set_option maxHeartbeats 2000000 in
theorem plain_word_a (s:ByteArray) (hs:s.size≤65536) (w:World) (hT:Tabs w) (z:Nat) (hz:z≤s.size) (Zc:Hid (∀ W,Calls Tryz.prog 110 #[.string s,.func (.func 111) #[] #[]] W fun e w'=>e=.returned (.int .i64 z)∧w'=W)) (hh:hp (s.data.toList.drop z) [35]=true) (h0:kf (s.data.toList.take z)=0) (ht:((s.extract 0 z).toList == [84])=false) (hn:((s.extract 0 z).toList == [84,82,85,69])=false) (hf:((s.extract 0 z).toList == [70,65,76,83,69])=false) (hw:wrd (s.data.toList.take z)=true):Calls Tryz.prog 71 #[.string s] w fun e w'=>e=.returned (rv (⟨⟨1,0,0,s.data.toList.take z⟩,z,0⟩))∧Below w.heap.size w w':=by
  have _u:=And.intro hs hz
  clear _u
  have hN:=hid_as (below_new1 w (.cells #[.int .i64 0,.int .i64 0,.int .i64 0,.string ⟨#[]⟩,.int .i64 0] 42))
  have hR:=hid_as (room_new w)
  have hTn:=hid_as (hT.below hN.out)
  have c1:(0:Int)≤z:=by omega
  have c2:(z:Int)≤s.size:=by omega
  have hX:=hid_as (tx_take s z)
  have H:Hid (∀ W,Calls Tryz.prog 30 #[.string (s.extract z s.size),.string ⟨#[35]⟩] W fun e w'=>e=.returned (.bool true)∧w'=W):=fun W=>has_rest s z ⟨#[35]⟩ true hh W
  have K:Hid (∀ W,Tabs W→Calls Tryz.prog 112 #[.string (s.extract 0 z)] W fun e w'=>e=.returned (.int .i64 0)∧w'=W):=fun W hW=>by have h:=kindNamed_take s z W hW;rw [h0] at h;exact h
  have WD:=hid_as (Word_take s z)
  rw [hw] at WD
  go_enter Tryz.func71,Tryz.ntmps71
  go_wp2_with (first
    | (go_at_call 110;(with_reducible refine (Zc.out _).mono ?_);rintro e w' ⟨rfl,hw⟩;subst w')
    | (go_at_call 30;(with_reducible refine (H.out _).mono ?_);rintro e w' ⟨rfl,hw⟩;subst w')
    | (go_at_call 112;(with_reducible refine (K.out _ hTn.out).mono ?_);rintro e w' ⟨rfl,hw⟩;subst w')
    | (go_at_call 116;(with_reducible refine (WD.out _ hTn.out).mono ?_);rintro e w' ⟨rfl,hw⟩;subst w'))
  exact bodyPost_ret (v:=.tuple #[.agg #[.int .i64 1,.int .i64 0,.int .i64 0,.string (s.extract 0 z),.int .i64 0],.int .i64 z,.int .i64 0]) (by simp [results,Tryz.results71,go_sem]) rfl ⟨by simp [rv,tv,hX.out],below_new1 _ _⟩
set_option maxHeartbeats 2000000 in
theorem plain_big_a (s:ByteArray) (hs:s.size≤65536) (w:World) (hT:Tabs w) (z:Nat) (hz:z≤s.size) (Zc:Hid (∀ W,Calls Tryz.prog 110 #[.string s,.func (.func 111) #[] #[]] W fun e w'=>e=.returned (.int .i64 z)∧w'=W)) (hh:hp (s.data.toList.drop z) [35]=true) (h0:kf (s.data.toList.take z)=0) (ht:((s.extract 0 z).toList == [84])=false) (hn:((s.extract 0 z).toList == [84,82,85,69])=false) (hf:((s.extract 0 z).toList == [70,65,76,83,69])=false) (hw:wrd (s.data.toList.take z)=false) (hb:32 < z):Calls Tryz.prog 71 #[.string s] w fun e w'=>e=.returned (rv (er 121))∧Below w.heap.size w w':=by
  have _u:=And.intro hs hz
  clear _u
  have hN:=hid_as (below_new1 w (.cells #[.int .i64 0,.int .i64 0,.int .i64 0,.string ⟨#[]⟩,.int .i64 0] 42))
  have hR:=hid_as (room_new w)
  have hTn:=hid_as (hT.below hN.out)
  have c1:(0:Int)≤z:=by omega
  have c2:(z:Int)≤s.size:=by omega
  have H:Hid (∀ W,Calls Tryz.prog 30 #[.string (s.extract z s.size),.string ⟨#[35]⟩] W fun e w'=>e=.returned (.bool true)∧w'=W):=fun W=>has_rest s z ⟨#[35]⟩ true hh W
  have K:Hid (∀ W,Tabs W→Calls Tryz.prog 112 #[.string (s.extract 0 z)] W fun e w'=>e=.returned (.int .i64 0)∧w'=W):=fun W hW=>by have h:=kindNamed_take s z W hW;rw [h0] at h;exact h
  have WD:=hid_as (Word_take s z)
  rw [hw] at WD
  have hb':(32:Int) < z:=by omega
  go_enter Tryz.func71,Tryz.ntmps71
  go_wp2_with (first
    | (go_at_call 110;(with_reducible refine (Zc.out _).mono ?_);rintro e w' ⟨rfl,hw⟩;subst w')
    | (go_at_call 30;(with_reducible refine (H.out _).mono ?_);rintro e w' ⟨rfl,hw⟩;subst w')
    | (go_at_call 112;(with_reducible refine (K.out _ hTn.out).mono ?_);rintro e w' ⟨rfl,hw⟩;subst w')
    | (go_at_call 116;(with_reducible refine (WD.out _ hTn.out).mono ?_);rintro e w' ⟨rfl,hw⟩;subst w'))
  exact bodyPost_ret (v:=rv (er 121)) (by simp [results,Tryz.results71,go_sem,rv,er,nul,tv,tx]) rfl ⟨rfl,below_new1 _ _⟩
set_option maxHeartbeats 2000000 in
theorem plain_name_a (s:ByteArray) (hs:s.size≤65536) (w:World) (hT:Tabs w) (z:Nat) (hz:z≤s.size) (Zc:Hid (∀ W,Calls Tryz.prog 110 #[.string s,.func (.func 111) #[] #[]] W fun e w'=>e=.returned (.int .i64 z)∧w'=W)) (hh:hp (s.data.toList.drop z) [35]=true) (h0:kf (s.data.toList.take z)=0) (ht:((s.extract 0 z).toList == [84])=false) (hn:((s.extract 0 z).toList == [84,82,85,69])=false) (hf:((s.extract 0 z).toList == [70,65,76,83,69])=false) (hw:wrd (s.data.toList.take z)=false) (hb:¬ 32 < z):Calls Tryz.prog 71 #[.string s] w fun e w'=>e=.returned (rv (⟨⟨2,0,0,s.data.toList.take z⟩,z,0⟩))∧Below w.heap.size w w':=by
  have _u:=And.intro hs hz
  clear _u
  have hN:=hid_as (below_new1 w (.cells #[.int .i64 0,.int .i64 0,.int .i64 0,.string ⟨#[]⟩,.int .i64 0] 42))
  have hR:=hid_as (room_new w)
  have hTn:=hid_as (hT.below hN.out)
  have c1:(0:Int)≤z:=by omega
  have c2:(z:Int)≤s.size:=by omega
  have hX:=hid_as (tx_take s z)
  have H:Hid (∀ W,Calls Tryz.prog 30 #[.string (s.extract z s.size),.string ⟨#[35]⟩] W fun e w'=>e=.returned (.bool true)∧w'=W):=fun W=>has_rest s z ⟨#[35]⟩ true hh W
  have K:Hid (∀ W,Tabs W→Calls Tryz.prog 112 #[.string (s.extract 0 z)] W fun e w'=>e=.returned (.int .i64 0)∧w'=W):=fun W hW=>by have h:=kindNamed_take s z W hW;rw [h0] at h;exact h
  have WD:=hid_as (Word_take s z)
  rw [hw] at WD
  have hb':¬ (32:Int) < z:=by omega
  go_enter Tryz.func71,Tryz.ntmps71
  go_wp2_with (first
    | (go_at_call 110;(with_reducible refine (Zc.out _).mono ?_);rintro e w' ⟨rfl,hw⟩;subst w')
    | (go_at_call 30;(with_reducible refine (H.out _).mono ?_);rintro e w' ⟨rfl,hw⟩;subst w')
    | (go_at_call 112;(with_reducible refine (K.out _ hTn.out).mono ?_);rintro e w' ⟨rfl,hw⟩;subst w')
    | (go_at_call 116;(with_reducible refine (WD.out _ hTn.out).mono ?_);rintro e w' ⟨rfl,hw⟩;subst w'))
  exact bodyPost_ret (v:=.tuple #[.agg #[.int .i64 2,.int .i64 0,.int .i64 0,.string (s.extract 0 z),.int .i64 0],.int .i64 z,.int .i64 0]) (by simp [results,Tryz.results71,go_sem]) rfl ⟨by simp [rv,tv,hX.out],below_new1 _ _⟩
theorem plain_a (s:ByteArray) (hs:s.size≤65536) (w:World) (hT:Tabs w) (z:Nat) (hz:z≤s.size) (Zc:Hid (∀ W,Calls Tryz.prog 110 #[.string s,.func (.func 111) #[] #[]] W fun e w'=>e=.returned (.int .i64 z)∧w'=W)) (hh:hp (s.data.toList.drop z) [35]=true) (h0:kf (s.data.toList.take z)=0) (ht:((s.extract 0 z).toList == [84])=false):Calls Tryz.prog 71 #[.string s] w fun e w'=>e=.returned (rv (plainW (s.data.toList.take z)))∧Below w.heap.size w w':=by
  have hlz:(s.data.toList.take z).length=z:=by rw [List.length_take,← Lib.size_eq];omega
  unfold plainW
  rw [hlz]
  cases hv:((s.extract 0 z).toList == [84,82,85,69]) with
  | true =>
    rw [← take_eq s z,hv,if_pos rfl]
    exact plain_true_a s hs w hT z hz Zc hh h0 ht hv
  | false =>
    cases hf:((s.extract 0 z).toList == [70,65,76,83,69]) with
    | true =>
      rw [← take_eq s z,← take_eq s z,hv,hf,if_neg Bool.false_ne_true,if_pos rfl]
      exact plain_false_a s hs w hT z hz Zc hh h0 ht hv hf
    | false =>
      rw [← take_eq s z,← take_eq s z,hv,hf,if_neg Bool.false_ne_true,if_neg Bool.false_ne_true]
      cases hw:wrd (s.data.toList.take z) with
      | true=>rw [if_pos rfl];exact plain_word_a s hs w hT z hz Zc hh h0 ht hv hf hw
      | false =>
        rw [if_neg Bool.false_ne_true]
        by_cases hb:32 < z
        · rw [if_pos hb];exact plain_big_a s hs w hT z hz Zc hh h0 ht hv hf hw hb
        · rw [if_neg hb];exact plain_name_a s hs w hT z hz Zc hh h0 ht hv hf hw hb
set_option maxHeartbeats 2000000 in
theorem plain_true_b (s:ByteArray) (hs:s.size≤65536) (w:World) (hT:Tabs w) (z:Nat) (hz:z≤s.size) (Zc:Hid (∀ W,Calls Tryz.prog 110 #[.string s,.func (.func 111) #[] #[]] W fun e w'=>e=.returned (.int .i64 z)∧w'=W)) (hh:hp (s.data.toList.drop z) [35]=false) (hv:((s.extract 0 z).toList == [84,82,85,69])=true):Calls Tryz.prog 71 #[.string s] w fun e w'=>e=.returned (rv (⟨tru 1,z,0⟩))∧Below w.heap.size w w':=by
  have _u:=And.intro hs hz
  clear _u
  have hN:=hid_as (below_new1 w (.cells #[.int .i64 0,.int .i64 0,.int .i64 0,.string ⟨#[]⟩,.int .i64 0] 42))
  have hR:=hid_as (room_new w)
  have hTn:=hid_as (hT.below hN.out)
  have c1:(0:Int)≤z:=by omega
  have c2:(z:Int)≤s.size:=by omega
  have H:Hid (∀ W,Calls Tryz.prog 30 #[.string (s.extract z s.size),.string ⟨#[35]⟩] W fun e w'=>e=.returned (.bool false)∧w'=W):=fun W=>has_rest s z ⟨#[35]⟩ false hh W
  have TC:Hid (∀ W,Calls Tryz.prog 115 #[.int .i64 1] W fun e w'=>e=.returned (.agg #[.int .i64 3,.int .i64 1,.int .i64 1,.string ⟨#[]⟩,.int .i64 0])∧Below W.heap.size W w'):=fun W=>truth_c 1 W
  go_enter Tryz.func71,Tryz.ntmps71
  go_wp2_with (first
    | (go_at_call 110;(with_reducible refine (Zc.out _).mono ?_);rintro e w' ⟨rfl,hw⟩;subst w')
    | (go_at_call 30;(with_reducible refine (H.out _).mono ?_);rintro e w' ⟨rfl,hw⟩;subst w')
    | (go_at_call 115;(with_reducible refine (TC.out _).mono ?_);rintro e w4 ⟨rfl,b4⟩;have hR4:=hid_as (hR.out.below b4);have hB4:=hid_as (below_and hN.out b4);obtain ⟨r0,r1,r2,r3,r4,rf,rl⟩:=hR4.out))
  exact bodyPost_ret (v:=rv ⟨tru 1,z,0⟩) (by simp [results,Tryz.results71,go_sem,rv,tv,tru,tx,r0,r1,r2,r3,r4]) rfl ⟨rfl,five_set hB4.out (Nat.le_refl _) _ _ _ _ _⟩
set_option maxHeartbeats 2000000 in
theorem plain_false_b (s:ByteArray) (hs:s.size≤65536) (w:World) (hT:Tabs w) (z:Nat) (hz:z≤s.size) (Zc:Hid (∀ W,Calls Tryz.prog 110 #[.string s,.func (.func 111) #[] #[]] W fun e w'=>e=.returned (.int .i64 z)∧w'=W)) (hh:hp (s.data.toList.drop z) [35]=false) (hn:((s.extract 0 z).toList == [84,82,85,69])=false) (hv:((s.extract 0 z).toList == [70,65,76,83,69])=true):Calls Tryz.prog 71 #[.string s] w fun e w'=>e=.returned (rv (⟨tru 0,z,0⟩))∧Below w.heap.size w w':=by
  have _u:=And.intro hs hz
  clear _u
  have hN:=hid_as (below_new1 w (.cells #[.int .i64 0,.int .i64 0,.int .i64 0,.string ⟨#[]⟩,.int .i64 0] 42))
  have hR:=hid_as (room_new w)
  have hTn:=hid_as (hT.below hN.out)
  have c1:(0:Int)≤z:=by omega
  have c2:(z:Int)≤s.size:=by omega
  have H:Hid (∀ W,Calls Tryz.prog 30 #[.string (s.extract z s.size),.string ⟨#[35]⟩] W fun e w'=>e=.returned (.bool false)∧w'=W):=fun W=>has_rest s z ⟨#[35]⟩ false hh W
  have TC:Hid (∀ W,Calls Tryz.prog 115 #[.int .i64 0] W fun e w'=>e=.returned (.agg #[.int .i64 3,.int .i64 1,.int .i64 0,.string ⟨#[]⟩,.int .i64 0])∧Below W.heap.size W w'):=fun W=>truth_c 0 W
  go_enter Tryz.func71,Tryz.ntmps71
  go_wp2_with (first
    | (go_at_call 110;(with_reducible refine (Zc.out _).mono ?_);rintro e w' ⟨rfl,hw⟩;subst w')
    | (go_at_call 30;(with_reducible refine (H.out _).mono ?_);rintro e w' ⟨rfl,hw⟩;subst w')
    | (go_at_call 115;(with_reducible refine (TC.out _).mono ?_);rintro e w4 ⟨rfl,b4⟩;have hR4:=hid_as (hR.out.below b4);have hB4:=hid_as (below_and hN.out b4);obtain ⟨r0,r1,r2,r3,r4,rf,rl⟩:=hR4.out))
  exact bodyPost_ret (v:=rv ⟨tru 0,z,0⟩) (by simp [results,Tryz.results71,go_sem,rv,tv,tru,tx,r0,r1,r2,r3,r4]) rfl ⟨rfl,five_set hB4.out (Nat.le_refl _) _ _ _ _ _⟩
set_option maxHeartbeats 2000000 in
theorem plain_word_b (s:ByteArray) (hs:s.size≤65536) (w:World) (hT:Tabs w) (z:Nat) (hz:z≤s.size) (Zc:Hid (∀ W,Calls Tryz.prog 110 #[.string s,.func (.func 111) #[] #[]] W fun e w'=>e=.returned (.int .i64 z)∧w'=W)) (hh:hp (s.data.toList.drop z) [35]=false) (hn:((s.extract 0 z).toList == [84,82,85,69])=false) (hf:((s.extract 0 z).toList == [70,65,76,83,69])=false) (hw:wrd (s.data.toList.take z)=true):Calls Tryz.prog 71 #[.string s] w fun e w'=>e=.returned (rv (⟨⟨1,0,0,s.data.toList.take z⟩,z,0⟩))∧Below w.heap.size w w':=by
  have _u:=And.intro hs hz
  clear _u
  have hN:=hid_as (below_new1 w (.cells #[.int .i64 0,.int .i64 0,.int .i64 0,.string ⟨#[]⟩,.int .i64 0] 42))
  have hR:=hid_as (room_new w)
  have hTn:=hid_as (hT.below hN.out)
  have c1:(0:Int)≤z:=by omega
  have c2:(z:Int)≤s.size:=by omega
  have hX:=hid_as (tx_take s z)
  have H:Hid (∀ W,Calls Tryz.prog 30 #[.string (s.extract z s.size),.string ⟨#[35]⟩] W fun e w'=>e=.returned (.bool false)∧w'=W):=fun W=>has_rest s z ⟨#[35]⟩ false hh W
  have WD:=hid_as (Word_take s z)
  rw [hw] at WD
  go_enter Tryz.func71,Tryz.ntmps71
  go_wp2_with (first
    | (go_at_call 110;(with_reducible refine (Zc.out _).mono ?_);rintro e w' ⟨rfl,hw⟩;subst w')
    | (go_at_call 30;(with_reducible refine (H.out _).mono ?_);rintro e w' ⟨rfl,hw⟩;subst w')
    | (go_at_call 116;(with_reducible refine (WD.out _ hTn.out).mono ?_);rintro e w' ⟨rfl,hw⟩;subst w'))
  exact bodyPost_ret (v:=.tuple #[.agg #[.int .i64 1,.int .i64 0,.int .i64 0,.string (s.extract 0 z),.int .i64 0],.int .i64 z,.int .i64 0]) (by simp [results,Tryz.results71,go_sem]) rfl ⟨by simp [rv,tv,hX.out],below_new1 _ _⟩
set_option maxHeartbeats 2000000 in
theorem plain_big_b (s:ByteArray) (hs:s.size≤65536) (w:World) (hT:Tabs w) (z:Nat) (hz:z≤s.size) (Zc:Hid (∀ W,Calls Tryz.prog 110 #[.string s,.func (.func 111) #[] #[]] W fun e w'=>e=.returned (.int .i64 z)∧w'=W)) (hh:hp (s.data.toList.drop z) [35]=false) (hn:((s.extract 0 z).toList == [84,82,85,69])=false) (hf:((s.extract 0 z).toList == [70,65,76,83,69])=false) (hw:wrd (s.data.toList.take z)=false) (hb:32 < z):Calls Tryz.prog 71 #[.string s] w fun e w'=>e=.returned (rv (er 121))∧Below w.heap.size w w':=by
  have _u:=And.intro hs hz
  clear _u
  have hN:=hid_as (below_new1 w (.cells #[.int .i64 0,.int .i64 0,.int .i64 0,.string ⟨#[]⟩,.int .i64 0] 42))
  have hR:=hid_as (room_new w)
  have hTn:=hid_as (hT.below hN.out)
  have c1:(0:Int)≤z:=by omega
  have c2:(z:Int)≤s.size:=by omega
  have H:Hid (∀ W,Calls Tryz.prog 30 #[.string (s.extract z s.size),.string ⟨#[35]⟩] W fun e w'=>e=.returned (.bool false)∧w'=W):=fun W=>has_rest s z ⟨#[35]⟩ false hh W
  have WD:=hid_as (Word_take s z)
  rw [hw] at WD
  have hb':(32:Int) < z:=by omega
  go_enter Tryz.func71,Tryz.ntmps71
  go_wp2_with (first
    | (go_at_call 110;(with_reducible refine (Zc.out _).mono ?_);rintro e w' ⟨rfl,hw⟩;subst w')
    | (go_at_call 30;(with_reducible refine (H.out _).mono ?_);rintro e w' ⟨rfl,hw⟩;subst w')
    | (go_at_call 116;(with_reducible refine (WD.out _ hTn.out).mono ?_);rintro e w' ⟨rfl,hw⟩;subst w'))
  exact bodyPost_ret (v:=rv (er 121)) (by simp [results,Tryz.results71,go_sem,rv,er,nul,tv,tx]) rfl ⟨rfl,below_new1 _ _⟩
set_option maxHeartbeats 2000000 in
theorem plain_name_b (s:ByteArray) (hs:s.size≤65536) (w:World) (hT:Tabs w) (z:Nat) (hz:z≤s.size) (Zc:Hid (∀ W,Calls Tryz.prog 110 #[.string s,.func (.func 111) #[] #[]] W fun e w'=>e=.returned (.int .i64 z)∧w'=W)) (hh:hp (s.data.toList.drop z) [35]=false) (hn:((s.extract 0 z).toList == [84,82,85,69])=false) (hf:((s.extract 0 z).toList == [70,65,76,83,69])=false) (hw:wrd (s.data.toList.take z)=false) (hb:¬ 32 < z):Calls Tryz.prog 71 #[.string s] w fun e w'=>e=.returned (rv (⟨⟨2,0,0,s.data.toList.take z⟩,z,0⟩))∧Below w.heap.size w w':=by
  have _u:=And.intro hs hz
  clear _u
  have hN:=hid_as (below_new1 w (.cells #[.int .i64 0,.int .i64 0,.int .i64 0,.string ⟨#[]⟩,.int .i64 0] 42))
  have hR:=hid_as (room_new w)
  have hTn:=hid_as (hT.below hN.out)
  have c1:(0:Int)≤z:=by omega
  have c2:(z:Int)≤s.size:=by omega
  have hX:=hid_as (tx_take s z)
  have H:Hid (∀ W,Calls Tryz.prog 30 #[.string (s.extract z s.size),.string ⟨#[35]⟩] W fun e w'=>e=.returned (.bool false)∧w'=W):=fun W=>has_rest s z ⟨#[35]⟩ false hh W
  have WD:=hid_as (Word_take s z)
  rw [hw] at WD
  have hb':¬ (32:Int) < z:=by omega
  go_enter Tryz.func71,Tryz.ntmps71
  go_wp2_with (first
    | (go_at_call 110;(with_reducible refine (Zc.out _).mono ?_);rintro e w' ⟨rfl,hw⟩;subst w')
    | (go_at_call 30;(with_reducible refine (H.out _).mono ?_);rintro e w' ⟨rfl,hw⟩;subst w')
    | (go_at_call 116;(with_reducible refine (WD.out _ hTn.out).mono ?_);rintro e w' ⟨rfl,hw⟩;subst w'))
  exact bodyPost_ret (v:=.tuple #[.agg #[.int .i64 2,.int .i64 0,.int .i64 0,.string (s.extract 0 z),.int .i64 0],.int .i64 z,.int .i64 0]) (by simp [results,Tryz.results71,go_sem]) rfl ⟨by simp [rv,tv,hX.out],below_new1 _ _⟩
theorem plain_b (s:ByteArray) (hs:s.size≤65536) (w:World) (hT:Tabs w) (z:Nat) (hz:z≤s.size) (Zc:Hid (∀ W,Calls Tryz.prog 110 #[.string s,.func (.func 111) #[] #[]] W fun e w'=>e=.returned (.int .i64 z)∧w'=W)) (hh:hp (s.data.toList.drop z) [35]=false):Calls Tryz.prog 71 #[.string s] w fun e w'=>e=.returned (rv (plainW (s.data.toList.take z)))∧Below w.heap.size w w':=by
  have hlz:(s.data.toList.take z).length=z:=by rw [List.length_take,← Lib.size_eq];omega
  unfold plainW
  rw [hlz]
  cases hv:((s.extract 0 z).toList == [84,82,85,69]) with
  | true =>
    rw [← take_eq s z,hv,if_pos rfl]
    exact plain_true_b s hs w hT z hz Zc hh hv
  | false =>
    cases hf:((s.extract 0 z).toList == [70,65,76,83,69]) with
    | true =>
      rw [← take_eq s z,← take_eq s z,hv,hf,if_neg Bool.false_ne_true,if_pos rfl]
      exact plain_false_b s hs w hT z hz Zc hh hv hf
    | false =>
      rw [← take_eq s z,← take_eq s z,hv,hf,if_neg Bool.false_ne_true,if_neg Bool.false_ne_true]
      cases hw:wrd (s.data.toList.take z) with
      | true=>rw [if_pos rfl];exact plain_word_b s hs w hT z hz Zc hh hv hf hw
      | false =>
        rw [if_neg Bool.false_ne_true]
        by_cases hb:32 < z
        · rw [if_pos hb];exact plain_big_b s hs w hT z hz Zc hh hv hf hw hb
        · rw [if_neg hb];exact plain_name_b s hs w hT z hz Zc hh hv hf hw hb
/-- readWord. -/
theorem readWord_c (s:ByteArray) (hs:s.size≤65536) (w:World) (hT:Tabs w):Calls Tryz.prog 71 #[.string s] w fun e w'=>e=.returned (rv (wdR s.data.toList))∧Below w.heap.size w w':=by
  have Zc:=hid_as (fun W=>sizeW_c s W (by omega))
  have hz:cz inW s.data.toList≤s.size:=by rw [Lib.size_eq];exact cz_le _ _
  unfold wdR
  generalize cz inW s.data.toList=z at *
  cases hh:hp (s.data.toList.drop z) [35] with
  | false =>
    simp only [Bool.false_and,Bool.false_eq_true,if_false]
    exact plain_b s hs w hT z hz Zc hh
  | true =>
    have hlt:z+1≤s.size:=by have h:=hp_le hh;rw [List.length_drop,← Lib.size_eq] at h;simp at h;omega
    by_cases h11:kf (s.data.toList.take z)=11
    · rw [decide_eq_true h11]
      exact word_time s hs w hT z hz Zc hlt hh h11
    · rw [decide_eq_false h11]
      cases ht:((s.extract 0 z).toList == [84]) with
      | true =>
        rw [← take_eq s z,ht]
        exact word_T s hs w hT z hz Zc hlt hh h11 ht
      | false =>
        rw [← take_eq s z,ht]
        by_cases h0:kf (s.data.toList.take z)=0
        · rw [decide_eq_true h0]
          exact plain_a s hs w hT z hz Zc hh h0 ht
        · rw [decide_eq_false h0]
          exact word_typed s hs w hT z hz Zc hlt hh h11 h0 ht
open Go.RowKit
open Adr Lx
set_option maxHeartbeats 2000000 in
theorem next_word (s:ByteArray) (h0:0 < s.size) (hs:s.size≤65536) (w:World) (hT:Tabs w) (hl:isL s[0]=true):Calls Tryz.prog 32 #[.string s] w fun e w'=>e=.returned (rv (wdR s.data.toList))∧Below w.heap.size w w':=by
  have _u:=And.intro hs h0
  clear _u
  have hN:=hid_as (below_new1 w (.cells #[.int .i64 0,.int .i64 0,.int .i64 0,.string ⟨#[]⟩,.int .i64 0] 42))
  have hR:=hid_as (room_new w)
  have hTn:=hid_as (hT.below hN.out)
  have ha:(0:Int) < s.size:=by omega
  have LC:Hid (∀ W,Calls Tryz.prog 70 #[.int .u8 s[0].toNat] W fun e w'=>e=.returned (.bool true)∧w'=W):=fun W=>by have h:=isLetter_c s[0] W;rw [hl] at h;exact h
  have LT:Hid (∀ W,Tabs W→Calls Tryz.prog 71 #[.string s] W fun e w'=>e=.returned (rv (wdR s.data.toList))∧Below W.heap.size W w'):=fun W hW=>readWord_c s hs W hW
  generalize wdR s.data.toList=r at *
  obtain ⟨⟨ta,tb,tc,td⟩,tz,te⟩:=r
  replace LT:Hid (∀ W,Tabs W→Calls Tryz.prog 71 #[.string s] W fun e w'=>e=.returned (.tuple #[.agg #[.int .i64 (ta:Nat),.int .i64 (tb:Nat),.int .i64 tc,.string (tx td),.int .i64 0],.int .i64 (tz:Nat),.int .i64 (te:Nat)])∧Below W.heap.size W w'):=LT
  go_enter Tryz.func32,Tryz.ntmps32
  go_wp2_with (first
    | (go_at_call 70;(with_reducible refine (LC.out _).mono ?_);rintro e w' ⟨rfl,hw⟩;subst w')
    | (go_at_call 71;(with_reducible refine (LT.out _ hTn.out).mono ?_);rintro e w4 ⟨rfl,b4⟩;have hR4:=hid_as (hR.out.below b4);have hB4:=hid_as (below_and hN.out b4);obtain ⟨r0,r1,r2,r3,r4,rf,rl⟩:=hR4.out))
  exact bodyPost_ret (v:=rv ⟨⟨ta,tb,tc,td⟩,tz,te⟩) (by simp [results,Tryz.results32,go_sem,rv,tv,r0,r1,r2,r3,r4]) rfl ⟨rfl,five_set hB4.out (Nat.le_refl _) _ _ _ _ _⟩
set_option maxHeartbeats 2000000 in
theorem next_num (s:ByteArray) (h0:0 < s.size) (hs:s.size≤65536) (w:World) (hT:Tabs w) (hl:isL s[0]=false) (hd:dgt s[0]=true):Calls Tryz.prog 32 #[.string s] w fun e w'=>e=.returned (rv (unR s.data.toList))∧Below w.heap.size w w':=by
  have _u:=And.intro hs h0
  clear _u
  have hN:=hid_as (below_new1 w (.cells #[.int .i64 0,.int .i64 0,.int .i64 0,.string ⟨#[]⟩,.int .i64 0] 42))
  have hR:=hid_as (room_new w)
  have hTn:=hid_as (hT.below hN.out)
  have ha:(0:Int) < s.size:=by omega
  have LC:Hid (∀ W,Calls Tryz.prog 70 #[.int .u8 s[0].toNat] W fun e w'=>e=.returned (.bool false)∧w'=W):=fun W=>by have h:=isLetter_c s[0] W;rw [hl] at h;exact h
  have DC:Hid (∀ W,Calls Tryz.prog 72 #[.int .u8 s[0].toNat] W fun e w'=>e=.returned (.bool true)∧w'=W):=fun W=>by have h:=isDigit_c s[0] W;rw [hd] at h;exact h
  have LT:Hid (∀ W,Tabs W→Calls Tryz.prog 73 #[.string s] W fun e w'=>e=.returned (rv (unR s.data.toList))∧Below W.heap.size W w'):=fun W hW=>readUntyped_c s hs W hW
  generalize unR s.data.toList=r at *
  obtain ⟨⟨ta,tb,tc,td⟩,tz,te⟩:=r
  replace LT:Hid (∀ W,Tabs W→Calls Tryz.prog 73 #[.string s] W fun e w'=>e=.returned (.tuple #[.agg #[.int .i64 (ta:Nat),.int .i64 (tb:Nat),.int .i64 tc,.string (tx td),.int .i64 0],.int .i64 (tz:Nat),.int .i64 (te:Nat)])∧Below W.heap.size W w'):=LT
  go_enter Tryz.func32,Tryz.ntmps32
  go_wp2_with (first
    | (go_at_call 70;(with_reducible refine (LC.out _).mono ?_);rintro e w' ⟨rfl,hw⟩;subst w')
    | (go_at_call 72;(with_reducible refine (DC.out _).mono ?_);rintro e w' ⟨rfl,hw⟩;subst w')
    | (go_at_call 73;(with_reducible refine (LT.out _ hTn.out).mono ?_);rintro e w4 ⟨rfl,b4⟩;have hR4:=hid_as (hR.out.below b4);have hB4:=hid_as (below_and hN.out b4);obtain ⟨r0,r1,r2,r3,r4,rf,rl⟩:=hR4.out))
  exact bodyPost_ret (v:=rv ⟨⟨ta,tb,tc,td⟩,tz,te⟩) (by simp [results,Tryz.results32,go_sem,rv,tv,r0,r1,r2,r3,r4]) rfl ⟨rfl,five_set hB4.out (Nat.le_refl _) _ _ _ _ _⟩
set_option maxHeartbeats 2000000 in
theorem next_addr (s:ByteArray) (h0:0 < s.size) (hs:s.size≤65536) (w:World) (hT:Tabs w) (hl:isL s[0]=false) (hd:dgt s[0]=false) (hc:((s[0].toNat:Int) == 37)=true):Calls Tryz.prog 32 #[.string s] w fun e w'=>e=.returned (rv (adR s.data.toList))∧Below w.heap.size w w':=by
  have _u:=And.intro hs h0
  clear _u
  have hN:=hid_as (below_new1 w (.cells #[.int .i64 0,.int .i64 0,.int .i64 0,.string ⟨#[]⟩,.int .i64 0] 42))
  have hR:=hid_as (room_new w)
  have hTn:=hid_as (hT.below hN.out)
  have ha:(0:Int) < s.size:=by omega
  have LC:Hid (∀ W,Calls Tryz.prog 70 #[.int .u8 s[0].toNat] W fun e w'=>e=.returned (.bool false)∧w'=W):=fun W=>by have h:=isLetter_c s[0] W;rw [hl] at h;exact h
  have DC:Hid (∀ W,Calls Tryz.prog 72 #[.int .u8 s[0].toNat] W fun e w'=>e=.returned (.bool false)∧w'=W):=fun W=>by have h:=isDigit_c s[0] W;rw [hd] at h;exact h
  have LT:Hid (∀ W,Tabs W→Calls Tryz.prog 74 #[.string s] W fun e w'=>e=.returned (rv (adR s.data.toList))∧Below W.heap.size W w'):=fun W hW=>readAddress_c s h0 hs W hW
  generalize adR s.data.toList=r at *
  obtain ⟨⟨ta,tb,tc,td⟩,tz,te⟩:=r
  replace LT:Hid (∀ W,Tabs W→Calls Tryz.prog 74 #[.string s] W fun e w'=>e=.returned (.tuple #[.agg #[.int .i64 (ta:Nat),.int .i64 (tb:Nat),.int .i64 tc,.string (tx td),.int .i64 0],.int .i64 (tz:Nat),.int .i64 (te:Nat)])∧Below W.heap.size W w'):=LT
  go_enter Tryz.func32,Tryz.ntmps32
  go_wp2_with (first
    | (go_at_call 70;(with_reducible refine (LC.out _).mono ?_);rintro e w' ⟨rfl,hw⟩;subst w')
    | (go_at_call 72;(with_reducible refine (DC.out _).mono ?_);rintro e w' ⟨rfl,hw⟩;subst w')
    | (go_at_call 74;(with_reducible refine (LT.out _ hTn.out).mono ?_);rintro e w4 ⟨rfl,b4⟩;have hR4:=hid_as (hR.out.below b4);have hB4:=hid_as (below_and hN.out b4);obtain ⟨r0,r1,r2,r3,r4,rf,rl⟩:=hR4.out))
  exact bodyPost_ret (v:=rv ⟨⟨ta,tb,tc,td⟩,tz,te⟩) (by simp [results,Tryz.results32,go_sem,rv,tv,r0,r1,r2,r3,r4]) rfl ⟨rfl,five_set hB4.out (Nat.le_refl _) _ _ _ _ _⟩
set_option maxHeartbeats 2000000 in
theorem next_line (s:ByteArray) (h0:0 < s.size) (hs:s.size≤65536) (w:World) (hT:Tabs w) (hl:isL s[0]=false) (hd:dgt s[0]=false) (hc:((s[0].toNat:Int) == 37)=false) (hf:((s[0].toNat:Int) == 10)=true):Calls Tryz.prog 32 #[.string s] w fun e w'=>e=.returned (rv (⟨⟨7,0,0,[10]⟩,1,0⟩))∧Below w.heap.size w w':=by
  have _u:=And.intro hs h0
  clear _u
  have hN:=hid_as (below_new1 w (.cells #[.int .i64 0,.int .i64 0,.int .i64 0,.string ⟨#[]⟩,.int .i64 0] 42))
  have hR:=hid_as (room_new w)
  have hTn:=hid_as (hT.below hN.out)
  have ha:(0:Int) < s.size:=by omega
  have hf2:((s[0].toNat:Int) == ((({ data:=#[10] }:ByteArray)[0]'(by decide)).toNat:Int))=true:=hf
  have LC:Hid (∀ W,Calls Tryz.prog 70 #[.int .u8 s[0].toNat] W fun e w'=>e=.returned (.bool false)∧w'=W):=fun W=>by have h:=isLetter_c s[0] W;rw [hl] at h;exact h
  have DC:Hid (∀ W,Calls Tryz.prog 72 #[.int .u8 s[0].toNat] W fun e w'=>e=.returned (.bool false)∧w'=W):=fun W=>by have h:=isDigit_c s[0] W;rw [hd] at h;exact h
  go_enter Tryz.func32,Tryz.ntmps32
  go_wp2_with (first
    | (go_at_call 70;(with_reducible refine (LC.out _).mono ?_);rintro e w' ⟨rfl,hw⟩;subst w')
    | (go_at_call 72;(with_reducible refine (DC.out _).mono ?_);rintro e w' ⟨rfl,hw⟩;subst w'))
  exact bodyPost_ret (v:=rv ⟨⟨7,0,0,[10]⟩,1,0⟩) (by simp [results,Tryz.results32,go_sem,rv,tv,tx]) rfl ⟨rfl,below_new1 _ _⟩
set_option maxHeartbeats 2000000 in
theorem next_sign (s:ByteArray) (h0:0 < s.size) (hs:s.size≤65536) (w:World) (hT:Tabs w) (hl:isL s[0]=false) (hd:dgt s[0]=false) (hc:((s[0].toNat:Int) == 37)=false) (hf:((s[0].toNat:Int) == 10)=false):Calls Tryz.prog 32 #[.string s] w fun e w'=>e=.returned (rv (sgR s.data.toList))∧Below w.heap.size w w':=by
  have _u:=And.intro hs h0
  clear _u
  have hN:=hid_as (below_new1 w (.cells #[.int .i64 0,.int .i64 0,.int .i64 0,.string ⟨#[]⟩,.int .i64 0] 42))
  have hR:=hid_as (room_new w)
  have hTn:=hid_as (hT.below hN.out)
  have ha:(0:Int) < s.size:=by omega
  have hf2:((s[0].toNat:Int) == ((({ data:=#[10] }:ByteArray)[0]'(by decide)).toNat:Int))=false:=hf
  have LC:Hid (∀ W,Calls Tryz.prog 70 #[.int .u8 s[0].toNat] W fun e w'=>e=.returned (.bool false)∧w'=W):=fun W=>by have h:=isLetter_c s[0] W;rw [hl] at h;exact h
  have DC:Hid (∀ W,Calls Tryz.prog 72 #[.int .u8 s[0].toNat] W fun e w'=>e=.returned (.bool false)∧w'=W):=fun W=>by have h:=isDigit_c s[0] W;rw [hd] at h;exact h
  have LT:Hid (∀ W,Tabs W→Calls Tryz.prog 75 #[.string s] W fun e w'=>e=.returned (rv (sgR s.data.toList))∧Below W.heap.size W w'):=fun W hW=>readSign_c s h0 W
  generalize sgR s.data.toList=r at *
  obtain ⟨⟨ta,tb,tc,td⟩,tz,te⟩:=r
  replace LT:Hid (∀ W,Tabs W→Calls Tryz.prog 75 #[.string s] W fun e w'=>e=.returned (.tuple #[.agg #[.int .i64 (ta:Nat),.int .i64 (tb:Nat),.int .i64 tc,.string (tx td),.int .i64 0],.int .i64 (tz:Nat),.int .i64 (te:Nat)])∧Below W.heap.size W w'):=LT
  go_enter Tryz.func32,Tryz.ntmps32
  go_wp2_with (first
    | (go_at_call 70;(with_reducible refine (LC.out _).mono ?_);rintro e w' ⟨rfl,hw⟩;subst w')
    | (go_at_call 72;(with_reducible refine (DC.out _).mono ?_);rintro e w' ⟨rfl,hw⟩;subst w')
    | (go_at_call 75;(with_reducible refine (LT.out _ hTn.out).mono ?_);rintro e w4 ⟨rfl,b4⟩;have hR4:=hid_as (hR.out.below b4);have hB4:=hid_as (below_and hN.out b4);obtain ⟨r0,r1,r2,r3,r4,rf,rl⟩:=hR4.out))
  exact bodyPost_ret (v:=rv ⟨⟨ta,tb,tc,td⟩,tz,te⟩) (by simp [results,Tryz.results32,go_sem,rv,tv,r0,r1,r2,r3,r4]) rfl ⟨rfl,five_set hB4.out (Nat.le_refl _) _ _ _ _ _⟩
theorem beq_dec (n k:Nat):((n:Int) == (k:Int))=decide (n=k):=by
  rw [Bool.eq_iff_iff,beq_iff_eq,decide_eq_true_eq]
  omega
/-- The next token, of any text that isn't empty. -/
theorem next_c (s:ByteArray) (h0:0 < s.size) (hs:s.size≤65536) (w:World) (hT:Tabs w):Calls Tryz.prog 32 #[.string s] w fun e w'=>e=.returned (rv (nx s.data.toList))∧Below w.heap.size w w':=by
  have e:nx s.data.toList=if isL s[0] then wdR s.data.toList else if dgt s[0] then unR s.data.toList else if decide (s[0].toNat=37) then adR s.data.toList else if decide (s[0].toNat=10) then ⟨⟨7,0,0,[10]⟩,1,0⟩ else sgR s.data.toList:=by
    have h:=head_at h0
    cases hl:s.data.toList with
    | nil=>rw [hl] at h;cases h
    | cons c l=>rw [hl] at h;simp at h;rw [← h];rfl
  rw [e]
  cases hl:isL s[0] with
  | true=>rw [if_pos rfl];exact next_word s h0 hs w hT hl
  | false =>
    rw [if_neg Bool.false_ne_true]
    cases hd:dgt s[0] with
    | true=>rw [if_pos rfl];exact next_num s h0 hs w hT hl hd
    | false =>
      rw [if_neg Bool.false_ne_true]
      cases hc:decide (s[0].toNat=37) with
      | true=>rw [if_pos rfl];exact next_addr s h0 hs w hT hl hd ((beq_dec _ 37).trans hc)
      | false =>
        rw [if_neg Bool.false_ne_true]
        cases hf:decide (s[0].toNat=10) with
        | true=>rw [if_pos rfl];exact next_line s h0 hs w hT hl hd ((beq_dec _ 37).trans hc) ((beq_dec _ 10).trans hf)
        | false=>rw [if_neg Bool.false_ne_true];exact next_sign s h0 hs w hT hl hd ((beq_dec _ 37).trans hc) ((beq_dec _ 10).trans hf)
set_option maxHeartbeats 2000000 in
/-- commentSize, of a text of two signs or more. -/
theorem commentSize_c (s:ByteArray) (h2:2≤s.size) (hs:s.size≤65536) (w:World) (hT:Tabs w):Calls Tryz.prog 31 #[.string s] w fun e w'=>e=.returned (.int .i64 (csz s.data.toList))∧w'=w:=by
  obtain ⟨m,hm⟩:=hT.max
  have c2:(2:Int)≤s.size:=by omega
  have I0:=hid_as (findIn (s.extract 2 s.size) ⟨#[42,41]⟩ m w (by rw [tx_drop,tx_size,List.length_drop,← Lib.size_eq];omega) hm)
  have I:Hid (Calls Tryz.prog 109 #[.string (s.extract 2 s.size),.string ⟨#[42,41]⟩] w fun e w'=>e=.returned (.int .i64 (Lib.index (s.data.toList.drop 2) [42,41]))∧w'=w):=by
    have h:=I0.out
    rw [show (s.extract 2 s.size).data.toList=s.data.toList.drop 2 by rw [tx_drop,tx_list]] at h
    exact h
  clear I0
  have IS:Hid (Calls Tryz.prog 69 #[.string (s.extract 2 s.size),.string ⟨#[42,41]⟩] w fun e w'=>e=.returned (.int .i64 (Lib.index (s.data.toList.drop 2) [42,41]))∧w'=w):=by
    show Calls _ _ _ _ _
    go_enter Tryz.func69,Tryz.ntmps69
    go_wp2_with (go_at_call 109;(with_reducible refine I.out.mono ?_);rintro e w' ⟨rfl,hw⟩;subst w')
    go_ret
    exact ⟨rfl,rfl⟩
  have hb:=Lib.index_le (s.data.toList.drop 2) [42,41]
  have hcs:Hid (csz s.data.toList=if Lib.index (s.data.toList.drop 2) [42,41] < 0 then 0 else (Lib.index (s.data.toList.drop 2) [42,41]).toNat+4):=hid_as rfl
  rw [hcs.out]
  clear hcs I
  rw [List.length_drop,← Lib.size_eq] at hb
  generalize Lib.index (s.data.toList.drop 2) [42,41]=J at *
  by_cases hJ:J < 0
  · rw [if_pos hJ]
    go_enter Tryz.func31,Tryz.ntmps31
    go_wp2_with (go_at_call 69;(with_reducible refine IS.out.mono ?_);rintro e w' ⟨rfl,hw⟩;subst w')
    go_ret
    exact ⟨rfl,rfl⟩
  · rw [if_neg hJ]
    have hJ2:J≤65536:=by omega
    go_enter Tryz.func31,Tryz.ntmps31
    go_wp2_with (go_at_call 69;(with_reducible refine IS.out.mono ?_);rintro e w' ⟨rfl,hw⟩;subst w')
    go_ret
    exact ⟨ret_int (by omega),rfl⟩
open Go.RowKit
open Adr Lx
theorem ltR_ok {tok k:Nat} {n:Int} {a z:Nat} (h:(ltR tok k n a z).e=0):(ltR tok k n a z).z=a+z∧1≤z:=by
  unfold ltR at *
  by_cases h0:z=0
  · rw [if_pos h0] at h;simp [er] at h
  · rw [if_neg h0] at h ⊢
    split at h
    · simp [er] at h
    · rename_i h1;rw [if_neg h1];exact ⟨rfl,by omega⟩
theorem span_le (l:List UInt8):(span l).2≤l.length:=(spanK_most l 5 (by omega)).1
theorem tmR_ok {l:List UInt8} {a:Nat} (ha:a≤l.length) (h:(tmR l a).e=0):1≤(tmR l a).z∧(tmR l a).z≤l.length:=by
  unfold tmR at *
  split at h
  · rename_i hq
    rw [if_pos hq]
    obtain ⟨e,h1⟩:=ltR_ok h
    have h2:=span_le ((l.drop a).drop 1)
    have h3:=hp_le hq
    rw [List.length_drop] at h3
    rw [List.length_drop,List.length_drop] at h2
    simp at h3
    omega
  · rename_i hq
    rw [if_neg hq]
    obtain ⟨e,h1⟩:=ltR_ok h
    have h2:=span_le (l.drop a)
    rw [List.length_drop] at h2
    omega
theorem tyR_ok {l:List UInt8} {a k:Nat} (ha:a≤l.length) (h:(tyR l a k).e=0):1≤(tyR l a k).z∧(tyR l a k).z≤l.length:=by
  unfold tyR at *
  split at h
  · rename_i hq
    rw [if_pos hq]
    rw [Bool.and_eq_true] at hq
    have h3:=hp_le hq.2
    rw [List.length_drop] at h3
    simp at h3
    exact ⟨by show 1≤a+4;omega,by show a+4≤_;omega⟩
  · rename_i hq
    rw [if_neg hq]
    split at h
    · rename_i hq2
      rw [if_pos hq2]
      rw [Bool.and_eq_true] at hq2
      have h3:=hp_le hq2.2
      rw [List.length_drop] at h3
      simp at h3
      exact ⟨by show 1≤a+5;omega,by show a+5≤_;omega⟩
    · rename_i hq2
      rw [if_neg hq2]
      split at h
      · rename_i hq3
        rw [if_pos hq3]
        rw [Bool.and_eq_true] at hq3
        obtain ⟨e,h1⟩:=ltR_ok h
        have h2:=(rd_le 10 ((l.drop a).drop 1)).1
        have h3:=hp_le hq3.1
        rw [List.length_drop] at h3
        rw [List.length_drop,List.length_drop] at h2
        simp at h3
        omega
      · rename_i hq3
        rw [if_neg hq3]
        obtain ⟨e,h1⟩:=ltR_ok h
        have h2:=(num_le (l.drop a)).1
        rw [List.length_drop] at h2
        omega
theorem plainW_ok {w:List UInt8} (h:(plainW w).e=0):(plainW w).z=w.length:=by
  unfold plainW at *
  split at h
  · rename_i hq;rw [if_pos hq]
  · rename_i hq;rw [if_neg hq]
    split at h
    · rename_i hq;rw [if_pos hq]
    · rename_i hq;rw [if_neg hq]
      split at h
      · rename_i hq;rw [if_pos hq]
      · rename_i hq;rw [if_neg hq]
        split at h
        · simp [er] at h
        · rename_i hq;rw [if_neg hq]
theorem wdR_ok {l:List UInt8} (h1:1≤cz inW l) (h:(wdR l).e=0):1≤(wdR l).z∧(wdR l).z≤l.length:=by
  have hz:=cz_le inW l
  unfold wdR at *
  split at h
  · rename_i hq
    rw [if_pos hq]
    rw [Bool.and_eq_true] at hq
    have h3:=hp_le hq.1
    rw [List.length_drop] at h3
    simp at h3
    exact tmR_ok (by omega) h
  · rename_i hq
    rw [if_neg hq]
    split at h
    · rename_i hq2
      rw [if_pos hq2]
      rw [Bool.and_eq_true] at hq2
      have h3:=hp_le hq2.1
      rw [List.length_drop] at h3
      simp at h3
      exact tyR_ok (by omega) h
    · rename_i hq2
      rw [if_neg hq2]
      rw [plainW_ok h,List.length_take]
      omega
theorem nx_cons (c:UInt8) (l:List UInt8):nx (c :: l)=if isL c then wdR (c :: l) else if dgt c then unR (c :: l) else if decide (c.toNat=37) then adR (c :: l) else if decide (c.toNat=10) then ⟨⟨7,0,0,[10]⟩,1,0⟩ else sgR (c :: l):=rfl
theorem nx_ok {l:List UInt8} (h0:0 < l.length) (h:(nx l).e=0):1≤(nx l).z∧(nx l).z≤l.length:=by
  cases l with
  | nil=>simp at h0
  | cons c l =>
    rw [nx_cons] at *
    by_cases h1:isL c=true
    · rw [if_pos h1] at h ⊢
      refine wdR_ok ?_ h
      unfold cz
      rw [List.takeWhile_cons,show inW c=true by unfold inW;rw [h1];rfl]
      simp
    · rw [if_neg h1] at h ⊢
      by_cases h2:dgt c=true
      · rw [if_pos h2] at h ⊢
        have hn:=(num_le (c :: l)).1
        unfold unR at *
        split at h
        · simp [er] at h
        · rename_i q;rw [if_neg q]
          split at h
          · simp [er] at h
          · rename_i q2;rw [if_neg q2];exact ⟨by show 1≤(num (c :: l)).2;omega,hn⟩
      · rw [if_neg h2] at h ⊢
        split at h
        · rename_i q;rw [if_pos q]
          have hz:=adz_le (l:=c :: l) h0
          unfold adR at *
          split at h
          · rename_i q;rw [if_pos q];exact ⟨hz.2,hz.1⟩
          · rename_i q;simp [er] at h;exact absurd h q
        · rename_i q;rw [if_neg q]
          split at h
          · rename_i q;rw [if_pos q];exact ⟨Nat.le_refl _,h0⟩
          · rename_i q;rw [if_neg q]
            have hz:=sgz_le (l:=c :: l) h0
            unfold sgR at *
            split at h
            · simp [er] at h
            · rename_i q;rw [if_neg q];exact ⟨by show 1≤sgz (c :: l);omega,hz.1⟩
theorem csz_le {l:List UInt8} (h2:2≤l.length):csz l≤l.length:=by
  unfold csz
  split
  · exact Nat.zero_le _
  · have h:=Lib.index_room (l.drop 2) [42,41] (by omega)
    rw [List.length_drop] at h
    simp at h
    omega
/-- The cells of these tokens, at these places. -/
def tcs (L:List (Tk × Nat)):List Value:=L.flatMap fun p=>[.int .i64 p.1.tok,.int .i64 p.1.kind,.int .i64 p.1.n,.string (tx p.1.text),.int .i64 p.2]
theorem tcs_app (L M:List (Tk × Nat)):tcs (L ++ M)=tcs L ++ tcs M:=by simp [tcs]
/-- A slice of the call's own holds these tokens. -/
def Tks (base:Nat) (W:World) (v:Value) (L:List (Tk × Nat)):Prop:=W.ownsRow base 42 5 v L.length (tcs L)
theorem Tks.nil (base:Nat) (W:World):Tks base W (.slice none 0 0) []:=⟨rfl,Or.inl ⟨rfl,rfl⟩⟩
theorem Tks.below {base:Nat} {W W':World} {v:Value} {L:List (Tk × Nat)} (o:Tks base W v L) (k:Below W.heap.size W W'):Tks base W' v L:=by
  refine ⟨o.1,?_⟩
  rcases o.2 with h' | ⟨g,cap,cur,rfl,hb,hg,r⟩
  · exact Or.inl h'
  · have hlt:g < W.heap.size:=(World.ownsRow.lt o g rfl).2
    exact Or.inr ⟨g,cap,cur,rfl,hb,(k.block g hlt).trans hg,r⟩
theorem infoTk:(Tryz.prog.info? 42).map (fun i=>(i.zero,i.size,i.bytes))=some (some (.agg #[.int .i64 0,.int .i64 0,.int .i64 0,.string ⟨#[]⟩,.int .i64 0]),5,48):=by kernel_rfl
theorem info_parts {P:Program} {e:TypeId} {z:Value} {n b:Nat} (h:(P.info? e).map (fun i=>(i.zero,i.size,i.bytes))=some (some z,n,b)):∃ i,P.info? e=some i∧i.zero=some z∧i.size=n∧i.bytes=b:=by
  obtain ⟨i,hi,h2⟩:=Option.map_eq_some_iff.1 h
  simp only [Prod.mk.injEq] at h2
  exact ⟨i,hi,h2.1,h2.2.1,h2.2.2⟩
theorem five_cells (w:World) (e:TypeId) (x y z u v:Value):∀ j q,[x,y,z,u,v][j]?=some q→(w.alloc (.cells #[x,y,z,u,v] e)).cell? ((⟨w.heap.size,0,none⟩:Addr).add j)=some q:=by
  intro j q hj
  match j,hj with
  | 0,hj=>simp at hj;subst hj;simp [Addr.add]
  | 1,hj=>simp at hj;subst hj;simp [Addr.add]
  | 2,hj=>simp at hj;subst hj;simp [Addr.add]
  | 3,hj=>simp at hj;subst hj;simp [Addr.add]
  | 4,hj=>simp at hj;subst hj;simp [Addr.add]
/-- One token more. -/
theorem tks_push {base:Nat} {W:World} {v:Value} {L:List (Tk × Nat)} (o:Tks base W v L) (hL:L.length≤100000) (hbase:base≤W.heap.size) (t:Tk) (a:Nat) :
    ∃ v' w',(Builtin.append_ #[38,38] 38 #[v,.slice (some ⟨W.heap.size,0,none⟩) 1 1]).run Tryz.prog (W.alloc (.cells #[.int .i64 t.tok,.int .i64 t.kind,.int .i64 t.n,.string (tx t.text),.int .i64 a] 42))=.ok v' w'∧Tks base w' v' (L ++ [(t,a)])∧Below base W w':=by
  obtain ⟨i0,hi,hz0,hz1,hz2⟩:=info_parts infoTk
  have oA:Tks base (W.alloc (.cells #[.int .i64 t.tok,.int .i64 t.kind,.int .i64 t.n,.string (tx t.text),.int .i64 a] 42)) v L:=o.below (below_new1 W _)
  obtain ⟨v',w',hr,hown,hg,_⟩:=run_append_own (P:=Tryz.prog) (W.alloc (.cells #[.int .i64 t.tok,.int .i64 t.kind,.int .i64 t.n,.string (tx t.text),.int .i64 a] 42)) base 38 38 42 i0 _ 5 48 Tryz.underlying38 hi hz0 hz1 hz2 rfl (by decide) v L.length (tcs L) oA ⟨W.heap.size,0,none⟩ 1 1
    [.int .i64 t.tok,.int .i64 t.kind,.int .i64 t.n,.string (tx t.text),.int .i64 a] rfl (five_cells W _ _ _ _ _ _) (by intro u hu;simp at hu;rcases hu with rfl | rfl | rfl | rfl | rfl <;> rfl) (by simp only [maxLen];omega) (by omega) (by simp;omega)
  refine ⟨v',w',hr,?_,?_⟩
  · unfold Tks
    rw [tcs_app,List.length_append]
    exact hown
  · have hB:Below base W (W.alloc (.cells #[.int .i64 t.tok,.int .i64 t.kind,.int .i64 t.n,.string (tx t.text),.int .i64 a] 42)):=Below.alloc (Below.refl _ _) hbase _
    exact hB.grown hg (by simp;omega) (fun k hk=>(World.ownsRow.lt o k hk).1)
end Go.Proofs.YtapcpjidgemggaaGreatDoor
