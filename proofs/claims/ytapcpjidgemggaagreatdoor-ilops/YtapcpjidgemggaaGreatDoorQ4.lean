/- Readers: times, typed numbers (stage 12, carried over). · Readers: numbers, addresses, signs (stage 12, carried over). -/
import Derived.Test.YtapcpjidgemggaaGreatDoorQ3
namespace Go.Proofs.YtapcpjidgemggaaGreatDoor
open Go.RowKit
open Adr Lx
theorem readSpan_t (l:List UInt8) (hs:l.length≤70000) (w:World) (hT:Tabs w):Calls Tryz.prog 145 #[.string (tx l)] w fun e w'=>e=.returned (.tuple #[.int .i64 ((span l).1:Int),.int .i64 ((span l).2:Int)])∧Below w.heap.size w w':=by
  have h:=readSpan_c (tx l) w hT (by rw [tx_size];exact hs)
  rw [tx_list] at h
  exact h
theorem readNumber_t (l:List UInt8) (hs:l.length≤70000) (w:World) (hT:Tabs w):Calls Tryz.prog 117 #[.string (tx l)] w fun e w'=>e=.returned (.tuple #[.int .i64 ((num l).1:Int),.int .i64 ((num l).2:Int)])∧Below w.heap.size w w':=by
  have h:=readNumber_c (tx l) w hT (by rw [tx_size];exact hs)
  rw [tx_list] at h
  exact h
/-- A token's room lies in block g, and may be written. -/
structure Room (W:World) (g:Nat):Prop where
  c0:W.cell? ⟨g,0,none⟩=some (.int .i64 0)
  c1:W.cell? ⟨g,1,none⟩=some (.int .i64 0)
  c2:W.cell? ⟨g,2,none⟩=some (.int .i64 0)
  c3:W.cell? ⟨g,3,none⟩=some (.string ⟨#[]⟩)
  c4:W.cell? ⟨g,4,none⟩=some (.int .i64 0)
  fr:∀ j,W.frozen? ⟨g,j,none⟩=false
  lt:g < W.heap.size
theorem Room.below {W W':World} {g:Nat} (r:Room W g) (k:Below W.heap.size W W'):Room W' g :=
  ⟨(k.cell (p:=⟨g,0,none⟩) r.lt).trans r.c0,(k.cell (p:=⟨g,1,none⟩) r.lt).trans r.c1,(k.cell (p:=⟨g,2,none⟩) r.lt).trans r.c2,(k.cell (p:=⟨g,3,none⟩) r.lt).trans r.c3,(k.cell (p:=⟨g,4,none⟩) r.lt).trans r.c4,fun j=>(k.frozen (p:=⟨g,j,none⟩) r.lt).trans (r.fr j),Nat.lt_of_lt_of_le r.lt k.size⟩
theorem room_new (w:World):Room (w.alloc (.cells #[.int .i64 0,.int .i64 0,.int .i64 0,.string ⟨#[]⟩,.int .i64 0] 42)) w.heap.size :=
  ⟨by simp,by simp,by simp,by simp,by simp,fun j=>by simp,by simp⟩
theorem five_set {b g:Nat} {w W:World} (h:Below b w W) (hg:b≤g) (x y z u v:Value):Below b w (((((W.setCell ⟨g,0,none⟩ x).setCell ⟨g,1,none⟩ y).setCell ⟨g,2,none⟩ z).setCell ⟨g,3,none⟩ u).setCell ⟨g,4,none⟩ v) :=
  ((((h.setCell (p:=⟨g,0,none⟩) hg _).setCell (p:=⟨g,1,none⟩) hg _).setCell (p:=⟨g,2,none⟩) hg _).setCell (p:=⟨g,3,none⟩) hg _).setCell (p:=⟨g,4,none⟩) hg _
theorem hp_le {l p:List UInt8} (h:hp l p=true):p.length≤l.length:=by
  unfold hp at h
  rw [← Lib.hasPrefix_of_take,Bool.and_eq_true,decide_eq_true_eq] at h
  exact h.1
theorem byB_le (k:Nat) (l:List UInt8) (h:hp l (bn k).data.toList=true):(byB k l).2≤l.length∧(byB k l).1≤8589934592:=by
  unfold byB
  have h0:=rd_le (bo k) (l.drop (bn k).data.toList.length)
  rw [List.length_drop] at h0
  have h1:(bn k).data.toList.length≤l.length:=hp_le h
  split
  · exact ⟨Nat.zero_le _,Nat.zero_le _⟩
  · exact ⟨by show (bn k).data.toList.length+_≤_;omega,h0.2⟩
theorem num_le (l:List UInt8):(num l).2≤l.length∧(num l).1≤8589934592:=by
  unfold num
  split
  · rename_i h;exact byB_le 0 l h
  · split
    · rename_i h;exact byB_le 1 l h
    · split
      · rename_i h;exact byB_le 2 l h
      · exact rd_le 10 l
theorem cut_rest (s:ByteArray) (a:Nat) (p:ByteArray) (b:Bool) (h:hp (s.data.toList.drop a) p.data.toList=b) (W:World):Calls Tryz.prog 144 #[.string (s.extract a s.size),.string p] W fun e w'=>e=.returned (.tuple #[.string (if b then tx ((s.data.toList.drop a).drop p.data.toList.length) else s.extract a s.size),.bool b])∧w'=W:=by
  have k:=head_c (s.extract a s.size) p W
  rw [tx_drop,tx_list] at k
  rw [tx_drop]
  rw [show Lib.hasPrefix (s.data.toList.drop a) p.data.toList=b from h] at k
  exact k
theorem has_rest (s:ByteArray) (a:Nat) (p:ByteArray) (b:Bool) (h:hp (s.data.toList.drop a) p.data.toList=b) (W:World):Calls Tryz.prog 30 #[.string (s.extract a s.size),.string p] W fun e w'=>e=.returned (.bool b)∧w'=W:=by
  have k:=hasPrefix_c (s.extract a s.size) p W
  rw [tx_drop,tx_list,h] at k
  rw [tx_drop]
  exact k
set_option maxHeartbeats 2000000 in
theorem readTime_true (s:ByteArray) (a:Nat) (ha:a≤s.size) (hs:s.size≤65536) (w:World) (hT:Tabs w) (hq:hp (s.data.toList.drop a) [45]=true):Calls Tryz.prog 113 #[.string s,.int .i64 a] w fun e w'=>e=.returned (rv (tmR s.data.toList a))∧Below w.heap.size w w':=by
  have hL:=hid_as (Lib.size_eq s)
  have c1:(0:Int)≤a:=by omega
  have c2:(a:Int)≤s.size:=by omega
  have hN:=hid_as (below_new1 w (.cells #[.int .i64 0,.int .i64 0,.int .i64 0,.string ⟨#[]⟩,.int .i64 0] 42))
  have hR:=hid_as (room_new w)
  have hTn:=hid_as (hT.below hN.out)
  have P:Hid (∀ W,Calls Tryz.prog 144 #[.string (s.extract a s.size),.string ⟨#[45]⟩] W fun e w'=>e=.returned (.tuple #[.string (tx ((s.data.toList.drop a).drop 1)),.bool true])∧w'=W):=fun W=>cut_rest s a ⟨#[45]⟩ true hq W
  have e1:tmR s.data.toList a=ltR 4 11 (-((span ((s.data.toList.drop a).drop 1)).1:Int)) (a+1) (span ((s.data.toList.drop a).drop 1)).2:=by unfold tmR;rw [if_pos hq]
  rw [e1]
  have hlen:((s.data.toList.drop a).drop 1).length≤65536:=by have:=hL.out;rw [List.length_drop];rw [List.length_drop];omega
  have hsp:=spanK_most ((s.data.toList.drop a).drop 1) 5 (by omega)
  have S:=hid_as (fun W hW=>readSpan_t ((s.data.toList.drop a).drop 1) (by omega) W hW)
  rw [show spanK ((s.data.toList.drop a).drop 1) 5=span ((s.data.toList.drop a).drop 1) from rfl] at hsp
  clear hq e1
  generalize (span ((s.data.toList.drop a).drop 1)).1=N at *
  generalize (span ((s.data.toList.drop a).drop 1)).2=Z at *
  generalize hX:tx ((s.data.toList.drop a).drop 1)=X at *
  have hZ:Z≤65536:=by omega
  have LT:Hid (∀ W,Tabs W→Calls Tryz.prog 146 #[.int .i64 4,.int .i64 11,.int .i64 (-(N:Int)),.int .i64 ((a:Int)+1),.int .i64 Z] W fun e w'=>e=.returned (rv (ltR 4 11 (-(N:Int)) (a+1) Z))∧Below W.heap.size W w'):=fun W hW=>literal_c 4 11 (-(N:Int)) (a+1) Z (by omega) (by omega) (by omega) W hW
  generalize ltR 4 11 (-(N:Int)) (a+1) Z=r at *
  obtain ⟨⟨ta,tb,tc,td⟩,tz,te⟩:=r
  replace LT:Hid (∀ W,Tabs W→Calls Tryz.prog 146 #[.int .i64 4,.int .i64 11,.int .i64 (-(N:Int)),.int .i64 ((a:Int)+1),.int .i64 Z] W fun e w'=>e=.returned (.tuple #[.agg #[.int .i64 (ta:Nat),.int .i64 (tb:Nat),.int .i64 tc,.string (tx td),.int .i64 0],.int .i64 (tz:Nat),.int .i64 (te:Nat)])∧Below W.heap.size W w'):=LT
  go_enter Tryz.func113,Tryz.ntmps113
  go_wp2_with (first
    | (go_at_call 144;(with_reducible refine (P.out _).mono ?_);rintro e w' ⟨rfl,hw⟩;subst w')
    | (go_at_call 145;(with_reducible refine (S.out _ hTn.out).mono ?_);rintro e w3 ⟨rfl,b3⟩;have hR3:=hid_as (hR.out.below b3);have hT3:=hid_as (hTn.out.below b3);have hB3:=hid_as (below_and hN.out b3))
    | (go_at_call 146;(with_reducible refine (LT.out _ hT3.out).mono ?_);rintro e w4 ⟨rfl,b4⟩;have hR4:=hid_as (hR3.out.below b4);have hB4:=hid_as (below_and hB3.out b4);clear hR3 hT3 hB3;obtain ⟨r0,r1,r2,r3,r4,rf,rl⟩:=hR4.out))
  exact bodyPost_ret (v:=rv ⟨⟨ta,tb,tc,td⟩,tz,te⟩) (by simp [results,Tryz.results113,go_sem,rv,tv,r0,r1,r2,r3,r4]) rfl ⟨rfl,five_set hB4.out (Nat.le_refl _) _ _ _ _ _⟩
set_option maxHeartbeats 2000000 in
theorem readTime_false (s:ByteArray) (a:Nat) (ha:a≤s.size) (hs:s.size≤65536) (w:World) (hT:Tabs w) (hq:hp (s.data.toList.drop a) [45]=false):Calls Tryz.prog 113 #[.string s,.int .i64 a] w fun e w'=>e=.returned (rv (tmR s.data.toList a))∧Below w.heap.size w w':=by
  have hL:=hid_as (Lib.size_eq s)
  have c1:(0:Int)≤a:=by omega
  have c2:(a:Int)≤s.size:=by omega
  have hN:=hid_as (below_new1 w (.cells #[.int .i64 0,.int .i64 0,.int .i64 0,.string ⟨#[]⟩,.int .i64 0] 42))
  have hR:=hid_as (room_new w)
  have hTn:=hid_as (hT.below hN.out)
  have P:Hid (∀ W,Calls Tryz.prog 144 #[.string (s.extract a s.size),.string ⟨#[45]⟩] W fun e w'=>e=.returned (.tuple #[.string (s.extract a s.size),.bool false])∧w'=W):=fun W=>cut_rest s a ⟨#[45]⟩ false hq W
  have e1:tmR s.data.toList a=ltR 4 11 (((span (s.data.toList.drop a)).1:Int)) (a) (span (s.data.toList.drop a)).2:=by unfold tmR;rw [if_neg (by rw [hq];exact Bool.false_ne_true)]
  rw [e1]
  have hlen:(s.data.toList.drop a).length≤65536:=by have:=hL.out;rw [List.length_drop];omega
  have hsp:=spanK_most (s.data.toList.drop a) 5 (by omega)
  have S:=hid_as (fun W hW=>readSpan_t (s.data.toList.drop a) (by omega) W hW)
  rw [show spanK (s.data.toList.drop a) 5=span (s.data.toList.drop a) from rfl] at hsp
  rw [← tx_drop] at S
  clear hq e1
  generalize (span (s.data.toList.drop a)).1=N at *
  generalize (span (s.data.toList.drop a)).2=Z at *
  have hZ:Z≤65536:=by omega
  have LT:Hid (∀ W,Tabs W→Calls Tryz.prog 146 #[.int .i64 4,.int .i64 11,.int .i64 (N:Int),.int .i64 (a:Int),.int .i64 Z] W fun e w'=>e=.returned (rv (ltR 4 11 (N:Int) (a) Z))∧Below W.heap.size W w'):=fun W hW=>literal_c 4 11 (N:Int) (a) Z (by omega) (by omega) (by omega) W hW
  generalize ltR 4 11 (N:Int) (a) Z=r at *
  obtain ⟨⟨ta,tb,tc,td⟩,tz,te⟩:=r
  replace LT:Hid (∀ W,Tabs W→Calls Tryz.prog 146 #[.int .i64 4,.int .i64 11,.int .i64 (N:Int),.int .i64 (a:Int),.int .i64 Z] W fun e w'=>e=.returned (.tuple #[.agg #[.int .i64 (ta:Nat),.int .i64 (tb:Nat),.int .i64 tc,.string (tx td),.int .i64 0],.int .i64 (tz:Nat),.int .i64 (te:Nat)])∧Below W.heap.size W w'):=LT
  go_enter Tryz.func113,Tryz.ntmps113
  go_wp2_with (first
    | (go_at_call 144;(with_reducible refine (P.out _).mono ?_);rintro e w' ⟨rfl,hw⟩;subst w')
    | (go_at_call 145;(with_reducible refine (S.out _ hTn.out).mono ?_);rintro e w3 ⟨rfl,b3⟩;have hR3:=hid_as (hR.out.below b3);have hT3:=hid_as (hTn.out.below b3);have hB3:=hid_as (below_and hN.out b3))
    | (go_at_call 146;(with_reducible refine (LT.out _ hT3.out).mono ?_);rintro e w4 ⟨rfl,b4⟩;have hR4:=hid_as (hR3.out.below b4);have hB4:=hid_as (below_and hB3.out b4);clear hR3 hT3 hB3;obtain ⟨r0,r1,r2,r3,r4,rf,rl⟩:=hR4.out))
  exact bodyPost_ret (v:=rv ⟨⟨ta,tb,tc,td⟩,tz,te⟩) (by simp [results,Tryz.results113,go_sem,rv,tv,r0,r1,r2,r3,r4]) rfl ⟨rfl,five_set hB4.out (Nat.le_refl _) _ _ _ _ _⟩
theorem readTime_c (s:ByteArray) (a:Nat) (ha:a≤s.size) (hs:s.size≤65536) (w:World) (hT:Tabs w):Calls Tryz.prog 113 #[.string s,.int .i64 a] w fun e w'=>e=.returned (rv (tmR s.data.toList a))∧Below w.heap.size w w':=by
  cases hq:hp (s.data.toList.drop a) [45] with
  | true=>exact readTime_true s a ha hs w hT hq
  | false=>exact readTime_false s a ha hs w hT hq
set_option maxHeartbeats 2000000 in
theorem typed_true (s:ByteArray) (a k:Nat) (ha:a≤s.size) (hs:s.size≤65536) (hk:k < 12) (w:World) (hT:Tabs w) (hk1:k=1) (hq:hp (s.data.toList.drop a) [84,82,85,69]=true):Calls Tryz.prog 114 #[.string s,.int .i64 a,.int .i64 k] w fun e w'=>e=.returned (rv (tyR s.data.toList a k))∧Below w.heap.size w w':=by
  subst hk1
  have hL:=hid_as (Lib.size_eq s)
  have c1:(0:Int)≤a:=by omega
  have c2:(a:Int)≤s.size:=by omega
  have hN:=hid_as (below_new1 w (.cells #[.int .i64 0,.int .i64 0,.int .i64 0,.string ⟨#[]⟩,.int .i64 0] 42))
  have hR:=hid_as (room_new w)
  have hTn:=hid_as (hT.below hN.out)
  have e1:tyR s.data.toList a 1=⟨tru 1,a+4,0⟩:=by unfold tyR;rw [hq];rfl
  rw [e1]
  have H1:Hid (∀ W,Calls Tryz.prog 30 #[.string (s.extract a s.size),.string ⟨#[84,82,85,69]⟩] W fun e w'=>e=.returned (.bool true)∧w'=W):=fun W=>has_rest s a ⟨#[84,82,85,69]⟩ true hq W
  have TC:Hid (∀ W,Calls Tryz.prog 115 #[.int .i64 1] W fun e w'=>e=.returned (.agg #[.int .i64 3,.int .i64 1,.int .i64 1,.string ⟨#[]⟩,.int .i64 0])∧Below W.heap.size W w'):=fun W=>truth_c 1 W
  go_enter Tryz.func114,Tryz.ntmps114
  go_wp2_with (first
    | (go_at_call 30;(first | (with_reducible refine (H1.out _).mono ?_));rintro e w' ⟨rfl,hw⟩;subst w')
    | (go_at_call 115;(with_reducible refine (TC.out _).mono ?_);rintro e w4 ⟨rfl,b4⟩;have hR4:=hid_as (hR.out.below b4);have hB4:=hid_as (below_and hN.out b4);obtain ⟨r0,r1,r2,r3,r4,rf,rl⟩:=hR4.out))
  exact bodyPost_ret (v:=rv ⟨tru 1,a+4,0⟩) (by simp [results,Tryz.results114,go_sem,rv,tv,tru,tx,r0,r1,r2,r3,r4]) rfl ⟨rfl,five_set hB4.out (Nat.le_refl _) _ _ _ _ _⟩
set_option maxHeartbeats 2000000 in
theorem typed_false (s:ByteArray) (a k:Nat) (ha:a≤s.size) (hs:s.size≤65536) (hk:k < 12) (w:World) (hT:Tabs w) (hk1:k=1) (hq0:hp (s.data.toList.drop a) [84,82,85,69]=false) (hq:hp (s.data.toList.drop a) [70,65,76,83,69]=true):Calls Tryz.prog 114 #[.string s,.int .i64 a,.int .i64 k] w fun e w'=>e=.returned (rv (tyR s.data.toList a k))∧Below w.heap.size w w':=by
  subst hk1
  have hL:=hid_as (Lib.size_eq s)
  have c1:(0:Int)≤a:=by omega
  have c2:(a:Int)≤s.size:=by omega
  have hN:=hid_as (below_new1 w (.cells #[.int .i64 0,.int .i64 0,.int .i64 0,.string ⟨#[]⟩,.int .i64 0] 42))
  have hR:=hid_as (room_new w)
  have hTn:=hid_as (hT.below hN.out)
  have e1:tyR s.data.toList a 1=⟨tru 0,a+5,0⟩:=by unfold tyR;rw [hq0,hq];rfl
  rw [e1]
  have H0:Hid (∀ W,Calls Tryz.prog 30 #[.string (s.extract a s.size),.string ⟨#[84,82,85,69]⟩] W fun e w'=>e=.returned (.bool false)∧w'=W):=fun W=>has_rest s a ⟨#[84,82,85,69]⟩ false hq0 W
  have H1:Hid (∀ W,Calls Tryz.prog 30 #[.string (s.extract a s.size),.string ⟨#[70,65,76,83,69]⟩] W fun e w'=>e=.returned (.bool true)∧w'=W):=fun W=>has_rest s a ⟨#[70,65,76,83,69]⟩ true hq W
  have TC:Hid (∀ W,Calls Tryz.prog 115 #[.int .i64 0] W fun e w'=>e=.returned (.agg #[.int .i64 3,.int .i64 1,.int .i64 0,.string ⟨#[]⟩,.int .i64 0])∧Below W.heap.size W w'):=fun W=>truth_c 0 W
  go_enter Tryz.func114,Tryz.ntmps114
  go_wp2_with (first
    | (go_at_call 30;(first | (with_reducible refine (H0.out _).mono ?_) | (with_reducible refine (H1.out _).mono ?_));rintro e w' ⟨rfl,hw⟩;subst w')
    | (go_at_call 115;(with_reducible refine (TC.out _).mono ?_);rintro e w4 ⟨rfl,b4⟩;have hR4:=hid_as (hR.out.below b4);have hB4:=hid_as (below_and hN.out b4);obtain ⟨r0,r1,r2,r3,r4,rf,rl⟩:=hR4.out))
  exact bodyPost_ret (v:=rv ⟨tru 0,a+5,0⟩) (by simp [results,Tryz.results114,go_sem,rv,tv,tru,tx,r0,r1,r2,r3,r4]) rfl ⟨rfl,five_set hB4.out (Nat.le_refl _) _ _ _ _ _⟩
set_option maxHeartbeats 2000000 in
theorem typed_minus (s:ByteArray) (a k:Nat) (ha:a≤s.size) (hs:s.size≤65536) (hk:k < 12) (w:World) (hT:Tabs w) (hk1:¬ k=1) (hq:hp (s.data.toList.drop a) [45]=true) (hlo:klo k < 0):Calls Tryz.prog 114 #[.string s,.int .i64 a,.int .i64 k] w fun e w'=>e=.returned (rv (tyR s.data.toList a k))∧Below w.heap.size w w':=by
  have hL:=hid_as (Lib.size_eq s)
  have c1:(0:Int)≤a:=by omega
  have c2:(a:Int)≤s.size:=by omega
  have hN:=hid_as (below_new1 w (.cells #[.int .i64 0,.int .i64 0,.int .i64 0,.string ⟨#[]⟩,.int .i64 0] 42))
  have hR:=hid_as (room_new w)
  have hTn:=hid_as (hT.below hN.out)
  have h5:=hT.five
  have hk':(k:Int) < 12:=by omega
  have hdk:decide ((12:Int)≤k)=false:=decide_eq_false (by omega)
  have kc:∀ o,(w.alloc o).cell? ⟨2,k * 3+1,none⟩=some (.int .i64 (klo k)):=fun o=>by rw [World.cell?_alloc_lt _ _ ⟨2,k * 3+1,none⟩ (show 2 < w.heap.size by omega)];exact (hT.kind k hk).2.1
  have hk1':¬ (k:Int)=1:=by omega
  have e1:tyR s.data.toList a k=ltR 3 k (-((rd 10 ((s.data.toList.drop a).drop 1)).1:Int)) (a+1) (rd 10 ((s.data.toList.drop a).drop 1)).2:=by unfold tyR;rw [decide_eq_false hk1,hq,decide_eq_true hlo];rfl
  rw [e1]
  have P:Hid (∀ W,Calls Tryz.prog 144 #[.string (s.extract a s.size),.string ⟨#[45]⟩] W fun e w'=>e=.returned (.tuple #[.string (tx ((s.data.toList.drop a).drop 1)),.bool true])∧w'=W):=fun W=>cut_rest s a ⟨#[45]⟩ true hq W
  have hlen:((s.data.toList.drop a).drop 1).length≤65536:=by have:=hL.out;rw [List.length_drop];rw [List.length_drop];omega
  have hrd:=rd_le 10 ((s.data.toList.drop a).drop 1)
  have D:Hid (∀ W,Calls Tryz.prog 147 #[.string (tx ((s.data.toList.drop a).drop 1)),.int .i64 10] W fun e w'=>e=.returned (.tuple #[.int .i64 ((rd 10 ((s.data.toList.drop a).drop 1)).1:Int),.int .i64 ((rd 10 ((s.data.toList.drop a).drop 1)).2:Int)])∧w'=W):=fun W=>readDigits_t ((s.data.toList.drop a).drop 1) 10 (by omega) (by omega) W
  clear hq e1
  generalize (rd 10 ((s.data.toList.drop a).drop 1)).1=N at *
  generalize (rd 10 ((s.data.toList.drop a).drop 1)).2=Z at *
  generalize hX:tx ((s.data.toList.drop a).drop 1)=X at *
  have hZ:Z≤65536:=by omega
  have LT:Hid (∀ W,Tabs W→Calls Tryz.prog 146 #[.int .i64 3,.int .i64 k,.int .i64 (-(N:Int)),.int .i64 ((a:Int)+1),.int .i64 Z] W fun e w'=>e=.returned (rv (ltR 3 k (-(N:Int)) (a+1) Z))∧Below W.heap.size W w'):=fun W hW=>literal_c 3 k (-(N:Int)) (a+1) Z hk (by omega) (by omega) W hW
  generalize ltR 3 k (-(N:Int)) (a+1) Z=r at *
  obtain ⟨⟨ta,tb,tc,td⟩,tz,te⟩:=r
  replace LT:Hid (∀ W,Tabs W→Calls Tryz.prog 146 #[.int .i64 3,.int .i64 k,.int .i64 (-(N:Int)),.int .i64 ((a:Int)+1),.int .i64 Z] W fun e w'=>e=.returned (.tuple #[.agg #[.int .i64 (ta:Nat),.int .i64 (tb:Nat),.int .i64 tc,.string (tx td),.int .i64 0],.int .i64 (tz:Nat),.int .i64 (te:Nat)])∧Below W.heap.size W w'):=LT
  go_enter Tryz.func114,Tryz.ntmps114
  go_wp2_with (first
    | (go_at_call 144;(with_reducible refine (P.out _).mono ?_);rintro e w' ⟨rfl,hw⟩;subst w')
    | (go_at_call 147;(with_reducible refine (D.out _).mono ?_);rintro e w' ⟨rfl,hw⟩;subst w')
    | (go_at_call 146;(with_reducible refine (LT.out _ hTn.out).mono ?_);rintro e w4 ⟨rfl,b4⟩;have hR4:=hid_as (hR.out.below b4);have hB4:=hid_as (below_and hN.out b4);obtain ⟨r0,r1,r2,r3,r4,rf,rl⟩:=hR4.out))
  exact bodyPost_ret (v:=rv ⟨⟨ta,tb,tc,td⟩,tz,te⟩) (by simp [results,Tryz.results114,go_sem,rv,tv,r0,r1,r2,r3,r4]) rfl ⟨rfl,five_set hB4.out (Nat.le_refl _) _ _ _ _ _⟩
set_option maxHeartbeats 2000000 in
theorem typed_num_k_true (s:ByteArray) (a k:Nat) (ha:a≤s.size) (hs:s.size≤65536) (hk:k < 12) (w:World) (hT:Tabs w) (hk1:k=1) (hq0:hp (s.data.toList.drop a) [84,82,85,69]=false) (hq1:hp (s.data.toList.drop a) [70,65,76,83,69]=false) (hq:hp (s.data.toList.drop a) [45]=true) (hlo:¬ klo k < 0):Calls Tryz.prog 114 #[.string s,.int .i64 a,.int .i64 k] w fun e w'=>e=.returned (rv (tyR s.data.toList a k))∧Below w.heap.size w w':=by
  subst hk1
  have hL:=hid_as (Lib.size_eq s)
  have c1:(0:Int)≤a:=by omega
  have c2:(a:Int)≤s.size:=by omega
  have hN:=hid_as (below_new1 w (.cells #[.int .i64 0,.int .i64 0,.int .i64 0,.string ⟨#[]⟩,.int .i64 0] 42))
  have hR:=hid_as (room_new w)
  have hTn:=hid_as (hT.below hN.out)
  have h5:=hT.five
  have kc:∀ o,(w.alloc o).cell? ⟨2,1 * 3+1,none⟩=some (.int .i64 (klo 1)):=fun o=>by rw [World.cell?_alloc_lt _ _ ⟨2,1 * 3+1,none⟩ (show 2 < w.heap.size by omega)];exact (hT.kind 1 hk).2.1
  have e1:tyR s.data.toList a 1=ltR 3 1 (num (s.data.toList.drop a)).1 a (num (s.data.toList.drop a)).2:=by unfold tyR;rw [hq0,hq1,hq,decide_eq_false hlo];rfl
  rw [e1]
  have H0:Hid (∀ W,Calls Tryz.prog 30 #[.string (s.extract a s.size),.string ⟨#[84,82,85,69]⟩] W fun e w'=>e=.returned (.bool false)∧w'=W):=fun W=>has_rest s a ⟨#[84,82,85,69]⟩ false hq0 W
  have H1:Hid (∀ W,Calls Tryz.prog 30 #[.string (s.extract a s.size),.string ⟨#[70,65,76,83,69]⟩] W fun e w'=>e=.returned (.bool false)∧w'=W):=fun W=>has_rest s a ⟨#[70,65,76,83,69]⟩ false hq1 W
  have P:Hid (∀ W,Calls Tryz.prog 144 #[.string (s.extract a s.size),.string ⟨#[45]⟩] W fun e w'=>e=.returned (.tuple #[.string (tx ((s.data.toList.drop a).drop 1)),.bool true])∧w'=W):=fun W=>cut_rest s a ⟨#[45]⟩ true hq W
  have hlen:(s.data.toList.drop a).length≤65536:=by have:=hL.out;rw [List.length_drop];omega
  have hrd:=num_le (s.data.toList.drop a)
  have D:=hid_as (fun W hW=>readNumber_t (s.data.toList.drop a) (by omega) W hW)
  rw [← tx_drop] at D
  clear hq e1
  generalize (num (s.data.toList.drop a)).1=N at *
  generalize (num (s.data.toList.drop a)).2=Z at *
  generalize hX:tx ((s.data.toList.drop a).drop 1)=X at *
  have hZ:Z≤65536:=by omega
  have LT:Hid (∀ W,Tabs W→Calls Tryz.prog 146 #[.int .i64 3,.int .i64 1,.int .i64 N,.int .i64 a,.int .i64 Z] W fun e w'=>e=.returned (rv (ltR 3 1 (N:Int) a Z))∧Below W.heap.size W w'):=fun W hW=>literal_c 3 1 N a Z hk (by omega) (by omega) W hW
  generalize ltR 3 1 (N:Int) a Z=r at *
  obtain ⟨⟨ta,tb,tc,td⟩,tz,te⟩:=r
  replace LT:Hid (∀ W,Tabs W→Calls Tryz.prog 146 #[.int .i64 3,.int .i64 1,.int .i64 N,.int .i64 a,.int .i64 Z] W fun e w'=>e=.returned (.tuple #[.agg #[.int .i64 (ta:Nat),.int .i64 (tb:Nat),.int .i64 tc,.string (tx td),.int .i64 0],.int .i64 (tz:Nat),.int .i64 (te:Nat)])∧Below W.heap.size W w'):=LT
  go_enter Tryz.func114,Tryz.ntmps114
  go_wp2_with (first
    | (go_at_call 30;(first | (with_reducible refine (H0.out _).mono ?_) | (with_reducible refine (H1.out _).mono ?_));rintro e w' ⟨rfl,hw⟩;subst w')
    | (go_at_call 144;(with_reducible refine (P.out _).mono ?_);rintro e w' ⟨rfl,hw⟩;subst w')
    | (go_at_call 117;(with_reducible refine (D.out _ hTn.out).mono ?_);rintro e w3 ⟨rfl,b3⟩;have hR3:=hid_as (hR.out.below b3);have hT3:=hid_as (hTn.out.below b3);have hB3:=hid_as (below_and hN.out b3))
    | (go_at_call 146;(with_reducible refine (LT.out _ hT3.out).mono ?_);rintro e w4 ⟨rfl,b4⟩;have hR4:=hid_as (hR3.out.below b4);have hB4:=hid_as (below_and hB3.out b4);clear hR3 hT3 hB3;obtain ⟨r0,r1,r2,r3,r4,rf,rl⟩:=hR4.out))
  exact bodyPost_ret (v:=rv ⟨⟨ta,tb,tc,td⟩,tz,te⟩) (by simp [results,Tryz.results114,go_sem,rv,tv,r0,r1,r2,r3,r4]) rfl ⟨rfl,five_set hB4.out (Nat.le_refl _) _ _ _ _ _⟩
set_option maxHeartbeats 2000000 in
theorem typed_num_k_false (s:ByteArray) (a k:Nat) (ha:a≤s.size) (hs:s.size≤65536) (hk:k < 12) (w:World) (hT:Tabs w) (hk1:k=1) (hq0:hp (s.data.toList.drop a) [84,82,85,69]=false) (hq1:hp (s.data.toList.drop a) [70,65,76,83,69]=false) (hq:hp (s.data.toList.drop a) [45]=false) (_:True):Calls Tryz.prog 114 #[.string s,.int .i64 a,.int .i64 k] w fun e w'=>e=.returned (rv (tyR s.data.toList a k))∧Below w.heap.size w w':=by
  subst hk1
  have hL:=hid_as (Lib.size_eq s)
  have c1:(0:Int)≤a:=by omega
  have c2:(a:Int)≤s.size:=by omega
  have hN:=hid_as (below_new1 w (.cells #[.int .i64 0,.int .i64 0,.int .i64 0,.string ⟨#[]⟩,.int .i64 0] 42))
  have hR:=hid_as (room_new w)
  have hTn:=hid_as (hT.below hN.out)
  have h5:=hT.five
  have kc:∀ o,(w.alloc o).cell? ⟨2,1 * 3+1,none⟩=some (.int .i64 (klo 1)):=fun o=>by rw [World.cell?_alloc_lt _ _ ⟨2,1 * 3+1,none⟩ (show 2 < w.heap.size by omega)];exact (hT.kind 1 hk).2.1
  have e1:tyR s.data.toList a 1=ltR 3 1 (num (s.data.toList.drop a)).1 a (num (s.data.toList.drop a)).2:=by unfold tyR;rw [hq0,hq1,hq];rfl
  rw [e1]
  have H0:Hid (∀ W,Calls Tryz.prog 30 #[.string (s.extract a s.size),.string ⟨#[84,82,85,69]⟩] W fun e w'=>e=.returned (.bool false)∧w'=W):=fun W=>has_rest s a ⟨#[84,82,85,69]⟩ false hq0 W
  have H1:Hid (∀ W,Calls Tryz.prog 30 #[.string (s.extract a s.size),.string ⟨#[70,65,76,83,69]⟩] W fun e w'=>e=.returned (.bool false)∧w'=W):=fun W=>has_rest s a ⟨#[70,65,76,83,69]⟩ false hq1 W
  have P:Hid (∀ W,Calls Tryz.prog 144 #[.string (s.extract a s.size),.string ⟨#[45]⟩] W fun e w'=>e=.returned (.tuple #[.string (s.extract a s.size),.bool false])∧w'=W):=fun W=>cut_rest s a ⟨#[45]⟩ false hq W
  have hlen:(s.data.toList.drop a).length≤65536:=by have:=hL.out;rw [List.length_drop];omega
  have hrd:=num_le (s.data.toList.drop a)
  have D:=hid_as (fun W hW=>readNumber_t (s.data.toList.drop a) (by omega) W hW)
  rw [← tx_drop] at D
  clear hq e1
  generalize (num (s.data.toList.drop a)).1=N at *
  generalize (num (s.data.toList.drop a)).2=Z at *
  have hZ:Z≤65536:=by omega
  have LT:Hid (∀ W,Tabs W→Calls Tryz.prog 146 #[.int .i64 3,.int .i64 1,.int .i64 N,.int .i64 a,.int .i64 Z] W fun e w'=>e=.returned (rv (ltR 3 1 (N:Int) a Z))∧Below W.heap.size W w'):=fun W hW=>literal_c 3 1 N a Z hk (by omega) (by omega) W hW
  generalize ltR 3 1 (N:Int) a Z=r at *
  obtain ⟨⟨ta,tb,tc,td⟩,tz,te⟩:=r
  replace LT:Hid (∀ W,Tabs W→Calls Tryz.prog 146 #[.int .i64 3,.int .i64 1,.int .i64 N,.int .i64 a,.int .i64 Z] W fun e w'=>e=.returned (.tuple #[.agg #[.int .i64 (ta:Nat),.int .i64 (tb:Nat),.int .i64 tc,.string (tx td),.int .i64 0],.int .i64 (tz:Nat),.int .i64 (te:Nat)])∧Below W.heap.size W w'):=LT
  go_enter Tryz.func114,Tryz.ntmps114
  go_wp2_with (first
    | (go_at_call 30;(first | (with_reducible refine (H0.out _).mono ?_) | (with_reducible refine (H1.out _).mono ?_));rintro e w' ⟨rfl,hw⟩;subst w')
    | (go_at_call 144;(with_reducible refine (P.out _).mono ?_);rintro e w' ⟨rfl,hw⟩;subst w')
    | (go_at_call 117;(with_reducible refine (D.out _ hTn.out).mono ?_);rintro e w3 ⟨rfl,b3⟩;have hR3:=hid_as (hR.out.below b3);have hT3:=hid_as (hTn.out.below b3);have hB3:=hid_as (below_and hN.out b3))
    | (go_at_call 146;(with_reducible refine (LT.out _ hT3.out).mono ?_);rintro e w4 ⟨rfl,b4⟩;have hR4:=hid_as (hR3.out.below b4);have hB4:=hid_as (below_and hB3.out b4);clear hR3 hT3 hB3;obtain ⟨r0,r1,r2,r3,r4,rf,rl⟩:=hR4.out))
  exact bodyPost_ret (v:=rv ⟨⟨ta,tb,tc,td⟩,tz,te⟩) (by simp [results,Tryz.results114,go_sem,rv,tv,r0,r1,r2,r3,r4]) rfl ⟨rfl,five_set hB4.out (Nat.le_refl _) _ _ _ _ _⟩
set_option maxHeartbeats 2000000 in
theorem typed_num_n_true (s:ByteArray) (a k:Nat) (ha:a≤s.size) (hs:s.size≤65536) (hk:k < 12) (w:World) (hT:Tabs w) (hk1:¬ k=1) (hq:hp (s.data.toList.drop a) [45]=true) (hlo:¬ klo k < 0):Calls Tryz.prog 114 #[.string s,.int .i64 a,.int .i64 k] w fun e w'=>e=.returned (rv (tyR s.data.toList a k))∧Below w.heap.size w w':=by
  have hL:=hid_as (Lib.size_eq s)
  have c1:(0:Int)≤a:=by omega
  have c2:(a:Int)≤s.size:=by omega
  have hN:=hid_as (below_new1 w (.cells #[.int .i64 0,.int .i64 0,.int .i64 0,.string ⟨#[]⟩,.int .i64 0] 42))
  have hR:=hid_as (room_new w)
  have hTn:=hid_as (hT.below hN.out)
  have h5:=hT.five
  have hk':(k:Int) < 12:=by omega
  have hdk:decide ((12:Int)≤k)=false:=decide_eq_false (by omega)
  have kc:∀ o,(w.alloc o).cell? ⟨2,k * 3+1,none⟩=some (.int .i64 (klo k)):=fun o=>by rw [World.cell?_alloc_lt _ _ ⟨2,k * 3+1,none⟩ (show 2 < w.heap.size by omega)];exact (hT.kind k hk).2.1
  have hk1':¬ (k:Int)=1:=by omega
  have e1:tyR s.data.toList a k=ltR 3 k (num (s.data.toList.drop a)).1 a (num (s.data.toList.drop a)).2:=by unfold tyR;rw [decide_eq_false hk1,hq,decide_eq_false hlo];rfl
  rw [e1]
  have P:Hid (∀ W,Calls Tryz.prog 144 #[.string (s.extract a s.size),.string ⟨#[45]⟩] W fun e w'=>e=.returned (.tuple #[.string (tx ((s.data.toList.drop a).drop 1)),.bool true])∧w'=W):=fun W=>cut_rest s a ⟨#[45]⟩ true hq W
  have hlen:(s.data.toList.drop a).length≤65536:=by have:=hL.out;rw [List.length_drop];omega
  have hrd:=num_le (s.data.toList.drop a)
  have D:=hid_as (fun W hW=>readNumber_t (s.data.toList.drop a) (by omega) W hW)
  rw [← tx_drop] at D
  clear hq e1
  generalize (num (s.data.toList.drop a)).1=N at *
  generalize (num (s.data.toList.drop a)).2=Z at *
  generalize hX:tx ((s.data.toList.drop a).drop 1)=X at *
  have hZ:Z≤65536:=by omega
  have LT:Hid (∀ W,Tabs W→Calls Tryz.prog 146 #[.int .i64 3,.int .i64 k,.int .i64 N,.int .i64 a,.int .i64 Z] W fun e w'=>e=.returned (rv (ltR 3 k (N:Int) a Z))∧Below W.heap.size W w'):=fun W hW=>literal_c 3 k N a Z hk (by omega) (by omega) W hW
  generalize ltR 3 k (N:Int) a Z=r at *
  obtain ⟨⟨ta,tb,tc,td⟩,tz,te⟩:=r
  replace LT:Hid (∀ W,Tabs W→Calls Tryz.prog 146 #[.int .i64 3,.int .i64 k,.int .i64 N,.int .i64 a,.int .i64 Z] W fun e w'=>e=.returned (.tuple #[.agg #[.int .i64 (ta:Nat),.int .i64 (tb:Nat),.int .i64 tc,.string (tx td),.int .i64 0],.int .i64 (tz:Nat),.int .i64 (te:Nat)])∧Below W.heap.size W w'):=LT
  go_enter Tryz.func114,Tryz.ntmps114
  go_wp2_with (first
    | (go_at_call 144;(with_reducible refine (P.out _).mono ?_);rintro e w' ⟨rfl,hw⟩;subst w')
    | (go_at_call 117;(with_reducible refine (D.out _ hTn.out).mono ?_);rintro e w3 ⟨rfl,b3⟩;have hR3:=hid_as (hR.out.below b3);have hT3:=hid_as (hTn.out.below b3);have hB3:=hid_as (below_and hN.out b3))
    | (go_at_call 146;(with_reducible refine (LT.out _ hT3.out).mono ?_);rintro e w4 ⟨rfl,b4⟩;have hR4:=hid_as (hR3.out.below b4);have hB4:=hid_as (below_and hB3.out b4);clear hR3 hT3 hB3;obtain ⟨r0,r1,r2,r3,r4,rf,rl⟩:=hR4.out))
  exact bodyPost_ret (v:=rv ⟨⟨ta,tb,tc,td⟩,tz,te⟩) (by simp [results,Tryz.results114,go_sem,rv,tv,r0,r1,r2,r3,r4]) rfl ⟨rfl,five_set hB4.out (Nat.le_refl _) _ _ _ _ _⟩
set_option maxHeartbeats 2000000 in
theorem typed_num_n_false (s:ByteArray) (a k:Nat) (ha:a≤s.size) (hs:s.size≤65536) (hk:k < 12) (w:World) (hT:Tabs w) (hk1:¬ k=1) (hq:hp (s.data.toList.drop a) [45]=false) (_:True):Calls Tryz.prog 114 #[.string s,.int .i64 a,.int .i64 k] w fun e w'=>e=.returned (rv (tyR s.data.toList a k))∧Below w.heap.size w w':=by
  have hL:=hid_as (Lib.size_eq s)
  have c1:(0:Int)≤a:=by omega
  have c2:(a:Int)≤s.size:=by omega
  have hN:=hid_as (below_new1 w (.cells #[.int .i64 0,.int .i64 0,.int .i64 0,.string ⟨#[]⟩,.int .i64 0] 42))
  have hR:=hid_as (room_new w)
  have hTn:=hid_as (hT.below hN.out)
  have h5:=hT.five
  have hk':(k:Int) < 12:=by omega
  have hdk:decide ((12:Int)≤k)=false:=decide_eq_false (by omega)
  have kc:∀ o,(w.alloc o).cell? ⟨2,k * 3+1,none⟩=some (.int .i64 (klo k)):=fun o=>by rw [World.cell?_alloc_lt _ _ ⟨2,k * 3+1,none⟩ (show 2 < w.heap.size by omega)];exact (hT.kind k hk).2.1
  have hk1':¬ (k:Int)=1:=by omega
  have e1:tyR s.data.toList a k=ltR 3 k (num (s.data.toList.drop a)).1 a (num (s.data.toList.drop a)).2:=by unfold tyR;rw [decide_eq_false hk1,hq];rfl
  rw [e1]
  have P:Hid (∀ W,Calls Tryz.prog 144 #[.string (s.extract a s.size),.string ⟨#[45]⟩] W fun e w'=>e=.returned (.tuple #[.string (s.extract a s.size),.bool false])∧w'=W):=fun W=>cut_rest s a ⟨#[45]⟩ false hq W
  have hlen:(s.data.toList.drop a).length≤65536:=by have:=hL.out;rw [List.length_drop];omega
  have hrd:=num_le (s.data.toList.drop a)
  have D:=hid_as (fun W hW=>readNumber_t (s.data.toList.drop a) (by omega) W hW)
  rw [← tx_drop] at D
  clear hq e1
  generalize (num (s.data.toList.drop a)).1=N at *
  generalize (num (s.data.toList.drop a)).2=Z at *
  have hZ:Z≤65536:=by omega
  have LT:Hid (∀ W,Tabs W→Calls Tryz.prog 146 #[.int .i64 3,.int .i64 k,.int .i64 N,.int .i64 a,.int .i64 Z] W fun e w'=>e=.returned (rv (ltR 3 k (N:Int) a Z))∧Below W.heap.size W w'):=fun W hW=>literal_c 3 k N a Z hk (by omega) (by omega) W hW
  generalize ltR 3 k (N:Int) a Z=r at *
  obtain ⟨⟨ta,tb,tc,td⟩,tz,te⟩:=r
  replace LT:Hid (∀ W,Tabs W→Calls Tryz.prog 146 #[.int .i64 3,.int .i64 k,.int .i64 N,.int .i64 a,.int .i64 Z] W fun e w'=>e=.returned (.tuple #[.agg #[.int .i64 (ta:Nat),.int .i64 (tb:Nat),.int .i64 tc,.string (tx td),.int .i64 0],.int .i64 (tz:Nat),.int .i64 (te:Nat)])∧Below W.heap.size W w'):=LT
  go_enter Tryz.func114,Tryz.ntmps114
  go_wp2_with (first
    | (go_at_call 144;(with_reducible refine (P.out _).mono ?_);rintro e w' ⟨rfl,hw⟩;subst w')
    | (go_at_call 117;(with_reducible refine (D.out _ hTn.out).mono ?_);rintro e w3 ⟨rfl,b3⟩;have hR3:=hid_as (hR.out.below b3);have hT3:=hid_as (hTn.out.below b3);have hB3:=hid_as (below_and hN.out b3))
    | (go_at_call 146;(with_reducible refine (LT.out _ hT3.out).mono ?_);rintro e w4 ⟨rfl,b4⟩;have hR4:=hid_as (hR3.out.below b4);have hB4:=hid_as (below_and hB3.out b4);clear hR3 hT3 hB3;obtain ⟨r0,r1,r2,r3,r4,rf,rl⟩:=hR4.out))
  exact bodyPost_ret (v:=rv ⟨⟨ta,tb,tc,td⟩,tz,te⟩) (by simp [results,Tryz.results114,go_sem,rv,tv,r0,r1,r2,r3,r4]) rfl ⟨rfl,five_set hB4.out (Nat.le_refl _) _ _ _ _ _⟩
theorem readTyped_c (s:ByteArray) (a k:Nat) (ha:a≤s.size) (hs:s.size≤65536) (hk:k < 12) (w:World) (hT:Tabs w):Calls Tryz.prog 114 #[.string s,.int .i64 a,.int .i64 k] w fun e w'=>e=.returned (rv (tyR s.data.toList a k))∧Below w.heap.size w w':=by
  by_cases h1:k=1
  · cases q0:hp (s.data.toList.drop a) [84,82,85,69] with
    | true=>exact typed_true s a k ha hs hk w hT h1 q0
    | false =>
      cases q1:hp (s.data.toList.drop a) [70,65,76,83,69] with
      | true=>exact typed_false s a k ha hs hk w hT h1 q0 q1
      | false =>
        cases q:hp (s.data.toList.drop a) [45] with
        | true=>exact typed_num_k_true s a k ha hs hk w hT h1 q0 q1 q (by subst h1;decide)
        | false=>exact typed_num_k_false s a k ha hs hk w hT h1 q0 q1 q trivial
  · cases q:hp (s.data.toList.drop a) [45] with
    | true =>
      by_cases hlo:klo k < 0
      · exact typed_minus s a k ha hs hk w hT h1 q hlo
      · exact typed_num_n_true s a k ha hs hk w hT h1 q hlo
    | false=>exact typed_num_n_false s a k ha hs hk w hT h1 q trivial
open Go.RowKit
open Adr Lx
theorem untyped_all (s:ByteArray) (N Z:Nat) (w:World) (hT:Tabs w) (D:Hid (∀ W,Tabs W→Calls Tryz.prog 117 #[.string s] W fun e w'=>e=.returned (.tuple #[.int .i64 N,.int .i64 Z])∧Below W.heap.size W w')):Calls Tryz.prog 73 #[.string s] w fun e w'=>e=.returned (rv (if Z=0 then er 120 else if 4294967295 < N then er 121 else ⟨⟨3,0,N,[]⟩,Z,0⟩))∧Below w.heap.size w w':=by
  have hN:=hid_as (below_new1 w (.cells #[.int .i64 0,.int .i64 0,.int .i64 0,.string ⟨#[]⟩,.int .i64 0] 42))
  have hR:=hid_as (room_new w)
  have hTn:=hid_as (hT.below hN.out)
  by_cases hz:Z=0
  · rw [if_pos hz]
    subst hz
    go_enter Tryz.func73,Tryz.ntmps73
    go_wp2_with (first
      | (go_at_call 117;(with_reducible refine (D.out _ hTn.out).mono ?_);rintro e w4 ⟨rfl,b4⟩;have hR4:=hid_as (hR.out.below b4);have hB4:=hid_as (below_and hN.out b4);obtain ⟨r0,r1,r2,r3,r4,rf,rl⟩:=hR4.out))
    exact bodyPost_ret (v:=rv (er 120)) (by simp [results,Tryz.results73,go_sem,rv,er,nul,tv,tx,r0,r1,r2,r3,r4]) rfl ⟨rfl,five_set hB4.out (Nat.le_refl _) _ _ _ _ _⟩
  · rw [if_neg hz]
    have hz':¬ (Z:Int)=0:=by omega
    by_cases hn:4294967295 < N
    · rw [if_pos hn]
      have hn':(4294967295:Int) < N:=by omega
      go_enter Tryz.func73,Tryz.ntmps73
      go_wp2_with (first
        | (go_at_call 117;(with_reducible refine (D.out _ hTn.out).mono ?_);rintro e w4 ⟨rfl,b4⟩;have hR4:=hid_as (hR.out.below b4);have hB4:=hid_as (below_and hN.out b4);obtain ⟨r0,r1,r2,r3,r4,rf,rl⟩:=hR4.out))
      exact bodyPost_ret (v:=rv (er 121)) (by simp [results,Tryz.results73,go_sem,rv,er,nul,tv,tx,r0,r1,r2,r3,r4]) rfl ⟨rfl,five_set hB4.out (Nat.le_refl _) _ _ _ _ _⟩
    · rw [if_neg hn]
      have hn':¬ (4294967295:Int) < N:=by omega
      go_enter Tryz.func73,Tryz.ntmps73
      go_wp2_with (first
        | (go_at_call 117;(with_reducible refine (D.out _ hTn.out).mono ?_);rintro e w4 ⟨rfl,b4⟩;have hR4:=hid_as (hR.out.below b4);have hB4:=hid_as (below_and hN.out b4);obtain ⟨r0,r1,r2,r3,r4,rf,rl⟩:=hR4.out))
      exact bodyPost_ret (v:=rv ⟨⟨3,0,N,[]⟩,Z,0⟩) (by simp [results,Tryz.results73,go_sem,rv,tv,tx,r0,r1,r2,r3,r4]) rfl ⟨rfl,five_set hB4.out (Nat.le_refl _) _ _ _ _ _⟩
theorem readUntyped_c (s:ByteArray) (hs:s.size≤65536) (w:World) (hT:Tabs w):Calls Tryz.prog 73 #[.string s] w fun e w'=>e=.returned (rv (unR s.data.toList))∧Below w.heap.size w w' :=
  untyped_all s (num s.data.toList).1 (num s.data.toList).2 w hT (hid_as (fun W hW=>readNumber_c s W hW (by omega)))
theorem adz_le {l:List UInt8} (h:0 < l.length):adz l≤l.length∧1≤adz l:=by
  unfold adz
  have:=cz_le inA (l.drop 1)
  rw [List.length_drop] at this
  omega
theorem pe_two (l:List UInt8):pe l=0 ∨ pe l=100:=by unfold pe;split <;> simp
set_option maxHeartbeats 2000000 in
theorem readAddress_c (s:ByteArray) (h0:0 < s.size) (hs:s.size≤65536) (w:World) (hT:Tabs w):Calls Tryz.prog 74 #[.string s] w fun e w'=>e=.returned (rv (adR s.data.toList))∧Below w.heap.size w w':=by
  have hN:=hid_as (below_new1 w (.cells #[.int .i64 0,.int .i64 0,.int .i64 0,.string ⟨#[]⟩,.int .i64 0] 42))
  have hR:=hid_as (room_new w)
  have hTn:=hid_as (hT.below hN.out)
  have hL:=hid_as (Lib.size_eq s)
  have c1:(1:Int)≤s.size:=by omega
  have C0:=hid_as (fun W=>sizeA_c (s.extract 1 s.size) W (by rw [tx_drop,tx_size,List.length_drop];have:=hL.out;omega))
  have C:Hid (∀ W,Calls Tryz.prog 110 #[.string (s.extract 1 s.size),.func (.func 118) #[] #[]] W fun e w'=>e=.returned (.int .i64 (cz inA (s.data.toList.drop 1):Nat))∧w'=W):=by
    intro W
    have h:=C0.out W
    rw [show (s.extract 1 s.size).data.toList=s.data.toList.drop 1 by rw [tx_drop,tx_list]] at h
    exact h
  clear C0
  obtain ⟨z1,z2⟩:=adz_le (l:=s.data.toList) (by have:=hL.out;omega)
  have hz:Hid (adz s.data.toList=1+cz inA (s.data.toList.drop 1)):=hid_as rfl
  rw [← hL.out] at z1
  have hX:=hid_as (tx_take s (adz s.data.toList))
  have PR:Hid (∀ W,Tabs W→Calls Tryz.prog 119 #[.string (s.extract 0 (adz s.data.toList))] W fun e w'=>e=.returned (.tuple #[.int .i64 (pa (s.data.toList.take (adz s.data.toList))),.int .i64 (pn (s.data.toList.take (adz s.data.toList))),.int .i64 (pe (s.data.toList.take (adz s.data.toList)))])∧Same W w'):=by
    intro W hW
    have h:=parse_c (s.extract 0 (adz s.data.toList)) (by rw [tx_take,tx_size,List.length_take];omega) W hW.areas
    rw [tx_take,tx_list] at h
    rw [tx_take]
    exact h
  have hadR:Hid (adR s.data.toList=if pe (s.data.toList.take (adz s.data.toList))=0 then ⟨⟨5,0,0,s.data.toList.take (adz s.data.toList)⟩,adz s.data.toList,0⟩ else er (pe (s.data.toList.take (adz s.data.toList)))):=hid_as rfl
  rw [hadR.out]
  have hp2:=pe_two (s.data.toList.take (adz s.data.toList))
  clear hadR
  generalize adz s.data.toList=Z at *
  generalize cz inA (s.data.toList.drop 1)=Y at *
  generalize pe (s.data.toList.take Z)=E at *
  generalize pa (s.data.toList.take Z)=A at *
  generalize pn (s.data.toList.take Z)=N at *
  obtain rfl:Z=1+Y:=hz.out
  have d1:(0:Int)≤1+(Y:Int):=by omega
  have d2:(1:Int)+Y≤s.size:=by omega
  have d3:IntKind.i64.wrap ((1:Int)+Y)=1+(Y:Int):=by rw [IntKind.wrap_i64];omega
  have d4:((1:Int)+Y).toNat=1+Y:=by omega
  rcases hp2 with rfl | rfl
  · rw [if_pos rfl]
    go_enter Tryz.func74,Tryz.ntmps74
    go_wp2_with (first
      | (go_at_call 110;(with_reducible refine (C.out _).mono ?_);rintro e w' ⟨rfl,hw⟩;subst w')
      | (go_at_call 119;refine (PR.out _ hTn.out).mono ?_;rintro e w4 ⟨rfl,b4⟩;have hR4:=hid_as (hR.out.below b4.below);have hB4:=hid_as (below_and hN.out b4.below);obtain ⟨r0,r1,r2,r3,r4,rf,rl⟩:=hR4.out))
    exact bodyPost_ret (v:=.tuple #[.agg #[.int .i64 5,.int .i64 0,.int .i64 0,.string (s.extract 0 (1+Y)),.int .i64 0],.int .i64 (1+(Y:Int)),.int .i64 0]) (by simp [results,Tryz.results74,go_sem,r0,r1,r2,r3,r4]) rfl ⟨by simp [rv,tv,hX.out],five_set hB4.out (Nat.le_refl _) _ _ _ _ _⟩
  · rw [if_neg (by decide)]
    go_enter Tryz.func74,Tryz.ntmps74
    go_wp2_with (first
      | (go_at_call 110;(with_reducible refine (C.out _).mono ?_);rintro e w' ⟨rfl,hw⟩;subst w')
      | (go_at_call 119;refine (PR.out _ hTn.out).mono ?_;rintro e w4 ⟨rfl,b4⟩;have hR4:=hid_as (hR.out.below b4.below);have hB4:=hid_as (below_and hN.out b4.below);obtain ⟨r0,r1,r2,r3,r4,rf,rl⟩:=hR4.out))
    exact bodyPost_ret (v:=rv (er 100)) (by simp [results,Tryz.results74,go_sem,rv,er,nul,tv,tx,r0,r1,r2,r3,r4]) rfl ⟨rfl,five_set hB4.out (Nat.le_refl _) _ _ _ _ _⟩
theorem head_of {s:ByteArray} (h:0 < s.size):s.data.toList.take 1=[s[0]]:=by
  have e:=head_at h
  cases hl:s.data.toList with
  | nil=>rw [hl] at e;cases e
  | cons c l=>rw [hl] at e;simp at e;simp [e]
theorem two_of {s:ByteArray} {l:List UInt8} (e:((s.extract 0 2).toList == l)=true) (h:two.contains l=true):two.contains (s.data.toList.take 2)=true:=by
  rw [Lib.toList_data,tx_take,tx_list] at e
  rw [beq_iff_eq.1 e]
  exact h
theorem two_no {l:List UInt8} (h1:(l == [58,61])=false) (h2:(l == [46,46])=false) (h3:(l == [60,61])=false) (h4:(l == [62,61])=false) (h5:(l == [60,62])=false) (h6:(l == [61,62])=false):two.contains l=false:=by
  simp only [two,List.contains_cons,List.contains_nil,h1,h2,h3,h4,h5,h6,Bool.or_false]
theorem no_two {s:ByteArray} (h1:((s.extract 0 2).toList == [58,61])=false) (h2:((s.extract 0 2).toList == [46,46])=false) (h3:((s.extract 0 2).toList == [60,61])=false) (h4:((s.extract 0 2).toList == [62,61])=false) (h5:((s.extract 0 2).toList == [60,62])=false) (h6:((s.extract 0 2).toList == [61,62])=false):(decide (1 < s.data.toList.length) && two.contains (s.data.toList.take 2))=false:=by
  have e:s.data.toList.take 2=(s.extract 0 2).toList:=by rw [Lib.toList_data,tx_take,tx_list]
  rw [e,two_no h1 h2 h3 h4 h5 h6]
  exact Bool.and_false _
theorem sgz_two {s:ByteArray} {l:List UInt8} (h1:1 < s.size) (e:((s.extract 0 2).toList == l)=true) (h:two.contains l=true):Ending.returned (.int .i64 2)=.returned (.int .i64 (sgz s.data.toList)):=by
  unfold sgz
  rw [two_of e h,decide_eq_true (by rw [← Lib.size_eq];exact h1)]
  rfl
theorem one_fin:∀ n:Fin 256,decide (0≤Lib.indexByte one (UInt8.ofNat n))=one.contains (UInt8.ofNat n):=by decide +kernel
theorem one_at (c:UInt8):decide (0≤Lib.indexByte one c)=one.contains c:=by
  have h:=one_fin ⟨c.toNat,c.toNat_lt⟩
  simpa using h
theorem sgz_one {s:ByteArray} (h0:0 < s.size) (h:(decide (1 < s.data.toList.length) && two.contains (s.data.toList.take 2))=false):sgz s.data.toList=if (0:Int)≤Lib.indexByte one s[0] then 1 else 0:=by
  unfold sgz
  rw [h,head_of h0,if_neg Bool.false_ne_true]
  have e:=one_at s[0]
  simp only [List.all_cons,List.all_nil,Bool.and_true]
  by_cases hc:(0:Int)≤Lib.indexByte one s[0]
  · rw [if_pos hc,← e,decide_eq_true hc];rfl
  · rw [if_neg hc,← e,decide_eq_false hc];rfl
theorem idxByte_c (s:ByteArray) (c:UInt8) (w:World):Calls Tryz.prog 150 #[.string s,.int .u8 c.toNat] w fun e w'=>e=.returned (.int .i64 (Lib.indexByte s.data.toList c))∧w'=w:=by
  have F0:=hid_as (fun W=>findOne s (c.toNat:Int) W)
  rw [show ((c.toNat:Int)).toNat.toUInt8=c by simp] at F0
  go_enter Tryz.func150,Tryz.ntmps150
  go_wp2_with (go_at_call 140;refine (F0.out _).mono ?_;rintro e w' ⟨rfl,hw⟩;subst w')
  go_ret
  exact ⟨rfl,rfl⟩
set_option maxHeartbeats 4000000 in
theorem signSize_c (s:ByteArray) (h0:0 < s.size) (w:World):Calls Tryz.prog 120 #[.string s] w fun e w'=>e=.returned (.int .i64 (sgz s.data.toList))∧w'=w:=by
  have I:Hid (∀ W,Calls Tryz.prog 150 #[.string ⟨#[58,59,44,46,40,41,91,93,61,60,62,43,45,42,47]⟩,.int .u8 s[0].toNat] W fun e w'=>e=.returned (.int .i64 (Lib.indexByte one s[0]))∧w'=W):=fun W=>idxByte_c _ _ W
  have ha:(0:Int) < s.size:=by omega
  by_cases h1:1 < s.size
  · have h1':(1:Int) < s.size:=by omega
    have h2:(2:Int)≤s.size:=by omega
    have O:=fun h=>hid_as (sgz_one (s:=s) h0 h)
    generalize Lib.indexByte one s[0]=J at *
    go_enter Tryz.func120,Tryz.ntmps120
    go_wp2_with (go_at_call 150;(with_reducible refine (I.out _).mono ?_);rintro e w' ⟨rfl,hw⟩;subst w')
    all_goals first
      | (exfalso;apply both;assumption;assumption)
      | (go_ret;refine ⟨?_,rfl⟩;apply sgz_two h1;assumption;decide)
      | (have hn:=no_two (s:=s) (by assumption) (by assumption) (by assumption) (by assumption) (by assumption) (by assumption)
         go_ret
         refine ⟨ret_int ?_,rfl⟩
         rw [(O hn).out]
         first | (rw [if_pos (by assumption)];rfl) | (rw [if_neg (by omega)];rfl))
  · have O:=hid_as (sgz_one (s:=s) h0 (by rw [decide_eq_false (by rw [← Lib.size_eq];exact h1)];rfl))
    have h1':¬ (1:Int) < s.size:=by omega
    generalize Lib.indexByte one s[0]=J at *
    go_enter Tryz.func120,Tryz.ntmps120
    go_wp2_with (go_at_call 150;(with_reducible refine (I.out _).mono ?_);rintro e w' ⟨rfl,hw⟩;subst w')
    all_goals
      go_ret
      refine ⟨ret_int ?_,rfl⟩
      rw [O.out]
      first | (rw [if_pos (by assumption)];rfl) | (rw [if_neg (by omega)];rfl)
theorem sgz_le {l:List UInt8} (h:0 < l.length):sgz l≤l.length∧sgz l≤2:=by
  unfold sgz
  split
  · rename_i h2;rw [Bool.and_eq_true,decide_eq_true_eq] at h2;omega
  · split <;> omega
set_option maxHeartbeats 2000000 in
theorem readSign_c (s:ByteArray) (h0:0 < s.size) (w:World):Calls Tryz.prog 75 #[.string s] w fun e w'=>e=.returned (rv (sgR s.data.toList))∧Below w.heap.size w w':=by
  have hN:=hid_as (below_new1 w (.cells #[.int .i64 0,.int .i64 0,.int .i64 0,.string ⟨#[]⟩,.int .i64 0] 42))
  have S:=hid_as (fun W=>signSize_c s h0 W)
  have hX:=hid_as (tx_take s (sgz s.data.toList))
  obtain ⟨z1,z2⟩:=sgz_le (l:=s.data.toList) (by rw [← Lib.size_eq];exact h0)
  rw [← Lib.size_eq] at z1
  have hg:Hid (sgR s.data.toList=if sgz s.data.toList=0 then er 120 else ⟨⟨6,0,0,s.data.toList.take (sgz s.data.toList)⟩,sgz s.data.toList,0⟩):=hid_as rfl
  rw [hg.out]
  clear hg
  generalize sgz s.data.toList=Z at *
  have d1:(0:Int)≤Z:=by omega
  have d2:(Z:Int)≤s.size:=by omega
  by_cases hz:Z=0
  · rw [if_pos hz]
    subst hz
    go_enter Tryz.func75,Tryz.ntmps75
    go_wp2_with (go_at_call 120;(with_reducible refine (S.out _).mono ?_);rintro e w' ⟨rfl,hw⟩;subst w')
    exact bodyPost_ret (v:=rv (er 120)) (by simp [results,Tryz.results75,go_sem,rv,er,nul,tv,tx]) rfl ⟨rfl,below_new1 _ _⟩
  · rw [if_neg hz]
    have hz':¬ (Z:Int)=0:=by omega
    go_enter Tryz.func75,Tryz.ntmps75
    go_wp2_with (go_at_call 120;(with_reducible refine (S.out _).mono ?_);rintro e w' ⟨rfl,hw⟩;subst w')
    exact bodyPost_ret (v:=.tuple #[.agg #[.int .i64 6,.int .i64 0,.int .i64 0,.string (s.extract 0 Z),.int .i64 0],.int .i64 Z,.int .i64 0]) (by simp [results,Tryz.results75,go_sem]) rfl ⟨by simp [rv,tv,hX.out],below_new1 _ _⟩
end Go.Proofs.YtapcpjidgemggaaGreatDoor
