/- Expr (stage 13). · Kinds, literals, bounds, fields, declarations (stage 13). -/
import Derived.Test.YtapcpjidgemggaaGreatDoorQ22
namespace Go.Proofs.YtapcpjidgemggaaGreatDoor
open Go.RowKit
open Adr Lx Sx
theorem K2.new {a b B:Nat} {W w':World} (h:K2 a b W w') (h1:B≤a) (h2:B≤b) (h3:B≤W.heap.size):Below B W w':=⟨h.os,h.tape,h.output,h.size,fun j hj=>h.block j (by omega) (by omega) (by omega)⟩
theorem K2.bk {a b g:Nat} {W w':World} {cs:Array Value} (h:K2 a b W w') (k:Bk W g cs) (h1:g ≠ a) (h2:g ≠ b):Bk w' g cs:=by
  have hl:=k.lt
  obtain ⟨t,k⟩:=k
  exact ⟨t,(h.block g hl h1 h2).trans k⟩
theorem below_seven {B g:Nat} {w W:World} (h:Below B w W) (hg:B≤g) (x0 x1 x2 x3 x4 x5 x6:Value):Below B w (((((((W.setCell ⟨g,0,none⟩ x0).setCell ⟨g,1,none⟩ x1).setCell ⟨g,2,none⟩ x2).setCell ⟨g,3,none⟩ x3).setCell ⟨g,4,none⟩ x4).setCell ⟨g,5,none⟩ x5).setCell ⟨g,6,none⟩ x6) :=
  ((((((h.setCell (p:=⟨g,0,none⟩) hg _).setCell (p:=⟨g,1,none⟩) hg _).setCell (p:=⟨g,2,none⟩) hg _).setCell (p:=⟨g,3,none⟩) hg _).setCell (p:=⟨g,4,none⟩) hg _).setCell (p:=⟨g,5,none⟩) hg _).setCell (p:=⟨g,6,none⟩) hg _
theorem scn_len (il:Bool):∀ (f:Nat) (l:List UInt8) (a:Nat) (A:List (Tk × Nat)),(scn il f l a A).1.length≤A.length+l.length
  | 0,l,a,A=>Nat.le_add_right _ _
  | f+1,[],a,A=>Nat.le_add_right _ _
  | f+1,c :: l,a,A=>by
    rw [scn_cons]
    split
    · have:=scn_len il f l (a+1) A
      simp only [List.length_cons]
      omega
    · split
      · split
        · exact Nat.zero_le _
        · have:=scn_len il f ((c :: l).drop (csz (c :: l))) (a+csz (c :: l)) A
          rw [List.length_drop] at this
          omega
      · split
        · rename_i h0
          have h1:=(nx_ok (l:=c :: l) (by simp) h0).1
          have:=scn_len il f ((c :: l).drop (nx (c :: l)).z) (a+(nx (c :: l)).z) (A ++ [((nx (c :: l)).t,a)])
          rw [List.length_drop,List.length_append] at this
          simp only [List.length_cons,List.length_nil] at this ⊢
          omega
        · exact Nat.zero_le _
theorem K7 (w:World) (b g j:Nat) (x0 x1 x2 x3 x4 x5 x6:Value) (h:g ≠ b):(((((((w.setCell ⟨b,0,none⟩ x0).setCell ⟨b,1,none⟩ x1).setCell ⟨b,2,none⟩ x2).setCell ⟨b,3,none⟩ x3).setCell ⟨b,4,none⟩ x4).setCell ⟨b,5,none⟩ x5).setCell ⟨b,6,none⟩ x6).cell? ⟨g,j,none⟩=w.cell? ⟨g,j,none⟩:=by
  have q:∀ (w:World) (i:Nat) (x:Value),(w.setCell ⟨b,i,none⟩ x).cell? ⟨g,j,none⟩=w.cell? ⟨g,j,none⟩:=fun w i x=>World.cell?_of_block (w:=w) (a:=⟨g,j,none⟩) (Below.heap_setCell w ⟨b,i,none⟩ x g h)
  rw [q,q,q,q,q,q,q]
theorem toks_wf {l:List UInt8} {T:TL} (h:toks l false=(T,none)) (hl:l.length≤900000):Wf T:=by
  unfold toks at h
  split at h
  · cases h
  · have e:=congrArg Prod.fst h
    have e2:=congrArg Prod.snd h
    simp only at e e2
    have hlen:=scn_len false l.length l 0 []
    rw [← e]
    refine ⟨by rw [List.length_append];simp at hlen ⊢;omega,fun i hi=>?_⟩
    by_cases hj:i < (scn false l.length l 0 []).1.length
    · exact Or.inl (by rw [List.length_append];show i+1 < _+1;omega)
    · refine Or.inr ?_
      rw [List.length_append] at hi
      have hi2:i < (scn false l.length l 0 []).1.length+1:=hi
      obtain rfl:i=(scn false l.length l 0 []).1.length:=by omega
      unfold cu
      rw [List.getD_eq_getElem?_getD,List.getElem?_append_right (Nat.le_refl _),Nat.sub_self]
      rfl
set_option maxHeartbeats 4000000 in
set_option maxRecDepth 100000 in
theorem expr_no (s:ByteArray) (w:World) (hT:Tabs w) (hs:s.size≤900000) {T:TL} (ht:toks s.data.toList false=(T,none)) {n k:Nat} (hM:onl T=no n k):Calls Tryz.prog 169 #[.string s] w fun e w'=>∃ g,e=.returned (.tuple #[.agg #[.int .i64 0,.int .i64 0,.int .i64 0,.string ⟨#[]⟩,.string ⟨#[]⟩,.slice none 0 0,.int .i64 0],.iface 78 (.pointer (some ⟨g,0,none⟩))])∧w.heap.size≤g∧g < w'.heap.size∧w'.cell? ⟨g,0,none⟩=some (.int .i64 (ca T k))∧w'.cell? ⟨g,1,none⟩=some (.int .i64 n)∧Below w.heap.size w w':=by
  have hmf:∀ (fn:Fn) (first cap:Array Value) (w:World),(Instr.makeFunc fn first cap).run Tryz.prog w=.ok (.func fn first cap) w:=fun _ _ _ _=>rfl
  have T0:=hid_as ((hT.below (below_new1 w (.cells #[.int .i64 0,.int .i64 0,.int .i64 0,.string ⟨#[]⟩,.string ⟨#[]⟩,.slice none 0 0,.int .i64 0] 53))).below (below_new1 (w.alloc (.cells #[.int .i64 0,.int .i64 0,.int .i64 0,.string ⟨#[]⟩,.string ⟨#[]⟩,.slice none 0 0,.int .i64 0] 53)) (.cells #[.int .i64 0,.int .i64 0,.int .i64 0,.string ⟨#[]⟩,.string ⟨#[]⟩,.slice none 0 0,.int .i64 0] 53)))
  have K0:Hid (Below w.heap.size w ((w.alloc (.cells #[.int .i64 0,.int .i64 0,.int .i64 0,.string ⟨#[]⟩,.string ⟨#[]⟩,.slice none 0 0,.int .i64 0] 53)).alloc (.cells #[.int .i64 0,.int .i64 0,.int .i64 0,.string ⟨#[]⟩,.string ⟨#[]⟩,.slice none 0 0,.int .i64 0] 53))):=hid_as ((below_new1 w (.cells #[.int .i64 0,.int .i64 0,.int .i64 0,.string ⟨#[]⟩,.string ⟨#[]⟩,.slice none 0 0,.int .i64 0] 53)).alloc (by simp) _)
  have B0:Hid (Bk ((w.alloc (.cells #[.int .i64 0,.int .i64 0,.int .i64 0,.string ⟨#[]⟩,.string ⟨#[]⟩,.slice none 0 0,.int .i64 0] 53)).alloc (.cells #[.int .i64 0,.int .i64 0,.int .i64 0,.string ⟨#[]⟩,.string ⟨#[]⟩,.slice none 0 0,.int .i64 0] 53)) w.heap.size #[.int .i64 0,.int .i64 0,.int .i64 0,.string ⟨#[]⟩,.string ⟨#[]⟩,.slice none 0 0,.int .i64 0]):=hid_as ((Bk.fresh w #[.int .i64 0,.int .i64 0,.int .i64 0,.string ⟨#[]⟩,.string ⟨#[]⟩,.slice none 0 0,.int .i64 0] 53).alloc _)
  have E0:Hid (Bk ((w.alloc (.cells #[.int .i64 0,.int .i64 0,.int .i64 0,.string ⟨#[]⟩,.string ⟨#[]⟩,.slice none 0 0,.int .i64 0] 53)).alloc (.cells #[.int .i64 0,.int .i64 0,.int .i64 0,.string ⟨#[]⟩,.string ⟨#[]⟩,.slice none 0 0,.int .i64 0] 53)) (w.heap.size+1) #[.int .i64 0,.int .i64 0,.int .i64 0,.string ⟨#[]⟩,.string ⟨#[]⟩,.slice none 0 0,.int .i64 0]):=by
    have q:=Bk.fresh (w.alloc (.cells #[.int .i64 0,.int .i64 0,.int .i64 0,.string ⟨#[]⟩,.string ⟨#[]⟩,.slice none 0 0,.int .i64 0] 53)) #[.int .i64 0,.int .i64 0,.int .i64 0,.string ⟨#[]⟩,.string ⟨#[]⟩,.slice none 0 0,.int .i64 0] 53
    rw [World.size_alloc] at q
    exact hid_as q
  have C:=hid_as (fun W (hW:Tabs W) (hE:Bk W (w.heap.size+1) #[.int .i64 0,.int .i64 0,.int .i64 0,.string ⟨#[]⟩,.string ⟨#[]⟩,.slice none 0 0,.int .i64 0])=>read_expr_no s W hW (by omega) ht (toks_wf ht (by rw [← Lib.size_eq];omega)) hE hM)
  clear hT ht hM
  go_enter Tryz.func169,Tryz.ntmps169
  go_wp2_with (go_at_call 41;(with_reducible refine (C.out _ T0.out E0.out).mono ?_);rintro e w1 ⟨⟨g,rfl,hg1,hg2,c0,c1⟩,b1⟩;have B1:=hid_as (B0.out.below b1);have E1:=hid_as (E0.out.below b1);have K1:=hid_as (K0.out.trans (b1.mono (by rw [World.size_alloc,World.size_alloc];omega)));rw [World.size_alloc,World.size_alloc] at hg1;obtain ⟨s0,s1,s2,s3,s4,s5,s6⟩:=bk7 B1.out;have sf:=B1.out.fr;obtain ⟨u0,u1,u2,u3,u4,u5,u6⟩:=bk7 E1.out;have uf:=E1.out.fr;clear b1)
  refine bodyPost_ret (v:=.tuple #[.agg #[.int .i64 0,.int .i64 0,.int .i64 0,.string ⟨#[]⟩,.string ⟨#[]⟩,.slice none 0 0,.int .i64 0],.iface 78 (.pointer (some ⟨g,0,none⟩))]) (by simp [results,Tryz.results169,go_sem,s0,s1,s2,s3,s4,s5,s6]) rfl ⟨g,rfl,by omega,by simp [World.setCell];exact hg2,?_,?_,below_seven K1.out (Nat.le_refl _) _ _ _ _ _ _ _⟩
  · exact (K7 w1 w.heap.size g 0 _ _ _ _ _ _ _ (by omega)).trans c0
  · exact (K7 w1 w.heap.size g 1 _ _ _ _ _ _ _ (by omega)).trans c1
set_option maxHeartbeats 4000000 in
set_option maxRecDepth 100000 in
theorem expr_yes (s:ByteArray) (w:World) (hT:Tabs w) (hs:s.size≤900000) {T:TL} (ht:toks s.data.toList false=(T,none)) {t:Tr} {k:Nat} (hM:onl T=ok t k):Calls Tryz.prog 169 #[.string s] w fun e w'=>∃ o kd n nm fl lp ln lc p,e=.returned (.tuple #[.agg #[.int .i64 o,.int .i64 kd,.int .i64 n,.string nm,.string fl,.slice lp ln lc,.int .i64 p],.nilIface])∧Et (fun x=>w.heap.size≤x) w' (.agg #[.int .i64 o,.int .i64 kd,.int .i64 n,.string nm,.string fl,.slice lp ln lc,.int .i64 p]) t∧Below w.heap.size w w':=by
  have hmf:∀ (fn:Fn) (first cap:Array Value) (w:World),(Instr.makeFunc fn first cap).run Tryz.prog w=.ok (.func fn first cap) w:=fun _ _ _ _=>rfl
  have T0:=hid_as ((hT.below (below_new1 w (.cells #[.int .i64 0,.int .i64 0,.int .i64 0,.string ⟨#[]⟩,.string ⟨#[]⟩,.slice none 0 0,.int .i64 0] 53))).below (below_new1 (w.alloc (.cells #[.int .i64 0,.int .i64 0,.int .i64 0,.string ⟨#[]⟩,.string ⟨#[]⟩,.slice none 0 0,.int .i64 0] 53)) (.cells #[.int .i64 0,.int .i64 0,.int .i64 0,.string ⟨#[]⟩,.string ⟨#[]⟩,.slice none 0 0,.int .i64 0] 53)))
  have K0:Hid (Below w.heap.size w ((w.alloc (.cells #[.int .i64 0,.int .i64 0,.int .i64 0,.string ⟨#[]⟩,.string ⟨#[]⟩,.slice none 0 0,.int .i64 0] 53)).alloc (.cells #[.int .i64 0,.int .i64 0,.int .i64 0,.string ⟨#[]⟩,.string ⟨#[]⟩,.slice none 0 0,.int .i64 0] 53))):=hid_as ((below_new1 w (.cells #[.int .i64 0,.int .i64 0,.int .i64 0,.string ⟨#[]⟩,.string ⟨#[]⟩,.slice none 0 0,.int .i64 0] 53)).alloc (by simp) _)
  have B0:Hid (Bk ((w.alloc (.cells #[.int .i64 0,.int .i64 0,.int .i64 0,.string ⟨#[]⟩,.string ⟨#[]⟩,.slice none 0 0,.int .i64 0] 53)).alloc (.cells #[.int .i64 0,.int .i64 0,.int .i64 0,.string ⟨#[]⟩,.string ⟨#[]⟩,.slice none 0 0,.int .i64 0] 53)) w.heap.size #[.int .i64 0,.int .i64 0,.int .i64 0,.string ⟨#[]⟩,.string ⟨#[]⟩,.slice none 0 0,.int .i64 0]):=hid_as ((Bk.fresh w #[.int .i64 0,.int .i64 0,.int .i64 0,.string ⟨#[]⟩,.string ⟨#[]⟩,.slice none 0 0,.int .i64 0] 53).alloc _)
  have E0:Hid (Bk ((w.alloc (.cells #[.int .i64 0,.int .i64 0,.int .i64 0,.string ⟨#[]⟩,.string ⟨#[]⟩,.slice none 0 0,.int .i64 0] 53)).alloc (.cells #[.int .i64 0,.int .i64 0,.int .i64 0,.string ⟨#[]⟩,.string ⟨#[]⟩,.slice none 0 0,.int .i64 0] 53)) (w.heap.size+1) #[.int .i64 0,.int .i64 0,.int .i64 0,.string ⟨#[]⟩,.string ⟨#[]⟩,.slice none 0 0,.int .i64 0]):=by
    have q:=Bk.fresh (w.alloc (.cells #[.int .i64 0,.int .i64 0,.int .i64 0,.string ⟨#[]⟩,.string ⟨#[]⟩,.slice none 0 0,.int .i64 0] 53)) #[.int .i64 0,.int .i64 0,.int .i64 0,.string ⟨#[]⟩,.string ⟨#[]⟩,.slice none 0 0,.int .i64 0] 53
    rw [World.size_alloc] at q
    exact hid_as q
  have C:=hid_as (fun W (hW:Tabs W) (hE:Bk W (w.heap.size+1) #[.int .i64 0,.int .i64 0,.int .i64 0,.string ⟨#[]⟩,.string ⟨#[]⟩,.slice none 0 0,.int .i64 0])=>read_expr s W hW (by omega) ht (toks_wf ht (by rw [← Lib.size_eq];omega)) hE hM)
  clear hT ht hM
  go_enter Tryz.func169,Tryz.ntmps169
  go_wp2_with (go_at_call 41;(with_reducible refine (C.out _ T0.out E0.out).mono ?_);rintro e w1 ⟨rfl,⟨V,hV,⟨o,kd,n,nm,fl,lp,ln,lc,p,e1,t1⟩⟩,k1⟩;have B1:=hid_as (k1.bk B0.out (by omega) (by omega));have K1:=hid_as (K0.out.trans (k1.new (B:=w.heap.size) (by omega) (by omega) (by rw [World.size_alloc,World.size_alloc];omega)));rw [World.size_alloc,World.size_alloc] at hV;have E1:=hid_as e1;have TT:=hid_as t1;obtain ⟨s0,s1,s2,s3,s4,s5,s6⟩:=bk7 B1.out;have sf:=B1.out.fr;obtain ⟨u0,u1,u2,u3,u4,u5,u6⟩:=bk7 E1.out;have uf:=E1.out.fr;clear k1 e1 t1)
  exact bodyPost_ret (v:=.tuple #[.agg #[.int .i64 o,.int .i64 kd,.int .i64 n,.string nm,.string fl,.slice lp ln lc,.int .i64 p],.nilIface]) (by simp [results,Tryz.results169,go_sem,s0,s1,s2,s3,s4,s5,s6]) rfl ⟨_,_,_,_,_,_,_,_,_,rfl,(TT.out.set7 (by show ¬ (_≤_);omega) _ _ _ _ _ _ _).into (fun x (hx:V.heap.size≤x) _=>by show w.heap.size≤x;omega),below_seven K1.out (Nat.le_refl _) _ _ _ _ _ _ _⟩
end Go.Proofs.YtapcpjidgemggaaGreatDoor
namespace Go.Proofs.YtapcpjidgemggaaGreatDoor
open Go.RowKit
open Adr Lx Sx
theorem bk3 {w:World} {g:Nat} {z0 z1 z2:Value} (h:Bk w g #[z0,z1,z2]):w.cell? ⟨g,0,none⟩=some z0∧w.cell? ⟨g,1,none⟩=some z1∧w.cell? ⟨g,2,none⟩=some z2:=⟨h.cell 0,h.cell 1,h.cell 2⟩
theorem bk6 {w:World} {g:Nat} {z0 z1 z2 z3 z4 z5:Value} (h:Bk w g #[z0,z1,z2,z3,z4,z5]):w.cell? ⟨g,0,none⟩=some z0∧w.cell? ⟨g,1,none⟩=some z1∧w.cell? ⟨g,2,none⟩=some z2∧w.cell? ⟨g,3,none⟩=some z3∧w.cell? ⟨g,4,none⟩=some z4∧w.cell? ⟨g,5,none⟩=some z5:=⟨h.cell 0,h.cell 1,h.cell 2,h.cell 3,h.cell 4,h.cell 5⟩
theorem bk9 {w:World} {g:Nat} {z0 z1 z2 z3 z4 z5 z6 z7 z8:Value} (h:Bk w g #[z0,z1,z2,z3,z4,z5,z6,z7,z8]):w.cell? ⟨g,0,none⟩=some z0∧w.cell? ⟨g,1,none⟩=some z1∧w.cell? ⟨g,2,none⟩=some z2∧w.cell? ⟨g,3,none⟩=some z3∧w.cell? ⟨g,4,none⟩=some z4∧w.cell? ⟨g,5,none⟩=some z5∧w.cell? ⟨g,6,none⟩=some z6∧w.cell? ⟨g,7,none⟩=some z7∧w.cell? ⟨g,8,none⟩=some z8:=⟨h.cell 0,h.cell 1,h.cell 2,h.cell 3,h.cell 4,h.cell 5,h.cell 6,h.cell 7,h.cell 8⟩
theorem bk10 {w:World} {g:Nat} {z0 z1 z2 z3 z4 z5 z6 z7 z8 z9:Value} (h:Bk w g #[z0,z1,z2,z3,z4,z5,z6,z7,z8,z9]):w.cell? ⟨g,0,none⟩=some z0∧w.cell? ⟨g,1,none⟩=some z1∧w.cell? ⟨g,2,none⟩=some z2∧w.cell? ⟨g,3,none⟩=some z3∧w.cell? ⟨g,4,none⟩=some z4∧w.cell? ⟨g,5,none⟩=some z5∧w.cell? ⟨g,6,none⟩=some z6∧w.cell? ⟨g,7,none⟩=some z7∧w.cell? ⟨g,8,none⟩=some z8∧w.cell? ⟨g,9,none⟩=some z9:=⟨h.cell 0,h.cell 1,h.cell 2,h.cell 3,h.cell 4,h.cell 5,h.cell 6,h.cell 7,h.cell 8,h.cell 9⟩
theorem bk13 {w:World} {g:Nat} {z0 z1 z2 z3 z4 z5 z6 z7 z8 z9 z10 z11 z12:Value} (h:Bk w g #[z0,z1,z2,z3,z4,z5,z6,z7,z8,z9,z10,z11,z12]):w.cell? ⟨g,0,none⟩=some z0∧w.cell? ⟨g,1,none⟩=some z1∧w.cell? ⟨g,2,none⟩=some z2∧w.cell? ⟨g,3,none⟩=some z3∧w.cell? ⟨g,4,none⟩=some z4∧w.cell? ⟨g,5,none⟩=some z5∧w.cell? ⟨g,6,none⟩=some z6∧w.cell? ⟨g,7,none⟩=some z7∧w.cell? ⟨g,8,none⟩=some z8∧w.cell? ⟨g,9,none⟩=some z9∧w.cell? ⟨g,10,none⟩=some z10∧w.cell? ⟨g,11,none⟩=some z11∧w.cell? ⟨g,12,none⟩=some z12:=⟨h.cell 0,h.cell 1,h.cell 2,h.cell 3,h.cell 4,h.cell 5,h.cell 6,h.cell 7,h.cell 8,h.cell 9,h.cell 10,h.cell 11,h.cell 12⟩
theorem bk14 {w:World} {g:Nat} {z0 z1 z2 z3 z4 z5 z6 z7 z8 z9 z10 z11 z12 z13:Value} (h:Bk w g #[z0,z1,z2,z3,z4,z5,z6,z7,z8,z9,z10,z11,z12,z13]):w.cell? ⟨g,0,none⟩=some z0∧w.cell? ⟨g,1,none⟩=some z1∧w.cell? ⟨g,2,none⟩=some z2∧w.cell? ⟨g,3,none⟩=some z3∧w.cell? ⟨g,4,none⟩=some z4∧w.cell? ⟨g,5,none⟩=some z5∧w.cell? ⟨g,6,none⟩=some z6∧w.cell? ⟨g,7,none⟩=some z7∧w.cell? ⟨g,8,none⟩=some z8∧w.cell? ⟨g,9,none⟩=some z9∧w.cell? ⟨g,10,none⟩=some z10∧w.cell? ⟨g,11,none⟩=some z11∧w.cell? ⟨g,12,none⟩=some z12∧w.cell? ⟨g,13,none⟩=some z13:=⟨h.cell 0,h.cell 1,h.cell 2,h.cell 3,h.cell 4,h.cell 5,h.cell 6,h.cell 7,h.cell 8,h.cell 9,h.cell 10,h.cell 11,h.cell 12,h.cell 13⟩
theorem Bk.put14 {w:World} {g:Nat} {y0 y1 y2 y3 y4 y5 y6 y7 y8 y9 y10 y11 y12 y13:Value} (h:Bk w g #[y0,y1,y2,y3,y4,y5,y6,y7,y8,y9,y10,y11,y12,y13]) (x0 x1 x2 x3 x4 x5 x6 x7 x8 x9 x10 x11 x12 x13:Value):Bk ((((((((((((((w.setCell ⟨g,0,none⟩ x0).setCell ⟨g,1,none⟩ x1).setCell ⟨g,2,none⟩ x2).setCell ⟨g,3,none⟩ x3).setCell ⟨g,4,none⟩ x4).setCell ⟨g,5,none⟩ x5).setCell ⟨g,6,none⟩ x6).setCell ⟨g,7,none⟩ x7).setCell ⟨g,8,none⟩ x8).setCell ⟨g,9,none⟩ x9).setCell ⟨g,10,none⟩ x10).setCell ⟨g,11,none⟩ x11).setCell ⟨g,12,none⟩ x12).setCell ⟨g,13,none⟩ x13) g #[x0,x1,x2,x3,x4,x5,x6,x7,x8,x9,x10,x11,x12,x13]:=by
  have q:=((((((((((((((h.set 0 x0).set 1 x1).set 2 x2).set 3 x3).set 4 x4).set 5 x5).set 6 x6).set 7 x7).set 8 x8).set 9 x9).set 10 x10).set 11 x11).set 12 x12).set 13 x13)
  simp only [List.setIfInBounds_toArray,List.set_cons_zero,List.set_cons_succ] at q
  exact q
theorem Kp.put14 {rb g:Nat} {a w:World} (k:Kp rb a w) (hg:a.heap.size≤g) (x0 x1 x2 x3 x4 x5 x6 x7 x8 x9 x10 x11 x12 x13:Value):Kp rb a ((((((((((((((w.setCell ⟨g,0,none⟩ x0).setCell ⟨g,1,none⟩ x1).setCell ⟨g,2,none⟩ x2).setCell ⟨g,3,none⟩ x3).setCell ⟨g,4,none⟩ x4).setCell ⟨g,5,none⟩ x5).setCell ⟨g,6,none⟩ x6).setCell ⟨g,7,none⟩ x7).setCell ⟨g,8,none⟩ x8).setCell ⟨g,9,none⟩ x9).setCell ⟨g,10,none⟩ x10).setCell ⟨g,11,none⟩ x11).setCell ⟨g,12,none⟩ x12).setCell ⟨g,13,none⟩ x13):=((((((((((((((k.set hg 0 x0).set hg 1 x1).set hg 2 x2).set hg 3 x3).set hg 4 x4).set hg 5 x5).set hg 6 x6).set hg 7 x7).set hg 8 x8).set hg 9 x9).set hg 10 x10).set hg 11 x11).set hg 12 x12).set hg 13 x13)
theorem Rd.put14 {w:World} {rb tb cap:Nat} {T:TL} {i g:Nat} (r:Rd w rb tb cap T i) (hb:g ≠ rb) (hc:g ≠ tb) (x0 x1 x2 x3 x4 x5 x6 x7 x8 x9 x10 x11 x12 x13:Value):Rd ((((((((((((((w.setCell ⟨g,0,none⟩ x0).setCell ⟨g,1,none⟩ x1).setCell ⟨g,2,none⟩ x2).setCell ⟨g,3,none⟩ x3).setCell ⟨g,4,none⟩ x4).setCell ⟨g,5,none⟩ x5).setCell ⟨g,6,none⟩ x6).setCell ⟨g,7,none⟩ x7).setCell ⟨g,8,none⟩ x8).setCell ⟨g,9,none⟩ x9).setCell ⟨g,10,none⟩ x10).setCell ⟨g,11,none⟩ x11).setCell ⟨g,12,none⟩ x12).setCell ⟨g,13,none⟩ x13) rb tb cap T i:=((((((((((((((r.other hb hc 0 x0).other hb hc 1 x1).other hb hc 2 x2).other hb hc 3 x3).other hb hc 4 x4).other hb hc 5 x5).other hb hc 6 x6).other hb hc 7 x7).other hb hc 8 x8).other hb hc 9 x9).other hb hc 10 x10).other hb hc 11 x11).other hb hc 12 x12).other hb hc 13 x13)
def shArm (v:Value):Prop:=∃ (a_0:Option Addr) (b_0 c_0:Nat) (a_1:Option Addr) (b_1 c_1:Nat) (a_2:Option Addr) (b_2 c_2:Nat),v=.agg #[.slice a_0 b_0 c_0,.slice a_1 b_1 c_1,.slice a_2 b_2 c_2]
def qArm:World→Unit→Value→World→Prop:=fun _ _ v _=>shArm v
def shArg (v:Value):Prop:=∃ (x_0:ByteArray) (x_1:Int) (x_2:Int) (x_3:Int) (x_4:ByteArray) (x_5:ByteArray) (a_6:Option Addr) (b_6 c_6:Nat) (x_7:Int) (x_8:Int),v=.agg #[.string x_0,.int .i64 x_1,.int .i64 x_2,.int .i64 x_3,.string x_4,.string x_5,.slice a_6 b_6 c_6,.int .i64 x_7,.int .i64 x_8]
def qArg:World→Unit→Value→World→Prop:=fun _ _ v _=>shArg v
def shVar (v:Value):Prop:=∃ (x_0:ByteArray) (x_1:Int) (x_2:Int) (x_3:Int) (x_4:Int) (x_5:ByteArray) (x_6:Bool) (x_7:ByteArray) (a_8:Option Addr) (b_8 c_8:Nat) (x_9:Int),v=.agg #[.string x_0,.int .i64 x_1,.int .i64 x_2,.int .i64 x_3,.int .i64 x_4,.string x_5,.bool x_6,.string x_7,.slice a_8 b_8 c_8,.int .i64 x_9]
def qVar:World→Unit→Value→World→Prop:=fun _ _ v _=>shVar v
def shStruct (v:Value):Prop:=∃ (x_0:ByteArray) (a_1:Option Addr) (b_1 c_1:Nat) (x_2:Int),v=.agg #[.string x_0,.slice a_1 b_1 c_1,.int .i64 x_2]
def qStruct:World→Unit→Value→World→Prop:=fun _ _ v _=>shStruct v
def shType (v:Value):Prop:=∃ (x_0:Int) (x_1:Int) (x_2:Int) (x_3:Int) (x_4:ByteArray),v=.agg #[.int .i64 x_0,.int .i64 x_1,.int .i64 x_2,.int .i64 x_3,.string x_4]
def qType:World→Unit→Value→World→Prop:=fun _ _ v _=>shType v
def shLab (v:Value):Prop:=∃ (x_0:Int) (x_1:Int) (x_2:Int) (x_3:ByteArray) (x_4:ByteArray) (a_5:Option Addr) (b_5 c_5:Nat) (x_6:Int) (x_7:Int) (x_8:Int) (x_9:Int) (x_10:ByteArray) (x_11:ByteArray) (a_12:Option Addr) (b_12 c_12:Nat) (x_13:Int),v=.agg #[.int .i64 x_0,.int .i64 x_1,.int .i64 x_2,.string x_3,.string x_4,.slice a_5 b_5 c_5,.int .i64 x_6,.int .i64 x_7,.int .i64 x_8,.int .i64 x_9,.string x_10,.string x_11,.slice a_12 b_12 c_12,.int .i64 x_13]
def qLab:World→Unit→Value→World→Prop:=fun _ _ v _=>shLab v
def qI:World→Unit→Value→World→Prop:=fun _ _ v _=>∃ x,v=.int .i64 x
def qS:World→Unit→Value→World→Prop:=fun _ _ v _=>∃ a b c,v=.slice a b c
theorem kf_leaf {s:ByteArray} {l:List UInt8} {a:Int} (e:(s.toList == l)=true) (h:kf l=a.toNat) (ha:0≤a):Ending.returned (.int .i64 a)=.returned (.int .i64 (kf s.data.toList:Int)):=by
  have e1:s.data.toList=l:=by rw [← Lib.toList_data];exact eq_of_beq e
  rw [e1,h,Int.toNat_of_nonneg ha]
set_option maxHeartbeats 4000000 in
set_option maxRecDepth 100000 in
theorem st_kindNamed_c (s:ByteArray) (w:World):Calls Tryz.prog 171 #[.string s] w fun e w'=>e=.returned (.int .i64 (kf s.data.toList:Int))∧w'=w:=by
  go_enter Tryz.func171,Tryz.ntmps171
  go_wp2
  all_goals go_ret
  all_goals refine ⟨?_,rfl⟩
  all_goals first | (apply kf_leaf;assumption;decide;decide) | skip
  rw [← Lib.toList_data,kf_none (l:=s.toList)]
  · rfl
  · intro j hj
    have hc:j=0 ∨ j=1 ∨ j=2 ∨ j=3 ∨ j=4 ∨ j=5 ∨ j=6 ∨ j=7 ∨ j=8 ∨ j=9 ∨ j=10 ∨ j=11:=by omega
    have fl:∀ (l m:List UInt8),(l == m)=false→(m == l)=false:=fun l m h=>by rw [beq_eq_false_iff_ne] at h ⊢;exact Ne.symm h
    rcases hc with rfl | rfl | rfl | rfl | rfl | rfl | rfl | rfl | rfl | rfl | rfl | rfl
    · rfl
    all_goals (apply isK_no;apply fl;assumption)
set_option maxHeartbeats 4000000 in
set_option maxRecDepth 100000 in
theorem p_kind {rb tb cap:Nat} {T:TL}:Cn 155 #[] rb tb cap T (knd T) qI:=by
  intro w i h
  show Calls Tryz.prog 155 #[.pointer (some ⟨rb,0,none⟩)] w _
  have N0:=hid_as (fun W (H:Rd W rb tb cap T i)=>now_c H)
  have KN:Hid (∀ W,Calls Tryz.prog 171 #[.string (tx (cu T i).1.text)] W fun e w'=>e=.returned (.int .i64 (kf (ct T i):Int))∧w'=W):=fun W=>by
    have q:=st_kindNamed_c (tx (cu T i).1.text) W
    rw [tx_list] at q
    exact q
  have F3:=fd3
  have K0:=hid_as (Kp.refl rb w)
  unfold tv at N0
  by_cases hk:kf (ct T i)=0
  · have em:knd T i=no 130 i:=by unfold knd;rw [if_pos hk]
    rw [em]
    rw [hk] at KN
    have H:=hid_as h
    have D:=hid_as (fun W (H:Rd W rb tb cap T i)=>refuse_130 H)
    clear em h hk
    generalize cu T i=c at *
    obtain ⟨⟨ta,tk,tn,tt⟩,pl⟩:=c
    simp only at N0 KN
    go_enter Tryz.func155,Tryz.ntmps155
    go_wp2_with (first
      | (go_at_call 136;(with_reducible refine (N0.out _ H.out).mono ?_);rintro e w1 ⟨rfl,b1⟩;have R1:=hid_as ((H.out).below b1);have K1:=hid_as ((K0.out).below b1);have z1:=K1.out.size;have q1:=b1.size;(try rw [World.size_alloc] at q1);have J1:=hid_as (kp_of_below (rb:=rb) b1);clear b1)
      | (go_at_call 171;(with_reducible refine (KN.out _).mono ?_);rintro e w' ⟨rfl,hw⟩;subst w')
      | (go_at_call 130;(with_reducible refine (D.out _ R1.out).mono ?_);rintro e w2 ⟨rfl,b2⟩))
    exact ⟨rfl,K1.out.below b2,Or.inr ⟨130,i,rfl,rfl⟩⟩
  · have em:knd T i=ok () (i+1):=by unfold knd;rw [if_neg hk]
    have hn:¬ (cu T i).1=nul:=by
      intro e
      apply hk
      unfold ct
      rw [e]
      decide
    rw [em]
    have H:=hid_as h
    have D:=hid_as (fun W (H:Rd W rb tb cap T i)=>take_c H hn)
    have hk':¬ (kf (ct T i):Int)=0:=by omega
    unfold tv at D
    clear em h hk hn
    generalize kf (ct T i)=kk at *
    generalize cu T i=c at *
    obtain ⟨⟨ta,tk,tn,tt⟩,pl⟩:=c
    simp only at N0 KN D
    go_enter Tryz.func155,Tryz.ntmps155
    go_wp2_with (first
      | (go_at_call 136;(with_reducible refine (N0.out _ H.out).mono ?_);rintro e w1 ⟨rfl,b1⟩;have R1:=hid_as ((H.out).below b1);have K1:=hid_as ((K0.out).below b1);have z1:=K1.out.size;have q1:=b1.size;(try rw [World.size_alloc] at q1);have J1:=hid_as (kp_of_below (rb:=rb) b1);clear b1)
      | (go_at_call 171;(with_reducible refine (KN.out _).mono ?_);rintro e w' ⟨rfl,hw⟩;subst w')
      | (go_at_call 128;(with_reducible refine (D.out _ R1.out).mono ?_);rintro e w2 ⟨rfl,k2,r2⟩;have R2:=hid_as r2;have K2:=hid_as ((K1.out).trans k2);have z2:=K2.out.size;have q2:=k2.size;(try rw [World.size_alloc] at q2);have J2:=hid_as k2;clear k2 r2))
    go_ret
    exact ⟨K2.out,Or.inl ⟨(),_,_,rfl,rfl,⟨_,rfl⟩,R2.out,Nat.le_succ _⟩⟩
end Go.Proofs.YtapcpjidgemggaaGreatDoor
