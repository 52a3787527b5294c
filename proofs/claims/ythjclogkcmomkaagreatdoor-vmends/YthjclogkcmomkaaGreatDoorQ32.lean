/- Each block's step over the numbers of its pins (stage 21, after stage 17). -/
import Derived.Test.YthjclogkcmomkaaGreatDoorQ27
import Derived.Test.YthjclogkcmomkaaGreatDoorQ28
import Derived.Test.YthjclogkcmomkaaGreatDoorQ29
import Derived.Test.YthjclogkcmomkaaGreatDoorQ31
namespace Go.Proofs.YthjclogkcmomkaaGreatDoor
open Go.RowKit
open Fb
theorem tr_b01 (b:Bool):tr (b01 b)=b:=by cases b <;> rfl
theorem bd_w (i o:List Int) (k0 k1 k2 t:Int):Bd ⟨i,o,k0,w32 k1,k2,w32 t⟩:=⟨w32_ok t,w32_ok k1⟩
/-- What a block's machine does with a call over its pins' numbers. -/
def Ms (k:Nat) (f:FuncId):Prop:=∀ {w:World} {g a b:Nat} {l q:List Int} {p0 p1 p2 t:Int},Cl w g a b ⟨pnum k (pI k) l,pnum k (pO k) q,w32 p0,w32 p1,w32 p2,w32 t⟩→Calls Tryz.prog f #[.agg #[],.pointer (some ⟨g,0,none⟩)] w (Lft w g a b ⟨pnum k (pI k) l,(stp k l q p0 p1 p2 t).o,(stp k l q p0 p1 p2 t).k0,(stp k l q p0 p1 p2 t).k1,(stp k l q p0 p1 p2 t).k2,w32 t⟩)
theorem pi_0_0 (l:List Int):(pnum 0 (pI 0) l).getD 0 0=b01 (tr (l.getD 0 0)):=by
  rw [pnum_at 0 (pI 0) l 0 (by decide),show kdf ((pI 0).getD 0 ([],0)).1 (pI 0 ++ pO 0)=1 by decide];rfl
theorem pi_0_1 (l:List Int):(pnum 0 (pI 0) l).getD 1 0=w32 (l.getD 1 0):=by
  rw [pnum_at 0 (pI 0) l 1 (by decide),show kdf ((pI 0).getD 1 ([],0)).1 (pI 0 ++ pO 0)=11 by decide];rfl
theorem po_0_1 (l:List Int):(pnum 0 (pO 0) l).getD 1 0=w32 (l.getD 1 0):=by
  rw [pnum_at 0 (pO 0) l 1 (by decide),show kdf ((pO 0).getD 1 ([],0)).1 (pI 0 ++ pO 0)=11 by decide];rfl
theorem pi_1_0 (l:List Int):(pnum 1 (pI 1) l).getD 0 0=b01 (tr (l.getD 0 0)):=by
  rw [pnum_at 1 (pI 1) l 0 (by decide),show kdf ((pI 1).getD 0 ([],0)).1 (pI 1 ++ pO 1)=1 by decide];rfl
theorem pi_1_1 (l:List Int):(pnum 1 (pI 1) l).getD 1 0=w32 (l.getD 1 0):=by
  rw [pnum_at 1 (pI 1) l 1 (by decide),show kdf ((pI 1).getD 1 ([],0)).1 (pI 1 ++ pO 1)=11 by decide];rfl
theorem po_1_1 (l:List Int):(pnum 1 (pO 1) l).getD 1 0=w32 (l.getD 1 0):=by
  rw [pnum_at 1 (pO 1) l 1 (by decide),show kdf ((pO 1).getD 1 ([],0)).1 (pI 1 ++ pO 1)=11 by decide];rfl
theorem pi_2_0 (l:List Int):(pnum 2 (pI 2) l).getD 0 0=b01 (tr (l.getD 0 0)):=by
  rw [pnum_at 2 (pI 2) l 0 (by decide),show kdf ((pI 2).getD 0 ([],0)).1 (pI 2 ++ pO 2)=1 by decide];rfl
theorem pi_2_1 (l:List Int):(pnum 2 (pI 2) l).getD 1 0=w32 (l.getD 1 0):=by
  rw [pnum_at 2 (pI 2) l 1 (by decide),show kdf ((pI 2).getD 1 ([],0)).1 (pI 2 ++ pO 2)=11 by decide];rfl
theorem po_2_1 (l:List Int):(pnum 2 (pO 2) l).getD 1 0=w32 (l.getD 1 0):=by
  rw [pnum_at 2 (pO 2) l 1 (by decide),show kdf ((pO 2).getD 1 ([],0)).1 (pI 2 ++ pO 2)=11 by decide];rfl
theorem pi_3_0 (l:List Int):(pnum 3 (pI 3) l).getD 0 0=b01 (tr (l.getD 0 0)):=by
  rw [pnum_at 3 (pI 3) l 0 (by decide),show kdf ((pI 3).getD 0 ([],0)).1 (pI 3 ++ pO 3)=1 by decide];rfl
theorem pi_3_1 (l:List Int):(pnum 3 (pI 3) l).getD 1 0=b01 (tr (l.getD 1 0)):=by
  rw [pnum_at 3 (pI 3) l 1 (by decide),show kdf ((pI 3).getD 1 ([],0)).1 (pI 3 ++ pO 3)=1 by decide];rfl
theorem pi_3_2 (l:List Int):(pnum 3 (pI 3) l).getD 2 0=w16 (l.getD 2 0):=by
  rw [pnum_at 3 (pI 3) l 2 (by decide),show kdf ((pI 3).getD 2 ([],0)).1 (pI 3 ++ pO 3)=3 by decide];rfl
theorem po_3_1 (l:List Int):(pnum 3 (pO 3) l).getD 1 0=w16 (l.getD 1 0):=by
  rw [pnum_at 3 (pO 3) l 1 (by decide),show kdf ((pO 3).getD 1 ([],0)).1 (pI 3 ++ pO 3)=3 by decide];rfl
theorem pi_4_0 (l:List Int):(pnum 4 (pI 4) l).getD 0 0=b01 (tr (l.getD 0 0)):=by
  rw [pnum_at 4 (pI 4) l 0 (by decide),show kdf ((pI 4).getD 0 ([],0)).1 (pI 4 ++ pO 4)=1 by decide];rfl
theorem pi_4_1 (l:List Int):(pnum 4 (pI 4) l).getD 1 0=b01 (tr (l.getD 1 0)):=by
  rw [pnum_at 4 (pI 4) l 1 (by decide),show kdf ((pI 4).getD 1 ([],0)).1 (pI 4 ++ pO 4)=1 by decide];rfl
theorem pi_4_2 (l:List Int):(pnum 4 (pI 4) l).getD 2 0=w16 (l.getD 2 0):=by
  rw [pnum_at 4 (pI 4) l 2 (by decide),show kdf ((pI 4).getD 2 ([],0)).1 (pI 4 ++ pO 4)=3 by decide];rfl
theorem po_4_1 (l:List Int):(pnum 4 (pO 4) l).getD 1 0=w16 (l.getD 1 0):=by
  rw [pnum_at 4 (pO 4) l 1 (by decide),show kdf ((pO 4).getD 1 ([],0)).1 (pI 4 ++ pO 4)=3 by decide];rfl
theorem pi_5_0 (l:List Int):(pnum 5 (pI 5) l).getD 0 0=b01 (tr (l.getD 0 0)):=by
  rw [pnum_at 5 (pI 5) l 0 (by decide),show kdf ((pI 5).getD 0 ([],0)).1 (pI 5 ++ pO 5)=1 by decide];rfl
theorem pi_5_1 (l:List Int):(pnum 5 (pI 5) l).getD 1 0=b01 (tr (l.getD 1 0)):=by
  rw [pnum_at 5 (pI 5) l 1 (by decide),show kdf ((pI 5).getD 1 ([],0)).1 (pI 5 ++ pO 5)=1 by decide];rfl
theorem pi_5_2 (l:List Int):(pnum 5 (pI 5) l).getD 2 0=b01 (tr (l.getD 2 0)):=by
  rw [pnum_at 5 (pI 5) l 2 (by decide),show kdf ((pI 5).getD 2 ([],0)).1 (pI 5 ++ pO 5)=1 by decide];rfl
theorem pi_5_3 (l:List Int):(pnum 5 (pI 5) l).getD 3 0=b01 (tr (l.getD 3 0)):=by
  rw [pnum_at 5 (pI 5) l 3 (by decide),show kdf ((pI 5).getD 3 ([],0)).1 (pI 5 ++ pO 5)=1 by decide];rfl
theorem pi_5_4 (l:List Int):(pnum 5 (pI 5) l).getD 4 0=w16 (l.getD 4 0):=by
  rw [pnum_at 5 (pI 5) l 4 (by decide),show kdf ((pI 5).getD 4 ([],0)).1 (pI 5 ++ pO 5)=3 by decide];rfl
theorem po_5_2 (l:List Int):(pnum 5 (pO 5) l).getD 2 0=w16 (l.getD 2 0):=by
  rw [pnum_at 5 (pO 5) l 2 (by decide),show kdf ((pO 5).getD 2 ([],0)).1 (pI 5 ++ pO 5)=3 by decide];rfl
theorem pi_6_0 (l:List Int):(pnum 6 (pI 6) l).getD 0 0=b01 (tr (l.getD 0 0)):=by
  rw [pnum_at 6 (pI 6) l 0 (by decide),show kdf ((pI 6).getD 0 ([],0)).1 (pI 6 ++ pO 6)=1 by decide];rfl
theorem pi_7_0 (l:List Int):(pnum 7 (pI 7) l).getD 0 0=b01 (tr (l.getD 0 0)):=by
  rw [pnum_at 7 (pI 7) l 0 (by decide),show kdf ((pI 7).getD 0 ([],0)).1 (pI 7 ++ pO 7)=1 by decide];rfl
theorem pi_8_0 (l:List Int):(pnum 8 (pI 8) l).getD 0 0=b01 (tr (l.getD 0 0)):=by
  rw [pnum_at 8 (pI 8) l 0 (by decide),show kdf ((pI 8).getD 0 ([],0)).1 (pI 8 ++ pO 8)=1 by decide];rfl
theorem pi_8_1 (l:List Int):(pnum 8 (pI 8) l).getD 1 0=b01 (tr (l.getD 1 0)):=by
  rw [pnum_at 8 (pI 8) l 1 (by decide),show kdf ((pI 8).getD 1 ([],0)).1 (pI 8 ++ pO 8)=1 by decide];rfl
theorem po_8_0 (l:List Int):(pnum 8 (pO 8) l).getD 0 0=b01 (tr (l.getD 0 0)):=by
  rw [pnum_at 8 (pO 8) l 0 (by decide),show kdf ((pO 8).getD 0 ([],0)).1 (pI 8 ++ pO 8)=1 by decide];rfl
theorem pi_9_0 (l:List Int):(pnum 9 (pI 9) l).getD 0 0=b01 (tr (l.getD 0 0)):=by
  rw [pnum_at 9 (pI 9) l 0 (by decide),show kdf ((pI 9).getD 0 ([],0)).1 (pI 9 ++ pO 9)=1 by decide];rfl
theorem pi_9_1 (l:List Int):(pnum 9 (pI 9) l).getD 1 0=b01 (tr (l.getD 1 0)):=by
  rw [pnum_at 9 (pI 9) l 1 (by decide),show kdf ((pI 9).getD 1 ([],0)).1 (pI 9 ++ pO 9)=1 by decide];rfl
theorem po_9_0 (l:List Int):(pnum 9 (pO 9) l).getD 0 0=b01 (tr (l.getD 0 0)):=by
  rw [pnum_at 9 (pO 9) l 0 (by decide),show kdf ((pO 9).getD 0 ([],0)).1 (pI 9 ++ pO 9)=1 by decide];rfl
theorem ms_0:Ms 0 191:=by
  intro w g a b l q p0 p1 p2 t h
  cases ha:tr (l.getD 0 0) with
  | false=>exact ton_off (pi_0_0 l) (pi_0_1 l) (po_0_1 q) h (pnum_len ..) (pnum_len ..) (bd_w ..) (by rw [tr_b01];exact ha) (by simp only [stp];rw [ha];generalize l.getD 1 0=y at *;generalize q.getD 1 0=z at *;clear h ha;simp [ton,b01, *])
  | true =>
    cases hk:tr (w32 p0) with
    | false=>exact ton_edge (pi_0_0 l) (pi_0_1 l) (po_0_1 q) h (pnum_len ..) (pnum_len ..) (bd_w ..) (by rw [tr_b01];exact ha) hk (by simp only [stp];rw [ha];generalize l.getD 1 0=y at *;generalize q.getD 1 0=z at *;clear h ha;simp [ton,b01, *])
    | true =>
      by_cases h2:w32 p2=1
      · exact ton_over (pi_0_0 l) (pi_0_1 l) (po_0_1 q) h (pnum_len ..) (pnum_len ..) (bd_w ..) (by rw [tr_b01];exact ha) hk (by rw [h2];rfl) (by simp only [stp];rw [ha];generalize l.getD 1 0=y at *;generalize q.getD 1 0=z at *;clear h ha;simp [ton,b01, *])
      · exact ton_wait (pi_0_0 l) (pi_0_1 l) (po_0_1 q) h (pnum_len ..) (pnum_len ..) (bd_w ..) (by rw [tr_b01];exact ha) hk (by rw [beq_eq_false_iff_ne];exact h2) (by simp only [stp];rw [ha];generalize l.getD 1 0=y at *;generalize q.getD 1 0=z at *;clear h ha;simp [ton,b01, *])
theorem ms_1:Ms 1 196:=by
  intro w g a b l q p0 p1 p2 t h
  cases ha:tr (l.getD 0 0) with
  | true=>exact tof_on (pi_1_0 l) (pi_1_1 l) (po_1_1 q) h (pnum_len ..) (pnum_len ..) (bd_w ..) (by rw [tr_b01];exact ha) (by simp only [stp];rw [ha];generalize l.getD 1 0=y at *;generalize q.getD 1 0=z at *;clear h ha;simp [tof,b01, *])
  | false =>
    cases hk:tr (w32 p0) with
    | true=>exact tof_fall (pi_1_0 l) (pi_1_1 l) (po_1_1 q) h (pnum_len ..) (pnum_len ..) (bd_w ..) (by rw [tr_b01];exact ha) hk (by simp only [stp];rw [ha];generalize l.getD 1 0=y at *;generalize q.getD 1 0=z at *;clear h ha;simp [tof,b01, *])
    | false =>
      by_cases h2:w32 p2=0
      · exact tof_idle (pi_1_0 l) (pi_1_1 l) (po_1_1 q) h (pnum_len ..) (pnum_len ..) (bd_w ..) (by rw [tr_b01];exact ha) hk (by rw [h2];rfl) (by simp only [stp];rw [ha];generalize l.getD 1 0=y at *;generalize q.getD 1 0=z at *;clear h ha;simp [tof,b01, *])
      · exact tof_run (pi_1_0 l) (pi_1_1 l) (po_1_1 q) h (pnum_len ..) (pnum_len ..) (bd_w ..) (by rw [tr_b01];exact ha) hk (by rw [bne_iff_ne];exact h2) (by simp only [stp];rw [ha];generalize l.getD 1 0=y at *;generalize q.getD 1 0=z at *;clear h ha;simp [tof,b01, *])
theorem ms_2:Ms 2 198:=by
  intro w g a b l q p0 p1 p2 t h
  by_cases h2:w32 p2=1
  · have h3:(w32 p2 != 1)=false:=by rw [h2];rfl
    have h4:(w32 p2 == 1)=true:=by rw [h2];rfl
    by_cases hl:el (max (w32 (l.getD 1 0)) 0) (w32 t) (w32 p1) < max (w32 (l.getD 1 0)) 0
    · cases ha:tr (l.getD 0 0) with
      | true=>exact tp_run (pi_2_0 l) (pi_2_1 l) (po_2_1 q) h (pnum_len ..) (pnum_len ..) (bd_w ..) h3 h4 hl (by simp only [stp];rw [ha];generalize l.getD 1 0=y at *;generalize q.getD 1 0=z at *;clear h ha;simp [tp,b01, *])
      | false=>exact tp_run (pi_2_0 l) (pi_2_1 l) (po_2_1 q) h (pnum_len ..) (pnum_len ..) (bd_w ..) h3 h4 hl (by simp only [stp];rw [ha];generalize l.getD 1 0=y at *;generalize q.getD 1 0=z at *;clear h ha;simp [tp,b01, *])
    · cases ha:tr (l.getD 0 0) with
      | true=>exact tp_end_on (pi_2_0 l) (pi_2_1 l) (po_2_1 q) h (pnum_len ..) (pnum_len ..) (bd_w ..) (by rw [tr_b01];exact ha) h3 h4 (by omega) (by simp only [stp];rw [ha];generalize l.getD 1 0=y at *;generalize q.getD 1 0=z at *;clear h ha;simp [tp,b01, *])
      | false=>exact tp_end_off (pi_2_0 l) (pi_2_1 l) (po_2_1 q) h (pnum_len ..) (pnum_len ..) (bd_w ..) (by rw [tr_b01];exact ha) h3 h4 (by omega) (by simp only [stp];rw [ha];generalize l.getD 1 0=y at *;generalize q.getD 1 0=z at *;clear h ha;simp [tp,b01, *])
  · have h3:(w32 p2 != 1)=true:=by rw [bne_iff_ne];exact h2
    have h4:(w32 p2 == 1)=false:=by rw [beq_eq_false_iff_ne];exact h2
    cases ha:tr (l.getD 0 0) with
    | false=>exact tp_rest_off (pi_2_0 l) (pi_2_1 l) (po_2_1 q) h (pnum_len ..) (pnum_len ..) (bd_w ..) (by rw [tr_b01];exact ha) h3 h4 (by simp only [stp];rw [ha];generalize l.getD 1 0=y at *;generalize q.getD 1 0=z at *;clear h ha;simp [tp,b01, *])
    | true =>
      cases hk:tr (w32 p0) with
      | true=>exact tp_rest_on (pi_2_0 l) (pi_2_1 l) (po_2_1 q) h (pnum_len ..) (pnum_len ..) (bd_w ..) (by rw [tr_b01];exact ha) hk h3 h4 (by simp only [stp];rw [ha];generalize l.getD 1 0=y at *;generalize q.getD 1 0=z at *;clear h ha;simp [tp,b01, *])
      | false =>
        by_cases hl:el (max (w32 (l.getD 1 0)) 0) (w32 t) (w32 t) < max (w32 (l.getD 1 0)) 0
        · exact tp_start_b (pi_2_0 l) (pi_2_1 l) (po_2_1 q) h (pnum_len ..) (pnum_len ..) (bd_w ..) (by rw [tr_b01];exact ha) hk h3 hl (by simp only [stp];rw [ha];generalize l.getD 1 0=y at *;generalize q.getD 1 0=z at *;clear h ha;simp [tp,b01, *])
        · exact tp_start_e (pi_2_0 l) (pi_2_1 l) (po_2_1 q) h (pnum_len ..) (pnum_len ..) (bd_w ..) (by rw [tr_b01];exact ha) hk h3 (by omega) (by simp only [stp];rw [ha];generalize l.getD 1 0=y at *;generalize q.getD 1 0=z at *;clear h ha;simp [tp,b01, *])
theorem ms_3:Ms 3 186:=by
  intro w g a b l q p0 p1 p2 t h
  have X:=ctu_c h (pnum_len ..) (pnum_len ..) (by show _≤(pnum 3 (pO 3) q).getD 1 0∧_;rw [po_3_1];exact w16_ok _) _ rfl
  simp only [pi_3_0,pi_3_1,pi_3_2,po_3_1,one,tr_b01] at X
  exact X
theorem ms_4:Ms 4 188:=by
  intro w g a b l q p0 p1 p2 t h
  have X:=ctd_c h (pnum_len ..) (pnum_len ..) (by show _≤(pnum 4 (pO 4) q).getD 1 0∧_;rw [po_4_1];exact w16_ok _) _ rfl
  simp only [pi_4_0,pi_4_1,pi_4_2,po_4_1,one,tr_b01] at X
  exact X
theorem ms_5:Ms 5 190:=by
  intro w g a b l q p0 p1 p2 t h
  have X:=ctud_c h (pnum_len ..) (pnum_len ..) (by show _≤(pnum 5 (pO 5) q).getD 2 0∧_;rw [po_5_2];exact w16_ok _) _ rfl
  simp only [pi_5_0,pi_5_1,pi_5_2,pi_5_3,pi_5_4,po_5_2,one,tr_b01] at X
  exact X
theorem ms_6:Ms 6 177:=by
  intro w g a b l q p0 p1 p2 t h
  have X:=rising_c h (pnum_len ..) (pnum_len ..)
  simp only [pi_6_0,one,tr_b01] at X
  exact X
theorem ms_7:Ms 7 182:=by
  intro w g a b l q p0 p1 p2 t h
  have X:=falling_c h (pnum_len ..) (pnum_len ..)
  simp only [pi_7_0,one,tr_b01] at X
  have e:(tr (w32 p0) && !tr (l.getD 0 0))=(!tr (l.getD 0 0) && tr (w32 p0)):=by cases tr (w32 p0) <;> cases tr (l.getD 0 0) <;> rfl
  rw [e] at X
  exact X
end Go.Proofs.YthjclogkcmomkaaGreatDoor
