/- The walks: Tick. -/
import Derived.Test.YtgmbboimndepnaaL4
namespace Go.Proofs.Ytgmbboimndepnaa
open Go.RowKit
open Pdu
set_option maxHeartbeats 800000 in
theorem tick_idle (g : Nat) (l : LS) (w : World) (s : Ln w g l) (h0 : l.h = 0) : Calls Try.prog 12 #[.pointer (some ⟨g, 0, none⟩)] w fun e w' => e = .returned (.tuple #[]) ∧ w' = w := by
  have hc := s.cHeld
  rw [h0] at hc
  clear s h0
  go_enter Try.func12, Try.ntmps12
  go_wp2
  refine bodyPost_ret (results_none Try.results12 _ _ _) rfl ?_
  exact ⟨rfl, rfl⟩
set_option maxRecDepth 100000 in
set_option maxHeartbeats 1600000 in
theorem tick_wait (g : Nat) (l : LS) (w : World) (s : Ln w g l) (h0 : 0 < l.h) (ht : l.t + 1 < l.s) (hs : l.s ≤ 9223372036854775807) : Calls Try.prog 12 #[.pointer (some ⟨g, 0, none⟩)] w fun e w' => e = .returned (.tuple #[]) ∧ Turn g w w' ∧ Ln w' g { l with t := l.t + 1 } := by
  have c0 := s.cHeld
  have c1 := s.cTicks
  have c2 := s.cSil
  have f1 := s.free 2
  have S := hid_as (s.setTicks (l.t + 1))
  obtain ⟨h, eh⟩ : ∃ h, h = l.h := ⟨_, rfl⟩
  rw [← eh] at c0 h0
  obtain ⟨t, et⟩ : ∃ t, t = l.t := ⟨_, rfl⟩
  rw [← et] at c1 ht S ⊢
  obtain ⟨si, es⟩ : ∃ si, si = l.s := ⟨_, rfl⟩
  rw [← es] at c2 ht hs
  clear s et es eh
  have d0 : ((h : Int) == 0) = false := by rw [beq_eq_false_iff_ne]; omega
  have d1 : (t : Int) + 1 < (si : Int) := by omega
  have d2 : decide ((t : Int) + 1 < (si : Int)) = true := decide_eq_true d1
  go_enter Try.func12, Try.ntmps12
  go_upto_region 2 with fail
  go_region
  go_wp2
  refine bodyPost_ret (results_none Try.results12 _ _ _) rfl ?_
  have e : (t : Int) + 1 = ((t + 1 : Nat) : Int) := by omega
  rw [e]
  exact ⟨rfl, ((Turn.refl g w).set _ _).drew, S.out.drew⟩
/-- How the silence's last Tick ends. -/
def TickEnd (g : Nat) (l : LS) (bs : List Nat) (w : World) (e : Ending) (w' : World) : Prop :=
  e = .returned (.tuple #[]) ∧ Turn g w w' ∧ ((¬ Good l bs ∧ Ln w' g { l with t := l.t + 1, h := 0 }) ∨ (Good l bs ∧ ∃ po pc, Ln w' g (LS.push { l with t := l.t + 1, h := 0 } ((l.f + l.n) % 8) (rd bs).unit (.slice po (rd bs).pdu.length pc)) ∧ w'.ownsRow w.heap.size 5 1 (.slice po (rd bs).pdu.length pc) (rd bs).pdu.length (u8s (rd bs).pdu)))
theorem tick_fin {g : Nat} {l : LS} {bs : List Nat} {w w1 w5 : World} (hg : g < w.heap.size) (hs : w.heap.size ≤ w1.heap.size) (t1 : Turn g w w1) (h : TakeEnd g { l with t := l.t + 1 } bs w1 (.returned (.tuple #[])) w5) : TickEnd g l bs w (.returned (.tuple #[])) (w5.setCell ⟨g, 260, none⟩ (.int .i64 0)) := by
  obtain ⟨_, t5, h5⟩ := h
  have tt : Turn g w5 (w5.setCell ⟨g, 260, none⟩ (.int .i64 0)) := (Turn.refl g w5).set _ _
  refine ⟨rfl, t1.trans (t5.trans tt), ?_⟩
  rcases h5 with ⟨h1, h2⟩ | ⟨h1, po, pc, h2, h3⟩
  · exact Or.inl ⟨h1, h2.setHeld 0 (by decide)⟩
  · exact Or.inr ⟨h1, po, pc, h2.setHeld 0 (by decide), own_base (own_turn h3 tt (by omega)) hs⟩
theorem TakeEnd.held {g : Nat} {l : LS} {bs : List Nat} {w w' : World} {e : Ending} (h : TakeEnd g l bs w e w') : w'.cell? ⟨g, 260, none⟩ = some (.int .i64 (l.h : Int)) ∧ w'.frozen? ⟨g, 260, none⟩ = false := by
  rcases h.2.2 with ⟨_, h2⟩ | ⟨_, po, pc, h2, _⟩
  · exact ⟨h2.cHeld, h2.free _⟩
  · exact ⟨h2.cHeld, h2.free _⟩
set_option maxRecDepth 100000 in
set_option maxHeartbeats 1600000 in
theorem tick_end (g : Nat) (l : LS) (w : World) (s : Ln w g l) (h0 : 0 < l.h) (ht : ¬ (l.t + 1 < l.s)) (hs : l.t + 1 ≤ 9223372036854775807) : Calls Try.prog 12 #[.pointer (some ⟨g, 0, none⟩)] w (TickEnd g l (l.room.take l.h) w) := by
  have c0 := s.cHeld
  have c1 := s.cTicks
  have c2 := s.cSil
  have f1 := s.free 2
  have hgl := s.lt
  have hh := s.held
  have S := hid_as (s.setTicks (l.t + 1))
  obtain ⟨h, eh⟩ : ∃ h, h = l.h := ⟨_, rfl⟩
  obtain ⟨t, et⟩ : ∃ t, t = l.t := ⟨_, rfl⟩
  have TE := hid_as (fun (W : World) (k : Ln W g { l with t := l.t + 1 }) => take_c k k.sl (k.byt.take _))
  have T1 : Hid (Turn g w (w.setCell ⟨g, 2, none⟩ (.int .i64 ((l.t + 1 : Nat) : Int)))) := (Turn.refl g w).set _ _
  have c0' : (w.setCell ⟨g, 2, none⟩ (.int .i64 ((l.t + 1 : Nat) : Int))).cell? ⟨g, 260, none⟩ = some (.int .i64 (l.h : Int)) := S.out.cHeld
  have e : ((l.t : Int)) + 1 = ((l.t + 1 : Nat) : Int) := by omega
  have FIN := hid_as (fun (W : World) (e : Ending) (w5 : World) (h1 : w.heap.size ≤ W.heap.size) (h2 : Turn g w W) (h3 : TakeEnd g { l with t := l.t + 1 } (l.room.take l.h) W (.returned (.tuple #[])) w5) => tick_fin hgl h1 h2 h3)
  have TE : Hid (∀ W : World, Ln W g { l with t := l.t + 1 } → Calls Try.prog 20 #[.pointer (some ⟨g, 0, none⟩), .slice (some ⟨g, 3, none⟩) l.h 257] W (TakeEnd g { l with t := l.t + 1 } (l.room.take l.h) W)) := TE.out
  rw [← eh] at c0 h0 hh c0' TE S FIN
  rw [← et] at c1 ht e c0' hs
  obtain ⟨si, es⟩ : ∃ si, si = l.s := ⟨_, rfl⟩
  rw [← es] at c2 ht
  clear es
  have EH := hid_as eh
  have ET := hid_as et
  clear s eh et
  have d0 : ((h : Int) == 0) = false := by rw [beq_eq_false_iff_ne]; omega
  have d1 : ¬ ((t : Int) + 1 < (si : Int)) := by omega
  have d2 : decide ((t : Int) + 1 < (si : Int)) = false := decide_eq_false d1
  have l1 : (h : Int) ≤ 257 := by omega
  have EE := hid_as e
  clear e
  go_enter Try.func12, Try.ntmps12
  go_upto_region 2 with fail
  go_region
  go_upto_region 3 with fail
  rw [EE.out]
  rw [← ET.out] at S T1 TE FIN
  generalize w.setCell ⟨g, 2, none⟩ (.int .i64 ((t + 1 : Nat) : Int)) = X at S T1 c0' ⊢
  have SX := hid_as S.out.drew.drew
  go_region_with (go_at_call 20; refine (TE.out _ SX.out).mono ?_; rintro e w5 h5; obtain rfl : e = .returned (.tuple #[]) := h5.1)
  have H5 := hid_as h5
  have c5 := h5.held.1
  have f5 := h5.held.2
  have FF := hid_as (FIN.out X.drew.drew (.returned (.tuple #[])) w5 T1.out.drew.drew.size T1.out.drew.drew h5)
  clear h5
  go_wp2
  go_end0
  have q := FF.out
  rw [EH.out] at q
  exact q
end Go.Proofs.Ytgmbboimndepnaa
