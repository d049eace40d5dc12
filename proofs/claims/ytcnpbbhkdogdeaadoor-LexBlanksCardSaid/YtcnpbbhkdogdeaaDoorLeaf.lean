/-
  The small functions of package lex: contracts. byteAt, isBlank, isDigit, isSmall, isGreat, isInWord, singleKind.
-/
import Derived.Test.YtcnpbbhkdogdeaaDoorRows
import Derived.Test.YtcnpbbhkdogdeaaDoorPure
import Derived.WalkKit
import Derived.WalkSpells
import Derived.Lib.Hide
namespace Go.Proofs.YtcnpbbhkdogdeaaDoor
open Go Go.RowKit

theorem ret_bool {a b : Bool} (h : a = b) : Ending.returned (.bool a) = .returned (.bool b) := by rw [h]
theorem ret_int {k : IntKind} {a b : Int} (h : a = b) : Ending.returned (.int k a) = .returned (.int k b) := by rw [h]

set_option maxHeartbeats 400000 in
theorem isBlank_any (c : UInt8) (w : World) :
    Calls Tryd.prog 20 #[.int .u8 c.toNat] w fun e w' => e = .returned (.bool (Lx.blankB c)) ∧ w = w' := by
  go_enter Tryd.func20, Tryd.ntmps20
  go_wp2
  all_goals (go_ret; exact ⟨ret_bool (by rw [Bool.eq_iff_iff]; simp [Lx.blankB]; omega), rfl⟩)

set_option maxHeartbeats 400000 in
theorem isDigit_any (c : UInt8) (w : World) :
    Calls Tryd.prog 22 #[.int .u8 c.toNat] w fun e w' => e = .returned (.bool (Lx.digitB c)) ∧ w = w' := by
  go_enter Tryd.func22, Tryd.ntmps22
  go_wp2
  all_goals (go_ret; exact ⟨ret_bool (by rw [Bool.eq_iff_iff]; simp [Lx.digitB]; omega), rfl⟩)

set_option maxHeartbeats 400000 in
theorem isSmall_any (c : UInt8) (w : World) :
    Calls Tryd.prog 23 #[.int .u8 c.toNat] w fun e w' => e = .returned (.bool (Lx.smallB c)) ∧ w = w' := by
  go_enter Tryd.func23, Tryd.ntmps23
  go_wp2
  all_goals (go_ret; exact ⟨ret_bool (by rw [Bool.eq_iff_iff]; simp [Lx.smallB]; omega), rfl⟩)

set_option maxHeartbeats 400000 in
theorem isGreat_any (c : UInt8) (w : World) :
    Calls Tryd.prog 24 #[.int .u8 c.toNat] w fun e w' => e = .returned (.bool (Lx.greatB c)) ∧ w = w' := by
  go_enter Tryd.func24, Tryd.ntmps24
  go_wp2
  all_goals (go_ret; exact ⟨ret_bool (by rw [Bool.eq_iff_iff]; simp [Lx.greatB]; omega), rfl⟩)

set_option maxHeartbeats 400000 in
theorem isInWord_any (c : UInt8) (w : World) :
    Calls Tryd.prog 25 #[.int .u8 c.toNat] w fun e w' => e = .returned (.bool (Lx.wordB c)) ∧ w = w' := by
  have e1 : Lx.wordB c = (Lx.smallB c || Lx.greatB c || Lx.digitB c || decide ((c.toNat : Int) = 39)) := by unfold Lx.wordB; congr 1; rw [Bool.eq_iff_iff]; simp; omega
  rw [e1]; clear e1
  go_enter Tryd.func25, Tryd.ntmps25
  cases hs : Lx.smallB c <;> cases hg : Lx.greatB c <;> cases hd : Lx.digitB c
  all_goals
    go_wp2_with (first | (go_at_call 23; refine (isSmall_any _ _).mono ?_; rintro e w' ⟨rfl, rfl⟩) | (go_at_call 24; refine (isGreat_any _ _).mono ?_; rintro e w' ⟨rfl, rfl⟩) | (go_at_call 22; refine (isDigit_any _ _).mono ?_; rintro e w' ⟨rfl, rfl⟩))
  all_goals (go_ret; exact ⟨ret_bool (by first | rfl | simp | (rw [Bool.eq_iff_iff]; simp)), rfl⟩)

set_option maxHeartbeats 400000 in
theorem byteAt_in (l : List UInt8) (i : Int) (b off cap : Nat) (w : World) (h0 : 0 ≤ i) (hi : i < l.length) (_hm : (l.length : Int) ≤ 9223372036854775807)
    (hc : ∀ j, j < l.length → w.cell? ⟨b, off + j, none⟩ = some (.int .u8 (Lx.at0 l j).toNat)) :
    Calls Tryd.prog 21 #[.slice (some ⟨b, off, none⟩) l.length cap, .int .i64 i] w fun e w' => e = .returned (.int .u8 (Lx.at0 l i.toNat).toNat) ∧ w = w' := by
  obtain ⟨k, rfl⟩ := Int.eq_ofNat_of_zero_le h0
  have hk := hc k (by omega)
  clear hc
  rw [Int.toNat_natCast]
  go_enter Tryd.func21, Tryd.ntmps21
  go_wp2
  go_ret
  exact ⟨rfl, rfl⟩

set_option maxHeartbeats 400000 in
theorem byteAt_out (l : List UInt8) (p : Option Addr) (n : Nat) (i : Int) (cap : Nat) (w : World) (hi : n ≤ i) (hn : n = l.length) (_hm : i ≤ 9223372036854775807) :
    Calls Tryd.prog 21 #[.slice p n cap, .int .i64 i] w fun e w' => e = .returned (.int .u8 (Lx.at0 l i.toNat).toNat) ∧ w = w' := by
  have e0 : (Lx.at0 l i.toNat) = 0 := by unfold Lx.at0; rw [List.getD_eq_getElem?_getD, List.getElem?_eq_none (by omega)]; rfl
  rw [e0]; clear e0 hn
  have h0 : (0 : Int) ≤ i := by omega
  go_enter Tryd.func21, Tryd.ntmps21
  go_wp2
  go_ret
  exact ⟨rfl, rfl⟩

/-- byteAt at whatever place. -/
theorem byteAt_any (l : List UInt8) (i : Int) (b off cap : Nat) (w : World) (h0 : 0 ≤ i) (hi : i ≤ 9223372036854775807) (hm : (l.length : Int) ≤ 9223372036854775807)
    (hc : ∀ j, j < l.length → w.cell? ⟨b, off + j, none⟩ = some (.int .u8 (Lx.at0 l j).toNat)) :
    Calls Tryd.prog 21 #[.slice (some ⟨b, off, none⟩) l.length cap, .int .i64 i] w fun e w' => e = .returned (.int .u8 (Lx.at0 l i.toNat).toNat) ∧ w = w' := by
  by_cases h : i < l.length
  · exact byteAt_in l i b off cap w h0 h hm hc
  · exact byteAt_out l _ l.length i cap w (by omega) rfl hi

set_option maxHeartbeats 1000000 in
theorem singleKind_any (c : UInt8) (w : World) :
    Calls Tryd.prog 26 #[.int .u8 c.toNat] w fun e w' => e = .returned (.int .i64 (Lx.single c)) ∧ w = w' := by
  go_enter Tryd.func26, Tryd.ntmps26
  go_wp2
  all_goals (go_ret; exact ⟨ret_int (by simp only [beq_iff_eq, beq_eq_false_iff_ne, ne_eq] at *; unfold Lx.single; repeat (first | rw [if_pos (by omega)] | rw [if_neg (by omega)])), rfl⟩)
end Go.Proofs.YtcnpbbhkdogdeaaDoor
