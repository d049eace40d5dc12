/-
  Several texts in one: Leaf, Scope, Skip.
-/
import Derived.Test.YtnhndamfbeiljaaGreatDoorRows
import Derived.Test.YtnhndamfbeiljaaGreatDoorGPure
import Derived.WalkKit
import Derived.WalkSpells
import Derived.Lib.Hide
import Derived.Scope
namespace Go.Proofs.YtnhndamfbeiljaaGreatDoor
open Go Go.RowKit
set_option linter.unusedVariables false
set_option linter.unusedSimpArgs false

theorem ret_bool {a b : Bool} (h : a = b) : Ending.returned (.bool a) = .returned (.bool b) := by rw [h]
theorem ret_int {k : IntKind} {a b : Int} (h : a = b) : Ending.returned (.int k a) = .returned (.int k b) := by rw [h]

set_option maxHeartbeats 400000 in
theorem isBlank_any (c : UInt8) (w : World) :
    Calls Tryz.prog 116 #[.int .u8 c.toNat] w fun e w' => e = .returned (.bool (Lx.blankB c)) ∧ w = w' := by
  go_enter Tryz.func116, Tryz.ntmps116
  go_wp2
  all_goals (go_ret; exact ⟨ret_bool (by rw [Bool.eq_iff_iff]; simp [Lx.blankB]; omega), rfl⟩)

set_option maxHeartbeats 400000 in
theorem isDigit_any (c : UInt8) (w : World) :
    Calls Tryz.prog 118 #[.int .u8 c.toNat] w fun e w' => e = .returned (.bool (Lx.digitB c)) ∧ w = w' := by
  go_enter Tryz.func118, Tryz.ntmps118
  go_wp2
  all_goals (go_ret; exact ⟨ret_bool (by rw [Bool.eq_iff_iff]; simp [Lx.digitB]; omega), rfl⟩)

set_option maxHeartbeats 400000 in
theorem isSmall_any (c : UInt8) (w : World) :
    Calls Tryz.prog 119 #[.int .u8 c.toNat] w fun e w' => e = .returned (.bool (Lx.smallB c)) ∧ w = w' := by
  go_enter Tryz.func119, Tryz.ntmps119
  go_wp2
  all_goals (go_ret; exact ⟨ret_bool (by rw [Bool.eq_iff_iff]; simp [Lx.smallB]; omega), rfl⟩)

set_option maxHeartbeats 400000 in
theorem isGreat_any (c : UInt8) (w : World) :
    Calls Tryz.prog 120 #[.int .u8 c.toNat] w fun e w' => e = .returned (.bool (Lx.greatB c)) ∧ w = w' := by
  go_enter Tryz.func120, Tryz.ntmps120
  go_wp2
  all_goals (go_ret; exact ⟨ret_bool (by rw [Bool.eq_iff_iff]; simp [Lx.greatB]; omega), rfl⟩)

set_option maxHeartbeats 400000 in
theorem isInWord_any (c : UInt8) (w : World) :
    Calls Tryz.prog 121 #[.int .u8 c.toNat] w fun e w' => e = .returned (.bool (Lx.wordB c)) ∧ w = w' := by
  have e1 : Lx.wordB c = (Lx.smallB c || Lx.greatB c || Lx.digitB c || decide ((c.toNat : Int) = 39)) := by unfold Lx.wordB; congr 1; rw [Bool.eq_iff_iff]; simp; omega
  rw [e1]; clear e1
  go_enter Tryz.func121, Tryz.ntmps121
  cases hs : Lx.smallB c <;> cases hg : Lx.greatB c <;> cases hd : Lx.digitB c
  all_goals
    go_wp2_with (first | (go_at_call 119; refine (isSmall_any _ _).mono ?_; rintro e w' ⟨rfl, rfl⟩) | (go_at_call 120; refine (isGreat_any _ _).mono ?_; rintro e w' ⟨rfl, rfl⟩) | (go_at_call 118; refine (isDigit_any _ _).mono ?_; rintro e w' ⟨rfl, rfl⟩))
  all_goals (go_ret; exact ⟨ret_bool (by first | rfl | simp | (rw [Bool.eq_iff_iff]; simp)), rfl⟩)

set_option maxHeartbeats 400000 in
theorem byteAt_in (l : List UInt8) (i : Int) (b off cap : Nat) (w : World) (h0 : 0 ≤ i) (hi : i < l.length) (_hm : (l.length : Int) ≤ 9223372036854775807)
    (hc : ∀ j, j < l.length → w.cell? ⟨b, off + j, none⟩ = some (.int .u8 (Lx.at0 l j).toNat)) :
    Calls Tryz.prog 117 #[.slice (some ⟨b, off, none⟩) l.length cap, .int .i64 i] w fun e w' => e = .returned (.int .u8 (Lx.at0 l i.toNat).toNat) ∧ w = w' := by
  obtain ⟨k, rfl⟩ := Int.eq_ofNat_of_zero_le h0
  have hk := hc k (by omega)
  clear hc
  rw [Int.toNat_natCast]
  go_enter Tryz.func117, Tryz.ntmps117
  go_wp2
  go_ret
  exact ⟨rfl, rfl⟩

set_option maxHeartbeats 400000 in
theorem byteAt_out (l : List UInt8) (p : Option Addr) (n : Nat) (i : Int) (cap : Nat) (w : World) (hi : n ≤ i) (hn : n = l.length) (_hm : i ≤ 9223372036854775807) :
    Calls Tryz.prog 117 #[.slice p n cap, .int .i64 i] w fun e w' => e = .returned (.int .u8 (Lx.at0 l i.toNat).toNat) ∧ w = w' := by
  have e0 : (Lx.at0 l i.toNat) = 0 := by unfold Lx.at0; rw [List.getD_eq_getElem?_getD, List.getElem?_eq_none (by omega)]; rfl
  rw [e0]; clear e0 hn
  have h0 : (0 : Int) ≤ i := by omega
  go_enter Tryz.func117, Tryz.ntmps117
  go_wp2
  go_ret
  exact ⟨rfl, rfl⟩

/-- byteAt at whatever place. -/
theorem byteAt_any (l : List UInt8) (i : Int) (b off cap : Nat) (w : World) (h0 : 0 ≤ i) (hi : i ≤ 9223372036854775807) (hm : (l.length : Int) ≤ 9223372036854775807)
    (hc : ∀ j, j < l.length → w.cell? ⟨b, off + j, none⟩ = some (.int .u8 (Lx.at0 l j).toNat)) :
    Calls Tryz.prog 117 #[.slice (some ⟨b, off, none⟩) l.length cap, .int .i64 i] w fun e w' => e = .returned (.int .u8 (Lx.at0 l i.toNat).toNat) ∧ w = w' := by
  by_cases h : i < l.length
  · exact byteAt_in l i b off cap w h0 h hm hc
  · exact byteAt_out l _ l.length i cap w (by omega) rfl hi

set_option maxHeartbeats 1000000 in
theorem singleKind_any (c : UInt8) (w : World) :
    Calls Tryz.prog 122 #[.int .u8 c.toNat] w fun e w' => e = .returned (.int .i64 (Lx.single c)) ∧ w = w' := by
  go_enter Tryz.func122, Tryz.ntmps122
  go_wp2
  all_goals (go_ret; exact ⟨ret_int (by simp only [beq_iff_eq, beq_eq_false_iff_ne, ne_eq] at *; unfold Lx.single; repeat (first | rw [if_pos (by omega)] | rw [if_neg (by omega)])), rfl⟩)
end Go.Proofs.YtnhndamfbeiljaaGreatDoor

namespace Go.Proofs.YtnhndamfbeiljaaGreatDoor
open Go

/-- As Q; by a goto to label l: J l. -/
def Exit.jumps (J : Nat → Act → World → Prop) (Q : Exit → Act → World → Prop) : Exit → Act → World → Prop
  | .goto l, a, w => J l a w
  | e, a, w => Q e a w

section
variable {P : Program} {a : Act} {w : World} {Q : Exit → Act → World → Prop}

theorem wp_scope_labels {c : Code} (J : Nat → Act → World → Prop) (μ : Nat → Act → World → Nat)
    (first : c.wp P (Exit.jumps J Q) a w)
    (pass : ∀ l a w, J l a w → ∃ rest, findLabel c l = some rest ∧ rest.wp P (Exit.jumps (fun l' a' w' => J l' a' w' ∧ μ l' a' w' < μ l a w) Q) a w) : (Code.scope c).wp P Q a w := by
  intro b k cs
  have hg : ∀ l rest, findLabel c l = some rest → gotoIn l (.inScope c :: k) = some (.code rest :: .inScope c :: k) := fun l rest h => by simp [gotoIn, h]
  have key : ∀ n l a w, μ l a w = n → J l a w → ∃ rest, findLabel c l = some rest ∧ ∃ e a' w', Q e a' w' ∧ Arrives P (lone (b.at a (.code rest :: .inScope c :: k)) cs w) b k cs e a' w' := by
    intro n
    induction n using Nat.strongRecOn with
    | _ n ih =>
      intro l a w hn hJ
      obtain ⟨rest, hr, hp⟩ := pass l a w hJ
      refine ⟨rest, hr, ?_⟩
      obtain ⟨e, a₁, w₁, hq, harr⟩ := hp b (.inScope c :: k) cs
      cases e with
      | normal => exact ⟨.normal, a₁, w₁, hq, Steps.trans harr (.one step_inScope)⟩
      | exit id => exact ⟨.exit id, a₁, w₁, hq, fun k' hk => harr k' (by simp [exitTo, hk])⟩
      | goto l' =>
        obtain ⟨hJ', hlt⟩ := hq
        obtain ⟨rest', hr', e₂, a₂, w₂, hq₂, harr₂⟩ := ih _ (by omega) l' a₁ w₁ rfl hJ'
        exact ⟨e₂, a₂, w₂, hq₂, .of_steps (harr _ (hg l' rest' hr')) harr₂⟩
      | ret => exact ⟨_, a₁, w₁, hq, harr⟩
      | panic ch => exact ⟨_, a₁, w₁, hq, harr⟩
      | outgrown => exact ⟨_, a₁, w₁, hq, harr⟩
  obtain ⟨e, a₁, w₁, hq, harr⟩ := first b (.inScope c :: k) cs
  cases e with
  | normal => exact ⟨.normal, a₁, w₁, hq, .head step_scope (Steps.trans harr (.one step_inScope))⟩
  | exit id => exact ⟨.exit id, a₁, w₁, hq, fun k' hk => .head step_scope (harr k' (by simp [exitTo, hk]))⟩
  | goto l' =>
    obtain ⟨rest', hr', e₂, a₂, w₂, hq₂, harr₂⟩ := key _ l' a₁ w₁ rfl hq
    exact ⟨e₂, a₂, w₂, hq₂, .of_steps (.head step_scope (harr _ (hg l' rest' hr'))) harr₂⟩
  | ret => exact ⟨_, a₁, w₁, hq, .of_steps (.one step_scope) harr⟩
  | panic ch => exact ⟨_, a₁, w₁, hq, .of_steps (.one step_scope) harr⟩
  | outgrown => exact ⟨_, a₁, w₁, hq, .of_steps (.one step_scope) harr⟩

theorem Exit.jumps_mono {J J' : Nat → Act → World → Prop} (h : ∀ l a w, J l a w → J' l a w) {e : Exit} {a : Act} {w : World} (hq : Exit.jumps J Q e a w) : Exit.jumps J' Q e a w := by
  cases e with
  | goto l => exact h l a w hq
  | _ => exact hq

theorem Exit.jumps_ret (J : Nat → Act → World → Prop) : Exit.jumps J Q .ret a w = Q .ret a w := rfl
theorem Exit.jumps_goto (J : Nat → Act → World → Prop) (l : Nat) : Exit.jumps J Q (.goto l) a w = J l a w := rfl

theorem wp_mono {c : Code} {Q Q' : Exit → Act → World → Prop} (h : ∀ e a w, Q e a w → Q' e a w) (hc : c.wp P Q a w) : c.wp P Q' a w := fun b k cs =>
  let ⟨e, a', w', hq, harr⟩ := hc b k cs
  ⟨e, a', w', h e a' w' hq, harr⟩

/-- As above, where the scope begins with a label: what stands behind it is walked once. -/
theorem wp_scope_first {r : Code} (l0 : Nat) (J : Nat → Act → World → Prop) (μ : Nat → Act → World → Nat) (hJ : J l0 a w)
    (pass0 : ∀ a w, J l0 a w → r.wp P (Exit.jumps (fun l' a' w' => J l' a' w' ∧ μ l' a' w' < μ l0 a w) Q) a w)
    (pass : ∀ l a w, l ≠ l0 → J l a w → ∃ rest, findLabel r l = some rest ∧ rest.wp P (Exit.jumps (fun l' a' w' => J l' a' w' ∧ μ l' a' w' < μ l a w) Q) a w) : (Code.scope (.seq (.label l0) r)).wp P Q a w := by
  refine wp_scope_labels J μ ?_ ?_
  · refine wp_seq (wp_label ?_)
    exact wp_mono (fun e a' w' hq => Exit.jumps_mono (fun _ _ _ h => h.1) hq) (pass0 a w hJ)
  · intro l a w hl
    by_cases h : l = l0
    · subst h
      exact ⟨_, by simp [findLabel], wp_seq (wp_skip (pass0 a w hl))⟩
    · obtain ⟨rest, hr, hp⟩ := pass l a w h hl
      exact ⟨rest, by simp [findLabel, hr, Ne.symm h], hp⟩

/-- As above, where code stands ahead of the label: behind it what the first walk comes to is known already. -/
theorem wp_scope_lead {c r : Code} (l0 : Nat) (hf : findLabel c l0 = some (.seq .skip r)) (J : Nat → Act → World → Prop) (μ : Nat → Act → World → Nat)
    (pass0 : ∀ a w, J l0 a w → r.wp P (Exit.jumps (fun l' a' w' => J l' a' w' ∧ μ l' a' w' < μ l0 a w) Q) a w)
    (pass : ∀ l a w, l ≠ l0 → J l a w → ∃ rest, findLabel c l = some rest ∧ rest.wp P (Exit.jumps (fun l' a' w' => J l' a' w' ∧ μ l' a' w' < μ l a w) Q) a w)
    (first : (∀ a w, J l0 a w → r.wp P (Exit.jumps J Q) a w) → c.wp P (Exit.jumps J Q) a w) : (Code.scope c).wp P Q a w := by
  refine wp_scope_labels J μ (first fun a w h => wp_mono (fun e a' w' hq => Exit.jumps_mono (fun _ _ _ h => h.1) hq) (pass0 a w h)) ?_
  intro l a w hl
  by_cases h : l = l0
  · subst h; exact ⟨_, hf, wp_seq (wp_skip (pass0 a w hl))⟩
  · exact pass l a w h hl
end
end Go.Proofs.YtnhndamfbeiljaaGreatDoor

namespace Go.Proofs.YtnhndamfbeiljaaGreatDoor
open Go Go.RowKit

def SkJ (l : List UInt8) (b off cap tgt : Nat) (w0 : World) (lab : Nat) (a : Act) (w : World) : Prop :=
  w = w0 ∧ ∃ (k : Nat) (u5 u6 u7 u8 u9 u10 u11 u12 u13 u14 u15 u16 u17 u18 u19 u20 u21 u22 u23 u24 u25 u26 u27 u28 : Value), a = { tmps := #[.slice (some ⟨b, off, none⟩) l.length cap, .int .i64 k, undef, undef, .int .i64 0, u5, u6, u7, u8, u9, u10, u11, u12, u13, u14, u15, u16, u17, u18, u19, u20, u21, u22, u23, u24, u25, u26, u27, u28], defers := [] } ∧
    k ≤ l.length ∧ ((lab = 0 ∧ k + Lx.skipC false (l.drop k) = tgt) ∨ (lab = 1 ∧ k + Lx.skipC true (l.drop k) = tgt))

set_option maxHeartbeats 400000 in
theorem skip_some (l : List UInt8) (i : Nat) (b off cap : Nat) (w : World) (hi : i ≤ l.length) (hm : (l.length : Int) ≤ 9223372036854775806)
    (hc : ∀ j, j < l.length → w.cell? ⟨b, off + j, none⟩ = some (.int .u8 (Lx.at0 l j).toNat)) :
    Calls Tryz.prog 82 #[.slice (some ⟨b, off, none⟩) l.length cap, .int .i64 i] w fun e w' => e = .returned (.int .i64 ((i + Lx.skipC false (l.drop i) : Nat) : Int)) ∧ w = w' := by
  have Hc := Lib.hid hc; clear hc
  go_enter Tryz.func82, Tryz.ntmps82
  go_wp2
  refine wp_scope_first 0 (SkJ l b off cap (i + Lx.skipC false (l.drop i)) w) (fun lab a _ => 2 * (l.length - (intOf (a.tmps.getD 1 undef)).toNat) + lab) ?_ ?_ ?_
  · exact ⟨rfl, i, _, _, _, _, _, _, _, _, _, _, _, _, _, _, _, _, _, _, _, _, _, _, _, _, rfl, hi, .inl ⟨rfl, rfl⟩⟩
  · rintro a w' ⟨rfl, k, u5, u6, u7, u8, u9, u10, u11, u12, u13, u14, u15, u16, u17, u18, u19, u20, u21, u22, u23, u24, u25, u26, u27, u28, rfl, hk, h⟩
    have ht : k + Lx.skipC false (l.drop k) = i + Lx.skipC false (l.drop i) := by omega
    clear h
    cases hb : Lx.blankB (Lx.at0 l k)
    · by_cases hs : (Lx.at0 l k).toNat = 59
      · obtain ⟨hkl, he⟩ := Lx.skip_semi l k hs
        have hck := Hc.out k hkl
        have ht' : (k + 1) + Lx.skipC true (l.drop (k + 1)) = i + Lx.skipC false (l.drop i) := by omega
        generalize i + Lx.skipC false (l.drop i) = T at *
        have Hb := Lib.hid hb; have Ht := Lib.hid ht'; clear hb ht he ht'
        have h1 : (((Lx.at0 l k).toNat : Int) != 59) = false := by simp [hs]
        have h2 : (((Lx.at0 l k).toNat : Int) != 10) = true := by simp [hs]
        have Hs := Lib.hid hs; clear hs
        go_wp2_with fail
        refine (byteAt_any l k b off cap _ (by omega) (by omega) (by omega) Hc.out).mono ?_; rintro e w1 ⟨rfl, rfl⟩; rw [Int.toNat_natCast]
        go_wp2_with fail
        refine (isBlank_any _ _).mono ?_; rintro e w1 ⟨rfl, rfl⟩; rw [Hb.out]
        go_wp2_with fail
        refine (byteAt_any l k b off cap _ (by omega) (by omega) (by omega) Hc.out).mono ?_; rintro e w1 ⟨rfl, rfl⟩; rw [Int.toNat_natCast]
        go_wp2_with fail
        go_step3
        go_wp2
        go_step3
        exact ⟨⟨rfl, k + 1, _, _, _, _, _, _, _, _, _, _, _, _, _, _, _, _, _, _, _, _, _, _, _, _, rfl, by omega, .inr ⟨rfl, Ht.out⟩⟩, by simp [intOf]; omega⟩
      · have he := Lx.skip_end l k hb hs
        have Ht := Lib.hid (show i + Lx.skipC false (l.drop i) = k by omega); clear ht he
        have h1 : (((Lx.at0 l k).toNat : Int) != 59) = true := by simp; omega
        have Hb := Lib.hid hb; clear hb hs
        rw [Ht.out]
        go_wp2_with fail
        refine (byteAt_any l k b off cap _ (by omega) (by omega) (by omega) Hc.out).mono ?_; rintro e w1 ⟨rfl, rfl⟩; rw [Int.toNat_natCast]
        go_wp2_with fail
        refine (isBlank_any _ _).mono ?_; rintro e w1 ⟨rfl, rfl⟩; rw [Hb.out]
        go_wp2_with fail
        refine (byteAt_any l k b off cap _ (by omega) (by omega) (by omega) Hc.out).mono ?_; rintro e w1 ⟨rfl, rfl⟩; rw [Int.toNat_natCast]
        go_wp2_with fail
        rw [Exit.jumps_ret]
        go_ret
        exact ⟨by rw [Ht.out]; rfl, rfl⟩
    · obtain ⟨hkl, he⟩ := Lx.skip_blank l k hb
      have ht' : (k + 1) + Lx.skipC false (l.drop (k + 1)) = i + Lx.skipC false (l.drop i) := by omega
      generalize i + Lx.skipC false (l.drop i) = T at *
      have Hb := Lib.hid hb; have Ht := Lib.hid ht'; clear hb ht he ht'
      go_wp2_with fail
      refine (byteAt_any l k b off cap _ (by omega) (by omega) (by omega) Hc.out).mono ?_; rintro e w1 ⟨rfl, rfl⟩; rw [Int.toNat_natCast]
      go_wp2_with fail
      refine (isBlank_any _ _).mono ?_; rintro e w1 ⟨rfl, rfl⟩; rw [Hb.out]
      go_wp2_with fail
      go_step3
      exact ⟨⟨rfl, k + 1, _, _, _, _, _, _, _, _, _, _, _, _, _, _, _, _, _, _, _, _, _, _, _, _, rfl, by omega, .inl ⟨rfl, Ht.out⟩⟩, by simp [intOf]; omega⟩
  · rintro lab a w' hlab ⟨rfl, k, u5, u6, u7, u8, u9, u10, u11, u12, u13, u14, u15, u16, u17, u18, u19, u20, u21, u22, u23, u24, u25, u26, u27, u28, rfl, hk, h⟩
    obtain ⟨rfl, ht⟩ : lab = 1 ∧ k + Lx.skipC true (l.drop k) = i + Lx.skipC false (l.drop i) := by omega
    refine ⟨_, rfl, ?_⟩
    clear h
    by_cases hkl : k < l.length
    · have hck := Hc.out k hkl
      by_cases hs : (Lx.at0 l k).toNat = 10
      · have he := Lx.skip_line l k (fun _ => hs)
        rw [he] at ht; clear he
        generalize i + Lx.skipC false (l.drop i) = T at *
        have h1 : (((Lx.at0 l k).toNat : Int) != 10) = false := by simp [hs]
        have Ht := Lib.hid ht; clear ht hs
        go_wp2
        go_step3
        exact ⟨⟨rfl, k, _, _, _, _, _, _, _, _, _, _, _, _, _, _, _, _, _, _, _, _, _, _, _, _, rfl, by omega, .inl ⟨rfl, Ht.out⟩⟩, by simp [intOf]⟩
      · have he := Lx.skip_note l k hkl hs
        have ht' : (k + 1) + Lx.skipC true (l.drop (k + 1)) = i + Lx.skipC false (l.drop i) := by omega
        clear ht he
        generalize i + Lx.skipC false (l.drop i) = T at *
        have h1 : (((Lx.at0 l k).toNat : Int) != 10) = true := by simp; omega
        have Ht := Lib.hid ht'; clear ht' hs
        go_wp2
        go_step3
        exact ⟨⟨rfl, k + 1, _, _, _, _, _, _, _, _, _, _, _, _, _, _, _, _, _, _, _, _, _, _, _, _, rfl, by omega, .inr ⟨rfl, Ht.out⟩⟩, by simp [intOf]; omega⟩
    · have he := Lx.skip_line l k (fun h => absurd h hkl)
      rw [he] at ht; clear he
      generalize i + Lx.skipC false (l.drop i) = T at *
      have Ht := Lib.hid ht; clear ht
      go_wp2
      go_step3
      exact ⟨⟨rfl, k, _, _, _, _, _, _, _, _, _, _, _, _, _, _, _, _, _, _, _, _, _, _, _, _, rfl, by omega, .inl ⟨rfl, Ht.out⟩⟩, by simp [intOf]⟩
set_option maxHeartbeats 400000 in
/-- An empty slice, nil or not. -/
theorem skip_none (p : Option Addr) (cap : Nat) (w : World) :
    Calls Tryz.prog 82 #[.slice p 0 cap, .int .i64 0] w fun e w' => e = .returned (.int .i64 0) ∧ w = w' := by
  go_enter Tryz.func82, Tryz.ntmps82
  go_wp2
  refine wp_scope_first 0 (fun lab a w' => lab = 0 ∧ w' = w ∧ a = { tmps := #[.slice p 0 cap, .int .i64 0, undef, undef, .int .i64 0, undef, undef, undef, undef, undef, undef, undef, undef, undef, undef, undef, undef, undef, undef, undef, undef, undef, undef, undef, undef, undef, undef, undef, undef], defers := [] }) (fun lab _ _ => lab) ⟨rfl, rfl, rfl⟩ ?_ ?_
  · rintro a w' ⟨_, rfl, rfl⟩
    go_wp2_with fail
    refine (byteAt_out [] p 0 0 cap _ (by omega) rfl (by omega)).mono ?_; rintro e w1 ⟨rfl, rfl⟩
    go_wp2_with fail
    refine (isBlank_any _ _).mono ?_; rintro e w1 ⟨rfl, rfl⟩; rw [show Lx.blankB (Lx.at0 [] 0) = false from by decide]
    go_wp2_with fail
    refine (byteAt_out [] p 0 0 cap _ (by omega) rfl (by omega)).mono ?_; rintro e w1 ⟨rfl, rfl⟩
    have h1 : (((Lx.at0 [] 0).toNat : Int) != 59) = true := by decide
    go_wp2_with fail
    rw [Exit.jumps_ret]
    go_ret
    exact ⟨rfl, rfl⟩
  · rintro lab a w' hlab ⟨h, _⟩
    exact absurd h hlab
end Go.Proofs.YtnhndamfbeiljaaGreatDoor
