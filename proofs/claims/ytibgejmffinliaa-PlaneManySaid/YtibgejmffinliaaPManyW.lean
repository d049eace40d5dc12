/-
  The law PlaneMany, walked.
-/
import Derived.Test.YtibgejmffinliaaPlW
import Derived.Deep.DeepCutAuto
namespace Go.Proofs.Ytibgejmffinliaa
open Go Go.RowKit
set_option linter.unusedVariables false
set_option linter.unusedSimpArgs false

namespace Pl
/-- A point so many times. -/
def times (p : Pt) (k : Nat) : Pt := (pm ((k : Int) * p.1), pm ((k : Int) * p.2))
theorem times_is (p : Pt) (k : Nat) : IsP (times p k) := ⟨pm_range _, pm_range _⟩
theorem times_zero (p : Pt) : times p 0 = ofP 0 0 := by simp [times, ofP]
theorem times_succ (p : Pt) (k : Nat) : addP (times p k) p = times p (k + 1) := by
  simp only [addP, times, Prod.mk.injEq]
  constructor
  · refine pm_eq ((C.add (pm_C _) (C.refl _)).trans (C_eq ?_)); push_cast; grind
  · refine pm_eq ((C.add (pm_C _) (C.refl _)).trans (C_eq ?_)); push_cast; grind
theorem times_mul (p : Pt) (k : Nat) : times p k = mulP p (ofP k 0) := by
  have z : pm 0 = 0 := by decide
  simp only [mulP, times, ofP, z, Int.mul_zero, Int.sub_zero, Int.zero_add, Prod.mk.injEq]
  constructor
  · refine pm_eq ((C_eq (Int.mul_comm _ _)).trans (C.mul (C.refl _) (pm_C _).symm))
  · refine pm_eq ((C_eq (Int.mul_comm _ _)).trans (C.mul (C.refl _) (pm_C _).symm))
theorem mirror (a b : Int) : (mulP (ofP a b) (ofP a (wrap64 (-b)))).2 = 0 := by
  have z : pm 0 = 0 := by decide
  have hw : C (wrap64 (-b)) (-b) := by unfold wrap64 C; exact ⟨-((-b + 9223372036854775808) / 18446744073709551616) * 1099511627776, by omega⟩
  have h : C (pm a * pm (wrap64 (-b)) + pm b * pm a) 0 :=
    (C.add (C.mul (pm_C _) ((pm_C _).trans hw)) (C.mul (pm_C _) (pm_C _))).trans (C_eq (by grind))
  show pm (pm a * pm (wrap64 (-b)) + pm b * pm a) = 0
  rw [pm_eq h, z]
end Pl

set_option maxHeartbeats 400000 in
theorem planeMany_walk (w : World) (re im n : Int) (h0 : 0 ≤ n) (h1 : n < 256) : Calls Try.prog 7 #[.int .i64 re, .int .i64 im, .int .u8 n] w fun e w' => e = .returned (.bool true) ∧ w' = w := by
  obtain ⟨N, rfl⟩ := Int.eq_ofNat_of_zero_le h0
  have ip : Pl.IsP (Pl.ofP re im) := Pl.ofP_is _ _
  have cp := of_any re im
  have hm := Pl.mirror re im
  have cq := of_any re (wrap64 (-im))
  have iq : Pl.IsP (Pl.ofP re (wrap64 (-im))) := Pl.ofP_is _ _
  obtain ⟨p, ep⟩ : ∃ x, x = Pl.ofP re im := ⟨_, rfl⟩
  obtain ⟨q, eq⟩ : ∃ x, x = Pl.ofP re (wrap64 (-im)) := ⟨_, rfl⟩
  rw [← ep] at cp ip hm
  rw [← eq] at cq iq hm
  have cr := mul_any ip iq
  have ir := Pl.mulP_is p q
  obtain ⟨r, er⟩ : ∃ x, x = Pl.mulP p q := ⟨_, rfl⟩
  rw [← er] at cr ir hm
  have cx := cvim_any ir
  rw [hm] at cx
  have cz := of_any 0 0
  rw [← Pl.times_zero p] at cz
  have hmul := Pl.times_mul p N
  have cn := of_any (N : Int) 0
  have cm := mul_any ip (Pl.ofP_is (N : Int) 0)
  obtain ⟨s, es⟩ : ∃ x, x = Pl.ofP (N : Int) 0 := ⟨_, rfl⟩
  rw [← es] at cn cm hmul
  rw [← hmul] at cm
  have ca : ∀ k w, Calls Try.prog 16 #[cv (Pl.times p k), cv p] w fun e w' => e = .returned (cv (Pl.times p (k + 1))) ∧ w' = w := by
    intro k w
    rw [← Pl.times_succ]
    exact add_any (Pl.times_is p k) ip w
  have qq := run_eql_cv (Pl.times_is p N) (Pl.times_is p N) rfl
  clear hm hmul es er eq ep
  have GE := guard_cv .eql
  have hN : N < 256 := by omega
  go_enter Try.func7, Try.ntmps7
  go_wp2_with (first | (with_reducible refine (lives_any _).mono ?_; intro e w' hh; obtain ⟨rfl, hh⟩ := hh; subst w') | (with_reducible refine (cp _).mono ?_; intro e w' hh; obtain ⟨rfl, hh⟩ := hh; subst w') | (with_reducible refine (cz _).mono ?_; intro e w' hh; obtain ⟨rfl, hh⟩ := hh; subst w'))
  go_loop [8, 17] (fun s i => ∃ k : Nat, i = .int .u8 k ∧ k ≤ N ∧ s = cv (Pl.times p k)) (fun _ i => N - (intOf i).toNat)
  case atStart => exact ⟨0, rfl, Nat.zero_le _, rfl⟩
  case round =>
    obtain ⟨k, rfl, hk, rfl⟩ := hrel
    by_cases hlt : k < N
    · have hlt' : (k : Int) < (N : Int) := by omega
      go_wp2_with (first | (with_reducible refine (ca _ _).mono ?_; intro e w' hh; obtain ⟨rfl, hh⟩ := hh; subst w'))
      all_goals go_simp
      all_goals (refine ⟨⟨k + 1, by simp, by omega, rfl⟩, ?_⟩)
      all_goals (simp [intOf]; omega)
    · have : k = N := by omega
      subst this
      go_wp2_with (first | (with_reducible refine (cq _).mono ?_; intro e w' hh; obtain ⟨rfl, hh⟩ := hh; subst w') | (with_reducible refine (cr _).mono ?_; intro e w' hh; obtain ⟨rfl, hh⟩ := hh; subst w') | (with_reducible refine (cn _).mono ?_; intro e w' hh; obtain ⟨rfl, hh⟩ := hh; subst w') | (with_reducible refine (cm _).mono ?_; intro e w' hh; obtain ⟨rfl, hh⟩ := hh; subst w') | (with_reducible refine (cx _).mono ?_; intro e w' hh; obtain ⟨rfl, hh⟩ := hh; subst w'))
      go_ret
      exact ⟨rfl, rfl⟩

end Go.Proofs.Ytibgejmffinliaa
