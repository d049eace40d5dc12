/-
  The law PlaneTurns, walked.
-/
import Derived.Test.YtibgejmffinliaaPlW
import Derived.Deep.DeepCutAuto
namespace Go.Proofs.Ytibgejmffinliaa
open Go Go.RowKit
set_option linter.unusedVariables false
set_option linter.unusedSimpArgs false

set_option maxHeartbeats 400000 in
theorem planeTurns_walk (w : World) (re im : Int) : Calls Try.prog 6 #[.int .i64 re, .int .i64 im] w fun e w' => e = .returned (.bool true) ∧ w' = w := by
  have Ip : Pl.IsP (Pl.ofP re im) := Pl.ofP_is _ _
  have c_p := of_any re im
  obtain ⟨p, Ep⟩ : ∃ x, x = Pl.ofP re im := ⟨_, rfl⟩
  rw [← Ep] at Ip c_p
  have Iu : Pl.IsP (Pl.ofP 0 1) := Pl.ofP_is _ _
  have c_u := of_any 0 1
  obtain ⟨u, Eu⟩ : ∃ x, x = Pl.ofP 0 1 := ⟨_, rfl⟩
  rw [← Eu] at Iu c_u
  have Ia : Pl.IsP (Pl.mulP p u) := Pl.mulP_is _ _
  have c_a := mul_any Ip Iu
  obtain ⟨a, Ea⟩ : ∃ x, x = Pl.mulP p u := ⟨_, rfl⟩
  rw [← Ea] at Ia c_a
  have Ih : Pl.IsP (Pl.mulP a u) := Pl.mulP_is _ _
  have c_h := mul_any Ia Iu
  obtain ⟨h, Eh⟩ : ∃ x, x = Pl.mulP a u := ⟨_, rfl⟩
  rw [← Eh] at Ih c_h
  have It : Pl.IsP (Pl.mulP h u) := Pl.mulP_is _ _
  have c_t := mul_any Ih Iu
  obtain ⟨t, Et⟩ : ∃ x, x = Pl.mulP h u := ⟨_, rfl⟩
  rw [← Et] at It c_t
  have Ik : Pl.IsP (Pl.mulP t u) := Pl.mulP_is _ _
  have c_k := mul_any It Iu
  obtain ⟨k, Ek⟩ : ∃ x, x = Pl.mulP t u := ⟨_, rfl⟩
  rw [← Ek] at Ik c_k
  have In : Pl.IsP (Pl.ofP (-1) 0) := Pl.ofP_is _ _
  have c_n := of_any (-1) 0
  obtain ⟨n, En⟩ : ∃ x, x = Pl.ofP (-1) 0 := ⟨_, rfl⟩
  rw [← En] at In c_n
  have Ig : Pl.IsP (Pl.mulP p n) := Pl.mulP_is _ _
  have c_g := mul_any Ip In
  obtain ⟨g, Eg⟩ : ∃ x, x = Pl.mulP p n := ⟨_, rfl⟩
  rw [← Eg] at Ig c_g
  have Is : Pl.IsP (Pl.addP p h) := Pl.addP_is _ _
  have c_s := add_any Ip Ih
  obtain ⟨s, Es⟩ : ∃ x, x = Pl.addP p h := ⟨_, rfl⟩
  rw [← Es] at Is c_s
  have Iz : Pl.IsP (Pl.ofP 0 0) := Pl.ofP_is _ _
  have c_z := of_any 0 0
  obtain ⟨z, Ez⟩ : ∃ x, x = Pl.ofP 0 0 := ⟨_, rfl⟩
  rw [← Ez] at Iz c_z
  have Ir : Pl.IsP (Pl.ofP (wrap64 (re + 16777216)) (wrap64 (im - 16777216))) := Pl.ofP_is _ _
  have c_r := of_any (wrap64 (re + 16777216)) (wrap64 (im - 16777216))
  obtain ⟨r, Er⟩ : ∃ x, x = Pl.ofP (wrap64 (re + 16777216)) (wrap64 (im - 16777216)) := ⟨_, rfl⟩
  rw [← Er] at Ir c_r
  have Q12 := run_eql_cv Ik Ip (show k = p from by subst Ek Et Eh Ea Eu; exact Pl.turn_four Ip)
  have Q13 := run_eql_cv Ih Ig (show h = g from by subst Eg Eh Ea Eu En; exact Pl.turn_two p)
  have Q14 := run_eql_cv Is Iz (show s = z from by subst Es Ez Eh Ea Eu; exact Pl.turn_nought p)
  have Q15 := run_eql_cv Ir Ip (show r = p from by subst Er Ep; unfold Pl.ofP; rw [pm_wrap, pm_wrap, Pl.pm_eq (x := re + 16777216) (y := re) ⟨1, by omega⟩, Pl.pm_eq (x := im - 16777216) (y := im) ⟨-1, by omega⟩])
  have GE := guard_cv .eql
  have GN := guard_cv .neq
  have hx : a.2 = p.1 := by subst Ea Eu; exact Pl.turn_im Ip
  have cx := cvim_any Ia
  rw [hx] at cx
  have cy := cvre_any Ip
  clear hx Ek Et Eh Ea Eu Eg En Es Ez Er Ep
  go_enter Try.func6, Try.ntmps6
  go_wp2_with (first | (with_reducible refine (lives_any _).mono ?_; intro e w' hh; obtain ⟨rfl, hh⟩ := hh; subst w') | (with_reducible refine (c_p _).mono ?_; intro e w' hh; obtain ⟨rfl, hh⟩ := hh; subst w') | (with_reducible refine (c_u _).mono ?_; intro e w' hh; obtain ⟨rfl, hh⟩ := hh; subst w') | (with_reducible refine (c_a _).mono ?_; intro e w' hh; obtain ⟨rfl, hh⟩ := hh; subst w') | (with_reducible refine (c_h _).mono ?_; intro e w' hh; obtain ⟨rfl, hh⟩ := hh; subst w') | (with_reducible refine (c_t _).mono ?_; intro e w' hh; obtain ⟨rfl, hh⟩ := hh; subst w') | (with_reducible refine (c_k _).mono ?_; intro e w' hh; obtain ⟨rfl, hh⟩ := hh; subst w') | (with_reducible refine (c_n _).mono ?_; intro e w' hh; obtain ⟨rfl, hh⟩ := hh; subst w') | (with_reducible refine (c_g _).mono ?_; intro e w' hh; obtain ⟨rfl, hh⟩ := hh; subst w') | (with_reducible refine (c_s _).mono ?_; intro e w' hh; obtain ⟨rfl, hh⟩ := hh; subst w') | (with_reducible refine (c_z _).mono ?_; intro e w' hh; obtain ⟨rfl, hh⟩ := hh; subst w') | (with_reducible refine (c_r _).mono ?_; intro e w' hh; obtain ⟨rfl, hh⟩ := hh; subst w') | (with_reducible refine (cx _).mono ?_; intro e w' hh; obtain ⟨rfl, hh⟩ := hh; subst w') | (with_reducible refine (cy _).mono ?_; intro e w' hh; obtain ⟨rfl, hh⟩ := hh; subst w'))
  go_ret
  exact ⟨rfl, rfl⟩

end Go.Proofs.Ytibgejmffinliaa
