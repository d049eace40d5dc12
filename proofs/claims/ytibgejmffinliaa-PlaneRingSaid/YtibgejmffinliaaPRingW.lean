/-
  The law PlaneRing, walked.
-/
import Derived.Test.YtibgejmffinliaaPlW
import Derived.Deep.DeepCutAuto
namespace Go.Proofs.Ytibgejmffinliaa
open Go Go.RowKit
set_option linter.unusedVariables false
set_option linter.unusedSimpArgs false

set_option maxHeartbeats 1000000 in
theorem planeRing_walk (w : World) (x0 x1 x2 x3 x4 x5 : Int) : Calls Try.prog 5 #[.agg #[.int .i64 x0, .int .i64 x1, .int .i64 x2, .int .i64 x3, .int .i64 x4, .int .i64 x5]] w fun e w' => e = .returned (.bool true) ∧ Below w.heap.size w w' := by
  have Ip : Pl.IsP (Pl.ofP x0 x1) := Pl.ofP_is _ _
  have c_p := of_any x0 x1
  obtain ⟨p, Ep⟩ : ∃ x, x = Pl.ofP x0 x1 := ⟨_, rfl⟩
  rw [← Ep] at Ip c_p
  have Iq : Pl.IsP (Pl.ofP x2 x3) := Pl.ofP_is _ _
  have c_q := of_any x2 x3
  obtain ⟨q, Eq⟩ : ∃ x, x = Pl.ofP x2 x3 := ⟨_, rfl⟩
  rw [← Eq] at Iq c_q
  have Ir : Pl.IsP (Pl.ofP x4 x5) := Pl.ofP_is _ _
  have c_r := of_any x4 x5
  obtain ⟨r, Er⟩ : ∃ x, x = Pl.ofP x4 x5 := ⟨_, rfl⟩
  rw [← Er] at Ir c_r
  have Iz : Pl.IsP (Pl.ofP 0 0) := Pl.ofP_is _ _
  have c_z := of_any 0 0
  obtain ⟨z, Ez⟩ : ∃ x, x = Pl.ofP 0 0 := ⟨_, rfl⟩
  rw [← Ez] at Iz c_z
  have Io : Pl.IsP (Pl.ofP 1 0) := Pl.ofP_is _ _
  have c_o := of_any 1 0
  obtain ⟨o, Eo⟩ : ∃ x, x = Pl.ofP 1 0 := ⟨_, rfl⟩
  rw [← Eo] at Io c_o
  have Ia : Pl.IsP (Pl.addP p q) := Pl.addP_is _ _
  have c_a := add_any Ip Iq
  obtain ⟨a, Ea⟩ : ∃ x, x = Pl.addP p q := ⟨_, rfl⟩
  rw [← Ea] at Ia c_a
  have Ib : Pl.IsP (Pl.addP q p) := Pl.addP_is _ _
  have c_b := add_any Iq Ip
  obtain ⟨b, Eb⟩ : ∃ x, x = Pl.addP q p := ⟨_, rfl⟩
  rw [← Eb] at Ib c_b
  have Ic : Pl.IsP (Pl.mulP p q) := Pl.mulP_is _ _
  have c_c := mul_any Ip Iq
  obtain ⟨c, Ec⟩ : ∃ x, x = Pl.mulP p q := ⟨_, rfl⟩
  rw [← Ec] at Ic c_c
  have Id : Pl.IsP (Pl.mulP q p) := Pl.mulP_is _ _
  have c_d := mul_any Iq Ip
  obtain ⟨d, Ed⟩ : ∃ x, x = Pl.mulP q p := ⟨_, rfl⟩
  rw [← Ed] at Id c_d
  have If : Pl.IsP (Pl.addP p z) := Pl.addP_is _ _
  have c_f := add_any Ip Iz
  obtain ⟨f, Ef⟩ : ∃ x, x = Pl.addP p z := ⟨_, rfl⟩
  rw [← Ef] at If c_f
  have Ig : Pl.IsP (Pl.mulP p o) := Pl.mulP_is _ _
  have c_g := mul_any Ip Io
  obtain ⟨g, Eg⟩ : ∃ x, x = Pl.mulP p o := ⟨_, rfl⟩
  rw [← Eg] at Ig c_g
  have Ih : Pl.IsP (Pl.mulP p z) := Pl.mulP_is _ _
  have c_h := mul_any Ip Iz
  obtain ⟨h, Eh⟩ : ∃ x, x = Pl.mulP p z := ⟨_, rfl⟩
  rw [← Eh] at Ih c_h
  have Ik : Pl.IsP (Pl.addP a r) := Pl.addP_is _ _
  have c_k := add_any Ia Ir
  obtain ⟨k, Ek⟩ : ∃ x, x = Pl.addP a r := ⟨_, rfl⟩
  rw [← Ek] at Ik c_k
  have Il : Pl.IsP (Pl.addP q r) := Pl.addP_is _ _
  have c_l := add_any Iq Ir
  obtain ⟨l, El⟩ : ∃ x, x = Pl.addP q r := ⟨_, rfl⟩
  rw [← El] at Il c_l
  have Im : Pl.IsP (Pl.addP p l) := Pl.addP_is _ _
  have c_m := add_any Ip Il
  obtain ⟨m, Em⟩ : ∃ x, x = Pl.addP p l := ⟨_, rfl⟩
  rw [← Em] at Im c_m
  have In : Pl.IsP (Pl.mulP c r) := Pl.mulP_is _ _
  have c_n := mul_any Ic Ir
  obtain ⟨n, En⟩ : ∃ x, x = Pl.mulP c r := ⟨_, rfl⟩
  rw [← En] at In c_n
  have Is : Pl.IsP (Pl.mulP q r) := Pl.mulP_is _ _
  have c_s := mul_any Iq Ir
  obtain ⟨s, Es⟩ : ∃ x, x = Pl.mulP q r := ⟨_, rfl⟩
  rw [← Es] at Is c_s
  have It : Pl.IsP (Pl.mulP p s) := Pl.mulP_is _ _
  have c_t := mul_any Ip Is
  obtain ⟨t, Et⟩ : ∃ x, x = Pl.mulP p s := ⟨_, rfl⟩
  rw [← Et] at It c_t
  have Iu : Pl.IsP (Pl.mulP p l) := Pl.mulP_is _ _
  have c_u := mul_any Ip Il
  obtain ⟨u, Eu⟩ : ∃ x, x = Pl.mulP p l := ⟨_, rfl⟩
  rw [← Eu] at Iu c_u
  have Iv : Pl.IsP (Pl.mulP p r) := Pl.mulP_is _ _
  have c_v := mul_any Ip Ir
  obtain ⟨v, Ev⟩ : ∃ x, x = Pl.mulP p r := ⟨_, rfl⟩
  rw [← Ev] at Iv c_v
  have Iy : Pl.IsP (Pl.addP c v) := Pl.addP_is _ _
  have c_y := add_any Ic Iv
  obtain ⟨y, Ey⟩ : ∃ x, x = Pl.addP c v := ⟨_, rfl⟩
  rw [← Ey] at Iy c_y
  have Q22 := run_neq_cv Ia Ib (show a = b from by subst Ea Eb; exact Pl.addP_comm p q)
  have Q23 := run_neq_cv Ic Id (show c = d from by subst Ec Ed; exact Pl.mulP_comm p q)
  have Q24 := run_neq_cv If Ip (show f = p from by subst Ef Ez; exact Pl.addP_zero Ip)
  have Q25 := run_neq_cv Ig Ip (show g = p from by subst Eg Eo; exact Pl.mulP_one Ip)
  have Q26 := run_neq_cv Ih Iz (show h = z from by subst Eh Ez; exact Pl.mulP_zero p)
  have Q27 := run_eql_cv Ik Im (show k = m from by subst Ek Em El Ea; exact Pl.addP_assoc p q r)
  have Q28 := run_eql_cv In It (show n = t from by subst En Et Es Ec; exact Pl.mulP_assoc p q r)
  have Q29 := run_eql_cv Iu Iy (show u = y from by subst Eu Ey El Ec Ev; exact Pl.mulP_dist p q r)
  have GE := guard_cv .eql
  have GN := guard_cv .neq
  clear Ep Eq Er Ez Eo Ea Eb Ec Ed Ef Eg Eh Ek El Em En Es Et Eu Ev Ey
  go_enter Try.func5, Try.ntmps5
  have EP := Lib.hid (ent_new w #[.int .i64 x0, .int .i64 x1, .int .i64 x2, .int .i64 x3, .int .i64 x4, .int .i64 x5] 41)
  have HB := Lib.hid (show Below w.heap.size w (w.alloc (.cells #[.int .i64 x0, .int .i64 x1, .int .i64 x2, .int .i64 x3, .int .i64 x4, .int .i64 x5] 41)) from (Below.refl _ _).alloc (Nat.le_refl _) _)
  go_upto_region 1 with fail
  generalize w.alloc (.cells #[.int .i64 x0, .int .i64 x1, .int .i64 x2, .int .i64 x3, .int .i64 x4, .int .i64 x5] 41) = w1 at EP HB ⊢
  have y0 := ent_cell EP.out 0 _ rfl
  have y1 := ent_cell EP.out 1 _ rfl
  have y2 := ent_cell EP.out 2 _ rfl
  have y3 := ent_cell EP.out 3 _ rfl
  have y4 := ent_cell EP.out 4 _ rfl
  have y5 := ent_cell EP.out 5 _ rfl
  go_wp2_with (first | (with_reducible refine (lives_any _).mono ?_; intro e w' hh; obtain ⟨rfl, hh⟩ := hh; subst w'))
  go_quiet (first | (go_at_call 10; with_reducible exact Calls.quiet_of_same (c_p _)) | (go_at_call 10; with_reducible exact Calls.quiet_of_same (c_q _)) | (go_at_call 10; with_reducible exact Calls.quiet_of_same (c_r _)))
  go_wp2_with (first | (with_reducible refine (c_z _).mono ?_; intro e w' hh; obtain ⟨rfl, hh⟩ := hh; subst w') | (with_reducible refine (c_o _).mono ?_; intro e w' hh; obtain ⟨rfl, hh⟩ := hh; subst w') | (with_reducible refine (c_a _).mono ?_; intro e w' hh; obtain ⟨rfl, hh⟩ := hh; subst w') | (with_reducible refine (c_b _).mono ?_; intro e w' hh; obtain ⟨rfl, hh⟩ := hh; subst w') | (with_reducible refine (c_c _).mono ?_; intro e w' hh; obtain ⟨rfl, hh⟩ := hh; subst w') | (with_reducible refine (c_d _).mono ?_; intro e w' hh; obtain ⟨rfl, hh⟩ := hh; subst w') | (with_reducible refine (c_f _).mono ?_; intro e w' hh; obtain ⟨rfl, hh⟩ := hh; subst w') | (with_reducible refine (c_g _).mono ?_; intro e w' hh; obtain ⟨rfl, hh⟩ := hh; subst w') | (with_reducible refine (c_h _).mono ?_; intro e w' hh; obtain ⟨rfl, hh⟩ := hh; subst w') | (with_reducible refine (c_k _).mono ?_; intro e w' hh; obtain ⟨rfl, hh⟩ := hh; subst w') | (with_reducible refine (c_l _).mono ?_; intro e w' hh; obtain ⟨rfl, hh⟩ := hh; subst w') | (with_reducible refine (c_m _).mono ?_; intro e w' hh; obtain ⟨rfl, hh⟩ := hh; subst w') | (with_reducible refine (c_n _).mono ?_; intro e w' hh; obtain ⟨rfl, hh⟩ := hh; subst w') | (with_reducible refine (c_s _).mono ?_; intro e w' hh; obtain ⟨rfl, hh⟩ := hh; subst w') | (with_reducible refine (c_t _).mono ?_; intro e w' hh; obtain ⟨rfl, hh⟩ := hh; subst w') | (with_reducible refine (c_u _).mono ?_; intro e w' hh; obtain ⟨rfl, hh⟩ := hh; subst w') | (with_reducible refine (c_v _).mono ?_; intro e w' hh; obtain ⟨rfl, hh⟩ := hh; subst w') | (with_reducible refine (c_y _).mono ?_; intro e w' hh; obtain ⟨rfl, hh⟩ := hh; subst w'))
  go_ret
  exact ⟨rfl, below_dn HB.out nq⟩

end Go.Proofs.Ytibgejmffinliaa
