/-
  The law PlanePoints, walked.
-/
import Derived.Test.YtibgejmffinliaaPlW
import Derived.Deep.DeepCutAuto
namespace Go.Proofs.Ytibgejmffinliaa
open Go Go.RowKit
set_option linter.unusedVariables false
set_option linter.unusedSimpArgs false

theorem word_range (p : Pl.Pt) : 0 ≤ Pl.wordP p ∧ Pl.wordP p < 18446744073709551616 := by unfold Pl.wordP; omega
theorem from_word {p : Pl.Pt} (h : Pl.IsP p) : fromP (Pl.wordP p) = p := by
  obtain ⟨a, b⟩ := p; obtain ⟨⟨h1, h2⟩, h3, h4⟩ := h
  have hx : Pl.wordP (a, b) = a % 4294967296 * 4294967296 + b % 4294967296 := rfl
  simp only at h1 h2 h3 h4
  have e1 : wrap64 (wrap32 (Pl.wordP (a, b) / 4294967296)) = a := by rw [hx]; unfold wrap64 wrap32; omega
  have e2 : wrap64 (wrap32 (Pl.wordP (a, b))) = b := by rw [hx]; unfold wrap64 wrap32; omega
  show Pl.ofP (wrap64 (wrap32 (Pl.wordP (a, b) / 4294967296))) (wrap64 (wrap32 (Pl.wordP (a, b)))) = (a, b)
  rw [e1, e2]
  show (Pl.pm a, Pl.pm b) = (a, b)
  rw [Pl.pm_part h1 h2, Pl.pm_part h3 h4]

set_option maxHeartbeats 1000000 in
theorem planePoints_walk (w : World) (x0 x1 x2 x3 : Int) : Calls Try.prog 3 #[.agg #[.int .i64 x0, .int .i64 x1, .int .i64 x2, .int .i64 x3]] w fun e w' => e = .returned (.bool true) ∧ Below w.heap.size w w' := by
  have P0 := refpart_any x0
  have P1 := refpart_any x1
  have P2 := refpart_any x2
  have P3 := refpart_any x3
  have O1 := of_any x0 x1
  have O2 := of_any x2 x3
  have Ip : Pl.IsP (Pl.ofP x0 x1) := Pl.ofP_is _ _
  have Iq : Pl.IsP (Pl.ofP x2 x3) := Pl.ofP_is _ _
  have ra := Pl.pm_range x0
  have rb := Pl.pm_range x1
  have rc := Pl.pm_range x2
  have rd := Pl.pm_range x3
  obtain ⟨p, Ep⟩ : ∃ p, p = Pl.ofP x0 x1 := ⟨_, rfl⟩
  obtain ⟨q, Eq⟩ : ∃ q, q = Pl.ofP x2 x3 := ⟨_, rfl⟩
  have ep : p = (Pl.pm x0, Pl.pm x1) := Ep
  have eq : q = (Pl.pm x2, Pl.pm x3) := Eq
  rw [← Ep] at O1 Ip
  rw [← Eq] at O2 Iq
  clear Ep Eq
  generalize Pl.pm x0 = a at *
  generalize Pl.pm x1 = b at *
  generalize Pl.pm x2 = c at *
  generalize Pl.pm x3 = d at *
  have A1 := refadd_any a b c d ra rb rc rd
  have M1 := refmul_any a b c d ra rb rc rd
  have D1 := is_any Ip a b
  have D2 := is_any Iq c d
  have S1 := add_any Ip Iq
  have T1 := mul_any Ip Iq
  have D3 := is_any (Pl.addP_is p q) (Pl.pm (a + c)) (Pl.pm (b + d))
  have D4 := is_any (Pl.mulP_is p q) (Pl.pm (a * c - b * d)) (Pl.pm (a * d + b * c))
  have h1 : decide (p = (a, b)) = true := by subst ep; simp
  have h2 : decide (q = (c, d)) = true := by subst eq; simp
  have h3 : decide (Pl.addP p q = (Pl.pm (a + c), Pl.pm (b + d))) = true := by subst ep eq; simp [Pl.addP]
  have h4 : decide (Pl.mulP p q = (Pl.pm (a * c - b * d), Pl.pm (a * d + b * c))) = true := by subst ep eq; simp [Pl.mulP]
  rw [h1] at D1
  rw [h2] at D2
  rw [h3] at D3
  rw [h4] at D4
  have W1 := word_any Ip
  have W2 := refword_any a b ra rb
  have hb := from_word Ip
  have F1 := fromword_any (Pl.wordP p) (word_range p).1 (word_range p).2
  rw [hb, if_pos rfl] at F1
  rw [← ep] at W2
  have Q1 := run_eql_cv Ip Ip rfl
  have GE := guard_cv .eql
  clear h1 h2 h3 h4 hb ep eq ra rb rc rd
  generalize Pl.addP p q = s at *
  generalize Pl.mulP p q = m at *
  generalize Pl.pm (a + c) = e1 at *
  generalize Pl.pm (b + d) = e2 at *
  generalize Pl.pm (a * c - b * d) = e3 at *
  generalize Pl.pm (a * d + b * c) = e4 at *
  generalize Pl.wordP p = v at *
  go_enter Try.func3, Try.ntmps3
  have EP := Lib.hid (ent_new w #[.int .i64 x0, .int .i64 x1, .int .i64 x2, .int .i64 x3] 22)
  have HB := Lib.hid (show Below w.heap.size w (w.alloc (.cells #[.int .i64 x0, .int .i64 x1, .int .i64 x2, .int .i64 x3] 22)) from (Below.refl _ _).alloc (Nat.le_refl _) _)
  go_upto_region 1 with fail
  generalize w.alloc (.cells #[.int .i64 x0, .int .i64 x1, .int .i64 x2, .int .i64 x3] 22) = w1 at EP HB ⊢
  have y0 := ent_cell EP.out 0 _ rfl
  have y1 := ent_cell EP.out 1 _ rfl
  have y2 := ent_cell EP.out 2 _ rfl
  have y3 := ent_cell EP.out 3 _ rfl
  go_wp2_with (first | (with_reducible refine (lives_any _).mono ?_; intro e w' hh; obtain ⟨rfl, hh⟩ := hh; subst w'))
  go_quiet (first | (go_at_call 9; with_reducible exact Calls.quiet_of_same (P0 _)) | (go_at_call 9; with_reducible exact Calls.quiet_of_same (P1 _)) | (go_at_call 9; with_reducible exact Calls.quiet_of_same (P2 _)) | (go_at_call 9; with_reducible exact Calls.quiet_of_same (P3 _)) | (go_at_call 10; with_reducible exact Calls.quiet_of_same (O1 _)) | (go_at_call 10; with_reducible exact Calls.quiet_of_same (O2 _)))
  go_wp2_with fail
  have HB := Lib.hid (below_dn HB.out nq)
  have z0 : (w1.drewN nq).cell? ⟨w.heap.size, 0, none⟩ = some (.int .i64 x0) := y0
  have z1 : (w1.drewN nq).cell? ⟨w.heap.size, 1, none⟩ = some (.int .i64 x1) := y1
  have z2 : (w1.drewN nq).cell? ⟨w.heap.size, 2, none⟩ = some (.int .i64 x2) := y2
  have z3 : (w1.drewN nq).cell? ⟨w.heap.size, 3, none⟩ = some (.int .i64 x3) := y3
  clear y0 y1 y2 y3
  generalize w1.drewN nq = w2 at *
  go_quiet (first | (go_at_call 9; with_reducible exact Calls.quiet_of_same (P0 _)) | (go_at_call 9; with_reducible exact Calls.quiet_of_same (P1 _)) | (go_at_call 9; with_reducible exact Calls.quiet_of_same (P2 _)) | (go_at_call 9; with_reducible exact Calls.quiet_of_same (P3 _)) | (go_at_call 10; with_reducible exact Calls.quiet_of_same (O1 _)) | (go_at_call 10; with_reducible exact Calls.quiet_of_same (O2 _)))
  go_wp2_with (first | (with_reducible refine (A1 _).mono ?_; intro e w' hh; obtain ⟨rfl, hh⟩ := hh; subst w') | (with_reducible refine (M1 _).mono ?_; intro e w' hh; obtain ⟨rfl, hh⟩ := hh; subst w') | (with_reducible refine (D1 _).mono ?_; intro e w' hh; obtain ⟨rfl, hh⟩ := hh; subst w') | (with_reducible refine (D2 _).mono ?_; intro e w' hh; obtain ⟨rfl, hh⟩ := hh; subst w') | (with_reducible refine (D3 _).mono ?_; intro e w' hh; obtain ⟨rfl, hh⟩ := hh; subst w') | (with_reducible refine (D4 _).mono ?_; intro e w' hh; obtain ⟨rfl, hh⟩ := hh; subst w') | (with_reducible refine (S1 _).mono ?_; intro e w' hh; obtain ⟨rfl, hh⟩ := hh; subst w') | (with_reducible refine (T1 _).mono ?_; intro e w' hh; obtain ⟨rfl, hh⟩ := hh; subst w') | (with_reducible refine (W1 _).mono ?_; intro e w' hh; obtain ⟨rfl, hh⟩ := hh; subst w') | (with_reducible refine (W2 _).mono ?_; intro e w' hh; obtain ⟨rfl, hh⟩ := hh; subst w') | (with_reducible refine (F1 _).mono ?_; intro e w' hh; obtain ⟨rfl, hh⟩ := hh; subst w'))
  go_ret
  exact ⟨rfl, below_dn HB.out nq⟩

end Go.Proofs.Ytibgejmffinliaa
