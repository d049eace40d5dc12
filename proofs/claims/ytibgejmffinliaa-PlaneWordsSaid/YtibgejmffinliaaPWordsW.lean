/-
  The law PlaneWords, walked.
-/
import Derived.Test.YtibgejmffinliaaPlW
namespace Go.Proofs.Ytibgejmffinliaa
open Go Go.RowKit
set_option linter.unusedVariables false
set_option linter.unusedSimpArgs false

/-- Which number is a point's. -/
theorem word_back (x a b : Int) (h1 : 0 ≤ x) (h2 : x < 18446744073709551616) (ha : a = wrap64 (wrap32 (x / 4294967296))) (hb : b = wrap64 (wrap32 x)) :
    (Pl.wordP (fromP x) = x ↔ (Pl.pm a = a ∧ Pl.pm b = b)) ∧ fromP x = (Pl.pm a, Pl.pm b) := by
  have hf : fromP x = (Pl.pm a, Pl.pm b) := by subst ha hb; rfl
  refine ⟨?_, hf⟩
  rw [hf]
  have ra := Pl.pm_range a
  have rb := Pl.pm_range b
  have hW : Pl.wordP (Pl.pm a, Pl.pm b) = Pl.pm a % 4294967296 * 4294967296 + Pl.pm b % 4294967296 := rfl
  rw [hW]
  unfold wrap64 wrap32 at ha hb
  constructor
  · intro h
    generalize Pl.pm a = c at *
    generalize Pl.pm b = d at *
    have e1 : c % 4294967296 = x / 4294967296 := by omega
    have e2 : d % 4294967296 = x % 4294967296 := by omega
    exact ⟨by omega, by omega⟩
  · rintro ⟨h, g⟩
    rw [h, g]
    omega

set_option maxHeartbeats 1000000 in
theorem planeWords_walk (w : World) (x : Int) (h1 : 0 ≤ x) (h2 : x < 18446744073709551616) : Calls Try.prog 4 #[.int .u64 x] w fun e w' => e = .returned (.bool true) ∧ w' = w := by
  have cf := fromword_any x h1 h2
  have ip : Pl.IsP (fromP x) := Pl.ofP_is _ _
  have w1 : wrap64 (x / 4294967296) = x / 4294967296 := by unfold wrap64; omega
  have w2 : wrap64 (x % 4294967296) = x % 4294967296 := by unfold wrap64; omega
  have w3 : wrap64 (x / 4294967296 - 4294967296) = x / 4294967296 - 4294967296 := by unfold wrap64; omega
  have w4 : wrap64 (x % 4294967296 - 4294967296) = x % 4294967296 - 4294967296 := by unfold wrap64; omega
  have o0 : ((FloatKind.f64).format.order 0 0 == some Ordering.eq) = true := by decide
  obtain ⟨a, ha, ca⟩ : ∃ a, (2147483648 ≤ x / 4294967296 ∧ a = x / 4294967296 - 4294967296 ∨ ¬ 2147483648 ≤ x / 4294967296 ∧ a = x / 4294967296) ∧ a = wrap64 (wrap32 (x / 4294967296)) := by
    refine ⟨_, ?_, rfl⟩; unfold wrap64 wrap32; omega
  obtain ⟨b, hb, cb⟩ : ∃ b, (2147483648 ≤ x % 4294967296 ∧ b = x % 4294967296 - 4294967296 ∨ ¬ 2147483648 ≤ x % 4294967296 ∧ b = x % 4294967296) ∧ b = wrap64 (wrap32 x) := by
    refine ⟨_, ?_, rfl⟩; unfold wrap64 wrap32; omega
  obtain ⟨hiff, hfp⟩ := word_back x a b h1 h2 ca cb
  clear ca cb
  have hw := word_any ip
  have hi := is_any ip a b
  go_enter Try.func4, Try.ntmps4
  by_cases g1 : Pl.pm a = a
  · by_cases g2 : Pl.pm b = b
    · have hx := hiff.2 ⟨g1, g2⟩
      rw [if_pos hx] at cf
      rw [hx] at hw
      have hd : decide (fromP x = (a, b)) = true := by rw [hfp, g1, g2]; simp
      rw [hd] at hi
      have ra := refpart_any a
      have rb := refpart_any b
      rw [g1] at ra
      rw [g2] at rb
      clear hiff hfp g1 g2 hx hd
      generalize fromP x = p at *
      rcases ha with ⟨ha, rfl⟩ | ⟨ha, rfl⟩ <;> rcases hb with ⟨hb, rfl⟩ | ⟨hb, rfl⟩
      all_goals go_wp2_with (first | (with_reducible refine (lives_any _).mono ?_; intro e w' hh; obtain ⟨rfl, rfl⟩ := hh) | (with_reducible refine (cf _).mono ?_; intro e w' hh; obtain ⟨rfl, rfl⟩ := hh) | (with_reducible refine (ra _).mono ?_; intro e w' hh; obtain ⟨rfl, rfl⟩ := hh) | (with_reducible refine (rb _).mono ?_; intro e w' hh; obtain ⟨rfl, rfl⟩ := hh) | (with_reducible refine (hi _).mono ?_; intro e w' hh; obtain ⟨rfl, rfl⟩ := hh) | (with_reducible refine (hw _).mono ?_; intro e w' hh; obtain ⟨rfl, rfl⟩ := hh))
      all_goals go_ret
      all_goals exact ⟨rfl, rfl⟩
    · have hx : ¬ Pl.wordP (fromP x) = x := fun h => g2 (hiff.1 h).2
      rw [if_neg hx] at cf
      have ra := refpart_any a
      have rb := refpart_any b
      rw [g1] at ra
      have hne : (Pl.pm b != b) = true := by simpa using g2
      clear hiff hfp g1 g2 hx hw hi ip
      generalize Pl.pm b = c at *
      rcases ha with ⟨ha, rfl⟩ | ⟨ha, rfl⟩ <;> rcases hb with ⟨hb, rfl⟩ | ⟨hb, rfl⟩
      all_goals go_wp2_with (first | (with_reducible refine (lives_any _).mono ?_; intro e w' hh; obtain ⟨rfl, rfl⟩ := hh) | (with_reducible refine (cf _).mono ?_; intro e w' hh; obtain ⟨rfl, rfl⟩ := hh) | (with_reducible refine (ra _).mono ?_; intro e w' hh; obtain ⟨rfl, rfl⟩ := hh) | (with_reducible refine (rb _).mono ?_; intro e w' hh; obtain ⟨rfl, rfl⟩ := hh))
      all_goals go_ret
      all_goals exact ⟨rfl, rfl⟩
  · have hx : ¬ Pl.wordP (fromP x) = x := fun h => g1 (hiff.1 h).1
    rw [if_neg hx] at cf
    have ra := refpart_any a
    have hne : (Pl.pm a != a) = true := by simpa using g1
    clear hiff hfp g1 hx hw hi ip
    generalize Pl.pm a = c at *
    rcases ha with ⟨ha, rfl⟩ | ⟨ha, rfl⟩ <;> rcases hb with ⟨hb, rfl⟩ | ⟨hb, rfl⟩
    all_goals go_wp2_with (first | (with_reducible refine (lives_any _).mono ?_; intro e w' hh; obtain ⟨rfl, rfl⟩ := hh) | (with_reducible refine (cf _).mono ?_; intro e w' hh; obtain ⟨rfl, rfl⟩ := hh) | (with_reducible refine (ra _).mono ?_; intro e w' hh; obtain ⟨rfl, rfl⟩ := hh))
    all_goals go_ret
    all_goals exact ⟨rfl, rfl⟩

end Go.Proofs.Ytibgejmffinliaa
