/-
  Whole numbers as parts, and points of two parts: a ring. No project text.
-/
import Derived.Test.YtibgejmffinliaaPlF
namespace Go.Proofs.Ytibgejmffinliaa
namespace Pl

/-- A whole number as a part. -/
def pm (n : Int) : Int := (n + 8388608) % 16777216 - 8388608

/-- Two numbers that are one part. -/
def C (x y : Int) : Prop := ∃ k : Int, x = y + k * 16777216

theorem C.refl (x : Int) : C x x := ⟨0, by omega⟩
theorem C.symm {x y : Int} (h : C x y) : C y x := by obtain ⟨k, h⟩ := h; exact ⟨-k, by omega⟩
theorem C.trans {x y z : Int} (h : C x y) (g : C y z) : C x z := by
  obtain ⟨k, h⟩ := h; obtain ⟨j, g⟩ := g; exact ⟨k + j, by omega⟩
theorem C.add {x y z u : Int} (h : C x y) (g : C z u) : C (x + z) (y + u) := by
  obtain ⟨k, h⟩ := h; obtain ⟨j, g⟩ := g; exact ⟨k + j, by omega⟩
theorem C.sub {x y z u : Int} (h : C x y) (g : C z u) : C (x - z) (y - u) := by
  obtain ⟨k, h⟩ := h; obtain ⟨j, g⟩ := g; exact ⟨k - j, by omega⟩
theorem C.neg {x y : Int} (h : C x y) : C (-x) (-y) := by
  obtain ⟨k, h⟩ := h; exact ⟨-k, by omega⟩
theorem C.mul {x y z u : Int} (h : C x y) (g : C z u) : C (x * z) (y * u) := by
  obtain ⟨k, h⟩ := h; obtain ⟨j, g⟩ := g
  exact ⟨y * j + k * u + k * j * 16777216, by subst h g; grind⟩
theorem pm_C (n : Int) : C (pm n) n := ⟨-((n + 8388608) / 16777216), by unfold pm; omega⟩
theorem pm_eq {x y : Int} (h : C x y) : pm x = pm y := by obtain ⟨k, h⟩ := h; unfold pm; omega
theorem pm_range (n : Int) : -8388608 ≤ pm n ∧ pm n < 8388608 := by unfold pm; omega
theorem pm_part {n : Int} (h : -8388608 ≤ n) (h2 : n < 8388608) : pm n = n := by unfold pm; omega
theorem C_eq {x y : Int} (e : x = y) : C x y := e ▸ C.refl x
theorem pm_pm (n : Int) : pm (pm n) = pm n := pm_eq (pm_C n)

/-- A point's parts. -/
abbrev Pt := Int × Int
def addP (p q : Pt) : Pt := (pm (p.1 + q.1), pm (p.2 + q.2))
def mulP (p q : Pt) : Pt := (pm (p.1 * q.1 - p.2 * q.2), pm (p.1 * q.2 + p.2 * q.1))
def ofP (a b : Int) : Pt := (pm a, pm b)
def IsP (p : Pt) : Prop := (-8388608 ≤ p.1 ∧ p.1 < 8388608) ∧ (-8388608 ≤ p.2 ∧ p.2 < 8388608)
theorem ofP_is (a b : Int) : IsP (ofP a b) := ⟨pm_range a, pm_range b⟩
theorem addP_is (p q : Pt) : IsP (addP p q) := ⟨pm_range _, pm_range _⟩
theorem mulP_is (p q : Pt) : IsP (mulP p q) := ⟨pm_range _, pm_range _⟩

theorem prod_bound {a b : Int} (h1 : -8388608 ≤ a) (h2 : a < 8388608) (h3 : -8388608 ≤ b) (h4 : b < 8388608) : -70368744177664 ≤ a * b ∧ a * b ≤ 70368744177664 := by
  have e : (a * b).natAbs = a.natAbs * b.natAbs := Int.natAbs_mul a b
  have : a.natAbs * b.natAbs ≤ 8388608 * 8388608 := Nat.mul_le_mul (by omega) (by omega)
  omega

theorem addP_comm (p q : Pt) : addP p q = addP q p := by unfold addP; rw [Int.add_comm p.1, Int.add_comm p.2]
theorem mulP_comm (p q : Pt) : mulP p q = mulP q p := by
  unfold mulP
  have e1 : p.1 * q.1 - p.2 * q.2 = q.1 * p.1 - q.2 * p.2 := by grind
  have e2 : p.1 * q.2 + p.2 * q.1 = q.1 * p.2 + q.2 * p.1 := by grind
  rw [e1, e2]
theorem addP_zero {p : Pt} (h : IsP p) : addP p (ofP 0 0) = p := by
  obtain ⟨a, b⟩ := p; obtain ⟨⟨h1, h2⟩, h3, h4⟩ := h
  simp only [addP, ofP, Prod.mk.injEq]
  have z : pm 0 = 0 := by decide
  rw [z, Int.add_zero, Int.add_zero]
  exact ⟨pm_part h1 h2, pm_part h3 h4⟩
theorem mulP_one {p : Pt} (h : IsP p) : mulP p (ofP 1 0) = p := by
  obtain ⟨a, b⟩ := p; obtain ⟨⟨h1, h2⟩, h3, h4⟩ := h
  simp only [mulP, ofP, Prod.mk.injEq]
  have z : pm 0 = 0 := by decide
  have o : pm 1 = 1 := by decide
  rw [z, o]
  simp only [Int.mul_one, Int.mul_zero, Int.sub_zero, Int.zero_add]
  exact ⟨pm_part h1 h2, pm_part h3 h4⟩
theorem mulP_zero (p : Pt) : mulP p (ofP 0 0) = ofP 0 0 := by
  simp only [mulP, ofP]
  have z : pm 0 = 0 := by decide
  rw [z]; simp [z]
theorem addP_assoc (p q r : Pt) : addP (addP p q) r = addP p (addP q r) := by
  simp only [addP, Prod.mk.injEq]
  constructor
  · refine pm_eq ((C.add (pm_C _) (C.refl _)).trans (C.trans (C_eq ?_) (C.add (C.refl _) (pm_C _)).symm)); omega
  · refine pm_eq ((C.add (pm_C _) (C.refl _)).trans (C.trans (C_eq ?_) (C.add (C.refl _) (pm_C _)).symm)); omega
theorem mulP_assoc (p q r : Pt) : mulP (mulP p q) r = mulP p (mulP q r) := by
  simp only [mulP, Prod.mk.injEq]
  constructor
  · refine pm_eq ((C.sub (C.mul (pm_C _) (C.refl _)) (C.mul (pm_C _) (C.refl _))).trans (C.trans (C_eq ?_) (C.sub (C.mul (C.refl _) (pm_C _)) (C.mul (C.refl _) (pm_C _))).symm)); grind
  · refine pm_eq ((C.add (C.mul (pm_C _) (C.refl _)) (C.mul (pm_C _) (C.refl _))).trans (C.trans (C_eq ?_) (C.add (C.mul (C.refl _) (pm_C _)) (C.mul (C.refl _) (pm_C _))).symm)); grind
theorem mulP_dist (p q r : Pt) : mulP p (addP q r) = addP (mulP p q) (mulP p r) := by
  simp only [mulP, addP, Prod.mk.injEq]
  constructor
  · refine pm_eq ((C.sub (C.mul (C.refl _) (pm_C _)) (C.mul (C.refl _) (pm_C _))).trans (C.trans (C_eq ?_) (C.add (pm_C _) (pm_C _)).symm)); grind
  · refine pm_eq ((C.add (C.mul (C.refl _) (pm_C _)) (C.mul (C.refl _) (pm_C _))).trans (C.trans (C_eq ?_) (C.add (pm_C _) (pm_C _)).symm)); grind

theorem mul_quarter (p : Pt) : mulP p (ofP 0 1) = (pm (-p.2), pm p.1) := by
  have z : pm 0 = 0 := by decide
  have o : pm 1 = 1 := by decide
  simp only [mulP, ofP, z, o, Int.mul_zero, Int.mul_one, Int.zero_sub, Int.add_zero]
theorem turn_two (p : Pt) : mulP (mulP p (ofP 0 1)) (ofP 0 1) = mulP p (ofP (-1) 0) := by
  have z : pm 0 = 0 := by decide
  have o : pm (-1) = -1 := by decide
  rw [mul_quarter, mul_quarter]
  simp only [mulP, ofP, z, o, Int.mul_zero, Int.sub_zero, Int.zero_add, Int.mul_neg, Int.mul_one, Prod.mk.injEq]
  exact ⟨pm_eq (C.neg (pm_C _)), pm_eq (pm_C _)⟩
theorem turn_four {p : Pt} (h : IsP p) : mulP (mulP (mulP (mulP p (ofP 0 1)) (ofP 0 1)) (ofP 0 1)) (ofP 0 1) = p := by
  obtain ⟨a, b⟩ := p; obtain ⟨⟨h1, h2⟩, h3, h4⟩ := h
  rw [mul_quarter, mul_quarter, mul_quarter, mul_quarter]
  simp only [Prod.mk.injEq]
  constructor
  · exact (pm_eq ((C.neg ((pm_C _).trans ((pm_C _).trans (C.neg (pm_C a))))).trans (C_eq (by omega)))).trans (pm_part h1 h2)
  · exact (pm_eq (((pm_C _).trans (C.neg ((pm_C _).trans (pm_C (-b))))).trans (C_eq (by omega)))).trans (pm_part h3 h4)
theorem turn_nought (p : Pt) : addP p (mulP (mulP p (ofP 0 1)) (ofP 0 1)) = ofP 0 0 := by
  rw [mul_quarter, mul_quarter]
  simp only [addP, ofP, Prod.mk.injEq]
  exact ⟨pm_eq ((C.add (C.refl _) ((pm_C _).trans (C.neg (pm_C _)))).trans (C_eq (by omega))), pm_eq ((C.add (C.refl _) ((pm_C _).trans (pm_C _))).trans (C_eq (by omega)))⟩
theorem turn_im {p : Pt} (h : IsP p) : (mulP p (ofP 0 1)).2 = p.1 := by
  rw [mul_quarter]; exact pm_part h.1.1 h.1.2

end Pl
end Go.Proofs.Ytibgejmffinliaa
