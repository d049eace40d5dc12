/-
  Arrays of whole numbers that came in by value.
-/
import Derived.Test.YtibgejmffinliaaRows
import Derived.ProofKit
import Derived.OpenShut
import Derived.HandedShaped
import Derived.Carry
namespace Go.Proofs.Ytibgejmffinliaa
open Go.ChangeShapes Go.WideShapes Go.ChangeAt Go.RowKit
set_option linter.unusedVariables false
set_option linter.unusedSimpArgs false

theorem own : ownKnob Try.prog.godebug = none := by kernel_rfl
theorem laidOut : laidOutB Try.prog = true := by kernel_rfl

theorem okWide_array {P : Program} {W : World} {r : Reach} {b0 : Nat} {t e : TypeId} {n : Nat} {v : Value} (hu : P.underlying t = some (.array n e)) (h : Value.okWide P W r b0 t v) : ∃ cs : Array Value, v = .agg cs := by
  simp only [Value.okWide, hu] at h
  obtain ⟨cs, h1, _⟩ := h
  exact ⟨cs, h1⟩

theorem open_ints_array {H : Type} {enc : TypeId × Value → H} {P : Program} {W : World} {base : Nat} {sp : Nat → Bool} {held : Bool} {t e : TypeId} {n : Nat} {q : IntKind} {cs : Array Value} {d : DataW H} {ps : List MemPlace}
    (hu : P.underlying t = some (.array n e)) (he : P.underlying e = some (.int q)) (hc : P.cellsOf e = 1) (hn : P.cellsOf t = n) (h : DataW.Trod enc P W base sp held t (.agg cs) d ps) :
    cs.toList.length = n ∧ ∀ i, i < n → ∃ x, cs.toList[i]? = some (.int q x) := by
  obtain ⟨fuel, hf⟩ := h
  obtain ⟨xs, m, _, _, hl, hx, hi⟩ := DataW.trod_array hu hf
  have hl' : cs.toList.length = n := by rw [← hn]; exact hl
  refine ⟨hl', fun i hin => ?_⟩
  have h1 := hi i hin
  rw [hc, Nat.mul_one] at h1
  obtain ⟨y, hy⟩ : ∃ y, xs[i]? = some y := ⟨_, List.getElem?_eq_getElem (by omega)⟩
  rw [hy] at h1
  obtain ⟨a, ea, _⟩ := DataW.trod_int he h1
  refine ⟨a, ?_⟩
  have : (((Value.agg cs).cells.toList.drop i).take 1)[0]? = some (.int q a) := by rw [ea]; rfl
  rw [List.getElem?_take, List.getElem?_drop] at this
  simpa [Value.cells] using this
theorem four {cs : Array Value} {q : IntKind} (h : cs.toList.length = 4 ∧ ∀ i, i < 4 → ∃ x, cs.toList[i]? = some (.int q x)) :
    ∃ x0 x1 x2 x3, cs = #[.int q x0, .int q x1, .int q x2, .int q x3] := by
  obtain ⟨l⟩ := cs
  obtain ⟨hl, h⟩ := h
  simp only at hl h
  obtain ⟨x0, h0⟩ := h 0 (by omega)
  obtain ⟨x1, h1⟩ := h 1 (by omega)
  obtain ⟨x2, h2⟩ := h 2 (by omega)
  obtain ⟨x3, h3⟩ := h 3 (by omega)
  match l, hl with
  | [a, b, c, d], _ =>
    simp only [List.getElem?_cons_zero, List.getElem?_cons_succ, Option.some.injEq] at h0 h1 h2 h3
    subst h0 h1 h2 h3
    exact ⟨x0, x1, x2, x3, rfl⟩
theorem six {cs : Array Value} {q : IntKind} (h : cs.toList.length = 6 ∧ ∀ i, i < 6 → ∃ x, cs.toList[i]? = some (.int q x)) :
    ∃ x0 x1 x2 x3 x4 x5, cs = #[.int q x0, .int q x1, .int q x2, .int q x3, .int q x4, .int q x5] := by
  obtain ⟨l⟩ := cs
  obtain ⟨hl, h⟩ := h
  simp only at hl h
  obtain ⟨x0, h0⟩ := h 0 (by omega)
  obtain ⟨x1, h1⟩ := h 1 (by omega)
  obtain ⟨x2, h2⟩ := h 2 (by omega)
  obtain ⟨x3, h3⟩ := h 3 (by omega)
  obtain ⟨x4, h4⟩ := h 4 (by omega)
  obtain ⟨x5, h5⟩ := h 5 (by omega)
  match l, hl with
  | [a, b, c, d, e, f], _ =>
    simp only [List.getElem?_cons_zero, List.getElem?_cons_succ, Option.some.injEq] at h0 h1 h2 h3 h4 h5
    subst h0 h1 h2 h3 h4 h5
    exact ⟨x0, x1, x2, x3, x4, x5, rfl⟩

end Go.Proofs.Ytibgejmffinliaa
