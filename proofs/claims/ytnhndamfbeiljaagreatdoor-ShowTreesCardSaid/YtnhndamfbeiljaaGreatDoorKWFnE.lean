/-
  What writes a node: expr.
-/
import Derived.Test.YtnhndamfbeiljaaGreatDoorGSwE
import Derived.Test.YtnhndamfbeiljaaGreatDoorKWFnE3
import Derived.Test.YtnhndamfbeiljaaGreatDoorKWFnE5
import Derived.Test.YtnhndamfbeiljaaGreatDoorKWFnE4
import Derived.Deep.RegionHeld3
namespace Go.Proofs.YtnhndamfbeiljaaGreatDoor
open Go Go.RowKit
set_option linter.unusedVariables false
set_option linter.unusedSimpArgs false
namespace Sw
theorem exprN {w0 : World} (htab : Lib.TabIs Tryz.prog w0 "internal/strconv.uint64pow10" .u64 Lib.pow10Tab) (f : Nat) {B : Nat} {w : World} {T : List UInt8} {S : List Nd} (u : Value) (x : Px.Expr) (hx : ExprG f w0 u x) (h : St w0 B w T S) (hs : Small T S (step (.expr f x))) :
    Calls Tryz.prog 34 #[.pointer (some ⟨B, 0, none⟩), u] w (Did w0 B T S (step (.expr f x))) := by
  obtain ⟨hx, hok⟩ := hx
  cases f with
  | zero => exact hx.elim
  | succ f =>
    obtain ⟨k, p, nm, i, ns, xs, al⟩ := x
    obtain ⟨nv, xv, av, rfl, h4, h5, h6⟩ := hx
    obtain ⟨q4, c4, rfl⟩ := h4.len
    obtain ⟨q5, c5, rfl⟩ := h5.len
    obtain ⟨q6, c6, rfl⟩ := h6.len
    obtain ⟨hi, hlet, hxs, hal⟩ := hok
    simp only [step] at hs ⊢
    replace h4 : RowAt 1 StrIs w0 (.slice q4 ns.length c4) ns := h4
    replace h5 : RowAt 7 (ExprG f w0) w0 (.slice q5 xs.length c5) xs := h5.mono (Below.refl _ _) fun u x hm hu => ⟨hu, hxs x hm⟩
    replace h6 : RowAt 12 (AltG f w0) w0 (.slice q6 al.length c6) al := h6.mono (Below.refl _ _) fun u x hm hu => ⟨hu, hal x hm⟩
    by_cases k0 : k = 0
    · rw [if_pos k0] at hs ⊢; subst k0
      exact expr0N htab f p nm i ns xs al q4 q5 q6 c4 c5 c6 h4 h5 h6 h (hi rfl) hs
    rw [if_neg k0] at hs ⊢
    by_cases k3 : k = 3
    · rw [if_pos k3] at hs ⊢; subst k3
      exact expr3N htab f p nm i ns xs al q4 q5 q6 c4 c5 c6 h4 h5 h6 h hs
    rw [if_neg k3] at hs ⊢
    by_cases k4 : k = 4
    · rw [if_pos k4] at hs ⊢; subst k4
      exact expr4N htab f p nm i ns xs al q4 q5 q6 c4 c5 c6 h4 h5 h6 h (hlet rfl) _ _ rfl rfl hs
    rw [if_neg k4] at hs ⊢
    by_cases k5 : k = 5
    · rw [if_pos k5] at hs ⊢; subst k5
      exact expr5N htab f p nm i ns xs al q4 q5 q6 c4 c5 c6 h4 h5 h6 h hs
    rw [if_neg k5] at hs ⊢
    by_cases k6 : k = 6
    · rw [if_pos k6] at hs ⊢; subst k6
      exact expr6N htab f p nm i ns xs al q4 q5 q6 c4 c5 c6 h4 h5 h6 h hs
    rw [if_neg k6] at hs ⊢
    by_cases k8 : k = 8
    · rw [if_pos k8] at hs ⊢; subst k8
      exact expr8N htab f p nm i ns xs al q4 q5 q6 c4 c5 c6 h4 h5 h6 h hs
    rw [if_neg k8] at hs ⊢
    exact exprdN htab f p nm i ns xs al q4 q5 q6 c4 c5 c6 h4 h5 h6 h k k0 k3 k4 k5 k6 k8 hs
end Sw
end Go.Proofs.YtnhndamfbeiljaaGreatDoor
