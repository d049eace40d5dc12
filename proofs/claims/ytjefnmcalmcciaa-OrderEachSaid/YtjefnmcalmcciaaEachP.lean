/-
  OrderEach: the map from things to groups; what holds of groups.
-/
import Derived.Test.YtjefnmcalmcciaaSmall
import Derived.Maps.Own
import Derived.Maps.OwnOps
import Derived.Maps.OwnSet
import Derived.Maps.Views
namespace Go.Proofs.Ytjefnmcalmcciaa
open Go Go.RowKit
set_option linter.unusedVariables false
set_option linter.unusedSimpArgs false

namespace Gr
section
variable {g L : List (List Nat)}
theorem Part.uniqAt (hg : Good g) (h : Part g L) {p q : Nat} {l m : List Nat} {x : Nat} (hp : L[p]? = some l) (hq : L[q]? = some m) (hx : x ∈ l) (hy : x ∈ m) : p = q := by
  have key : ∀ {p q : Nat} {l m : List Nat}, L[p]? = some l → L[q]? = some m → x ∈ l → x ∈ m → ¬ p < q := by
    intro p q l m hp hq hx hy hlt
    obtain ⟨i, hi, rfl⟩ := h q m hq
    refine hi.2.1 ((h.prefix' q).mut hg (List.mem_flatten.2 ⟨l, List.mem_iff_getElem?.2 ⟨p, ?_⟩, hx⟩) (mem_grp.1 hy).2.symm)
    rw [List.getElem?_take, if_pos hlt]; exact hp
  have h1 := key hp hq hx hy
  have h2 := key hq hp hy hx
  omega
/-- What a thing hangs on is in its group, or in one ahead. -/
theorem Part.ahead (hg : Good g) (h : Part g L) {p q : Nat} {l m : List Nat} {i k : Nat} (hp : L[p]? = some l) (hq : L[q]? = some m) (hi : i ∈ l) (hk : k ∈ m) (hh : Hang g i k) : q ≤ p := by
  have h1 := h.closed hg hp hi hh
  obtain ⟨l2, h2, h3⟩ := List.mem_flatten.1 h1
  obtain ⟨r, hr⟩ := List.mem_iff_getElem?.1 h2
  rw [List.getElem?_take] at hr
  by_cases hrp : r < p + 1
  · rw [if_pos hrp] at hr
    have := h.uniqAt hg hq hr hk h3
    omega
  · rw [if_neg hrp] at hr; cases hr
theorem IsGroups.total (hg : Good g) (h : IsGroups g L) : L.flatten.length = g.length := by
  have hn := h.1.nodup hg L.length (Nat.le_refl _)
  rw [List.take_length] at hn
  have hp : L.flatten.Perm (List.range g.length) := (List.perm_ext_iff_of_nodup hn List.nodup_range).2 fun a => ⟨fun ha => List.mem_range.2 (h.1.lt ha), fun ha => h.2 a (List.mem_range.1 ha)⟩
  rw [hp.length_eq, List.length_range]
end
end Gr

structure MapOf (D : DataW Unit) (L : List (List Nat)) (ks : List Nat) : Prop where
  tidy : Maps.Tidy D
  has : ∀ x : Nat, Maps.has D (.int .i64 (x : Int)) = decide (x ∈ ks)
  at' : ∀ x ∈ ks, ∃ (p : Nat) (l : List Nat), L[p]? = some l ∧ x ∈ l ∧ D.atKey (.int .i64 (x : Int)) (.lit (.int .i64 0)) = .lit (.int .i64 (p : Int))
  size : Maps.size D = ks.length
theorem MapOf.nil (L : List (List Nat)) : MapOf (.map []) L [] := ⟨Maps.tidy_empty, (fun x => rfl), (fun x h => by cases h), rfl⟩
theorem lit_ne {x y : Nat} (h : x ≠ y) : (Lit.int .i64 (x : Int)) ≠ .int .i64 (y : Int) := fun e => by
  injection e with _ e
  omega
theorem MapOf.put {D : DataW Unit} {L : List (List Nat)} {ks : List Nat} (h : MapOf D L ks) {x p : Nat} {l : List Nat} (hx : x ∉ ks) (hp : L[p]? = some l) (hl : x ∈ l) : MapOf (D.put (.int .i64 (x : Int)) (.lit (.int .i64 (p : Int)))) L (ks ++ [x]) := by
  have hk : WideAt.IsKeyLit (Lit.int .i64 (x : Int)) := trivial
  refine ⟨h.tidy.put hk _, fun y => ?_, fun y hy => ?_, ?_⟩
  · by_cases e : y = x
    · subst e; rw [Maps.has_put_same h.tidy.isMap hk]; simp
    · rw [Maps.has_put_other (lit_ne e), h.has y]; simp [e]
  · by_cases e : y = x
    · subst e
      exact ⟨p, l, hp, hl, Maps.atKey_put_same h.tidy.isMap hk _ _⟩
    · rcases List.mem_append.1 hy with hy | hy
      · obtain ⟨q, m, h1, h2, h3⟩ := h.at' y hy
        exact ⟨q, m, h1, h2, by rw [Maps.atKey_put_other (lit_ne e)]; exact h3⟩
      · exact absurd (List.mem_singleton.1 hy) e
  · rw [Maps.size_put h.tidy, h.has x, h.size]; simp [hx]
end Go.Proofs.Ytjefnmcalmcciaa
