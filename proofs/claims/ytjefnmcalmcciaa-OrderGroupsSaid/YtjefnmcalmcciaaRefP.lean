/-
  The document's answer: who reaches whom, step by step. No project text.
-/
import Derived.Test.YtjefnmcalmcciaaGr
namespace Go.Proofs.Ytjefnmcalmcciaa
namespace Gr
set_option linter.unusedVariables false
set_option linter.unusedSimpArgs false

/-- One reaches another one by way of things less than m alone. -/
def By (g : List (List Nat)) : Nat → Nat → Nat → Prop
  | 0, i, j => Hang g i j
  | m + 1, i, j => By g m i j ∨ (By g m i m ∧ By g m m j)
theorem By.up {g : List (List Nat)} {i j : Nat} : ∀ {m k : Nat}, m ≤ k → By g m i j → By g k i j := by
  intro m k hk h
  induction hk with
  | refl => exact h
  | step _ ih => exact .inl ih
theorem By.reach {g : List (List Nat)} : ∀ {m i j : Nat}, By g m i j → Reach g i j := by
  intro m
  induction m with
  | zero => intro i j h; exact .one h
  | succ m ih =>
    intro i j h
    rcases h with h | ⟨h1, h2⟩
    · exact ih h
    · exact (ih h1).trans (ih h2)
theorem By.trans {g : List (List Nat)} : ∀ {m x i j : Nat}, x < m → By g m i x → By g m x j → By g m i j := by
  intro m
  induction m with
  | zero => intro x i j hx; exact absurd hx (Nat.not_lt_zero _)
  | succ m ih =>
    intro x i j hx h1 h2
    by_cases e : x = m
    · subst e
      have h1' : By g x i x := by rcases h1 with h | ⟨h, _⟩ <;> exact h
      have h2' : By g x x j := by rcases h2 with h | ⟨_, h⟩ <;> exact h
      exact .inr ⟨h1', h2'⟩
    · have hx' : x < m := by omega
      rcases h1 with h1 | ⟨h1, h1'⟩
      · rcases h2 with h2 | ⟨h2, h2'⟩
        · exact .inl (ih hx' h1 h2)
        · exact .inr ⟨ih hx' h1 h2, h2'⟩
      · rcases h2 with h2 | ⟨h2, h2'⟩
        · exact .inr ⟨h1, ih hx' h1' h2⟩
        · exact .inr ⟨h1, h2'⟩
theorem Reach.by {g : List (List Nat)} (hg : Good g) {i j : Nat} (h : Reach g i j) : By g g.length i j := by
  induction h with
  | one h => exact By.up (Nat.zero_le _) h
  | step h _ ih => exact By.trans (hg.hang h).2 (By.up (Nat.zero_le _) h) ih

/-- What is told so far: all of it is so; and what goes by way of things less than m (for those less than i: or by way of m; for i and less than k too) is told. -/
structure Told (g : List (List Nat)) (m i k : Nat) (R : Nat → Nat → Bool) : Prop where
  sound : ∀ a b, a < g.length → b < g.length → R a b = true → Reach g a b
  full : ∀ a b, a < g.length → b < g.length → By g m a b → R a b = true
  more : ∀ a b, a < g.length → b < g.length → (a < i ∨ (a = i ∧ b < k)) → By g (m + 1) a b → R a b = true
theorem Told.skip {g : List (List Nat)} {m i : Nat} {R : Nat → Nat → Bool} (h : Told g m i 0 R) (hm : m < g.length) (hi : i < g.length) (hn : R i m = false) : Told g m (i + 1) 0 R := by
  refine ⟨h.sound, h.full, fun a b ha hb hab hby => ?_⟩
  by_cases e : a = i
  · subst e
    rcases hby with h1 | ⟨h1, _⟩
    · exact h.full a b ha hb h1
    · have := h.full a m ha hm h1; rw [hn] at this; cases this
  · exact h.more a b ha hb (.inl (by omega)) hby
theorem Told.pass {g : List (List Nat)} {m i k : Nat} {R : Nat → Nat → Bool} (h : Told g m i k R) (hm : m < g.length) (hn : R m k = false) : Told g m i (k + 1) R := by
  refine ⟨h.sound, h.full, fun a b ha hb hab hby => ?_⟩
  by_cases e : a = i ∧ b = k
  · obtain ⟨rfl, rfl⟩ := e
    rcases hby with h1 | ⟨_, h1⟩
    · exact h.full a b ha hb h1
    · have := h.full m b hm hb h1; rw [hn] at this; cases this
  · exact h.more a b ha hb (by omega) hby
def upd2 (R : Nat → Nat → Bool) (i k : Nat) : Nat → Nat → Bool := fun a b => R a b || (decide (a = i) && decide (b = k))
theorem upd2_true {R : Nat → Nat → Bool} {i k a b : Nat} : upd2 R i k a b = true ↔ R a b = true ∨ (a = i ∧ b = k) := by unfold upd2; simp
theorem Told.put {g : List (List Nat)} {m i k : Nat} {R : Nat → Nat → Bool} (h : Told g m i k R) (hm : m < g.length) (hi : i < g.length) (hk : k < g.length) (h1 : R i m = true) (h2 : R m k = true) : Told g m i (k + 1) (upd2 R i k) := by
  refine ⟨fun a b ha hb hr => ?_, fun a b ha hb hby => upd2_true.2 (.inl (h.full a b ha hb hby)), fun a b ha hb hab hby => ?_⟩
  · rcases upd2_true.1 hr with h3 | ⟨rfl, rfl⟩
    · exact h.sound a b ha hb h3
    · exact (h.sound a m hi hm h1).trans (h.sound m b hm hk h2)
  · by_cases e : a = i ∧ b = k
    · exact upd2_true.2 (.inr e)
    · exact upd2_true.2 (.inl (h.more a b ha hb (by omega) hby))
theorem Told.row {g : List (List Nat)} {m i : Nat} {R : Nat → Nat → Bool} (h : Told g m i g.length R) : Told g m (i + 1) 0 R :=
  ⟨h.sound, h.full, fun a b ha hb hab hby => h.more a b ha hb (by omega) hby⟩
theorem Told.all {g : List (List Nat)} {m : Nat} {R : Nat → Nat → Bool} (h : Told g m g.length 0 R) : Told g (m + 1) 0 0 R :=
  ⟨h.sound, fun a b ha hb hby => h.more a b ha hb (.inl ha) hby, fun a b ha hb hab _ => by omega⟩
theorem Told.done {g : List (List Nat)} (hg : Good g) {R : Nat → Nat → Bool} (h : Told g g.length 0 0 R) {a b : Nat} (ha : a < g.length) (hb : b < g.length) : R a b = true ↔ Reach g a b :=
  ⟨h.sound a b ha hb, fun hr => h.full a b ha hb (hr.by hg)⟩

/-- Groups as the document's answer finds them. -/
theorem grp_cut {g : List (List Nat)} {R : Nat → Nat → Bool} (hR : ∀ a b, a < g.length → b < g.length → (R a b = true ↔ Reach g a b)) {i : Nat} (hi : i < g.length) :
    ((List.range g.length).filter fun k => decide (k = i) || (R i k && R k i)) = grp g i := by
  unfold grp
  refine List.filter_congr fun k hk => ?_
  have hk' := List.mem_range.1 hk
  have h1 := hR i k hi hk'; have h2 := hR k i hk' hi
  have key : (decide (k = i) || (R i k && R k i)) = true ↔ dec (Mut g i k) = true := by
    rw [dec_iff]
    unfold Mut
    simp only [Bool.or_eq_true, decide_eq_true_eq, Bool.and_eq_true, h1, h2]
    constructor
    · rintro (h | h)
      · exact .inl h.symm
      · exact .inr h
    · rintro (h | h)
      · exact .inl h.symm
      · exact .inr h
  exact Bool.eq_iff_iff.2 key
end Gr
end Go.Proofs.Ytjefnmcalmcciaa
