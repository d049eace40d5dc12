/-
  Things that hang on each other: which reach which, groups, and the order in which they come. No project text.
-/
namespace Go.Proofs.Ytjefnmcalmcciaa
namespace Gr
set_option linter.unusedVariables false
set_option linter.unusedSimpArgs false

/-- One hangs on another. -/
def Hang (g : List (List Nat)) (i j : Nat) : Prop := ∃ l, g[i]? = some l ∧ j ∈ l
inductive Reach (g : List (List Nat)) : Nat → Nat → Prop
  | one {i j : Nat} : Hang g i j → Reach g i j
  | step {i j k : Nat} : Hang g i j → Reach g j k → Reach g i k
theorem Reach.trans {g : List (List Nat)} {i j k : Nat} (h : Reach g i j) (h2 : Reach g j k) : Reach g i k := by
  induction h with
  | one h => exact .step h h2
  | step h _ ih => exact .step h (ih h2)
def Good (g : List (List Nat)) : Prop := ∀ l ∈ g, ∀ j ∈ l, j < g.length
theorem Good.hang {g : List (List Nat)} (hg : Good g) {i j : Nat} (h : Hang g i j) : i < g.length ∧ j < g.length := by
  obtain ⟨l, hl, hj⟩ := h
  exact ⟨(List.getElem?_eq_some_iff.1 hl).1, hg l (List.mem_of_getElem? hl) j hj⟩
theorem Good.reach {g : List (List Nat)} (hg : Good g) {i j : Nat} (h : Reach g i j) : i < g.length ∧ j < g.length := by
  induction h with
  | one h => exact hg.hang h
  | step h _ ih => exact ⟨(hg.hang h).1, ih.2⟩
/-- One is another one, or reaches it. -/
def Star (g : List (List Nat)) (i j : Nat) : Prop := i = j ∨ Reach g i j
theorem Star.refl (g : List (List Nat)) (i : Nat) : Star g i i := .inl rfl
theorem Star.trans {g : List (List Nat)} {i j k : Nat} (h : Star g i j) (h2 : Star g j k) : Star g i k := by
  rcases h with rfl | h
  · exact h2
  · rcases h2 with rfl | h2
    · exact .inr h
    · exact .inr (h.trans h2)
theorem Star.one {g : List (List Nat)} {i j : Nat} (h : Hang g i j) : Star g i j := .inr (.one h)
def Mut (g : List (List Nat)) (i j : Nat) : Prop := i = j ∨ (Reach g i j ∧ Reach g j i)
theorem Mut.refl (g : List (List Nat)) (i : Nat) : Mut g i i := .inl rfl
theorem Mut.symm {g : List (List Nat)} {i j : Nat} (h : Mut g i j) : Mut g j i := by
  rcases h with rfl | h
  · exact .inl rfl
  · exact .inr ⟨h.2, h.1⟩
theorem Mut.trans {g : List (List Nat)} {i j k : Nat} (h : Mut g i j) (h2 : Mut g j k) : Mut g i k := by
  rcases h with rfl | h
  · exact h2
  · rcases h2 with rfl | h2
    · exact .inr h
    · exact .inr ⟨h.1.trans h2.1, h2.2.trans h.2⟩
theorem mut_star {g : List (List Nat)} {i j : Nat} : Mut g i j ↔ Star g i j ∧ Star g j i := by
  constructor
  · rintro (rfl | ⟨h1, h2⟩)
    · exact ⟨.inl rfl, .inl rfl⟩
    · exact ⟨.inr h1, .inr h2⟩
  · rintro ⟨h1, h2⟩
    rcases h1 with rfl | h1
    · exact .inl rfl
    · rcases h2 with rfl | h2
      · exact .inl rfl
      · exact .inr ⟨h1, h2⟩
theorem Mut.lt {g : List (List Nat)} (hg : Good g) {i j : Nat} (h : Mut g i j) (hi : i < g.length) : j < g.length := by
  rcases h with rfl | h
  · exact hi
  · exact (hg.reach h.1).2
theorem Mut.reach {g : List (List Nat)} {i j k : Nat} (h : Mut g i j) (h2 : Reach g j k) : Reach g i k := by
  rcases h with rfl | h
  · exact h2
  · exact h.1.trans h2
theorem reach_mut {g : List (List Nat)} {i j k : Nat} (h : Reach g i j) (h2 : Mut g j k) : Reach g i k := by
  rcases h2 with rfl | h2
  · exact h
  · exact h.trans h2.1

noncomputable def dec (p : Prop) : Bool := @decide p (Classical.propDecidable p)
theorem dec_iff (p : Prop) : dec p = true ↔ p := by unfold dec; exact @decide_eq_true_iff p (Classical.propDecidable p)
/-- A thing's group; its things rise. -/
noncomputable def grp (g : List (List Nat)) (i : Nat) : List Nat := (List.range g.length).filter fun k => dec (Mut g i k)
theorem mem_grp {g : List (List Nat)} {i k : Nat} : k ∈ grp g i ↔ k < g.length ∧ Mut g i k := by
  unfold grp; rw [List.mem_filter, List.mem_range, dec_iff]
theorem grp_congr {g g' : List (List Nat)} {i i' : Nat} (hl : g.length = g'.length) (h : ∀ k, k < g.length → (Mut g i k ↔ Mut g' i' k)) : grp g i = grp g' i' := by
  unfold grp; rw [← hl]
  apply List.filter_congr
  intro k hk
  have := h k (List.mem_range.1 hk)
  rw [Bool.eq_iff_iff, dec_iff, dec_iff]; exact this
theorem grp_mut {g : List (List Nat)} {i j : Nat} (h : Mut g i j) : grp g i = grp g j :=
  grp_congr rfl fun k _ => ⟨fun h2 => h.symm.trans h2, fun h2 => h.trans h2⟩
theorem grp_nodup (g : List (List Nat)) (i : Nat) : (grp g i).Nodup := by unfold grp; exact List.Pairwise.filter _ List.nodup_range

def Ready (g : List (List Nat)) (D : List Nat) (i : Nat) : Prop := ∀ k, Reach g i k → Mut g i k ∨ k ∈ D
/-- The thing whose group comes next. -/
def Next (g : List (List Nat)) (D : List Nat) (i : Nat) : Prop := i < g.length ∧ i ∉ D ∧ Ready g D i ∧ ∀ j, j < i → j ∉ D → ¬ Ready g D j
theorem Next.uniq {g : List (List Nat)} {D : List Nat} {i j : Nat} (hi : Next g D i) (hj : Next g D j) : i = j := by
  rcases Nat.lt_trichotomy i j with h | h | h
  · exact absurd hi.2.2.1 (hj.2.2.2 i h hi.2.1)
  · exact h
  · exact absurd hj.2.2.1 (hi.2.2.2 j h hj.2.1)

/-- Groups that came, one after the other. -/
def Part (g : List (List Nat)) (L : List (List Nat)) : Prop := ∀ p l, L[p]? = some l → ∃ i, Next g (L.take p).flatten i ∧ l = grp g i
def IsGroups (g : List (List Nat)) (L : List (List Nat)) : Prop := Part g L ∧ ∀ i, i < g.length → i ∈ L.flatten
theorem Part.nil (g : List (List Nat)) : Part g [] := fun p l h => by simp at h
theorem Part.snoc {g : List (List Nat)} {L : List (List Nat)} (h : Part g L) {i : Nat} (hi : Next g L.flatten i) : Part g (L ++ [grp g i]) := by
  intro p l hl
  by_cases hp : p < L.length
  · rw [List.getElem?_append_left hp] at hl
    rw [List.take_append_of_le_length (by omega)]
    exact h p l hl
  · have hpl : p < (L ++ [grp g i]).length := (List.getElem?_eq_some_iff.1 hl).1
    have hp2 : p = L.length := by simp at hpl; omega
    subst hp2
    simp at hl
    subst hl
    exact ⟨i, by simpa using hi, rfl⟩
theorem Part.take {g : List (List Nat)} {L L' : List (List Nat)} (h : Part g L) (h' : Part g L') : ∀ p, p ≤ L.length → p ≤ L'.length → L.take p = L'.take p := by
  intro p
  induction p with
  | zero => intros; simp
  | succ p ih =>
    intro h1 h2
    have hp := ih (by omega) (by omega)
    rw [List.take_succ_eq_append_getElem (by omega), List.take_succ_eq_append_getElem (by omega), hp]
    obtain ⟨i, hi, e1⟩ := h p _ (List.getElem?_eq_getElem (by omega : p < L.length))
    obtain ⟨j, hj, e2⟩ := h' p _ (List.getElem?_eq_getElem (by omega : p < L'.length))
    rw [e1, e2]
    rw [hp] at hi
    rw [hi.uniq hj]
theorem IsGroups.uniq {g : List (List Nat)} {L L' : List (List Nat)} (h : IsGroups g L) (h' : IsGroups g L') : L = L' := by
  have key : ∀ {L L' : List (List Nat)}, IsGroups g L → IsGroups g L' → L'.length ≤ L.length := by
    intro L L' h h'
    rcases Nat.lt_or_ge L.length L'.length with hlt | hge
    · obtain ⟨i, hi, _⟩ := h'.1 L.length _ (List.getElem?_eq_getElem hlt)
      have e := h.1.take h'.1 L.length (Nat.le_refl _) (by omega)
      rw [← e, List.take_length] at hi
      exact absurd (h.2 i hi.1) hi.2.1
    · exact hge
  have e1 := key h h'; have e2 := key h' h
  have e := h.1.take h'.1 L.length (Nat.le_refl _) (by omega)
  rw [List.take_length] at e
  rw [e, List.take_of_length_le (by omega)]

section
variable {g : List (List Nat)} {L : List (List Nat)}
theorem Part.prefix' (h : Part g L) (p : Nat) : Part g (L.take p) := by
  intro q l hq
  have hql : q < (L.take p).length := (List.getElem?_eq_some_iff.1 hq).1
  have hqp : q < p := by rw [List.length_take] at hql; omega
  rw [List.getElem?_take, if_pos hqp] at hq
  obtain ⟨i, hi, e⟩ := h q l hq
  refine ⟨i, ?_, e⟩
  rw [List.take_take, Nat.min_eq_left (by omega)]; exact hi
theorem Part.lt (h : Part g L) {k : Nat} (hk : k ∈ L.flatten) : k < g.length := by
  obtain ⟨l, hl, hkl⟩ := List.mem_flatten.1 hk
  obtain ⟨p, hp⟩ := List.mem_iff_getElem?.1 hl
  obtain ⟨i, _, rfl⟩ := h p l hp
  exact (mem_grp.1 hkl).1
theorem Part.mut (hg : Good g) (h : Part g L) {j k : Nat} (hk : j ∈ L.flatten) (hm : Mut g j k) : k ∈ L.flatten := by
  obtain ⟨l, hl, hkl⟩ := List.mem_flatten.1 hk
  obtain ⟨p, hp⟩ := List.mem_iff_getElem?.1 hl
  obtain ⟨i, hi, rfl⟩ := h p l hp
  refine List.mem_flatten.2 ⟨_, hl, ?_⟩
  have := mem_grp.1 hkl
  exact mem_grp.2 ⟨hm.lt hg this.1, this.2.trans hm⟩
/-- What came is closed. -/
theorem Part.closed (hg : Good g) (h : Part g L) {p : Nat} {l : List Nat} (hp : L[p]? = some l) {j k : Nat} (hj : j ∈ l) (hk : Hang g j k) : k ∈ (L.take (p + 1)).flatten := by
  obtain ⟨i, hi, rfl⟩ := h p l hp
  have hpl := (List.getElem?_eq_some_iff.1 hp).1
  have hij := mem_grp.1 hj
  have hr : Reach g i k := hij.2.reach (.one hk)
  rw [List.take_succ_eq_append_getElem hpl, List.flatten_append]
  have e : L[p] = grp g i := by rw [List.getElem?_eq_getElem hpl] at hp; exact Option.some.inj hp
  rw [e]
  rcases hi.2.2.1 k hr with h1 | h1
  · exact List.mem_append.2 (.inr (by simpa using mem_grp.2 ⟨(hg.hang hk).2, h1⟩))
  · exact List.mem_append.2 (.inl h1)
theorem Part.closed' (hg : Good g) (h : Part g L) {j k : Nat} (hj : j ∈ L.flatten) (hk : Hang g j k) : k ∈ L.flatten := by
  obtain ⟨l, hl, hkl⟩ := List.mem_flatten.1 hj
  obtain ⟨p, hp⟩ := List.mem_iff_getElem?.1 hl
  obtain ⟨l2, h2, h3⟩ := List.mem_flatten.1 (h.closed hg hp hkl hk)
  exact List.mem_flatten.2 ⟨l2, List.mem_of_mem_take h2, h3⟩
/-- Each thing comes once. -/
theorem Part.nodup (hg : Good g) (h : Part g L) : ∀ p, p ≤ L.length → (L.take p).flatten.Nodup := by
  intro p
  induction p with
  | zero => intro _; simp
  | succ p ih =>
    intro hp
    rw [List.take_succ_eq_append_getElem (by omega), List.flatten_append]
    obtain ⟨i, hi, e⟩ := h p _ (List.getElem?_eq_getElem (by omega : p < L.length))
    rw [e]
    simp only [List.flatten_cons, List.flatten_nil, List.append_nil]
    rw [List.nodup_append]
    refine ⟨ih (by omega), grp_nodup g i, fun a ha b hb hab => ?_⟩
    subst hab
    exact hi.2.1 ((h.prefix' p).mut hg ha (mem_grp.1 hb).2.symm)
/-- While not all came, one may come. -/
theorem exists_next (hg : Good g) (h : Part g L) {i : Nat} (hi : i < g.length) (hn : i ∉ L.flatten) : ∃ j, j < g.length ∧ j ∉ L.flatten ∧ Ready g L.flatten j := by
  classical
  -- by the number of things that are reached
  have key : ∀ m i, ((List.range g.length).filter fun k => decide (Star g i k)).length = m → i < g.length → i ∉ L.flatten → ∃ j, j < g.length ∧ j ∉ L.flatten ∧ Ready g L.flatten j := by
    intro m
    induction m using Nat.strongRecOn with
    | _ m ih =>
      intro i hm hi hn
      by_cases hr : Ready g L.flatten i
      · exact ⟨i, hi, hn, hr⟩
      · obtain ⟨k, hk⟩ : ∃ k, ¬ (Reach g i k → Mut g i k ∨ k ∈ L.flatten) := by
          refine Classical.byContradiction fun hc => hr fun k => ?_
          exact Classical.byContradiction fun hc2 => hc ⟨k, hc2⟩
        have hk1 : Reach g i k := Classical.byContradiction fun hc => hk fun h => absurd h hc
        have hk2 : ¬ Mut g i k := fun hc => hk fun _ => .inl hc
        have hk3 : k ∉ L.flatten := fun hc => hk fun _ => .inr hc
        refine ih _ ?_ k rfl (hg.reach hk1).2 hk3
        rw [← hm]
        have hsub : ∀ x, Star g k x → Star g i x := fun x hx => Star.trans (.inr hk1) hx
        have hnot : ¬ Star g k i := fun hc => hk2 (mut_star.2 ⟨.inr hk1, hc⟩)
        have e : ((List.range g.length).filter fun x => decide (Star g k x)) = (((List.range g.length).filter fun x => decide (Star g i x)).filter fun x => decide (Star g k x)) := by
          rw [List.filter_filter]
          apply List.filter_congr
          intro x _
          by_cases hx : Star g k x
          · have := hsub x hx; simp [hx, this]
          · simp [hx]
        rw [e]
        refine List.length_filter_lt_length_iff_exists.2 ⟨i, List.mem_filter.2 ⟨List.mem_range.2 hi, by simp [Star.refl]⟩, by simp [hnot]⟩
  exact key _ i rfl hi hn
end
end Gr
end Go.Proofs.Ytjefnmcalmcciaa
