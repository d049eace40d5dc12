/-
  Rings, lines, one thing more, and all turned round: their groups. No project text.
-/
import Derived.Test.YtjefnmcalmcciaaGr
namespace Go.Proofs.Ytjefnmcalmcciaa
namespace Gr
set_option linter.unusedVariables false
set_option linter.unusedSimpArgs false

def ringG (k : Nat) : List (List Nat) := (List.range k).map fun i => [(i + 1) % k]
theorem ring_len (k : Nat) : (ringG k).length = k := by simp [ringG]
theorem ring_hang {k i j : Nat} : Hang (ringG k) i j ↔ i < k ∧ j = (i + 1) % k := by
  unfold Hang ringG
  constructor
  · rintro ⟨l, hl, hj⟩
    have hi : i < k := by have := (List.getElem?_eq_some_iff.1 hl).1; simpa using this
    rw [List.getElem?_map, List.getElem?_range hi] at hl
    obtain rfl := Option.some.inj hl
    exact ⟨hi, List.mem_singleton.1 hj⟩
  · rintro ⟨hi, rfl⟩
    exact ⟨[(i + 1) % k], by rw [List.getElem?_map, List.getElem?_range hi]; rfl, List.mem_singleton.2 rfl⟩
theorem ring_good (k : Nat) : Good (ringG k) := by
  intro l hl j hj
  obtain ⟨i, hi, rfl⟩ := List.mem_map.1 hl
  rw [List.mem_singleton.1 hj, ring_len]
  have := List.mem_range.1 hi
  exact Nat.mod_lt _ (by omega)
theorem ring_down {k : Nat} : ∀ d i, i + d + 1 = k → Star (ringG k) i 0 := by
  intro d
  induction d with
  | zero => intro i h; exact .one (ring_hang.2 ⟨by omega, by rw [show i + 1 = k by omega, Nat.mod_self]⟩)
  | succ d ih =>
    intro i h
    exact (Star.one (ring_hang.2 ⟨by omega, by rw [Nat.mod_eq_of_lt (by omega)]⟩)).trans (ih (i + 1) (by omega))
theorem ring_up {k : Nat} : ∀ j, j < k → Star (ringG k) 0 j := by
  intro j
  induction j with
  | zero => intro _; exact .refl _ _
  | succ j ih => intro h; exact (ih (by omega)).trans (.one (ring_hang.2 ⟨by omega, by rw [Nat.mod_eq_of_lt (by omega)]⟩))
theorem ring_star {k i j : Nat} (hi : i < k) (hj : j < k) : Star (ringG k) i j := (ring_down (k - 1 - i) i (by omega)).trans (ring_up j hj)
theorem ring_groups {k : Nat} (hk : 0 < k) : IsGroups (ringG k) [List.range k] := by
  have hm : ∀ j, j < k → Mut (ringG k) 0 j := fun j hj => mut_star.2 ⟨ring_star hk hj, ring_star hj hk⟩
  have hg : grp (ringG k) 0 = List.range k := by
    unfold grp
    rw [ring_len, List.filter_eq_self]
    intro a ha
    exact (dec_iff _).2 (hm a (List.mem_range.1 ha))
  refine ⟨?_, fun i hi => ?_⟩
  · have h := Part.snoc (Part.nil (ringG k)) (i := 0) ⟨by rw [ring_len]; omega, by simp, fun j hj => .inl (hm j (by have := ((ring_good k).reach hj).2; rw [ring_len] at this; exact this)), fun j hj => absurd hj (Nat.not_lt_zero _)⟩
    rw [hg] at h
    exact h
  · rw [ring_len] at hi
    simpa using hi

def lineG (k : Nat) : List (List Nat) := (List.range k).map fun i => if i + 1 < k then [i + 1] else []
theorem line_len (k : Nat) : (lineG k).length = k := by simp [lineG]
theorem line_hang {k i j : Nat} : Hang (lineG k) i j ↔ j = i + 1 ∧ j < k := by
  unfold Hang lineG
  constructor
  · rintro ⟨l, hl, hj⟩
    have hi : i < k := by have := (List.getElem?_eq_some_iff.1 hl).1; simpa using this
    rw [List.getElem?_map, List.getElem?_range hi] at hl
    obtain rfl := Option.some.inj hl
    replace hj : j ∈ (if i + 1 < k then [i + 1] else []) := hj
    by_cases h : i + 1 < k
    · rw [if_pos h] at hj
      obtain rfl := List.mem_singleton.1 hj
      exact ⟨rfl, h⟩
    · rw [if_neg h] at hj; cases hj
  · rintro ⟨rfl, hi⟩
    exact ⟨[i + 1], by rw [List.getElem?_map, List.getElem?_range (by omega : i < k)]; simp only [Option.map_some, if_pos hi], List.mem_singleton.2 rfl⟩
theorem line_reach {k i j : Nat} (h : Reach (lineG k) i j) : i < j ∧ j < k := by
  induction h with
  | one h => have := line_hang.1 h; omega
  | step h _ ih => have := line_hang.1 h; omega
theorem line_mut {k i j : Nat} : Mut (lineG k) i j ↔ i = j := by
  constructor
  · rintro (h | ⟨h1, h2⟩)
    · exact h
    · have := line_reach h1; have := line_reach h2; omega
  · rintro rfl; exact .refl _ _
theorem line_grp {k i : Nat} (hi : i < k) : grp (lineG k) i = [i] := by
  have h1 : ∀ m, ((List.range m).filter fun x => dec (Mut (lineG k) i x)) = if i < m then [i] else [] := by
    intro m
    induction m with
    | zero => rfl
    | succ m ih =>
      rw [List.range_succ, List.filter_append, ih]
      by_cases e : i = m
      · subst e
        rw [if_neg (Nat.lt_irrefl _), if_pos (Nat.lt_succ_self _), List.filter_cons_of_pos (p := fun x => dec (Mut (lineG k) i x)) ((dec_iff _).2 (Mut.refl _ _))]; rfl
      · rw [List.filter_cons_of_neg (p := fun x => dec (Mut (lineG k) i x)) (fun h => e (line_mut.1 ((dec_iff _).1 h)))]
        by_cases h : i < m
        · rw [if_pos h, if_pos (by omega)]; rfl
        · rw [if_neg h, if_neg (by omega)]; rfl
  unfold grp
  rw [line_len, h1, if_pos hi]
def lineL (k : Nat) : List (List Nat) := (List.range k).map fun p => [k - 1 - p]
theorem lineL_mem {k p : Nat} (hp : p ≤ k) (x : Nat) : x ∈ ((lineL k).take p).flatten ↔ k - p ≤ x ∧ x < k := by
  unfold lineL
  rw [← List.map_take, List.take_range, Nat.min_eq_left hp, List.mem_flatten]
  constructor
  · rintro ⟨l, hl, hx⟩
    obtain ⟨q, hq, rfl⟩ := List.mem_map.1 hl
    have := List.mem_range.1 hq; have := List.mem_singleton.1 hx; omega
  · rintro ⟨h1, h2⟩
    exact ⟨[x], List.mem_map.2 ⟨k - 1 - x, List.mem_range.2 (by omega), by rw [show k - 1 - (k - 1 - x) = x by omega]⟩, List.mem_singleton.2 rfl⟩
theorem line_groups (k : Nat) : IsGroups (lineG k) (lineL k) := by
  have hlen : (lineL k).length = k := by simp [lineL]
  refine ⟨fun p l hp => ?_, fun i hi => ?_⟩
  · have hpk : p < k := by have := (List.getElem?_eq_some_iff.1 hp).1; omega
    have e : l = [k - 1 - p] := by
      unfold lineL at hp
      rw [List.getElem?_map, List.getElem?_range hpk] at hp
      exact (Option.some.inj hp).symm
    refine ⟨k - 1 - p, ⟨by rw [line_len]; omega, fun h => ?_, fun j hj => ?_, fun j hj hn hr => ?_⟩, by rw [line_grp (by omega)]; exact e⟩
    · have := (lineL_mem (Nat.le_of_lt hpk) _).1 h; omega
    · have := line_reach hj; exact .inr ((lineL_mem (Nat.le_of_lt hpk) _).2 (by omega))
    · rcases hr (j + 1) (.one (line_hang.2 ⟨rfl, by omega⟩)) with h | h
      · have := line_mut.1 h; omega
      · have := (lineL_mem (Nat.le_of_lt hpk) _).1 h; omega
  · rw [line_len] at hi
    have := (lineL_mem (Nat.le_refl k) i).2 (by omega)
    rwa [List.take_of_length_le (by omega)] at this

/-- One thing more, on which none hangs: it is the last group. -/
theorem lone_groups {g L : List (List Nat)} (hg : Good g) (h : IsGroups g L) {x : List Nat} (hx : ∀ j ∈ x, j < g.length) : IsGroups (g ++ [x]) (L ++ [[g.length]]) := by
  have hang1 : ∀ {i j : Nat}, i < g.length → (Hang (g ++ [x]) i j ↔ Hang g i j) := by
    intro i j hi; unfold Hang; rw [List.getElem?_append_left hi]
  have hang2 : ∀ {i j : Nat}, Hang (g ++ [x]) i j → j < g.length := by
    intro i j hh
    by_cases hi : i < g.length
    · exact (hg.hang ((hang1 hi).1 hh)).2
    · obtain ⟨l, hl, hj⟩ := hh
      have hil := (List.getElem?_eq_some_iff.1 hl).1
      have : i = g.length := by simp at hil; omega
      subst this
      simp at hl; subst hl
      exact hx j hj
  have reach1 : ∀ {i j : Nat}, Reach (g ++ [x]) i j → j < g.length ∧ (i < g.length → Reach g i j) := by
    intro i j hr
    induction hr with
    | one hh => exact ⟨hang2 hh, fun hi => .one ((hang1 hi).1 hh)⟩
    | step hh _ ih => exact ⟨ih.1, fun hi => .step ((hang1 hi).1 hh) (ih.2 (hang2 hh))⟩
  have reach2 : ∀ {i j : Nat}, Reach g i j → Reach (g ++ [x]) i j := by
    intro i j hr
    induction hr with
    | one hh => exact .one ((hang1 (hg.hang hh).1).2 hh)
    | step hh _ ih => exact .step ((hang1 (hg.hang hh).1).2 hh) ih
  have mut1 : ∀ {i k : Nat}, i < g.length → (Mut (g ++ [x]) i k ↔ Mut g i k) := by
    intro i k hi
    constructor
    · rintro (rfl | ⟨h1, h2⟩)
      · exact .refl _ _
      · exact .inr ⟨(reach1 h1).2 hi, (reach1 h2).2 (reach1 h1).1⟩
    · rintro (rfl | ⟨h1, h2⟩)
      · exact .refl _ _
      · exact .inr ⟨reach2 h1, reach2 h2⟩
  have mut2 : ∀ {k : Nat}, Mut (g ++ [x]) g.length k ↔ g.length = k := by
    intro k
    constructor
    · rintro (e | ⟨h1, h2⟩)
      · exact e
      · exact absurd (reach1 h2).1 (Nat.lt_irrefl _)
    · rintro rfl; exact .refl _ _
  have hlen : (g ++ [x]).length = g.length + 1 := by simp
  have grp1 : ∀ {i : Nat}, i < g.length → grp (g ++ [x]) i = grp g i := by
    intro i hi
    unfold grp
    rw [hlen, List.range_succ, List.filter_append, List.filter_cons_of_neg (p := fun k => dec (Mut (g ++ [x]) i k)) (fun hm => by
      have h1 := (mut1 hi).1 ((dec_iff _).1 hm)
      exact absurd (h1.lt hg hi) (Nat.lt_irrefl _)), List.filter_nil, List.append_nil]
    refine List.filter_congr fun k _ => ?_
    have := mut1 (k := k) hi
    by_cases hm : Mut g i k
    · rw [(dec_iff _).2 hm, (dec_iff _).2 (this.2 hm)]
    · have h1 : ¬ dec (Mut g i k) = true := fun h => hm ((dec_iff _).1 h)
      have h2 : ¬ dec (Mut (g ++ [x]) i k) = true := fun h => hm (this.1 ((dec_iff _).1 h))
      rw [Bool.not_eq_true] at h1 h2
      rw [h1, h2]
  have grp2 : grp (g ++ [x]) g.length = [g.length] := by
    unfold grp
    rw [hlen, List.range_succ, List.filter_append, List.filter_cons_of_pos (p := fun k => dec (Mut (g ++ [x]) g.length k)) ((dec_iff _).2 (Mut.refl _ _)), List.filter_nil, List.filter_eq_nil_iff.2, List.nil_append]
    intro k hk hm
    have h1 := mut2.1 ((dec_iff _).1 hm)
    have := List.mem_range.1 hk
    omega
  have next1 : ∀ {D : List Nat} {i : Nat}, Next g D i → Next (g ++ [x]) D i := by
    rintro D i ⟨n1, n2, n3, n4⟩
    refine ⟨by omega, n2, fun k hk => ?_, fun j hj hD hr => ?_⟩
    · rcases n3 k ((reach1 hk).2 n1) with h1 | h1
      · exact .inl ((mut1 n1).2 h1)
      · exact .inr h1
    · refine n4 j hj hD fun k hk => ?_
      rcases hr k (reach2 hk) with h1 | h1
      · exact .inl ((mut1 (by omega)).1 h1)
      · exact .inr h1
  have part1 : Part (g ++ [x]) L := by
    intro p l hp
    obtain ⟨i, hi, rfl⟩ := h.1 p l hp
    exact ⟨i, next1 hi, (grp1 hi.1).symm⟩
  refine ⟨?_, fun i hi => ?_⟩
  · have h1 := part1.snoc (i := g.length) ⟨by omega, fun hm => absurd (h.1.lt hm) (Nat.lt_irrefl _), fun k hk => .inr (h.2 k (reach1 hk).1), fun j hj hn => absurd (h.2 j hj) hn⟩
    rwa [grp2] at h1
  · rw [List.flatten_append]
    by_cases e : i < g.length
    · exact List.mem_append.2 (.inl (h.2 i e))
    · refine List.mem_append.2 (.inr ?_)
      have : i = g.length := by omega
      simp [this]

theorem subset_len {α : Type} : ∀ {l l' : List α}, l.Nodup → (∀ x ∈ l, x ∈ l') → l.length ≤ l'.length := by
  intro l
  induction l with
  | nil => intros; exact Nat.zero_le _
  | cons x t ih =>
    intro l' hn hs
    obtain ⟨s, u, rfl⟩ := List.append_of_mem (hs x List.mem_cons_self)
    have hn2 := List.nodup_cons.1 hn
    have := ih (l' := s ++ u) hn2.2 (fun y hy => by
      have h1 := hs y (List.mem_cons_of_mem _ hy)
      rcases List.mem_append.1 h1 with h2 | h2
      · exact List.mem_append.2 (.inl h2)
      · rcases List.mem_cons.1 h2 with rfl | h3
        · exact absurd hy hn2.1
        · exact List.mem_append.2 (.inr h3))
    simp at this ⊢; omega
theorem groups_nodup {g L : List (List Nat)} (hg : Good g) (h : IsGroups g L) : L.Nodup := by
  rw [List.nodup_iff_pairwise_ne, List.pairwise_iff_getElem]
  intro p q hp hq hpq e
  obtain ⟨i, hi, h1⟩ := h.1 q _ (List.getElem?_eq_getElem hq)
  have him : i ∈ L[q] := by rw [h1]; exact mem_grp.2 ⟨hi.1, .refl _ _⟩
  rw [← e] at him
  exact hi.2.1 (List.mem_flatten.2 ⟨L[p], List.mem_iff_getElem?.2 ⟨p, by rw [List.getElem?_take, if_pos hpq, List.getElem?_eq_getElem hp]⟩, him⟩)
theorem turned_sub {g g' L L' : List (List Nat)} (hl : g.length = g'.length) (ht : ∀ i j, Hang g' i j ↔ Hang g j i) (h : IsGroups g L) (h' : IsGroups g' L') : ∀ l ∈ L, l ∈ L' := by
  have hr : ∀ {i j : Nat}, Reach g i j → Reach g' j i := by
    intro i j hh
    induction hh with
    | one hh => exact .one ((ht _ _).2 hh)
    | step hh _ ih => exact ih.trans (.one ((ht _ _).2 hh))
  have hr' : ∀ {i j : Nat}, Reach g' i j → Reach g j i := by
    intro i j hh
    induction hh with
    | one hh => exact .one ((ht _ _).1 hh)
    | step hh _ ih => exact ih.trans (.one ((ht _ _).1 hh))
  have hm : ∀ i j, Mut g i j ↔ Mut g' i j := by
    intro i j
    constructor
    · rintro (rfl | ⟨h1, h2⟩)
      · exact .refl _ _
      · exact .inr ⟨hr h2, hr h1⟩
    · rintro (rfl | ⟨h1, h2⟩)
      · exact .refl _ _
      · exact .inr ⟨hr' h2, hr' h1⟩
  intro l hl1
  obtain ⟨p, hp⟩ := List.mem_iff_getElem?.1 hl1
  obtain ⟨i, hi, rfl⟩ := h.1 p l hp
  obtain ⟨l2, h2, h3⟩ := List.mem_flatten.1 (h'.2 i (by have := hi.1; omega))
  obtain ⟨q, hq⟩ := List.mem_iff_getElem?.1 h2
  obtain ⟨i2, hi2, rfl⟩ := h'.1 q l2 hq
  have h4 := (mem_grp.1 h3).2
  rw [show grp g i = grp g' i from grp_congr hl fun k _ => hm i k, ← grp_mut h4]
  exact h2
theorem turned_groups {g g' L L' : List (List Nat)} (hg : Good g) (hg' : Good g') (hl : g.length = g'.length) (ht : ∀ i j, Hang g' i j ↔ Hang g j i) (h : IsGroups g L) (h' : IsGroups g' L') :
    L.length = L'.length ∧ ∀ l ∈ L, l ∈ L' := by
  have h1 := turned_sub hl ht h h'
  have h2 := turned_sub hl.symm (fun i j => (ht j i).symm) h' h
  exact ⟨Nat.le_antisymm (subset_len (groups_nodup hg h) h1) (subset_len (groups_nodup hg' h') h2), h1⟩
end Gr
end Go.Proofs.Ytjefnmcalmcciaa
