/-
  A heap of numbers, as a list: up, down, the least one. No project text.
-/
import Derived.Test.YtjefnmcalmcciaaTar2
namespace Go.Proofs.Ytjefnmcalmcciaa
namespace Gr
set_option linter.unusedVariables false
set_option linter.unusedSimpArgs false

def at0 (H : List Nat) (i : Nat) : Nat := H.getD i 0
theorem at0_set (H : List Nat) (i j x : Nat) (hi : i < H.length) : at0 (H.set i x) j = if i = j then x else at0 H j := by
  unfold at0
  rw [List.getD_eq_getElem?_getD, List.getD_eq_getElem?_getD, List.getElem?_set]
  by_cases h : i = j
  · subst h; simp [hi]
  · simp [h]
theorem at0_get {H : List Nat} {i : Nat} (h : i < H.length) : at0 H i = H[i] := by
  unfold at0; rw [List.getD_eq_getElem?_getD, List.getElem?_eq_getElem h]; rfl
def swp (H : List Nat) (i j : Nat) : List Nat := (H.set i (at0 H j)).set j (at0 H i)
theorem swp_len (H : List Nat) (i j : Nat) : (swp H i j).length = H.length := by simp [swp]
theorem swp_at {H : List Nat} {i j : Nat} (hi : i < H.length) (hj : j < H.length) (k : Nat) : at0 (swp H i j) k = if k = j then at0 H i else if k = i then at0 H j else at0 H k := by
  unfold swp
  rw [at0_set _ _ _ _ (by simpa using hj), at0_set _ _ _ _ hi]
  by_cases h1 : j = k
  · subst h1; simp
  · rw [if_neg h1, if_neg (Ne.symm h1)]
    by_cases h2 : i = k
    · subst h2; simp
    · rw [if_neg h2, if_neg (Ne.symm h2)]
theorem swp_count {H : List Nat} {i j : Nat} (hi : i < H.length) (hj : j < H.length) (a : Nat) : (swp H i j).count a = H.count a := by
  unfold swp
  rw [List.count_set (by simpa using hj), List.count_set hi, at0_get hi, at0_get hj, List.getElem_set]
  have h1 : H[i] = a → 1 ≤ H.count a := fun e => List.count_pos_iff.2 (e ▸ List.getElem_mem hi)
  have h2 : H[j] = a → 1 ≤ H.count a := fun e => List.count_pos_iff.2 (e ▸ List.getElem_mem hj)
  simp only [beq_iff_eq]
  by_cases e : i = j
  · subst e
    simp only [if_true]
    by_cases h3 : H[i] = a
    · have := h1 h3; simp only [h3, if_true]; omega
    · simp only [h3, if_false]; omega
  · simp only [e, if_false]
    by_cases h3 : H[i] = a
    · have := h1 h3
      by_cases h4 : H[j] = a
      · simp only [h3, h4, if_true]; omega
      · simp only [h3, h4, if_true, if_false]; omega
    · by_cases h4 : H[j] = a
      · have := h2 h4; simp only [h3, h4, if_true, if_false]; omega
      · simp only [h3, h4, if_false]; omega

/-- The first so many are a heap. -/
def IsHeap (H : List Nat) (n : Nat) : Prop := ∀ i, 0 < i → i < n → at0 H ((i - 1) / 2) ≤ at0 H i
theorem IsHeap.least {H : List Nat} {n : Nat} (h : IsHeap H n) : ∀ i, i < n → at0 H 0 ≤ at0 H i := by
  intro i
  induction i using Nat.strongRecOn with
  | _ i ih =>
    intro hi
    by_cases h0 : i = 0
    · subst h0; exact Nat.le_refl _
    · exact Nat.le_trans (ih ((i - 1) / 2) (by omega) (by omega)) (h i (by omega) hi)

def UpInv (H : List Nat) (j : Nat) : Prop := j < H.length ∧ (∀ i, 0 < i → i < H.length → i ≠ j → at0 H ((i - 1) / 2) ≤ at0 H i) ∧ ∀ i, 0 < i → i < H.length → (i - 1) / 2 = j → 0 < j → at0 H ((j - 1) / 2) ≤ at0 H i
theorem UpInv.start {H : List Nat} (h : IsHeap H H.length) (x : Nat) : UpInv (H ++ [x]) H.length := by
  have e : ∀ i, i < H.length → at0 (H ++ [x]) i = at0 H i := fun i hi => by unfold at0; rw [List.getD_eq_getElem?_getD, List.getD_eq_getElem?_getD, List.getElem?_append_left hi]
  refine ⟨by simp, fun i h0 h1 h2 => ?_, fun i h0 h1 h2 h3 => ?_⟩
  · simp at h1
    rw [e i (by omega), e _ (by omega)]; exact h i h0 (by omega)
  · simp at h1; omega
theorem UpInv.stop {H : List Nat} {j : Nat} (h : UpInv H j) (hs : j = 0 ∨ ¬ at0 H j < at0 H ((j - 1) / 2)) : IsHeap H H.length := by
  intro i h0 h1
  by_cases e : i = j
  · subst e
    rcases hs with h2 | h2
    · omega
    · omega
  · exact h.2.1 i h0 h1 e
theorem UpInv.go {H : List Nat} {j : Nat} (h : UpInv H j) (h0 : 0 < j) (hlt : at0 H j < at0 H ((j - 1) / 2)) : UpInv (swp H ((j - 1) / 2) j) ((j - 1) / 2) := by
  obtain ⟨h1, h2, h3⟩ := h
  have hp : (j - 1) / 2 < H.length := by omega
  have sw := swp_at hp h1
  refine ⟨by rw [swp_len]; exact hp, fun i hi0 hi1 hne => ?_, fun i hi0 hi1 he hj0 => ?_⟩
  · rw [swp_len] at hi1
    rw [sw, sw]
    by_cases e1 : i = j
    · subst e1
      rw [if_neg (by omega), if_pos rfl, if_pos rfl]; omega
    · rw [if_neg e1, if_neg hne]
      by_cases e2 : (i - 1) / 2 = j
      · rw [if_pos e2]
        exact h3 i hi0 hi1 e2 h0
      · rw [if_neg e2]
        by_cases e3 : (i - 1) / 2 = (j - 1) / 2
        · rw [if_pos e3]
          have := h2 i hi0 hi1 e1
          rw [e3] at this; omega
        · rw [if_neg e3]; exact h2 i hi0 hi1 e1
  · rw [swp_len] at hi1
    rw [sw, sw]
    have hg : at0 H (((j - 1) / 2 - 1) / 2) ≤ at0 H ((j - 1) / 2) := h2 _ hj0 hp (by omega)
    rw [if_neg (show ¬ ((j - 1) / 2 - 1) / 2 = j by omega), if_neg (show ¬ ((j - 1) / 2 - 1) / 2 = (j - 1) / 2 by omega)]
    by_cases e1 : i = j
    · rw [if_pos e1]; exact hg
    · rw [if_neg e1, if_neg (by omega)]
      have := h2 i hi0 hi1 e1
      rw [he] at this; omega

def DownInv (H : List Nat) (n i : Nat) : Prop := n ≤ H.length ∧ (∀ k, 0 < k → k < n → (k - 1) / 2 ≠ i → at0 H ((k - 1) / 2) ≤ at0 H k) ∧ ∀ k, 0 < k → k < n → (k - 1) / 2 = i → 0 < i → at0 H ((i - 1) / 2) ≤ at0 H k
theorem DownInv.start {H : List Nat} (h : IsHeap H H.length) (h0 : 0 < H.length) : DownInv (swp H 0 (H.length - 1)) (H.length - 1) 0 := by
  have sw := swp_at h0 (show H.length - 1 < H.length by omega)
  refine ⟨by rw [swp_len]; omega, fun k k0 k1 k2 => ?_, fun k k0 k1 k2 k3 => by omega⟩
  rw [sw, sw, if_neg (by omega), if_neg k2, if_neg (by omega), if_neg (by omega)]
  exact h k k0 (by omega)
theorem DownInv.stop {H : List Nat} {n i : Nat} (h : DownInv H n i) (hs : ∀ k, k < n → k = 2 * i + 1 ∨ k = 2 * i + 2 → at0 H i ≤ at0 H k) : IsHeap H n := by
  intro k k0 k1
  by_cases e : (k - 1) / 2 = i
  · rw [e]; exact hs k k1 (by omega)
  · exact h.2.1 k k0 k1 e
theorem DownInv.go {H : List Nat} {n i j : Nat} (h : DownInv H n i) (hj : j = 2 * i + 1 ∨ j = 2 * i + 2) (hjn : j < n) (hlt : at0 H j < at0 H i) (hmin : ∀ k, k < n → k = 2 * i + 1 ∨ k = 2 * i + 2 → at0 H j ≤ at0 H k) : DownInv (swp H i j) n j := by
  obtain ⟨h1, h2, h3⟩ := h
  have hp : (j - 1) / 2 = i := by omega
  have sw := swp_at (show i < H.length by omega) (show j < H.length by omega)
  refine ⟨by rw [swp_len]; exact h1, fun k k0 k1 k2 => ?_, fun k k0 k1 k2 k3 => ?_⟩
  · rw [sw, sw, if_neg k2]
    by_cases e1 : k = j
    · rw [if_pos e1, e1, hp, if_pos rfl]; omega
    · rw [if_neg e1]
      by_cases e2 : (k - 1) / 2 = i
      · rw [if_pos e2, if_neg (by omega)]
        exact hmin k k1 (by omega)
      · rw [if_neg e2]
        by_cases e3 : k = i
        · rw [if_pos e3, e3]
          exact h3 j (by omega) hjn hp (by omega)
        · rw [if_neg e3]
          exact h2 k k0 k1 e2
  · rw [hp, sw, sw, if_neg (by omega), if_pos rfl, if_neg (by omega), if_neg (by omega)]
    have := h2 k k0 k1 (by omega)
    rw [k2] at this
    exact this

/-- What stands behind a push. -/
def Pushed (H : List Nat) (x : Nat) (H' : List Nat) : Prop := IsHeap H' H'.length ∧ H'.length = H.length + 1 ∧ ∀ a, H'.count a = H.count a + if x = a then 1 else 0
/-- What stands behind a pop. -/
def Popped (H : List Nat) (x : Nat) (H' : List Nat) : Prop := IsHeap H' H'.length ∧ H'.length + 1 = H.length ∧ (∀ y ∈ H, x ≤ y) ∧ x ∈ H ∧ ∀ a, H.count a = H'.count a + if x = a then 1 else 0
theorem least_mem {H : List Nat} (h : IsHeap H H.length) : ∀ y ∈ H, at0 H 0 ≤ y := by
  intro y hy
  obtain ⟨i, hi⟩ := List.mem_iff_getElem?.1 hy
  have := h.least i (some_lt hi)
  obtain ⟨hl, rfl⟩ := List.getElem?_eq_some_iff.1 hi
  rw [at0_get hl] at this; exact this
/-- The list whose last one is taken off, behind down. -/
theorem popped {H K : List Nat} (h : IsHeap H H.length) (h0 : 0 < H.length) (hK : K.length = H.length) (hh : IsHeap K (H.length - 1)) (hlast : at0 K (H.length - 1) = at0 H 0) (hc : ∀ a, K.count a = H.count a) : Popped H (at0 H 0) (K.take (H.length - 1)) := by
  have hkl : H.length - 1 < K.length := by omega
  have e : K = K.take (H.length - 1) ++ [at0 H 0] := by
    have h1 := List.take_succ_eq_append_getElem (l := K) hkl
    rw [show H.length - 1 + 1 = K.length by omega, List.take_length] at h1
    rw [← hlast, at0_get hkl]; exact h1
  have hl : (K.take (H.length - 1)).length = H.length - 1 := by rw [List.length_take]; omega
  refine ⟨?_, by omega, least_mem h, ?_, fun a => ?_⟩
  · rw [hl]
    intro i i0 i1
    have t : ∀ k, k < H.length - 1 → at0 (K.take (H.length - 1)) k = at0 K k := fun k hk => by
      unfold at0; rw [List.getD_eq_getElem?_getD, List.getD_eq_getElem?_getD, List.getElem?_take, if_pos hk]
    rw [t _ (by omega), t _ i1]; exact hh i i0 i1
  · rw [at0_get h0]; exact List.getElem_mem h0
  · rw [← hc a]
    conv => lhs; rw [e]
    rw [List.count_append, List.count_singleton]
    simp only [beq_iff_eq]
end Gr
end Go.Proofs.Ytjefnmcalmcciaa
