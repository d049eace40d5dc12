/-
  lex.read, in plain words: what holds at each of its labels, and how it is handed on.
-/
import Derived.Test.YtcnpbbhkdogdeaaDoorPure
namespace Go.Proofs.YtcnpbbhkdogdeaaDoor
namespace Lx

theorem cnt_step (p : UInt8 → Bool) (l : List UInt8) (k : Nat) (h0 : p 0 = false) (h : p (at0 l k) = true) : k < l.length ∧ cnt p (l.drop k) = cnt p (l.drop (k + 1)) + 1 := by
  have hk : k < l.length := by
    rcases Nat.lt_or_ge k l.length with h' | h'
    · exact h'
    · rw [at0_out l k h', h0] at h; exact absurd h (by decide)
  exact ⟨hk, by rw [drop_at l k hk, cnt, if_pos h]⟩
theorem cnt_stop (p : UInt8 → Bool) (l : List UInt8) (k : Nat) (h : p (at0 l k) = false) : cnt p (l.drop k) = 0 := by
  rcases Nat.lt_or_ge k l.length with h' | h'
  · rw [drop_at l k h', cnt, if_neg (by simp [h])]
  · rw [List.drop_eq_nil_of_le h']; rfl
theorem cnt_le (p : UInt8 → Bool) : ∀ l : List UInt8, cnt p l ≤ l.length
  | [] => Nat.le_refl _
  | c :: r => by rw [cnt]; have := cnt_le p r; split <;> simp <;> omega
theorem digit0 : digitB 0 = false := by decide
theorem word0 : wordB 0 = false := by decide

def RdR (l : List UInt8) (i lab : Nat) (K : Int) (E D : Nat) : Prop :=
  (lab = 0 ∧ E = i + 1 ∧ D = i ∧ (at0 l i).toNat = 45) ∨
  (lab = 1 ∧ ∃ o, D = i + o ∧ D ≤ E ∧ E + cnt digitB (l.drop E) = D + cnt digitB (l.drop D) ∧ tokAt (l.drop i) = num (l.drop i) o (cnt digitB (l.drop D))) ∨
  (lab = 2 ∧ tokAt (l.drop i) = (K, E + cnt wordB (l.drop E) - i)) ∨
  (lab = 3 ∧ E = i + 1 ∧ tokAt (l.drop i) = one (at0 l i)) ∨
  (lab = 4 ∧ tokAt (l.drop i) = (0, 0))

section
variable {l : List UInt8} {i : Nat} {K : Int} {E D : Nat}
theorem RdR.of0 (h : RdR l i 0 K E D) : E = i + 1 ∧ D = i ∧ (at0 l i).toNat = 45 := by
  rcases h with ⟨_, h⟩ | ⟨h, _⟩ | ⟨h, _⟩ | ⟨h, _⟩ | ⟨h, _⟩
  · exact h
  all_goals omega
theorem RdR.of1 (h : RdR l i 1 K E D) : ∃ o, D = i + o ∧ D ≤ E ∧ E + cnt digitB (l.drop E) = D + cnt digitB (l.drop D) ∧ tokAt (l.drop i) = num (l.drop i) o (cnt digitB (l.drop D)) := by
  rcases h with ⟨h, _⟩ | ⟨_, h⟩ | ⟨h, _⟩ | ⟨h, _⟩ | ⟨h, _⟩
  · omega
  · exact h
  all_goals omega
theorem RdR.of2 (h : RdR l i 2 K E D) : tokAt (l.drop i) = (K, E + cnt wordB (l.drop E) - i) := by
  rcases h with ⟨h, _⟩ | ⟨h, _⟩ | ⟨_, h⟩ | ⟨h, _⟩ | ⟨h, _⟩
  · omega
  · omega
  · exact h
  all_goals omega
theorem RdR.of3 (h : RdR l i 3 K E D) : E = i + 1 ∧ tokAt (l.drop i) = one (at0 l i) := by
  rcases h with ⟨h, _⟩ | ⟨h, _⟩ | ⟨h, _⟩ | ⟨_, h⟩ | ⟨h, _⟩
  · omega
  · omega
  · omega
  · exact h
  · omega
theorem RdR.of4 (h : RdR l i 4 K E D) : tokAt (l.drop i) = (0, 0) := by
  rcases h with ⟨h, _⟩ | ⟨h, _⟩ | ⟨h, _⟩ | ⟨h, _⟩ | ⟨_, h⟩
  · omega
  · omega
  · omega
  · omega
  · exact h
theorem RdR.lab_le {lab : Nat} (h : RdR l i lab K E D) : lab = 0 ∨ lab = 1 ∨ lab = 2 ∨ lab = 3 ∨ lab = 4 := by
  rcases h with ⟨h, _⟩ | ⟨h, _⟩ | ⟨h, _⟩ | ⟨h, _⟩ | ⟨h, _⟩ <;> omega

theorem tokAt_eq (l : List UInt8) (i : Nat) : tokAt (l.drop i) =
    if (at0 l i).toNat = 45 then
      if (at0 l (i + 1)).toNat = 62 then (5, 2) else if digitB (at0 l (i + 1)) then num (l.drop i) 1 (cnt digitB (l.drop (i + 1))) else one (at0 l i)
    else if digitB (at0 l i) then num (l.drop i) 0 (cnt digitB (l.drop i))
    else if smallB (at0 l i) then (3, cnt wordB (l.drop (i + 1)) + 1)
    else if greatB (at0 l i) then (4, cnt wordB (l.drop (i + 1)) + 1)
    else one (at0 l i) := by
  unfold tokAt
  simp only [at0_drop, Nat.add_zero, List.drop_drop]

/- From the first byte. -/
theorem rd_minus (h : (at0 l i).toNat = 45) : RdR l i 0 K (i + 1) i := .inl ⟨rfl, rfl, rfl, h⟩
theorem rd_digit (h : (at0 l i).toNat ≠ 45) (hd : digitB (at0 l i) = true) : RdR l i 1 K (i + 1) i :=
  .inr (.inl ⟨rfl, 0, rfl, by omega, by have := (cnt_step digitB l i digit0 hd).2; omega, by rw [tokAt_eq, if_neg h, if_pos hd]⟩)
theorem rd_small (h : (at0 l i).toNat ≠ 45) (hd : digitB (at0 l i) = false) (hs : smallB (at0 l i) = true) : RdR l i 2 3 (i + 1) D :=
  .inr (.inr (.inl ⟨rfl, by rw [tokAt_eq, if_neg h, if_neg (by simp [hd]), if_pos hs]; congr 1; omega⟩))
theorem rd_great (h : (at0 l i).toNat ≠ 45) (hd : digitB (at0 l i) = false) (hs : smallB (at0 l i) = false) (hg : greatB (at0 l i) = true) : RdR l i 2 4 (i + 1) D :=
  .inr (.inr (.inl ⟨rfl, by rw [tokAt_eq, if_neg h, if_neg (by simp [hd]), if_neg (by simp [hs]), if_pos hg]; congr 1; omega⟩))
theorem rd_other (h : (at0 l i).toNat ≠ 45) (hd : digitB (at0 l i) = false) (hs : smallB (at0 l i) = false) (hg : greatB (at0 l i) = false) : RdR l i 3 K (i + 1) D :=
  .inr (.inr (.inr (.inl ⟨rfl, rfl, by rw [tokAt_eq, if_neg h, if_neg (by simp [hd]), if_neg (by simp [hs]), if_neg (by simp [hg])]⟩)))

/- From minus. -/
theorem rd_arrow (h : (at0 l i).toNat = 45) (h1 : (at0 l (i + 1)).toNat = 62) : tokAt (l.drop i) = (5, 2) ∧ i + 2 ≤ l.length := by
  refine ⟨by rw [tokAt_eq, if_pos h, if_pos h1], ?_⟩
  rcases Nat.lt_or_ge (i + 1) l.length with h' | h'
  · omega
  · rw [at0_out l (i + 1) h'] at h1; exact absurd h1 (by decide)
theorem rd_neg (h : (at0 l i).toNat = 45) (h1 : (at0 l (i + 1)).toNat ≠ 62) (hd : digitB (at0 l (i + 1)) = true) : RdR l i 1 K (i + 1) (i + 1) :=
  .inr (.inl ⟨rfl, 1, rfl, by omega, rfl, by rw [tokAt_eq, if_pos h, if_neg h1, if_pos hd]⟩)
theorem rd_lone (h : (at0 l i).toNat = 45) (h1 : (at0 l (i + 1)).toNat ≠ 62) (hd : digitB (at0 l (i + 1)) = false) : RdR l i 3 K (i + 1) D :=
  .inr (.inr (.inr (.inl ⟨rfl, rfl, by rw [tokAt_eq, if_pos h, if_neg h1, if_neg (by simp [hd])]⟩)))

theorem rd_arrow' (hE : E = i + 1) (h : (at0 l i).toNat = 45) (h1 : (at0 l E).toNat = 62) : tokAt (l.drop i) = (5, 2) ∧ E + 1 ≤ l.length := by
  subst hE; exact rd_arrow h h1
theorem rd_neg' (hE : E = i + 1) (h : (at0 l i).toNat = 45) (h1 : (at0 l E).toNat ≠ 62) (hd : digitB (at0 l E) = true) : RdR l i 1 K E E := by
  subst hE; exact rd_neg h h1 hd
theorem rd_lone' (hE : E = i + 1) (h : (at0 l i).toNat = 45) (h1 : (at0 l E).toNat ≠ 62) (hd : digitB (at0 l E) = false) : RdR l i 3 K E D := by
  subst hE; exact rd_lone h h1 hd

/- From number. -/
theorem rd_more (h : RdR l i 1 K E D) (hd : digitB (at0 l E) = true) : E < l.length ∧ RdR l i 1 K (E + 1) D := by
  obtain ⟨o, h1, h2, h3, h4⟩ := h.of1
  obtain ⟨hk, hs⟩ := cnt_step digitB l E digit0 hd
  exact ⟨hk, .inr (.inl ⟨rfl, o, h1, by omega, by omega, h4⟩)⟩
theorem rd_bounds (h : RdR l i 1 K E D) : D ≤ E ∧ i ≤ D := by
  obtain ⟨o, h1, h2, h3, h4⟩ := h.of1
  omega
theorem num_mid (h : RdR l i 1 K E D) (hd : digitB (at0 l E) = false) : tokAt (l.drop i) = if 18 < E - D || wordB (at0 l E) then (0, 0) else (2, E - i) := by
  obtain ⟨o, h1, h2, h3, h4⟩ := h.of1
  have hs := cnt_stop digitB l E hd
  rw [hs] at h3
  have e1 : cnt digitB (l.drop D) = E - D := by omega
  have e2 : i + (o + (E - D)) = E := by omega
  have e3 : o + (E - D) = E - i := by omega
  rw [h4, e1, num, at0_drop, e2, e3]
theorem rd_long (h : RdR l i 1 K E D) (hd : digitB (at0 l E) = false) (hl : 18 < E - D) : RdR l i 4 K E D :=
  .inr (.inr (.inr (.inr ⟨rfl, by rw [num_mid h hd, if_pos (by simp [hl])]⟩)))
theorem rd_tied (h : RdR l i 1 K E D) (hd : digitB (at0 l E) = false) (hw : wordB (at0 l E) = true) : RdR l i 4 K E D :=
  .inr (.inr (.inr (.inr ⟨rfl, by rw [num_mid h hd, if_pos (by simp [hw])]⟩)))
theorem rd_num (h : RdR l i 1 K E D) (hd : digitB (at0 l E) = false) (hl : ¬ 18 < E - D) (hw : wordB (at0 l E) = false) : tokAt (l.drop i) = (2, E - i) := by
  rw [num_mid h hd, if_neg (by simp [hl, hw])]

/- From word. -/
theorem rd_letter (h : RdR l i 2 K E D) (hw : wordB (at0 l E) = true) : E < l.length ∧ RdR l i 2 K (E + 1) D := by
  obtain ⟨hk, hs⟩ := cnt_step wordB l E word0 hw
  exact ⟨hk, .inr (.inr (.inl ⟨rfl, by rw [h.of2, hs]; congr 1; omega⟩))⟩
theorem rd_word (h : RdR l i 2 K E D) (hw : wordB (at0 l E) = false) : tokAt (l.drop i) = (K, E - i) := by
  rw [h.of2, cnt_stop wordB l E hw]; rfl

/- From single. -/
theorem rd_none (h : RdR l i 3 K E D) (hs : single (at0 l i) < 0) : RdR l i 4 (single (at0 l i)) E D :=
  .inr (.inr (.inr (.inr ⟨rfl, by rw [h.of3.2, one, if_pos hs]⟩)))
theorem rd_one (h : RdR l i 3 K E D) (hs : ¬ single (at0 l i) < 0) : tokAt (l.drop i) = (single (at0 l i), 1) := by
  rw [h.of3.2, one, if_neg hs]
end
end Lx
end Go.Proofs.YtcnpbbhkdogdeaaDoor
