/-
  Each token's text alone is that token; between tokens nothing stands.
-/
import Derived.Test.YtcnpbbhkdogdeaaDoorJoinPure
namespace Go.Proofs.YtcnpbbhkdogdeaaDoor
namespace Lx

theorem skip_take : ∀ (r : List UInt8) (b : Bool), skipC b (r.take (skipC b r)) = skipC b r := by
  intro r
  induction r with
  | nil => intro b; cases b <;> rfl
  | cons c r ih =>
    intro b
    cases b
    · by_cases h1 : blankB c = true
      · have e : skipC false (c :: r) = skipC false r + 1 := by rw [skipC, if_pos h1]
        rw [e, List.take_succ_cons, skipC, if_pos h1, ih]
      · by_cases h2 : c.toNat = 59
        · have e : skipC false (c :: r) = skipC true r + 1 := by rw [skipC, if_neg h1, if_pos h2]
          rw [e, List.take_succ_cons, skipC, if_neg h1, if_pos h2, ih]
        · have e : skipC false (c :: r) = 0 := by rw [skipC, if_neg h1, if_neg h2]
          rw [e]; rfl
    · by_cases h1 : c.toNat = 10
      · have e : skipC true (c :: r) = skipC false r + 1 := by rw [skipC, if_pos h1]
        rw [e, List.take_succ_cons, skipC, if_pos h1, ih]
      · have e : skipC true (c :: r) = skipC true r + 1 := by rw [skipC, if_neg h1]
        rw [e, List.take_succ_cons, skipC, if_neg h1, ih]

theorem cnt_take (p : UInt8 → Bool) : ∀ (r : List UInt8), cnt p (r.take (cnt p r)) = cnt p r
  | [] => rfl
  | c :: r => by
    by_cases h : p c = true
    · have e : cnt p (c :: r) = cnt p r + 1 := by rw [cnt_cons, if_pos h]
      rw [e, List.take_succ_cons, cnt_cons, if_pos h, cnt_take p r]
    · have e : cnt p (c :: r) = 0 := by rw [cnt_cons, if_neg h]
      rw [e]; rfl

theorem single_not (c : UInt8) (h : ¬ single c < 0) : digitB c = false ∧ smallB c = false ∧ greatB c = false ∧ blankB c = false ∧ c.toNat ≠ 59 := by
  have hc : c.toNat = 40 ∨ c.toNat = 41 ∨ c.toNat = 95 ∨ c.toNat = 43 ∨ c.toNat = 45 ∨ c.toNat = 42 ∨ c.toNat = 47 ∨ c.toNat = 37 ∨ c.toNat = 61 ∨ c.toNat = 60 := by
    unfold single at h
    split at h
    · omega
    · split at h
      · omega
      · split at h
        · omega
        · omega
  refine ⟨?_, ?_, ?_, ?_, by omega⟩
  · unfold digitB; simp; omega
  · unfold smallB; simp; omega
  · unfold greatB; simp; omega
  · unfold blankB; simp; omega

theorem small_not (c : UInt8) (h : smallB c = true) : digitB c = false ∧ c.toNat ≠ 45 ∧ blankB c = false ∧ c.toNat ≠ 59 := by
  simp [smallB] at h
  refine ⟨?_, by omega, ?_, by omega⟩
  · unfold digitB; simp; omega
  · unfold blankB; simp; omega
theorem great_not (c : UInt8) (h : greatB c = true) : digitB c = false ∧ smallB c = false ∧ c.toNat ≠ 45 ∧ blankB c = false ∧ c.toNat ≠ 59 := by
  simp [greatB] at h
  refine ⟨?_, ?_, by omega, ?_, by omega⟩
  · unfold digitB; simp; omega
  · unfold smallB; simp; omega
  · unfold blankB; simp; omega

theorem drop_take_one (r : List UInt8) (m : Nat) : (r.take (1 + m)).drop 1 = (r.drop 1).take m := by
  rw [List.drop_take]; congr 1; omega

theorem drop_take_one' (r : List UInt8) (m : Nat) : (r.take (m + 1)).drop 1 = (r.drop 1).take m := by
  rw [Nat.add_comm, drop_take_one]

/-- A token's text alone. -/
theorem tok_alone (r : List UInt8) (hn : (tokAt r).2 ≠ 0) :
    tokAt (r.take (tokAt r).2) = ((tokAt r).1, (tokAt r).2) ∧ (r.take (tokAt r).2).length = (tokAt r).2 ∧ skipC false (r.take (tokAt r).2) = 0 := by
  have hw := way r
  have hle := tokAt_le r
  revert hw hle hn
  generalize (tokAt r).1 = k
  generalize (tokAt r).2 = n
  intro hn hw hle
  have hlen : (r.take n).length = n := by rw [List.length_take]; omega
  have a0 : at0 (r.take n) 0 = at0 r 0 := take_at0 r n 0 (by omega)
  have aout : at0 (r.take n) n = 0 := at0_out _ _ (by omega)
  refine ⟨?_, hlen, ?_⟩
  · cases hw with
    | arrow h1 h2 => 
      have a1 : at0 (r.take 2) 1 = at0 r 1 := take_at0 r 2 1 (by omega)
      unfold tokAt
      simp only []
      rw [a0, if_pos h1, a1, if_pos h2]
    | neg h1 h2 h3 h4 => 
      have hp : 0 < cnt digitB (r.drop 1) := by have := (cnt_step digitB r 1 digit0 h2).2; omega
      have a1 : at0 (r.take (1 + cnt digitB (r.drop 1))) 1 = at0 r 1 := take_at0 r _ 1 (by omega)
      have hd := digit_not_blank _ h2
      unfold tokAt num
      simp only []
      rw [a0, if_pos h1, a1, if_neg hd.2.2.2, if_pos h2, drop_take_one, cnt_take, aout, word0, if_neg (by rw [Bool.or_false, decide_eq_true_eq]; omega)]
    | pos h1 h2 h3 => 
      have hd := digit_not_blank _ h1
      unfold tokAt num
      simp only []
      rw [a0, if_neg hd.2.2.1, if_pos h1, cnt_take, Nat.zero_add, aout, word0, if_neg (by rw [Bool.or_false, decide_eq_true_eq]; omega)]
    | name h => 
      have hd := small_not _ h
      unfold tokAt
      simp only []
      rw [a0, if_neg hd.2.1, if_neg (by simp [hd.1]), if_pos h, drop_take_one', cnt_take]
    | con h => 
      have hd := great_not _ h
      unfold tokAt
      simp only []
      rw [a0, if_neg hd.2.2.1, if_neg (by simp [hd.1]), if_neg (by simp [hd.2.1]), if_pos h, drop_take_one', cnt_take]
    | one h h45 => 
      have hd := single_not _ h
      have e62 : ¬ (0 : UInt8).toNat = 62 := by decide
      have ed0 : ¬ digitB 0 = true := by decide
      have f1 : ¬ digitB (at0 r 0) = true := by rw [hd.1]; decide
      have f2 : ¬ smallB (at0 r 0) = true := by rw [hd.2.1]; decide
      have f3 : ¬ greatB (at0 r 0) = true := by rw [hd.2.2.1]; decide
      unfold tokAt one
      simp only []
      rw [a0, aout]
      by_cases h1 : (at0 r 0).toNat = 45
      · rw [if_pos h1, if_neg e62, if_neg ed0, if_neg h]
      · rw [if_neg h1, if_neg f1, if_neg f2, if_neg f3, if_neg h]
    | none => exact absurd rfl hn
  · have key : blankB (at0 r 0) = false ∧ (at0 r 0).toNat ≠ 59 := by
      cases hw with
      | arrow h1 h2 => exact ⟨by unfold blankB; simp [h1], by omega⟩
      | neg h1 h2 h3 h4 => exact ⟨by unfold blankB; simp [h1], by omega⟩
      | pos h1 h2 h3 => exact ⟨(digit_not_blank _ h1).1, (digit_not_blank _ h1).2.1⟩
      | name h => exact ⟨(small_not _ h).2.2.1, (small_not _ h).2.2.2⟩
      | con h => exact ⟨(great_not _ h).2.2.2.1, (great_not _ h).2.2.2.2⟩
      | one h _ => exact ⟨(single_not _ h).2.2.2.1, (single_not _ h).2.2.2.2⟩
      | none => exact absurd rfl hn
    exact skip_zero _ (by rw [a0]; exact key.1) (by rw [a0]; exact key.2)

/-- The tokens of a text, one behind the other. -/
def Chain (l : List UInt8) : Nat → List Tok → Prop
  | E, [] => E ≤ l.length ∧ skipC false (l.drop E) = (l.drop E).length
  | E, t :: ts => E ≤ l.length ∧ ∃ n, t.pos = E + skipC false (l.drop E) ∧ t.pos + n ≤ l.length ∧ n ≠ 0 ∧ n = (tokAt (l.drop t.pos)).2 ∧ t = mkTok t.pos (tokAt (l.drop t.pos)).1 ((l.drop t.pos).take n) ∧ Chain l (t.pos + n) ts

theorem chain_of (l : List UInt8) : ∀ (f E : Nat) (ts : List Tok), E ≤ l.length → l.length < E + f → toks f E (l.drop E) = (ts, none) → Chain l E ts := by
  intro f
  induction f with
  | zero => intro E ts h1 h2; omega
  | succ f ih =>
    intro E ts h1 h2 h
    rw [toks_step] at h
    have hle := skipC_le false (l.drop E)
    rw [List.length_drop] at hle
    by_cases c1 : (l.drop E).length ≤ skipC false (l.drop E)
    · rw [if_pos c1] at h
      simp only [Prod.mk.injEq, and_true] at h
      subst h
      exact ⟨h1, by have := skipC_le false (l.drop E); omega⟩
    · rw [if_neg c1] at h
      by_cases c2 : (tokAt ((l.drop E).drop (skipC false (l.drop E)))).2 = 0
      · rw [if_pos c2] at h; simp at h
      · rw [if_neg c2] at h
        rw [List.drop_drop] at h c2
        have htl := tokAt_le (l.drop (E + skipC false (l.drop E)))
        rw [List.length_drop] at htl
        rw [List.length_drop] at c1
        generalize hA : E + skipC false (l.drop E) = A at *
        generalize hn : (tokAt (l.drop A)).2 = n at *
        rw [List.drop_drop] at h
        simp only [Prod.mk.injEq] at h
        obtain ⟨h3, h4⟩ := h
        subst h3
        have ih2 := ih (A + n) _ (by omega) (by omega) (Prod.ext rfl h4)
        exact ⟨h1, n, hA.symm, by show A + n ≤ _; omega, c2, hn.symm, rfl, ih2⟩

theorem chain_toks (l : List UInt8) (ts : List Tok) (h : toks (l.length + 1) 0 l = (ts, none)) : Chain l 0 ts :=
  chain_of l (l.length + 1) 0 ts (by omega) (by omega) h
end Lx
end Go.Proofs.YtcnpbbhkdogdeaaDoor
