/-
  The tokens of two texts with a line's end between.
-/
import Derived.Test.YtcnpbbhkdogdeaaDoorNumPure
namespace Go.Proofs.YtcnpbbhkdogdeaaDoor
namespace Lx

theorem toks_step (f p : Nat) (l : List UInt8) : toks (f + 1) p l =
    if l.length ≤ skipC false l then ([], none) else
      if (tokAt (l.drop (skipC false l))).2 = 0 then ([], some (p + skipC false l)) else
        (mkTok (p + skipC false l) (tokAt (l.drop (skipC false l))).1 ((l.drop (skipC false l)).take (tokAt (l.drop (skipC false l))).2) ::
          (toks f (p + skipC false l + (tokAt (l.drop (skipC false l))).2) ((l.drop (skipC false l)).drop (tokAt (l.drop (skipC false l))).2)).1,
         (toks f (p + skipC false l + (tokAt (l.drop (skipC false l))).2) ((l.drop (skipC false l)).drop (tokAt (l.drop (skipC false l))).2)).2) := rfl

theorem toks_fuel : ∀ (f f' p : Nat) (l : List UInt8), l.length < f → l.length < f' → toks f p l = toks f' p l := by
  intro f
  induction f with
  | zero => intro f' p l h; omega
  | succ f ih =>
    intro f' p l h h'
    obtain ⟨f', rfl⟩ : ∃ g, f' = g + 1 := ⟨f' - 1, by omega⟩
    rw [toks_step, toks_step]
    by_cases h1 : l.length ≤ skipC false l
    · rw [if_pos h1, if_pos h1]
    · rw [if_neg h1, if_neg h1]
      by_cases h2 : (tokAt (l.drop (skipC false l))).2 = 0
      · rw [if_pos h2, if_pos h2]
      · rw [if_neg h2, if_neg h2]
        have hl : ((l.drop (skipC false l)).drop (tokAt (l.drop (skipC false l))).2).length < f := by rw [List.length_drop, List.length_drop]; omega
        have hl' : ((l.drop (skipC false l)).drop (tokAt (l.drop (skipC false l))).2).length < f' := by rw [List.length_drop, List.length_drop]; omega
        rw [ih f' _ _ hl hl']

def shift (d : Nat) (t : Tok) : Tok := { t with pos := t.pos + d }

theorem toks_shift (d : Nat) : ∀ (f p : Nat) (l : List UInt8), toks f (p + d) l = ((toks f p l).1.map (shift d), (toks f p l).2.map (· + d)) := by
  intro f
  induction f with
  | zero => intro p l; rfl
  | succ f ih =>
    intro p l
    rw [toks_step, toks_step]
    by_cases h1 : l.length ≤ skipC false l
    · rw [if_pos h1, if_pos h1]; rfl
    · rw [if_neg h1, if_neg h1]
      by_cases h2 : (tokAt (l.drop (skipC false l))).2 = 0
      · rw [if_pos h2, if_pos h2]; simp; omega
      · rw [if_neg h2, if_neg h2]
        have e : p + d + skipC false l + (tokAt (l.drop (skipC false l))).2 = p + skipC false l + (tokAt (l.drop (skipC false l))).2 + d := by omega
        rw [e, ih]
        have e2 : p + d + skipC false l = p + skipC false l + d := by omega
        rw [e2]
        rfl

theorem sk10f (l : List UInt8) : skipC false (10 :: l) = skipC false l + 1 := rfl
theorem sk10t (l : List UInt8) : skipC true (10 :: l) = skipC false l + 1 := rfl
theorem cnt_nil (p : UInt8 → Bool) : cnt p [] = 0 := rfl
theorem cnt_cons (p : UInt8 → Bool) (c : UInt8) (r : List UInt8) : cnt p (c :: r) = if p c then cnt p r + 1 else 0 := rfl

theorem skip_join (l : List UInt8) : ∀ (a : List UInt8) (b : Bool), skipC b (a ++ 10 :: l) = if skipC b a < a.length then skipC b a else a.length + 1 + skipC false l := by
  intro a
  induction a with
  | nil =>
    intro b
    have e : skipC b [] = 0 := by cases b <;> rfl
    rw [e, List.nil_append, if_neg (by simp), List.length_nil]
    cases b
    · rw [sk10f]; omega
    · rw [sk10t]; omega
  | cons c r ih =>
    intro b
    have hf := skipC_le false r
    have ht := skipC_le true r
    cases b
    · rw [List.cons_append, skipC, skipC]
      by_cases h1 : blankB c = true
      · rw [if_pos h1, if_pos h1, ih false, List.length_cons]
        by_cases h : skipC false r < r.length
        · rw [if_pos h, if_pos (by omega)]
        · rw [if_neg h, if_neg (by omega)]; omega
      · rw [if_neg h1, if_neg h1]
        by_cases h2 : c.toNat = 59
        · rw [if_pos h2, if_pos h2, ih true, List.length_cons]
          by_cases h : skipC true r < r.length
          · rw [if_pos h, if_pos (by omega)]
          · rw [if_neg h, if_neg (by omega)]; omega
        · rw [if_neg h2, if_neg h2, List.length_cons, if_pos (by omega)]
    · rw [List.cons_append, skipC, skipC]
      by_cases h1 : c.toNat = 10
      · rw [if_pos h1, if_pos h1, ih false, List.length_cons]
        by_cases h : skipC false r < r.length
        · rw [if_pos h, if_pos (by omega)]
        · rw [if_neg h, if_neg (by omega)]; omega
      · rw [if_neg h1, if_neg h1, ih true, List.length_cons]
        by_cases h : skipC true r < r.length
        · rw [if_pos h, if_pos (by omega)]
        · rw [if_neg h, if_neg (by omega)]; omega

theorem cnt_join (p : UInt8 → Bool) (hp : p 10 = false) (l : List UInt8) : ∀ r : List UInt8, cnt p (r ++ 10 :: l) = cnt p r
  | [] => by rw [List.nil_append, cnt_cons, cnt_nil, if_neg (by simp [hp])]
  | c :: r => by
    rw [List.cons_append, cnt_cons, cnt_cons, cnt_join p hp l r]

theorem at0_join (r l : List UInt8) (k : Nat) (h : k < r.length) : at0 (r ++ 10 :: l) k = at0 r k := by
  unfold at0; rw [List.getD_eq_getElem?_getD, List.getD_eq_getElem?_getD, List.getElem?_append_left h]
theorem at0_end (r l : List UInt8) : at0 (r ++ 10 :: l) r.length = 10 := by
  unfold at0; rw [List.getD_eq_getElem?_getD, List.getElem?_append_right (Nat.le_refl _)]; simp
theorem pred_join (p : UInt8 → Bool) (h0 : p 0 = false) (h10 : p 10 = false) (r l : List UInt8) (k : Nat) (h : k ≤ r.length) : p (at0 (r ++ 10 :: l) k) = p (at0 r k) := by
  rcases Nat.lt_or_ge k r.length with h' | h'
  · rw [at0_join r l k h']
  · obtain rfl : k = r.length := by omega
    rw [at0_end, at0_out r _ (Nat.le_refl _), h0, h10]

theorem tokAt_join (r l : List UInt8) (hr : 0 < r.length) : tokAt (r ++ 10 :: l) = tokAt r := by
  have hw : ∀ k, k ≤ r.length → wordB (at0 (r ++ 10 :: l) k) = wordB (at0 r k) := fun k h => pred_join wordB (by decide) (by decide) r l k h
  have hd1 : digitB (at0 (r ++ 10 :: l) 1) = digitB (at0 r 1) := pred_join digitB (by decide) (by decide) r l 1 (by omega)
  have h62 : ((at0 (r ++ 10 :: l) 1).toNat = 62) ↔ ((at0 r 1).toNat = 62) := by
    have := pred_join (fun c => c.toNat == 62) (by decide) (by decide) r l 1 (by omega)
    rw [Bool.eq_iff_iff] at this
    simpa using this
  have hc0 := at0_join r l 0 hr
  have hdr : (r ++ 10 :: l).drop 1 = r.drop 1 ++ 10 :: l := by rw [List.drop_append]; simp; rw [show 1 - r.length = 0 from by omega]; rfl
  have hcd := cnt_join digitB (by decide) l r
  have hcd1 := cnt_join digitB (by decide) l (r.drop 1)
  have hcw1 := cnt_join wordB (by decide) l (r.drop 1)
  have hl1 := cnt_le digitB (r.drop 1)
  rw [List.length_drop] at hl1
  have hl0 := cnt_le digitB r
  unfold tokAt num
  simp only []
  rw [hdr, hc0, hd1, hcd, hcd1, hcw1, hw _ (by omega), hw _ (by omega)]
  by_cases h : (at0 r 1).toNat = 62
  · rw [if_pos h, if_pos (h62.2 h)]
  · rw [if_neg h, if_neg (fun h' => h (h62.1 h'))]

/-- Where none begins lies in the text. -/
theorem toks_place : ∀ (f p : Nat) (l : List UInt8) (q : Nat), (toks f p l).2 = some q → p ≤ q ∧ q ≤ p + l.length := by
  intro f
  induction f with
  | zero => intro p l q h; exact absurd h (by simp [toks])
  | succ f ih =>
    intro p l q h
    rw [toks_step] at h
    have hle := skipC_le false l
    by_cases h1 : l.length ≤ skipC false l
    · rw [if_pos h1] at h; simp at h
    · rw [if_neg h1] at h
      by_cases h2 : (tokAt (l.drop (skipC false l))).2 = 0
      · rw [if_pos h2] at h; simp at h; omega
      · rw [if_neg h2] at h
        have := ih _ _ q h
        rw [List.length_drop, List.length_drop] at this
        have htl := tokAt_le (l.drop (skipC false l))
        rw [List.length_drop] at htl
        omega

theorem toks_len : ∀ (f p : Nat) (l : List UInt8), (toks f p l).1.length ≤ l.length := by
  intro f
  induction f with
  | zero => intro p l; simp [toks]
  | succ f ih =>
    intro p l
    rw [toks_step]
    by_cases h1 : l.length ≤ skipC false l
    · rw [if_pos h1]; simp
    · rw [if_neg h1]
      by_cases h2 : (tokAt (l.drop (skipC false l))).2 = 0
      · rw [if_pos h2]; simp
      · rw [if_neg h2]
        have := ih (p + skipC false l + (tokAt (l.drop (skipC false l))).2) ((l.drop (skipC false l)).drop (tokAt (l.drop (skipC false l))).2)
        rw [List.length_drop, List.length_drop] at this
        rw [List.length_cons]; omega

theorem toks_at : ∀ (f p : Nat) (l : List UInt8) (q : Nat), (toks f p l).2 = some q → q < p + l.length := by
  intro f
  induction f with
  | zero => intro p l q h; exact absurd h (by simp [toks])
  | succ f ih =>
    intro p l q h
    rw [toks_step] at h
    by_cases h1 : l.length ≤ skipC false l
    · rw [if_pos h1] at h; simp at h
    · rw [if_neg h1] at h
      by_cases h2 : (tokAt (l.drop (skipC false l))).2 = 0
      · rw [if_pos h2] at h; simp at h; omega
      · rw [if_neg h2] at h
        have := ih _ _ q h
        rw [List.length_drop, List.length_drop] at this
        have htl := tokAt_le (l.drop (skipC false l))
        rw [List.length_drop] at htl
        omega

/-- Each token lies in the text. -/
theorem toks_mem : ∀ (f p : Nat) (l : List UInt8) (t : Tok), t ∈ (toks f p l).1 → p ≤ t.pos ∧ t.pos + t.text.length ≤ p + l.length := by
  intro f
  induction f with
  | zero => intro p l t h; exact absurd h (by simp [toks])
  | succ f ih =>
    intro p l t h
    rw [toks_step] at h
    have hle := skipC_le false l
    by_cases h1 : l.length ≤ skipC false l
    · rw [if_pos h1] at h; simp at h
    · rw [if_neg h1] at h
      by_cases h2 : (tokAt (l.drop (skipC false l))).2 = 0
      · rw [if_pos h2] at h; simp at h
      · rw [if_neg h2] at h
        have htl := tokAt_le (l.drop (skipC false l))
        rw [List.length_drop] at htl
        rcases List.mem_cons.1 h with rfl | h
        · simp only [mkTok, List.length_take, List.length_drop]; omega
        · have := ih _ _ t h
          rw [List.length_drop, List.length_drop] at this
          omega

/-- The tokens of both. -/
theorem toks_join (b : List UInt8) : ∀ (n : Nat) (a : List UInt8) (p : Nat), a.length < n →
    toks (a.length + 1 + b.length + 1) p (a ++ 10 :: b) =
      match (toks (a.length + 1) p a).2 with
      | some q => ((toks (a.length + 1) p a).1, some q)
      | none => ((toks (a.length + 1) p a).1 ++ (toks (b.length + 1) (p + a.length + 1) b).1, (toks (b.length + 1) (p + a.length + 1) b).2) := by
  intro n
  induction n with
  | zero => intro a p h; omega
  | succ n ih =>
    intro a p hn
    have hsk := skip_join b a false
    have hle := skipC_le false a
    by_cases h1 : a.length ≤ skipC false a
    · rw [if_neg (by omega)] at hsk
      have ea : toks (a.length + 1) p a = ([], none) := by rw [toks_step, if_pos h1]
      rw [ea]
      have ed : (a ++ 10 :: b).drop (a.length + 1) = b := by rw [List.drop_append]; simp
      have edd : ∀ s, (a ++ 10 :: b).drop (a.length + 1 + s) = b.drop s := by
        intro s
        have := congrArg (List.drop s) ed
        rw [List.drop_drop] at this; exact this
      rw [toks_fuel (b.length + 1) (a.length + 1 + b.length + 1) _ b (by omega) (by omega), toks_step, toks_step, hsk, edd]
      simp only [List.nil_append]
      have hl : (a ++ 10 :: b).length = a.length + 1 + b.length := by simp; omega
      rw [hl]
      by_cases h2 : b.length ≤ skipC false b
      · rw [if_pos h2, if_pos (by omega)]
      · rw [if_neg h2, if_neg (by omega)]
        have e1 : p + (a.length + 1 + skipC false b) = p + a.length + 1 + skipC false b := by omega
        rw [e1]
    · rw [if_pos (by omega)] at hsk
      have hr : 0 < (a.drop (skipC false a)).length := by rw [List.length_drop]; omega
      have edr : (a ++ 10 :: b).drop (skipC false a) = a.drop (skipC false a) ++ 10 :: b := by rw [List.drop_append_of_le_length (by omega)]
      have htk := tokAt_join (a.drop (skipC false a)) b hr
      have htl := tokAt_le (a.drop (skipC false a))
      have hl : (a ++ 10 :: b).length = a.length + 1 + b.length := by simp; omega
      rw [toks_step, toks_step (a.length), hsk, edr, htk, if_neg (by omega), if_neg h1]
      by_cases h2 : (tokAt (a.drop (skipC false a))).2 = 0
      · rw [if_pos h2, if_pos h2]
      · rw [if_neg h2, if_neg h2]
        rw [List.length_drop] at htl
        have et : (a.drop (skipC false a) ++ 10 :: b).take (tokAt (a.drop (skipC false a))).2 = (a.drop (skipC false a)).take (tokAt (a.drop (skipC false a))).2 := by
          rw [List.take_append_of_le_length (by rw [List.length_drop]; omega)]
        have edn : (a.drop (skipC false a) ++ 10 :: b).drop (tokAt (a.drop (skipC false a))).2 = (a.drop (skipC false a)).drop (tokAt (a.drop (skipC false a))).2 ++ 10 :: b := by
          rw [List.drop_append_of_le_length (by rw [List.length_drop]; omega)]
        rw [et, edn]
        generalize hA : (a.drop (skipC false a)).drop (tokAt (a.drop (skipC false a))).2 = A
        have hAl : A.length + skipC false a + (tokAt (a.drop (skipC false a))).2 = a.length := by rw [← hA, List.length_drop, List.length_drop]; omega
        generalize hP : p + skipC false a + (tokAt (a.drop (skipC false a))).2 = P
        have hih := ih A P (by omega)
        rw [toks_fuel (a.length + 1 + b.length) (A.length + 1 + b.length + 1) P _ (by simp; omega) (by simp; omega), hih, toks_fuel a.length (A.length + 1) P A (by omega) (by omega)]
        have hPA : P + A.length + 1 = p + a.length + 1 := by omega
        rw [hPA]
        cases (toks (A.length + 1) P A).2 with
        | none => rfl
        | some q => rfl
end Lx
end Go.Proofs.YtcnpbbhkdogdeaaDoor
