/-
  All tokens of a text, in plain words; what a number's text spells.
-/
import Derived.Test.YtcnpbbhkdogdeaaDoorReadPure
import Derived.Lib.ParseIntB
namespace Go.Proofs.YtcnpbbhkdogdeaaDoor
namespace Lx

structure Tok where
  kind : Int
  pos : Nat
  text : List UInt8
  int : Int

def natV : List UInt8 → Nat → Nat
  | [], acc => acc
  | c :: r, acc => natV r (acc * 10 + (c.toNat - 48))
theorem natV_cons (c : UInt8) (r : List UInt8) (acc : Nat) : natV (c :: r) acc = natV r (acc * 10 + (c.toNat - 48)) := rfl
def numV (l : List UInt8) : Int := if (at0 l 0).toNat = 45 then -(natV (l.drop 1) 0 : Int) else natV l 0

def mkTok (p : Nat) (k : Int) (t : List UInt8) : Tok := ⟨k, p, t, if k = 2 then numV t else 0⟩

/-- The tokens from a place on (p: the place; the list: what stands there), or the first place at which none begins. -/
def toks : Nat → Nat → List UInt8 → List Tok × Option Nat
  | 0, _, _ => ([], none)
  | f + 1, p, l =>
    let a := skipC false l
    if l.length ≤ a then ([], none) else
      let r := l.drop a
      let n := (tokAt r).2
      if n = 0 then ([], some (p + a)) else
        let x := toks f (p + a + n) (r.drop n)
        (mkTok (p + a) (tokAt r).1 (r.take n) :: x.1, x.2)

theorem cnt_spec (p : UInt8 → Bool) : ∀ (l : List UInt8), ∀ c ∈ l.take (cnt p l), p c = true
  | [], c, h => by simp at h
  | d :: r, c, h => by
    rw [cnt] at h
    by_cases hd : p d
    · rw [if_pos hd, List.take_succ_cons] at h
      rcases List.mem_cons.1 h with rfl | h
      · exact hd
      · exact cnt_spec p r c h
    · rw [if_neg hd] at h; simp at h

theorem skipC_le : ∀ (b : Bool) (l : List UInt8), skipC b l ≤ l.length
  | b, [] => by cases b <;> simp [skipC]
  | false, c :: r => by
    rw [skipC]
    have h1 := skipC_le false r; have h2 := skipC_le true r
    split
    · simp; omega
    · split
      · simp; omega
      · simp
  | true, c :: r => by
    rw [skipC]
    have h1 := skipC_le false r; have h2 := skipC_le true r
    split <;> simp <;> omega

/-- How the kinds come about. -/
inductive Way (l : List UInt8) : Int → Nat → Prop
  | arrow : (at0 l 0).toNat = 45 → (at0 l 1).toNat = 62 → Way l 5 2
  | neg : (at0 l 0).toNat = 45 → digitB (at0 l 1) = true → cnt digitB (l.drop 1) ≤ 18 → wordB (at0 l (1 + cnt digitB (l.drop 1))) = false → Way l 2 (1 + cnt digitB (l.drop 1))
  | pos : digitB (at0 l 0) = true → cnt digitB l ≤ 18 → wordB (at0 l (cnt digitB l)) = false → Way l 2 (cnt digitB l)
  | name : smallB (at0 l 0) = true → Way l 3 (cnt wordB (l.drop 1) + 1)
  | con : greatB (at0 l 0) = true → Way l 4 (cnt wordB (l.drop 1) + 1)
  | one : ¬ single (at0 l 0) < 0 → ((at0 l 0).toNat = 45 → (at0 l 1).toNat ≠ 62 ∧ digitB (at0 l 1) = false) → Way l (single (at0 l 0)) 1
  | none : Way l 0 0

theorem single_cases (c : UInt8) : single c = 0 ∨ single c = 1 ∨ single c = 5 ∨ single c = -1 := by unfold single; repeat' split
                                                                                                    all_goals simp

theorem way (l : List UInt8) : Way l (tokAt l).1 (tokAt l).2 := by
  unfold tokAt
  simp only []
  by_cases h1 : (at0 l 0).toNat = 45
  · rw [if_pos h1]
    by_cases h2 : (at0 l 1).toNat = 62
    · rw [if_pos h2]; exact .arrow h1 h2
    · rw [if_neg h2]
      by_cases h3 : digitB (at0 l 1) = true
      · rw [if_pos h3]
        unfold num
        by_cases h4 : (decide (18 < cnt digitB (l.drop 1)) || wordB (at0 l (1 + cnt digitB (l.drop 1)))) = true
        · rw [if_pos h4]; exact .none
        · rw [if_neg h4]
          simp only [Bool.or_eq_true, decide_eq_true_eq, not_or] at h4
          exact .neg h1 h3 (by omega) (by simpa using h4.2)
      · rw [if_neg h3]
        unfold one
        by_cases h4 : single (at0 l 0) < 0
        · rw [if_pos h4]; exact .none
        · rw [if_neg h4]; exact .one h4 (fun _ => ⟨h2, by simpa using h3⟩)
  · rw [if_neg h1]
    by_cases h2 : digitB (at0 l 0) = true
    · rw [if_pos h2]
      unfold num
      by_cases h4 : (decide (18 < cnt digitB l) || wordB (at0 l (0 + cnt digitB l))) = true
      · rw [if_pos h4]; exact .none
      · rw [if_neg h4]
        simp only [Bool.or_eq_true, decide_eq_true_eq, not_or, Nat.zero_add] at h4
        rw [Nat.zero_add]
        exact .pos h2 (by omega) (by simpa using h4.2)
    · rw [if_neg h2]
      by_cases h3 : smallB (at0 l 0) = true
      · rw [if_pos h3]; exact .name h3
      · rw [if_neg h3]
        by_cases h4 : greatB (at0 l 0) = true
        · rw [if_pos h4]; exact .con h4
        · rw [if_neg h4]
          unfold one
          by_cases h5 : single (at0 l 0) < 0
          · rw [if_pos h5]; exact .none
          · rw [if_neg h5]; exact .one h5 (fun h => absurd h h1)

theorem ne_out (l : List UInt8) (k : Nat) (p : UInt8 → Bool) (h0 : p 0 = false) (h : p (at0 l k) = true) : k < l.length := by
  rcases Nat.lt_or_ge k l.length with h' | h'
  · exact h'
  · rw [at0_out l k h', h0] at h; exact absurd h (by decide)

/-- What is read lies inside. -/
theorem tokAt_le (l : List UInt8) : (tokAt l).2 ≤ l.length := by
  have hw := way l
  revert hw
  generalize (tokAt l).1 = k
  generalize (tokAt l).2 = n
  intro hw
  cases hw with
  | arrow h1 h2 => 
    have := ne_out l 1 (fun c => c.toNat == 62) (by decide) (by simp [h2]); omega
  | neg h1 h2 h3 h4 => 
    have := ne_out l 1 digitB (by decide) h2
    have := cnt_le digitB (l.drop 1); rw [List.length_drop] at this; omega
  | pos h1 h2 h3 => exact cnt_le _ _
  | name h => 
    have := ne_out l 0 smallB (by decide) h
    have := cnt_le wordB (l.drop 1); rw [List.length_drop] at this; omega
  | con h => 
    have := ne_out l 0 greatB (by decide) h
    have := cnt_le wordB (l.drop 1); rw [List.length_drop] at this; omega
  | one h _ => 
    have := ne_out l 0 (fun c => decide (¬ single c < 0)) (by decide) (by simpa using h); omega
  | none => omega

theorem digit_bd (c : UInt8) (h : digitB c = true) : 48 ≤ c.toNat ∧ c.toNat ≤ 57 := by simpa [digitB] using h

theorem natV_bound (l : List UInt8) : ∀ (acc b : Nat), (∀ c ∈ l, digitB c = true) → acc < b → natV l acc < b * 10 ^ l.length := by
  induction l with
  | nil => intro acc b _ h; rw [List.length_nil, Nat.pow_zero, Nat.mul_one]; exact h
  | cons c r ih =>
    intro acc b hd h
    have hc := digit_bd c (hd c (by simp))
    have := ih (acc * 10 + (c.toNat - 48)) (b * 10) (fun d h => hd d (by simp [h])) (by omega)
    rw [natV_cons, List.length_cons, Nat.pow_succ, Nat.mul_comm (10 ^ r.length), ← Nat.mul_assoc]
    exact this

/-- Up to eighteen digits are parsed. -/
theorem parseM (l : List UInt8) : ∀ (acc : Nat), (∀ c ∈ l, digitB c = true) → acc < 1000000000000000000 → (acc + 1) * 10 ^ l.length ≤ 1000000000000000000 → Lib.parseUintM 18446744073709551615 acc l = .ok (natV l acc) := by
  induction l with
  | nil => intros; rfl
  | cons c r ih =>
    intro acc hd ha hb
    have hc := digit_bd c (hd c (by simp))
    have e : (acc + 1) * 10 ^ (r.length + 1) = ((acc + 1) * 10) * 10 ^ r.length := by rw [Nat.pow_succ, Nat.mul_comm (10 ^ r.length), ← Nat.mul_assoc]
    rw [List.length_cons, e] at hb
    have hp : 0 < 10 ^ r.length := Nat.pow_pos (by omega)
    have h1 : (acc + 1) * 10 ≤ 1000000000000000000 := Nat.le_trans (Nat.le_mul_of_pos_right _ hp) hb
    have h2 : (acc * 10 + (c.toNat - 48) + 1) * 10 ^ r.length ≤ ((acc + 1) * 10) * 10 ^ r.length := Nat.mul_le_mul_right _ (by omega)
    rw [Lib.parseUintM, if_pos (by omega), if_neg (by omega), if_neg (by omega), natV_cons]
    exact ih _ (fun d h => hd d (by simp [h])) (by omega) (by omega)

theorem pow18 (n : Nat) (h : n ≤ 18) : 10 ^ n ≤ 1000000000000000000 := Nat.le_trans (Nat.pow_le_pow_right (by omega) h) (Nat.le_refl (10 ^ 18))

theorem take_at0 (l : List UInt8) (n k : Nat) (h : k < n) : at0 (l.take n) k = at0 l k := by
  unfold at0; rw [List.getD_eq_getElem?_getD, List.getD_eq_getElem?_getD, List.getElem?_take_of_lt h]

theorem parse_tok (l : List UInt8) (h2 : (tokAt l).1 = 2) : Lib.parseIntB 64 (l.take (tokAt l).2) = .ok (numV (l.take (tokAt l).2)) := by
  have hw := way l
  have hle := tokAt_le l
  revert hw hle
  generalize (tokAt l).2 = n
  rw [h2]
  intro hw hle
  generalize hk : (2 : Int) = k at hw
  cases hw with
  | arrow _ _ => omega
  | neg h1 hd hm hw => 
    obtain ⟨c, r, rfl⟩ : ∃ c r, l = c :: r := by
      cases l with
      | nil => exact absurd h1 (by decide)
      | cons c r => exact ⟨c, r, rfl⟩
    have hc : c.toNat = 45 := h1
    have e1 : (c :: r).drop 1 = r := rfl
    rw [e1] at hm hw hle ⊢
    rw [Nat.add_comm, List.take_succ_cons]
    have hds := cnt_spec digitB r
    have hcl := cnt_le digitB r
    have hn : 0 < cnt digitB r := by
      have h := cnt_step digitB (c :: r) 1 digit0 hd
      rw [e1] at h
      omega
    have hne : r.take (cnt digitB r) ≠ [] := by intro h; have := congrArg List.length h; rw [List.length_take, List.length_nil] at this; omega
    have hlen : (r.take (cnt digitB r)).length ≤ 18 := by rw [List.length_take]; omega
    generalize r.take (cnt digitB r) = t at *
    have hp := parseM t 0 hds (by omega) (by rw [Nat.zero_add, Nat.one_mul]; exact pow18 _ hlen)
    have hb := natV_bound t 0 1 hds (by omega)
    have hb' : natV t 0 < 1000000000000000000 := Nat.lt_of_lt_of_le hb (by rw [Nat.one_mul]; exact pow18 _ hlen)
    have e2 : numV (c :: t) = -(natV t 0 : Int) := by unfold numV; rw [if_pos (by simpa [at0] using hc)]; rfl
    rw [e2]
    unfold Lib.parseIntB
    simp only [hc, or_true, if_true, Lib.parseUintB, if_neg hne, hp]
    simp
    omega
  | pos hd hm hw => 
    obtain ⟨c, r, rfl⟩ : ∃ c r, l = c :: r := by
      cases l with
      | nil => exact absurd hd (by decide)
      | cons c r => exact ⟨c, r, rfl⟩
    have hc : digitB c = true := hd
    have hds := cnt_spec digitB (c :: r)
    have hcl := cnt_le digitB (c :: r)
    have hn : cnt digitB (c :: r) = cnt digitB r + 1 := by rw [cnt, if_pos hc]
    rw [hn] at hds hcl hm hw ⊢
    rw [List.take_succ_cons] at hds ⊢
    have hlen : (c :: r.take (cnt digitB r)).length ≤ 18 := by simp at hcl ⊢; omega
    generalize r.take (cnt digitB r) = t at *
    have hp := parseM (c :: t) 0 hds (by omega) (by rw [Nat.zero_add, Nat.one_mul]; exact pow18 _ hlen)
    have hb := natV_bound (c :: t) 0 1 hds (by omega)
    have hb' : natV (c :: t) 0 < 1000000000000000000 := Nat.lt_of_lt_of_le hb (by rw [Nat.one_mul]; exact pow18 _ hlen)
    simp [digitB] at hc
    have e2 : numV (c :: t) = (natV (c :: t) 0 : Int) := by unfold numV; rw [if_neg (by simp [at0]; omega)]
    rw [e2]
    unfold Lib.parseIntB
    have h45 : ¬ c.toNat = 45 := by omega
    have h43 : ¬ c.toNat = 43 := by omega
    simp only [h45, h43, or_self, if_false, Lib.parseUintB, if_neg (List.cons_ne_nil c t), hp]
    simp
    omega
  | name _ => omega
  | con _ => omega
  | one _ _ => have := single_cases (at0 l 0); omega
  | none => omega

end Lx
end Go.Proofs.YtcnpbbhkdogdeaaDoor
