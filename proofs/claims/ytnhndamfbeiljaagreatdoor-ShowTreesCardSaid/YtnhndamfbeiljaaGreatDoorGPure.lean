/-
  Several texts in one: Pure, ReadPure, Toks, PPure, NumPure, JoinPure.
-/
import GoSem.Core.Value
import Derived.Lib.ParseIntB
import Derived.Lib.ItoaNum
namespace Go.Proofs.YtnhndamfbeiljaaGreatDoor
set_option linter.unusedVariables false
set_option linter.unusedSimpArgs false
namespace Lx

def blankB (c : UInt8) : Bool := c.toNat == 32 || c.toNat == 10 || c.toNat == 9 || c.toNat == 13
def digitB (c : UInt8) : Bool := 48 ≤ c.toNat && c.toNat ≤ 57
def smallB (c : UInt8) : Bool := 97 ≤ c.toNat && c.toNat ≤ 122
def greatB (c : UInt8) : Bool := 65 ≤ c.toNat && c.toNat ≤ 90
def wordB (c : UInt8) : Bool := smallB c || greatB c || digitB c || c.toNat == 39

/-- The byte at a place; 0 behind the end. -/
def at0 (l : List UInt8) (n : Nat) : UInt8 := l.getD n 0

/-- How many bytes stand ahead of the next token: false: from a blank on; true: from inside a note on. -/
def skipC : Bool → List UInt8 → Nat
  | _, [] => 0
  | false, c :: r => if blankB c then skipC false r + 1 else if c.toNat = 59 then skipC true r + 1 else 0
  | true, c :: r => if c.toNat = 10 then skipC false r + 1 else skipC true r + 1

/-- How many bytes from the first on are as told. -/
def cnt (p : UInt8 → Bool) : List UInt8 → Nat
  | [] => 0
  | c :: r => if p c then cnt p r + 1 else 0

/-- A byte's kind, where it is a token alone; below 0, if it is none. -/
def single (c : UInt8) : Int :=
  if c.toNat = 40 then 0 else if c.toNat = 41 then 1 else
  if c.toNat = 95 ∨ c.toNat = 43 ∨ c.toNat = 45 ∨ c.toNat = 42 ∨ c.toNat = 47 ∨ c.toNat = 37 ∨ c.toNat = 61 ∨ c.toNat = 60 then 5 else -1

/-- A number's kind and length: o bytes ahead of the digits, m digits. -/
def num (l : List UInt8) (o m : Nat) : Int × Nat := if 18 < m || wordB (at0 l (o + m)) then (0, 0) else (2, o + m)

def one (c : UInt8) : Int × Nat := if single c < 0 then (0, 0) else (single c, 1)

/-- The kind and the length of the token that begins a text; (0, 0): none does. -/
def tokAt (l : List UInt8) : Int × Nat :=
  let c := at0 l 0
  if c.toNat = 45 then
    if (at0 l 1).toNat = 62 then (5, 2) else if digitB (at0 l 1) then num l 1 (cnt digitB (l.drop 1)) else one c
  else if digitB c then num l 0 (cnt digitB l)
  else if smallB c then (3, cnt wordB (l.drop 1) + 1)
  else if greatB c then (4, cnt wordB (l.drop 1) + 1)
  else one c

theorem drop_at (l : List UInt8) (k : Nat) (h : k < l.length) : l.drop k = at0 l k :: l.drop (k + 1) := by
  rw [List.drop_eq_getElem_cons h]; congr 1; simp [at0, List.getD_eq_getElem?_getD, List.getElem?_eq_getElem h]
theorem at0_out (l : List UInt8) (k : Nat) (h : l.length ≤ k) : at0 l k = 0 := by unfold at0; rw [List.getD_eq_getElem?_getD, List.getElem?_eq_none h]; rfl
theorem at0_drop (l : List UInt8) (k j : Nat) : at0 (l.drop k) j = at0 l (k + j) := by simp [at0, List.getD_eq_getElem?_getD]

theorem skip_blank (l : List UInt8) (k : Nat) (hb : blankB (at0 l k) = true) : k < l.length ∧ skipC false (l.drop k) = skipC false (l.drop (k + 1)) + 1 := by
  have hk : k < l.length := by
    rcases Nat.lt_or_ge k l.length with h | h
    · exact h
    · rw [at0_out l k h] at hb; exact absurd hb (by decide)
  exact ⟨hk, by rw [drop_at l k hk, skipC, if_pos hb]⟩
theorem skip_semi (l : List UInt8) (k : Nat) (hs : (at0 l k).toNat = 59) : k < l.length ∧ skipC false (l.drop k) = skipC true (l.drop (k + 1)) + 1 := by
  have hk : k < l.length := by
    rcases Nat.lt_or_ge k l.length with h | h
    · exact h
    · rw [at0_out l k h] at hs; exact absurd hs (by decide)
  exact ⟨hk, by rw [drop_at l k hk, skipC, if_neg (by simp [blankB, hs]), if_pos hs]⟩
theorem skip_end (l : List UInt8) (k : Nat) (hb : blankB (at0 l k) = false) (hs : (at0 l k).toNat ≠ 59) : skipC false (l.drop k) = 0 := by
  rcases Nat.lt_or_ge k l.length with h | h
  · rw [drop_at l k h, skipC, if_neg (by simp [hb]), if_neg hs]
  · rw [List.drop_eq_nil_of_le h]; rfl
theorem skip_note (l : List UInt8) (k : Nat) (hk : k < l.length) (hs : (at0 l k).toNat ≠ 10) : skipC true (l.drop k) = skipC true (l.drop (k + 1)) + 1 := by
  rw [drop_at l k hk, skipC, if_neg hs]
theorem skip_line (l : List UInt8) (k : Nat) (h : k < l.length → (at0 l k).toNat = 10) : skipC true (l.drop k) = skipC false (l.drop k) := by
  rcases Nat.lt_or_ge k l.length with hk | hk
  · rw [drop_at l k hk, skipC, skipC, if_pos (h hk), if_pos (by simp [blankB, h hk])]
  · rw [List.drop_eq_nil_of_le hk]; rfl

end Lx
end Go.Proofs.YtnhndamfbeiljaaGreatDoor

namespace Go.Proofs.YtnhndamfbeiljaaGreatDoor
namespace Lx

theorem cnt_step (p : UInt8 → Bool) (l : List UInt8) (k : Nat) (h0 : p 0 = false) (h : p (at0 l k) = true) : k < l.length ∧ cnt p (l.drop k) = cnt p (l.drop (k + 1)) + 1 := by
  have hk : k < l.length := by
    rcases Nat.lt_or_ge k l.length with h' | h'
    · exact h'
    · rw [at0_out l k h', h0] at h; exact absurd h (by decide)
  exact ⟨hk, by rw [drop_at l k hk, cnt, if_pos h]⟩
theorem cnt_stop (p : UInt8 → Bool) (l : List UInt8) (k : Nat) (h : p (at0 l k) = false) : cnt p (l.drop k) = 0 := by
  rcases Nat.lt_or_ge k l.length with h' | h'
  · rw [drop_at l k h', cnt, if_neg (by simp [h])]
  · rw [List.drop_eq_nil_of_le h']; rfl
theorem cnt_le (p : UInt8 → Bool) : ∀ l : List UInt8, cnt p l ≤ l.length
  | [] => Nat.le_refl _
  | c :: r => by rw [cnt]; have := cnt_le p r; split <;> simp <;> omega
theorem digit0 : digitB 0 = false := by decide
theorem word0 : wordB 0 = false := by decide

def RdR (l : List UInt8) (i lab : Nat) (K : Int) (E D : Nat) : Prop :=
  (lab = 0 ∧ E = i + 1 ∧ D = i ∧ (at0 l i).toNat = 45) ∨
  (lab = 1 ∧ ∃ o, D = i + o ∧ D ≤ E ∧ E + cnt digitB (l.drop E) = D + cnt digitB (l.drop D) ∧ tokAt (l.drop i) = num (l.drop i) o (cnt digitB (l.drop D))) ∨
  (lab = 2 ∧ tokAt (l.drop i) = (K, E + cnt wordB (l.drop E) - i)) ∨
  (lab = 3 ∧ E = i + 1 ∧ tokAt (l.drop i) = one (at0 l i)) ∨
  (lab = 4 ∧ tokAt (l.drop i) = (0, 0))

section
variable {l : List UInt8} {i : Nat} {K : Int} {E D : Nat}
theorem RdR.of0 (h : RdR l i 0 K E D) : E = i + 1 ∧ D = i ∧ (at0 l i).toNat = 45 := by
  rcases h with ⟨_, h⟩ | ⟨h, _⟩ | ⟨h, _⟩ | ⟨h, _⟩ | ⟨h, _⟩
  · exact h
  all_goals omega
theorem RdR.of1 (h : RdR l i 1 K E D) : ∃ o, D = i + o ∧ D ≤ E ∧ E + cnt digitB (l.drop E) = D + cnt digitB (l.drop D) ∧ tokAt (l.drop i) = num (l.drop i) o (cnt digitB (l.drop D)) := by
  rcases h with ⟨h, _⟩ | ⟨_, h⟩ | ⟨h, _⟩ | ⟨h, _⟩ | ⟨h, _⟩
  · omega
  · exact h
  all_goals omega
theorem RdR.of2 (h : RdR l i 2 K E D) : tokAt (l.drop i) = (K, E + cnt wordB (l.drop E) - i) := by
  rcases h with ⟨h, _⟩ | ⟨h, _⟩ | ⟨_, h⟩ | ⟨h, _⟩ | ⟨h, _⟩
  · omega
  · omega
  · exact h
  all_goals omega
theorem RdR.of3 (h : RdR l i 3 K E D) : E = i + 1 ∧ tokAt (l.drop i) = one (at0 l i) := by
  rcases h with ⟨h, _⟩ | ⟨h, _⟩ | ⟨h, _⟩ | ⟨_, h⟩ | ⟨h, _⟩
  · omega
  · omega
  · omega
  · exact h
  · omega
theorem RdR.of4 (h : RdR l i 4 K E D) : tokAt (l.drop i) = (0, 0) := by
  rcases h with ⟨h, _⟩ | ⟨h, _⟩ | ⟨h, _⟩ | ⟨h, _⟩ | ⟨_, h⟩
  · omega
  · omega
  · omega
  · omega
  · exact h
theorem RdR.lab_le {lab : Nat} (h : RdR l i lab K E D) : lab = 0 ∨ lab = 1 ∨ lab = 2 ∨ lab = 3 ∨ lab = 4 := by
  rcases h with ⟨h, _⟩ | ⟨h, _⟩ | ⟨h, _⟩ | ⟨h, _⟩ | ⟨h, _⟩ <;> omega

theorem tokAt_eq (l : List UInt8) (i : Nat) : tokAt (l.drop i) =
    if (at0 l i).toNat = 45 then
      if (at0 l (i + 1)).toNat = 62 then (5, 2) else if digitB (at0 l (i + 1)) then num (l.drop i) 1 (cnt digitB (l.drop (i + 1))) else one (at0 l i)
    else if digitB (at0 l i) then num (l.drop i) 0 (cnt digitB (l.drop i))
    else if smallB (at0 l i) then (3, cnt wordB (l.drop (i + 1)) + 1)
    else if greatB (at0 l i) then (4, cnt wordB (l.drop (i + 1)) + 1)
    else one (at0 l i) := by
  unfold tokAt
  simp only [at0_drop, Nat.add_zero, List.drop_drop]

/- From the first byte. -/
theorem rd_minus (h : (at0 l i).toNat = 45) : RdR l i 0 K (i + 1) i := .inl ⟨rfl, rfl, rfl, h⟩
theorem rd_digit (h : (at0 l i).toNat ≠ 45) (hd : digitB (at0 l i) = true) : RdR l i 1 K (i + 1) i :=
  .inr (.inl ⟨rfl, 0, rfl, by omega, by have := (cnt_step digitB l i digit0 hd).2; omega, by rw [tokAt_eq, if_neg h, if_pos hd]⟩)
theorem rd_small (h : (at0 l i).toNat ≠ 45) (hd : digitB (at0 l i) = false) (hs : smallB (at0 l i) = true) : RdR l i 2 3 (i + 1) D :=
  .inr (.inr (.inl ⟨rfl, by rw [tokAt_eq, if_neg h, if_neg (by simp [hd]), if_pos hs]; congr 1; omega⟩))
theorem rd_great (h : (at0 l i).toNat ≠ 45) (hd : digitB (at0 l i) = false) (hs : smallB (at0 l i) = false) (hg : greatB (at0 l i) = true) : RdR l i 2 4 (i + 1) D :=
  .inr (.inr (.inl ⟨rfl, by rw [tokAt_eq, if_neg h, if_neg (by simp [hd]), if_neg (by simp [hs]), if_pos hg]; congr 1; omega⟩))
theorem rd_other (h : (at0 l i).toNat ≠ 45) (hd : digitB (at0 l i) = false) (hs : smallB (at0 l i) = false) (hg : greatB (at0 l i) = false) : RdR l i 3 K (i + 1) D :=
  .inr (.inr (.inr (.inl ⟨rfl, rfl, by rw [tokAt_eq, if_neg h, if_neg (by simp [hd]), if_neg (by simp [hs]), if_neg (by simp [hg])]⟩)))

/- From minus. -/
theorem rd_arrow (h : (at0 l i).toNat = 45) (h1 : (at0 l (i + 1)).toNat = 62) : tokAt (l.drop i) = (5, 2) ∧ i + 2 ≤ l.length := by
  refine ⟨by rw [tokAt_eq, if_pos h, if_pos h1], ?_⟩
  rcases Nat.lt_or_ge (i + 1) l.length with h' | h'
  · omega
  · rw [at0_out l (i + 1) h'] at h1; exact absurd h1 (by decide)
theorem rd_neg (h : (at0 l i).toNat = 45) (h1 : (at0 l (i + 1)).toNat ≠ 62) (hd : digitB (at0 l (i + 1)) = true) : RdR l i 1 K (i + 1) (i + 1) :=
  .inr (.inl ⟨rfl, 1, rfl, by omega, rfl, by rw [tokAt_eq, if_pos h, if_neg h1, if_pos hd]⟩)
theorem rd_lone (h : (at0 l i).toNat = 45) (h1 : (at0 l (i + 1)).toNat ≠ 62) (hd : digitB (at0 l (i + 1)) = false) : RdR l i 3 K (i + 1) D :=
  .inr (.inr (.inr (.inl ⟨rfl, rfl, by rw [tokAt_eq, if_pos h, if_neg h1, if_neg (by simp [hd])]⟩)))

theorem rd_arrow' (hE : E = i + 1) (h : (at0 l i).toNat = 45) (h1 : (at0 l E).toNat = 62) : tokAt (l.drop i) = (5, 2) ∧ E + 1 ≤ l.length := by
  subst hE; exact rd_arrow h h1
theorem rd_neg' (hE : E = i + 1) (h : (at0 l i).toNat = 45) (h1 : (at0 l E).toNat ≠ 62) (hd : digitB (at0 l E) = true) : RdR l i 1 K E E := by
  subst hE; exact rd_neg h h1 hd
theorem rd_lone' (hE : E = i + 1) (h : (at0 l i).toNat = 45) (h1 : (at0 l E).toNat ≠ 62) (hd : digitB (at0 l E) = false) : RdR l i 3 K E D := by
  subst hE; exact rd_lone h h1 hd

/- From number. -/
theorem rd_more (h : RdR l i 1 K E D) (hd : digitB (at0 l E) = true) : E < l.length ∧ RdR l i 1 K (E + 1) D := by
  obtain ⟨o, h1, h2, h3, h4⟩ := h.of1
  obtain ⟨hk, hs⟩ := cnt_step digitB l E digit0 hd
  exact ⟨hk, .inr (.inl ⟨rfl, o, h1, by omega, by omega, h4⟩)⟩
theorem rd_bounds (h : RdR l i 1 K E D) : D ≤ E ∧ i ≤ D := by
  obtain ⟨o, h1, h2, h3, h4⟩ := h.of1
  omega
theorem num_mid (h : RdR l i 1 K E D) (hd : digitB (at0 l E) = false) : tokAt (l.drop i) = if 18 < E - D || wordB (at0 l E) then (0, 0) else (2, E - i) := by
  obtain ⟨o, h1, h2, h3, h4⟩ := h.of1
  have hs := cnt_stop digitB l E hd
  rw [hs] at h3
  have e1 : cnt digitB (l.drop D) = E - D := by omega
  have e2 : i + (o + (E - D)) = E := by omega
  have e3 : o + (E - D) = E - i := by omega
  rw [h4, e1, num, at0_drop, e2, e3]
theorem rd_long (h : RdR l i 1 K E D) (hd : digitB (at0 l E) = false) (hl : 18 < E - D) : RdR l i 4 K E D :=
  .inr (.inr (.inr (.inr ⟨rfl, by rw [num_mid h hd, if_pos (by simp [hl])]⟩)))
theorem rd_tied (h : RdR l i 1 K E D) (hd : digitB (at0 l E) = false) (hw : wordB (at0 l E) = true) : RdR l i 4 K E D :=
  .inr (.inr (.inr (.inr ⟨rfl, by rw [num_mid h hd, if_pos (by simp [hw])]⟩)))
theorem rd_num (h : RdR l i 1 K E D) (hd : digitB (at0 l E) = false) (hl : ¬ 18 < E - D) (hw : wordB (at0 l E) = false) : tokAt (l.drop i) = (2, E - i) := by
  rw [num_mid h hd, if_neg (by simp [hl, hw])]

/- From word. -/
theorem rd_letter (h : RdR l i 2 K E D) (hw : wordB (at0 l E) = true) : E < l.length ∧ RdR l i 2 K (E + 1) D := by
  obtain ⟨hk, hs⟩ := cnt_step wordB l E word0 hw
  exact ⟨hk, .inr (.inr (.inl ⟨rfl, by rw [h.of2, hs]; congr 1; omega⟩))⟩
theorem rd_word (h : RdR l i 2 K E D) (hw : wordB (at0 l E) = false) : tokAt (l.drop i) = (K, E - i) := by
  rw [h.of2, cnt_stop wordB l E hw]; rfl

/- From single. -/
theorem rd_none (h : RdR l i 3 K E D) (hs : single (at0 l i) < 0) : RdR l i 4 (single (at0 l i)) E D :=
  .inr (.inr (.inr (.inr ⟨rfl, by rw [h.of3.2, one, if_pos hs]⟩)))
theorem rd_one (h : RdR l i 3 K E D) (hs : ¬ single (at0 l i) < 0) : tokAt (l.drop i) = (single (at0 l i), 1) := by
  rw [h.of3.2, one, if_neg hs]
end
end Lx
end Go.Proofs.YtnhndamfbeiljaaGreatDoor

namespace Go.Proofs.YtnhndamfbeiljaaGreatDoor
namespace Lx

structure Tok where
  kind : Int
  pos : Nat
  text : List UInt8
  int : Int

def natV : List UInt8 → Nat → Nat
  | [], acc => acc
  | c :: r, acc => natV r (acc * 10 + (c.toNat - 48))
theorem natV_cons (c : UInt8) (r : List UInt8) (acc : Nat) : natV (c :: r) acc = natV r (acc * 10 + (c.toNat - 48)) := rfl
def numV (l : List UInt8) : Int := if (at0 l 0).toNat = 45 then -(natV (l.drop 1) 0 : Int) else natV l 0

def mkTok (p : Nat) (k : Int) (t : List UInt8) : Tok := ⟨k, p, t, if k = 2 then numV t else 0⟩

/-- The tokens from a place on (p: the place; the list: what stands there), or the first place at which none begins. -/
def toks : Nat → Nat → List UInt8 → List Tok × Option Nat
  | 0, _, _ => ([], none)
  | f + 1, p, l =>
    let a := skipC false l
    if l.length ≤ a then ([], none) else
      let r := l.drop a
      let n := (tokAt r).2
      if n = 0 then ([], some (p + a)) else
        let x := toks f (p + a + n) (r.drop n)
        (mkTok (p + a) (tokAt r).1 (r.take n) :: x.1, x.2)

theorem cnt_spec (p : UInt8 → Bool) : ∀ (l : List UInt8), ∀ c ∈ l.take (cnt p l), p c = true
  | [], c, h => by simp at h
  | d :: r, c, h => by
    rw [cnt] at h
    by_cases hd : p d
    · rw [if_pos hd, List.take_succ_cons] at h
      rcases List.mem_cons.1 h with rfl | h
      · exact hd
      · exact cnt_spec p r c h
    · rw [if_neg hd] at h; simp at h

theorem skipC_le : ∀ (b : Bool) (l : List UInt8), skipC b l ≤ l.length
  | b, [] => by cases b <;> simp [skipC]
  | false, c :: r => by
    rw [skipC]
    have h1 := skipC_le false r; have h2 := skipC_le true r
    split
    · simp; omega
    · split
      · simp; omega
      · simp
  | true, c :: r => by
    rw [skipC]
    have h1 := skipC_le false r; have h2 := skipC_le true r
    split <;> simp <;> omega

/-- How the kinds come about. -/
inductive Way (l : List UInt8) : Int → Nat → Prop
  | arrow : (at0 l 0).toNat = 45 → (at0 l 1).toNat = 62 → Way l 5 2
  | neg : (at0 l 0).toNat = 45 → digitB (at0 l 1) = true → cnt digitB (l.drop 1) ≤ 18 → wordB (at0 l (1 + cnt digitB (l.drop 1))) = false → Way l 2 (1 + cnt digitB (l.drop 1))
  | pos : digitB (at0 l 0) = true → cnt digitB l ≤ 18 → wordB (at0 l (cnt digitB l)) = false → Way l 2 (cnt digitB l)
  | name : smallB (at0 l 0) = true → Way l 3 (cnt wordB (l.drop 1) + 1)
  | con : greatB (at0 l 0) = true → Way l 4 (cnt wordB (l.drop 1) + 1)
  | one : ¬ single (at0 l 0) < 0 → ((at0 l 0).toNat = 45 → (at0 l 1).toNat ≠ 62 ∧ digitB (at0 l 1) = false) → Way l (single (at0 l 0)) 1
  | none : Way l 0 0

theorem single_cases (c : UInt8) : single c = 0 ∨ single c = 1 ∨ single c = 5 ∨ single c = -1 := by unfold single; repeat' split
                                                                                                    all_goals simp

theorem way (l : List UInt8) : Way l (tokAt l).1 (tokAt l).2 := by
  unfold tokAt
  simp only []
  by_cases h1 : (at0 l 0).toNat = 45
  · rw [if_pos h1]
    by_cases h2 : (at0 l 1).toNat = 62
    · rw [if_pos h2]; exact .arrow h1 h2
    · rw [if_neg h2]
      by_cases h3 : digitB (at0 l 1) = true
      · rw [if_pos h3]
        unfold num
        by_cases h4 : (decide (18 < cnt digitB (l.drop 1)) || wordB (at0 l (1 + cnt digitB (l.drop 1)))) = true
        · rw [if_pos h4]; exact .none
        · rw [if_neg h4]
          simp only [Bool.or_eq_true, decide_eq_true_eq, not_or] at h4
          exact .neg h1 h3 (by omega) (by simpa using h4.2)
      · rw [if_neg h3]
        unfold one
        by_cases h4 : single (at0 l 0) < 0
        · rw [if_pos h4]; exact .none
        · rw [if_neg h4]; exact .one h4 (fun _ => ⟨h2, by simpa using h3⟩)
  · rw [if_neg h1]
    by_cases h2 : digitB (at0 l 0) = true
    · rw [if_pos h2]
      unfold num
      by_cases h4 : (decide (18 < cnt digitB l) || wordB (at0 l (0 + cnt digitB l))) = true
      · rw [if_pos h4]; exact .none
      · rw [if_neg h4]
        simp only [Bool.or_eq_true, decide_eq_true_eq, not_or, Nat.zero_add] at h4
        rw [Nat.zero_add]
        exact .pos h2 (by omega) (by simpa using h4.2)
    · rw [if_neg h2]
      by_cases h3 : smallB (at0 l 0) = true
      · rw [if_pos h3]; exact .name h3
      · rw [if_neg h3]
        by_cases h4 : greatB (at0 l 0) = true
        · rw [if_pos h4]; exact .con h4
        · rw [if_neg h4]
          unfold one
          by_cases h5 : single (at0 l 0) < 0
          · rw [if_pos h5]; exact .none
          · rw [if_neg h5]; exact .one h5 (fun h => absurd h h1)

theorem ne_out (l : List UInt8) (k : Nat) (p : UInt8 → Bool) (h0 : p 0 = false) (h : p (at0 l k) = true) : k < l.length := by
  rcases Nat.lt_or_ge k l.length with h' | h'
  · exact h'
  · rw [at0_out l k h', h0] at h; exact absurd h (by decide)

/-- What is read lies inside. -/
theorem tokAt_le (l : List UInt8) : (tokAt l).2 ≤ l.length := by
  have hw := way l
  revert hw
  generalize (tokAt l).1 = k
  generalize (tokAt l).2 = n
  intro hw
  cases hw with
  | arrow h1 h2 => 
    have := ne_out l 1 (fun c => c.toNat == 62) (by decide) (by simp [h2]); omega
  | neg h1 h2 h3 h4 => 
    have := ne_out l 1 digitB (by decide) h2
    have := cnt_le digitB (l.drop 1); rw [List.length_drop] at this; omega
  | pos h1 h2 h3 => exact cnt_le _ _
  | name h => 
    have := ne_out l 0 smallB (by decide) h
    have := cnt_le wordB (l.drop 1); rw [List.length_drop] at this; omega
  | con h => 
    have := ne_out l 0 greatB (by decide) h
    have := cnt_le wordB (l.drop 1); rw [List.length_drop] at this; omega
  | one h _ => 
    have := ne_out l 0 (fun c => decide (¬ single c < 0)) (by decide) (by simpa using h); omega
  | none => omega

theorem digit_bd (c : UInt8) (h : digitB c = true) : 48 ≤ c.toNat ∧ c.toNat ≤ 57 := by simpa [digitB] using h

theorem natV_bound (l : List UInt8) : ∀ (acc b : Nat), (∀ c ∈ l, digitB c = true) → acc < b → natV l acc < b * 10 ^ l.length := by
  induction l with
  | nil => intro acc b _ h; rw [List.length_nil, Nat.pow_zero, Nat.mul_one]; exact h
  | cons c r ih =>
    intro acc b hd h
    have hc := digit_bd c (hd c (by simp))
    have := ih (acc * 10 + (c.toNat - 48)) (b * 10) (fun d h => hd d (by simp [h])) (by omega)
    rw [natV_cons, List.length_cons, Nat.pow_succ, Nat.mul_comm (10 ^ r.length), ← Nat.mul_assoc]
    exact this

/-- Up to eighteen digits are parsed. -/
theorem parseM (l : List UInt8) : ∀ (acc : Nat), (∀ c ∈ l, digitB c = true) → acc < 1000000000000000000 → (acc + 1) * 10 ^ l.length ≤ 1000000000000000000 → Lib.parseUintM 18446744073709551615 acc l = .ok (natV l acc) := by
  induction l with
  | nil => intros; rfl
  | cons c r ih =>
    intro acc hd ha hb
    have hc := digit_bd c (hd c (by simp))
    have e : (acc + 1) * 10 ^ (r.length + 1) = ((acc + 1) * 10) * 10 ^ r.length := by rw [Nat.pow_succ, Nat.mul_comm (10 ^ r.length), ← Nat.mul_assoc]
    rw [List.length_cons, e] at hb
    have hp : 0 < 10 ^ r.length := Nat.pow_pos (by omega)
    have h1 : (acc + 1) * 10 ≤ 1000000000000000000 := Nat.le_trans (Nat.le_mul_of_pos_right _ hp) hb
    have h2 : (acc * 10 + (c.toNat - 48) + 1) * 10 ^ r.length ≤ ((acc + 1) * 10) * 10 ^ r.length := Nat.mul_le_mul_right _ (by omega)
    rw [Lib.parseUintM, if_pos (by omega), if_neg (by omega), if_neg (by omega), natV_cons]
    exact ih _ (fun d h => hd d (by simp [h])) (by omega) (by omega)

theorem pow18 (n : Nat) (h : n ≤ 18) : 10 ^ n ≤ 1000000000000000000 := Nat.le_trans (Nat.pow_le_pow_right (by omega) h) (Nat.le_refl (10 ^ 18))

theorem take_at0 (l : List UInt8) (n k : Nat) (h : k < n) : at0 (l.take n) k = at0 l k := by
  unfold at0; rw [List.getD_eq_getElem?_getD, List.getD_eq_getElem?_getD, List.getElem?_take_of_lt h]

theorem parse_tok (l : List UInt8) (h2 : (tokAt l).1 = 2) : Lib.parseIntB 64 (l.take (tokAt l).2) = .ok (numV (l.take (tokAt l).2)) := by
  have hw := way l
  have hle := tokAt_le l
  revert hw hle
  generalize (tokAt l).2 = n
  rw [h2]
  intro hw hle
  generalize hk : (2 : Int) = k at hw
  cases hw with
  | arrow _ _ => omega
  | neg h1 hd hm hw => 
    obtain ⟨c, r, rfl⟩ : ∃ c r, l = c :: r := by
      cases l with
      | nil => exact absurd h1 (by decide)
      | cons c r => exact ⟨c, r, rfl⟩
    have hc : c.toNat = 45 := h1
    have e1 : (c :: r).drop 1 = r := rfl
    rw [e1] at hm hw hle ⊢
    rw [Nat.add_comm, List.take_succ_cons]
    have hds := cnt_spec digitB r
    have hcl := cnt_le digitB r
    have hn : 0 < cnt digitB r := by
      have h := cnt_step digitB (c :: r) 1 digit0 hd
      rw [e1] at h
      omega
    have hne : r.take (cnt digitB r) ≠ [] := by intro h; have := congrArg List.length h; rw [List.length_take, List.length_nil] at this; omega
    have hlen : (r.take (cnt digitB r)).length ≤ 18 := by rw [List.length_take]; omega
    generalize r.take (cnt digitB r) = t at *
    have hp := parseM t 0 hds (by omega) (by rw [Nat.zero_add, Nat.one_mul]; exact pow18 _ hlen)
    have hb := natV_bound t 0 1 hds (by omega)
    have hb' : natV t 0 < 1000000000000000000 := Nat.lt_of_lt_of_le hb (by rw [Nat.one_mul]; exact pow18 _ hlen)
    have e2 : numV (c :: t) = -(natV t 0 : Int) := by unfold numV; rw [if_pos (by simpa [at0] using hc)]; rfl
    rw [e2]
    unfold Lib.parseIntB
    simp only [hc, or_true, if_true, Lib.parseUintB, if_neg hne, hp]
    simp
    omega
  | pos hd hm hw => 
    obtain ⟨c, r, rfl⟩ : ∃ c r, l = c :: r := by
      cases l with
      | nil => exact absurd hd (by decide)
      | cons c r => exact ⟨c, r, rfl⟩
    have hc : digitB c = true := hd
    have hds := cnt_spec digitB (c :: r)
    have hcl := cnt_le digitB (c :: r)
    have hn : cnt digitB (c :: r) = cnt digitB r + 1 := by rw [cnt, if_pos hc]
    rw [hn] at hds hcl hm hw ⊢
    rw [List.take_succ_cons] at hds ⊢
    have hlen : (c :: r.take (cnt digitB r)).length ≤ 18 := by simp at hcl ⊢; omega
    generalize r.take (cnt digitB r) = t at *
    have hp := parseM (c :: t) 0 hds (by omega) (by rw [Nat.zero_add, Nat.one_mul]; exact pow18 _ hlen)
    have hb := natV_bound (c :: t) 0 1 hds (by omega)
    have hb' : natV (c :: t) 0 < 1000000000000000000 := Nat.lt_of_lt_of_le hb (by rw [Nat.one_mul]; exact pow18 _ hlen)
    simp [digitB] at hc
    have e2 : numV (c :: t) = (natV (c :: t) 0 : Int) := by unfold numV; rw [if_neg (by simp [at0]; omega)]
    rw [e2]
    unfold Lib.parseIntB
    have h45 : ¬ c.toNat = 45 := by omega
    have h43 : ¬ c.toNat = 43 := by omega
    simp only [h45, h43, or_self, if_false, Lib.parseUintB, if_neg (List.cons_ne_nil c t), hp]
    simp
    omega
  | name _ => omega
  | con _ => omega
  | one _ _ => have := single_cases (at0 l 0); omega
  | none => omega

end Lx
end Go.Proofs.YtnhndamfbeiljaaGreatDoor

namespace Go.Proofs.YtnhndamfbeiljaaGreatDoor
namespace Px
open Lx (Tok)

/-- A token, or a list of nodes (then tok is its parenthesis). -/
inductive Node where
  | mk (tok : Tok) (list : List Node) (takes : Nat)
def Node.tok : Node → Tok | .mk t _ _ => t
def Node.list : Node → List Node | .mk _ l _ => l
def Node.takes : Node → Nat | .mk _ _ k => k
def Node.pos (n : Node) : Nat := n.tok.pos
def Node.text (n : Node) : List UInt8 := n.tok.text

/-- What comes of a part, or the place of what is wrong. -/
abbrev R (α : Type) := Except Nat α

def takesOf (t : List UInt8) : Nat :=
  if t = [43] ∨ t = [45] ∨ t = [42] ∨ t = [47] ∨ t = [37] ∨ t = [61] ∨ t = [60] ∨ t = [99, 112, 120] ∨ t = [99, 97, 100, 100] ∨ t = [99, 109, 117, 108] then 2
  else if t = [114, 101] ∨ t = [105, 109] then 1 else 0

mutual
/-- A node that stands in d lists, and the tokens behind it. -/
def node (stop : Nat) : Nat → Nat → List Tok → R (Node × List Tok)
  | 0, _, _ => .error stop
  | _ + 1, _, [] => .error stop
  | f + 1, d, t :: ts =>
    if t.kind = 1 then .error t.pos
    else if t.kind = 0 then
      if d = 40 then .error t.pos else
        match rest stop f (d + 1) ts with
        | .error p => .error p
        | .ok (l, ts') => .ok (.mk t l 0, ts')
    else .ok (.mk t [] (takesOf t.text), ts)
/-- A list's nodes, and the tokens behind its end. -/
def rest (stop : Nat) : Nat → Nat → List Tok → R (List Node × List Tok)
  | 0, _, _ => .error stop
  | _ + 1, _, [] => .error stop
  | f + 1, d, t :: ts =>
    if t.kind = 1 then .ok ([], ts) else
      match node stop f d (t :: ts) with
      | .error p => .error p
      | .ok (n, ts') =>
        match rest stop f d ts' with
        | .error p => .error p
        | .ok (l, ts'') => .ok (n :: l, ts'')
end

def isNameB (n : Node) : Bool :=
  !(n.text == [100, 97, 116, 97] || n.text == [100, 101, 102] || n.text == [102, 110] || n.text == [108, 101, 116] || n.text == [99, 97, 115, 101]) && n.tok.kind == 3 && n.takes == 0
def isListB (n : Node) : Bool := n.tok.kind == 0
def isConB (n : Node) : Bool := n.tok.kind == 4
def isIntB (n : Node) : Bool := n.tok.kind == 2

def word (n : Node) : List UInt8 :=
  match n.list with
  | [] => []
  | m :: _ => if isListB m then [] else m.text

def hold (n : Node) (least most : Nat) : R Unit :=
  if n.list.length < least then .error n.pos else
    match n.list[most]? with
    | some m => .error m.pos
    | none => .ok ()

def nodes (n : Node) (least most : Nat) : R (List Node) :=
  if isListB n then
    match hold n least most with
    | .error p => .error p
    | .ok _ => .ok n.list
  else .error n.pos

def each {α : Type} (f : Node → R α) : List Node → R (List α)
  | [] => .ok []
  | n :: r =>
    match f n with
    | .error p => .error p
    | .ok x =>
      match each f r with
      | .error p => .error p
      | .ok xs => .ok (x :: xs)

def name (n : Node) : R (List UInt8) := if isNameB n then .ok n.text else .error n.pos
def conName (n : Node) : R (List UInt8) := if isConB n then .ok n.text else .error n.pos
def names (n : Node) (least : Nat) : R (List (List UInt8)) :=
  match nodes n least 8 with
  | .error p => .error p
  | .ok l => each name l

inductive TypeE where
  | mk (pos : Nat) (name : List UInt8) (args : List TypeE)
inductive Pat where
  | mk (kind : Nat) (pos : Nat) (name : List UInt8) (int : Int) (args : List Pat)
inductive Expr where
  | mk (kind : Nat) (pos : Nat) (name : List UInt8) (int : Int) (names : List (List UInt8)) (args : List Expr) (alts : List (Pat × Expr))

def typeE : Nat → Node → R TypeE
  | 0, n => .error n.pos
  | f + 1, n =>
    if isConB n || isNameB n then .ok (.mk n.pos n.text [])
    else match nodes n 2 9 with
      | .error p => .error p
      | .ok l =>
        match (if word n = [45, 62] then (match hold n 3 3 with | .error p => .error p | .ok _ => .ok [45, 62]) else conName (l.headD n)) with
        | .error p => .error p
        | .ok nm =>
          match each (typeE f) l.tail with
          | .error p => .error p
          | .ok xs => .ok (.mk n.pos nm xs)

def pat : Nat → Node → R Pat
  | 0, n => .error n.pos
  | f + 1, n =>
    if isListB n then
      match nodes n 2 9 with
      | .error p => .error p
      | .ok l =>
        match conName (l.headD n) with
        | .error p => .error p
        | .ok nm =>
          match each (pat f) l.tail with
          | .error p => .error p
          | .ok xs => .ok (.mk 3 n.pos nm 0 xs)
    else if isIntB n then .ok (.mk 2 n.pos [] n.tok.int [])
    else if isConB n then .ok (.mk 3 n.pos n.text 0 [])
    else if isNameB n then .ok (.mk 1 n.pos n.text 0 [])
    else if n.text = [95] then .ok (.mk 0 n.pos [] 0 [])
    else .error n.pos

/-- A pair's name and expression (ex: what an expression comes to). -/
def pair (ex : Node → R Expr) (b : Node) : R (List UInt8 × Expr) :=
  match nodes b 2 2 with
  | .error p => .error p
  | .ok l =>
    match name (l.headD b) with
    | .error p => .error p
    | .ok s =>
      match ex (l.getD 1 b) with
      | .error p => .error p
      | .ok x => .ok (s, x)

def alt (f : Nat) (ex : Node → R Expr) (b : Node) : R (Pat × Expr) :=
  match nodes b 2 2 with
  | .error p => .error p
  | .ok l =>
    match pat f (l.headD b) with
    | .error p => .error p
    | .ok s =>
      match ex (l.getD 1 b) with
      | .error p => .error p
      | .ok x => .ok (s, x)

def fnExpr (ex : Node → R Expr) (n : Node) : R Expr :=
  match nodes n 3 3 with
  | .error p => .error p
  | .ok l =>
    match names (l.getD 1 n) 1 with
    | .error p => .error p
    | .ok ns =>
      match ex (l.getD 2 n) with
      | .error p => .error p
      | .ok x => .ok (.mk 3 n.pos [] 0 ns [x] [])

def letExpr (ex : Node → R Expr) (n : Node) : R Expr :=
  match nodes n 3 3 with
  | .error p => .error p
  | .ok l =>
    match nodes (l.getD 1 n) 1 8 with
    | .error p => .error p
    | .ok ps =>
      match each (pair ex) ps with
      | .error p => .error p
      | .ok bs =>
        match ex (l.getD 2 n) with
        | .error p => .error p
        | .ok x => .ok (.mk 4 n.pos [] 0 (bs.map (·.1)) (bs.map (·.2) ++ [x]) [])

def caseExpr (f : Nat) (ex : Node → R Expr) (n : Node) : R Expr :=
  match nodes n 3 18 with
  | .error p => .error p
  | .ok l =>
    match ex (l.getD 1 n) with
    | .error p => .error p
    | .ok x =>
      match each (alt f ex) (l.drop 2) with
      | .error p => .error p
      | .ok bs => .ok (.mk 5 n.pos [] 0 [] [x] bs)

/-- A list that is no fn, let, case. -/
def plainExpr (ex : Node → R Expr) (n : Node) : R Expr :=
  match nodes n 2 9 with
  | .error p => .error p
  | .ok l =>
    let first := l.headD n
    if 0 < first.takes then
      match hold n (1 + first.takes) (1 + first.takes) with
      | .error p => .error p
      | .ok _ =>
        match each ex l.tail with
        | .error p => .error p
        | .ok xs => .ok (.mk 7 n.pos first.text 0 [] xs [])
    else if isConB first then
      match each ex l.tail with
      | .error p => .error p
      | .ok xs => .ok (.mk 2 n.pos first.text 0 [] xs [])
    else
      match each ex l with
      | .error p => .error p
      | .ok xs => .ok (.mk 6 n.pos [] 0 [] xs [])

def listExpr (f : Nat) (ex : Node → R Expr) (n : Node) : R Expr :=
  if word n = [102, 110] then fnExpr ex n
  else if word n = [108, 101, 116] then letExpr ex n
  else if word n = [99, 97, 115, 101] then caseExpr f ex n
  else plainExpr ex n

def expr : Nat → Node → R Expr
  | 0, n => .error n.pos
  | f + 1, n =>
    if isListB n then listExpr f (expr f) n
    else if isIntB n then .ok (.mk 0 n.pos [] n.tok.int [] [] [])
    else if isConB n then .ok (.mk 2 n.pos n.text 0 [] [] [])
    else if isNameB n then .ok (.mk 1 n.pos n.text 0 [] [] [])
    else .error n.pos

structure Con where
  pos : Nat
  name : List UInt8
  fields : List TypeE
structure Data where
  pos : Nat
  name : List UInt8
  params : List (List UInt8)
  cons : List Con
structure Def where
  pos : Nat
  name : List UInt8
  params : List (List UInt8)
  body : Expr
structure Prog where
  datas : List Data
  defs : List Def

def con (f : Nat) (n : Node) : R Con :=
  match nodes n 1 9 with
  | .error p => .error p
  | .ok l =>
    match conName (l.headD n) with
    | .error p => .error p
    | .ok s =>
      match each (typeE f) l.tail with
      | .error p => .error p
      | .ok ts => .ok ⟨n.pos, s, ts⟩

def data (f : Nat) (n : Node) : R Data :=
  match nodes n 4 103 with
  | .error p => .error p
  | .ok l =>
    match conName (l.getD 1 n) with
    | .error p => .error p
    | .ok s =>
      match names (l.getD 2 n) 0 with
      | .error p => .error p
      | .ok ps =>
        match each (con f) (l.drop 3) with
        | .error p => .error p
        | .ok cs => .ok ⟨n.pos, s, ps, cs⟩

def defn (f : Nat) (n : Node) : R Def :=
  match nodes n 4 4 with
  | .error p => .error p
  | .ok l =>
    match name (l.getD 1 n) with
    | .error p => .error p
    | .ok s =>
      match names (l.getD 2 n) 0 with
      | .error p => .error p
      | .ok ps =>
        match expr f (l.getD 3 n) with
        | .error p => .error p
        | .ok x => .ok ⟨n.pos, s, ps, x⟩

/-- A program's lists, from the one with number c on (f: no fewer than the tokens). -/
def prog (stop : Nat) : Nat → Nat → List Tok → R Prog
  | 0, _, _ => .ok ⟨[], []⟩
  | _ + 1, _, [] => .ok ⟨[], []⟩
  | f + 1, c, ts =>
    match node stop (2 * ts.length + 2) 0 ts with
    | .error p => .error p
    | .ok (n, ts') =>
      if c = 100 then .error n.pos
      else if word n = [100, 97, 116, 97] then
        match data 50 n with
        | .error p => .error p
        | .ok d => match prog stop f (c + 1) ts' with
          | .error p => .error p
          | .ok q => .ok ⟨d :: q.datas, q.defs⟩
      else if word n = [100, 101, 102] then
        match defn 50 n with
        | .error p => .error p
        | .ok d => match prog stop f (c + 1) ts' with
          | .error p => .error p
          | .ok q => .ok ⟨q.datas, d :: q.defs⟩
      else .error n.pos

def onlyExpr (stop : Nat) (ts : List Tok) : R Expr :=
  match node stop (2 * ts.length + 2) 0 ts with
  | .error p => .error p
  | .ok (n, ts') =>
    match ts' with
    | t :: _ => .error t.pos
    | [] => expr 50 n

/-- The whole of a text: layer 1's place, or the part's. (2: no tokens; 3: what says nothing.) -/
inductive Outcome (α : Type) where
  | lex (p : Nat)
  | parse (p : Nat)
  | done (x : α)

def parsed {α : Type} (read : Nat → List Tok → R α) (l : List UInt8) : Outcome α :=
  if 4096 < l.length then .lex 4096 else
    match Lx.toks (l.length + 1) 0 l with
    | (_, some q) => .lex q
    | (ts, none) =>
      match read l.length ts with
      | .error p => .parse p
      | .ok x => .done x

def program (l : List UInt8) : Outcome Prog := parsed (fun stop ts => prog stop (ts.length + 1) 0 ts) l
def exprOf (l : List UInt8) : Outcome Expr := parsed onlyExpr l

/-- So deep are a node's lists at most. -/
def Fits : Nat → Node → Prop
  | 0, n => n.list = []
  | k + 1, n => ∀ m ∈ n.list, Fits k m

end Px
end Go.Proofs.YtnhndamfbeiljaaGreatDoor

namespace Go.Proofs.YtnhndamfbeiljaaGreatDoor
namespace Lx

theorem cnt_all (p : UInt8 → Bool) : ∀ (l : List UInt8), (∀ c ∈ l, p c = true) → cnt p l = l.length
  | [], _ => rfl
  | c :: r, h => by rw [cnt, if_pos (h c (by simp)), cnt_all p r (fun d hd => h d (by simp [hd])), List.length_cons]

theorem at0_mem (l : List UInt8) (k : Nat) (h : k < l.length) : at0 l k ∈ l := by
  unfold at0; rw [List.getD_eq_getElem?_getD, List.getElem?_eq_getElem h]; exact List.getElem_mem h

theorem skip_zero (l : List UInt8) (hb : blankB (at0 l 0) = false) (hs : (at0 l 0).toNat ≠ 59) : skipC false l = 0 := by
  have := skip_end l 0 hb hs; simpa using this

theorem digit_not_blank (c : UInt8) (h : digitB c = true) : blankB c = false ∧ c.toNat ≠ 59 ∧ c.toNat ≠ 45 ∧ c.toNat ≠ 62 := by
  have h' := digit_bd c h
  refine ⟨?_, by omega, by omega, by omega⟩
  unfold blankB
  simp; omega

theorem toks_nil (f p : Nat) : toks f p [] = ([], none) := by
  cases f with
  | zero => rfl
  | succ f => rfl

theorem toks_whole (l : List UInt8) (k : Int) (hne : l ≠ []) (hs : skipC false l = 0) (h : tokAt l = (k, l.length)) : toks (l.length + 1) 0 l = ([mkTok 0 k l], none) := by
  have hl : 0 < l.length := List.length_pos_iff.2 hne
  show (if l.length ≤ skipC false l then ([], none) else _) = _
  rw [hs, if_neg (by omega)]
  simp only [List.drop_zero, h]
  rw [if_neg (by omega), List.drop_length, toks_nil, List.take_length]
theorem toks_nowhere (l : List UInt8) (hne : l ≠ []) (hs : skipC false l = 0) (h : (tokAt l).2 = 0) : toks (l.length + 1) 0 l = ([], some 0) := by
  have hl : 0 < l.length := List.length_pos_iff.2 hne
  show (if l.length ≤ skipC false l then ([], none) else _) = _
  rw [hs, if_neg (by omega)]
  simp only [List.drop_zero]
  rw [if_pos h]

theorem num_pos (D : List UInt8) (hd : ∀ c ∈ D, digitB c = true) (hne : D ≠ []) :
    toks (D.length + 1) 0 D = if 18 < D.length then ([], some 0) else ([⟨2, 0, D, natV D 0⟩], none) := by
  have hl : 0 < D.length := List.length_pos_iff.2 hne
  have h0 := hd _ (at0_mem D 0 hl)
  obtain ⟨hb, hs, h45, _⟩ := digit_not_blank _ h0
  have hsk := skip_zero D hb hs
  have hc := cnt_all digitB D hd
  have ho : at0 D D.length = 0 := at0_out D _ (Nat.le_refl _)
  have ht : tokAt D = if 18 < D.length then (0, 0) else (2, D.length) := by
    unfold tokAt num
    simp only []
    rw [if_neg h45, if_pos h0, hc, Nat.zero_add, ho, word0, Bool.or_false]
    by_cases h : 18 < D.length <;> simp [h]
  by_cases h : 18 < D.length
  · rw [if_pos h] at ht ⊢
    exact toks_nowhere D hne hsk (by rw [ht])
  · rw [if_neg h] at ht ⊢
    rw [toks_whole D 2 hne hsk ht]
    simp only [mkTok, numV, if_neg h45, if_true]

theorem num_neg (D : List UInt8) (hd : ∀ c ∈ D, digitB c = true) (hne : D ≠ []) :
    toks ((45 :: D).length + 1) 0 (45 :: D) = if 18 < D.length then ([], some 0) else ([⟨2, 0, 45 :: D, -(natV D 0 : Int)⟩], none) := by
  have hl : 0 < D.length := List.length_pos_iff.2 hne
  have h0 := hd _ (at0_mem D 0 hl)
  obtain ⟨_, _, _, h62⟩ := digit_not_blank _ h0
  have hsk : skipC false (45 :: D) = 0 := skip_zero (45 :: D) (by rfl) (by show (45 : UInt8).toNat ≠ 59; decide)
  have hc := cnt_all digitB D hd
  have ho : at0 (45 :: D) (1 + D.length) = 0 := at0_out _ _ (by simp; omega)
  have e1 : at0 (45 :: D) 1 = at0 D 0 := rfl
  have e0 : (at0 (45 :: D) 0).toNat = 45 := rfl
  have ed : (45 :: D).drop 1 = D := rfl
  have ht : tokAt (45 :: D) = if 18 < D.length then (0, 0) else (2, (45 :: D).length) := by
    unfold tokAt num
    simp only []
    rw [if_pos e0, e1, if_neg h62, if_pos h0, ed, hc, ho, word0, Bool.or_false, List.length_cons, Nat.add_comm 1]
    by_cases h : 18 < D.length <;> simp [h]
  by_cases h : 18 < D.length
  · rw [if_pos h] at ht ⊢
    exact toks_nowhere _ (by simp) hsk (by rw [ht])
  · rw [if_neg h] at ht ⊢
    rw [toks_whole _ 2 (by simp) hsk ht]
    simp only [mkTok, numV, if_pos e0, if_true, ed]

theorem natV_append (a b : List UInt8) : ∀ acc, natV (a ++ b) acc = natV b (natV a acc) := by
  induction a with
  | nil => intro acc; rfl
  | cons c r ih => intro acc; rw [List.cons_append, natV_cons, natV_cons, ih]

theorem natV_zeros (q : Nat) : natV (List.replicate q 48) 0 = 0 := by
  induction q with
  | zero => rfl
  | succ q ih => rw [List.replicate_succ, natV_cons]; exact ih

theorem dec_digits (u : Nat) : ∀ c ∈ Lib.decDigits u, digitB c = true := by
  induction u using Nat.strongRecOn with
  | _ u ih =>
    intro c hc
    rw [Lib.decDigits] at hc
    have key : ∀ d, d < 10 → digitB (UInt8.ofNat (48 + d)) = true := by
      intro d hd
      unfold digitB
      rw [UInt8.toNat_ofNat']
      simp; omega
    by_cases h : u < 10
    · rw [dif_pos h] at hc
      rw [List.mem_singleton] at hc; subst hc
      exact key u h
    · rw [dif_neg h, List.mem_append] at hc
      rcases hc with hc | hc
      · exact ih (u / 10) (by omega) c hc
      · rw [List.mem_singleton] at hc; subst hc
        exact key (u % 10) (by omega)

theorem dec_natV (u : Nat) : natV (Lib.decDigits u) 0 = u := by
  induction u using Nat.strongRecOn with
  | _ u ih =>
    rw [Lib.decDigits]
    by_cases h : u < 10
    · rw [dif_pos h, natV_cons, UInt8.toNat_ofNat']
      show 0 * 10 + _ = u
      omega
    · rw [dif_neg h, natV_append, ih (u / 10) (by omega), natV_cons, UInt8.toNat_ofNat']
      show u / 10 * 10 + _ = u
      omega

theorem dec_ne (u : Nat) : Lib.decDigits u ≠ [] := by
  rw [Lib.decDigits]; split <;> simp

theorem padded (u q : Nat) : (∀ c ∈ List.replicate q 48 ++ Lib.decDigits u, digitB c = true) ∧ List.replicate q 48 ++ Lib.decDigits u ≠ [] ∧ natV (List.replicate q 48 ++ Lib.decDigits u) 0 = u := by
  refine ⟨fun c hc => ?_, by simp [dec_ne], by rw [natV_append, natV_zeros, dec_natV]⟩
  rcases List.mem_append.1 hc with hc | hc
  · rw [(List.mem_replicate.1 hc).2]; decide
  · exact dec_digits u c hc
end Lx
end Go.Proofs.YtnhndamfbeiljaaGreatDoor

namespace Go.Proofs.YtnhndamfbeiljaaGreatDoor
namespace Lx

theorem toks_step (f p : Nat) (l : List UInt8) : toks (f + 1) p l =
    if l.length ≤ skipC false l then ([], none) else
      if (tokAt (l.drop (skipC false l))).2 = 0 then ([], some (p + skipC false l)) else
        (mkTok (p + skipC false l) (tokAt (l.drop (skipC false l))).1 ((l.drop (skipC false l)).take (tokAt (l.drop (skipC false l))).2) ::
          (toks f (p + skipC false l + (tokAt (l.drop (skipC false l))).2) ((l.drop (skipC false l)).drop (tokAt (l.drop (skipC false l))).2)).1,
         (toks f (p + skipC false l + (tokAt (l.drop (skipC false l))).2) ((l.drop (skipC false l)).drop (tokAt (l.drop (skipC false l))).2)).2) := rfl

theorem toks_fuel : ∀ (f f' p : Nat) (l : List UInt8), l.length < f → l.length < f' → toks f p l = toks f' p l := by
  intro f
  induction f with
  | zero => intro f' p l h; omega
  | succ f ih =>
    intro f' p l h h'
    obtain ⟨f', rfl⟩ : ∃ g, f' = g + 1 := ⟨f' - 1, by omega⟩
    rw [toks_step, toks_step]
    by_cases h1 : l.length ≤ skipC false l
    · rw [if_pos h1, if_pos h1]
    · rw [if_neg h1, if_neg h1]
      by_cases h2 : (tokAt (l.drop (skipC false l))).2 = 0
      · rw [if_pos h2, if_pos h2]
      · rw [if_neg h2, if_neg h2]
        have hl : ((l.drop (skipC false l)).drop (tokAt (l.drop (skipC false l))).2).length < f := by rw [List.length_drop, List.length_drop]; omega
        have hl' : ((l.drop (skipC false l)).drop (tokAt (l.drop (skipC false l))).2).length < f' := by rw [List.length_drop, List.length_drop]; omega
        rw [ih f' _ _ hl hl']

def shift (d : Nat) (t : Tok) : Tok := { t with pos := t.pos + d }

theorem toks_shift (d : Nat) : ∀ (f p : Nat) (l : List UInt8), toks f (p + d) l = ((toks f p l).1.map (shift d), (toks f p l).2.map (· + d)) := by
  intro f
  induction f with
  | zero => intro p l; rfl
  | succ f ih =>
    intro p l
    rw [toks_step, toks_step]
    by_cases h1 : l.length ≤ skipC false l
    · rw [if_pos h1, if_pos h1]; rfl
    · rw [if_neg h1, if_neg h1]
      by_cases h2 : (tokAt (l.drop (skipC false l))).2 = 0
      · rw [if_pos h2, if_pos h2]; simp; omega
      · rw [if_neg h2, if_neg h2]
        have e : p + d + skipC false l + (tokAt (l.drop (skipC false l))).2 = p + skipC false l + (tokAt (l.drop (skipC false l))).2 + d := by omega
        rw [e, ih]
        have e2 : p + d + skipC false l = p + skipC false l + d := by omega
        rw [e2]
        rfl

theorem sk10f (l : List UInt8) : skipC false (10 :: l) = skipC false l + 1 := rfl
theorem sk10t (l : List UInt8) : skipC true (10 :: l) = skipC false l + 1 := rfl
theorem cnt_nil (p : UInt8 → Bool) : cnt p [] = 0 := rfl
theorem cnt_cons (p : UInt8 → Bool) (c : UInt8) (r : List UInt8) : cnt p (c :: r) = if p c then cnt p r + 1 else 0 := rfl

theorem skip_join (l : List UInt8) : ∀ (a : List UInt8) (b : Bool), skipC b (a ++ 10 :: l) = if skipC b a < a.length then skipC b a else a.length + 1 + skipC false l := by
  intro a
  induction a with
  | nil =>
    intro b
    have e : skipC b [] = 0 := by cases b <;> rfl
    rw [e, List.nil_append, if_neg (by simp), List.length_nil]
    cases b
    · rw [sk10f]; omega
    · rw [sk10t]; omega
  | cons c r ih =>
    intro b
    have hf := skipC_le false r
    have ht := skipC_le true r
    cases b
    · rw [List.cons_append, skipC, skipC]
      by_cases h1 : blankB c = true
      · rw [if_pos h1, if_pos h1, ih false, List.length_cons]
        by_cases h : skipC false r < r.length
        · rw [if_pos h, if_pos (by omega)]
        · rw [if_neg h, if_neg (by omega)]; omega
      · rw [if_neg h1, if_neg h1]
        by_cases h2 : c.toNat = 59
        · rw [if_pos h2, if_pos h2, ih true, List.length_cons]
          by_cases h : skipC true r < r.length
          · rw [if_pos h, if_pos (by omega)]
          · rw [if_neg h, if_neg (by omega)]; omega
        · rw [if_neg h2, if_neg h2, List.length_cons, if_pos (by omega)]
    · rw [List.cons_append, skipC, skipC]
      by_cases h1 : c.toNat = 10
      · rw [if_pos h1, if_pos h1, ih false, List.length_cons]
        by_cases h : skipC false r < r.length
        · rw [if_pos h, if_pos (by omega)]
        · rw [if_neg h, if_neg (by omega)]; omega
      · rw [if_neg h1, if_neg h1, ih true, List.length_cons]
        by_cases h : skipC true r < r.length
        · rw [if_pos h, if_pos (by omega)]
        · rw [if_neg h, if_neg (by omega)]; omega

theorem cnt_join (p : UInt8 → Bool) (hp : p 10 = false) (l : List UInt8) : ∀ r : List UInt8, cnt p (r ++ 10 :: l) = cnt p r
  | [] => by rw [List.nil_append, cnt_cons, cnt_nil, if_neg (by simp [hp])]
  | c :: r => by
    rw [List.cons_append, cnt_cons, cnt_cons, cnt_join p hp l r]

theorem at0_join (r l : List UInt8) (k : Nat) (h : k < r.length) : at0 (r ++ 10 :: l) k = at0 r k := by
  unfold at0; rw [List.getD_eq_getElem?_getD, List.getD_eq_getElem?_getD, List.getElem?_append_left h]
theorem at0_end (r l : List UInt8) : at0 (r ++ 10 :: l) r.length = 10 := by
  unfold at0; rw [List.getD_eq_getElem?_getD, List.getElem?_append_right (Nat.le_refl _)]; simp
theorem pred_join (p : UInt8 → Bool) (h0 : p 0 = false) (h10 : p 10 = false) (r l : List UInt8) (k : Nat) (h : k ≤ r.length) : p (at0 (r ++ 10 :: l) k) = p (at0 r k) := by
  rcases Nat.lt_or_ge k r.length with h' | h'
  · rw [at0_join r l k h']
  · obtain rfl : k = r.length := by omega
    rw [at0_end, at0_out r _ (Nat.le_refl _), h0, h10]

theorem tokAt_join (r l : List UInt8) (hr : 0 < r.length) : tokAt (r ++ 10 :: l) = tokAt r := by
  have hw : ∀ k, k ≤ r.length → wordB (at0 (r ++ 10 :: l) k) = wordB (at0 r k) := fun k h => pred_join wordB (by decide) (by decide) r l k h
  have hd1 : digitB (at0 (r ++ 10 :: l) 1) = digitB (at0 r 1) := pred_join digitB (by decide) (by decide) r l 1 (by omega)
  have h62 : ((at0 (r ++ 10 :: l) 1).toNat = 62) ↔ ((at0 r 1).toNat = 62) := by
    have := pred_join (fun c => c.toNat == 62) (by decide) (by decide) r l 1 (by omega)
    rw [Bool.eq_iff_iff] at this
    simpa using this
  have hc0 := at0_join r l 0 hr
  have hdr : (r ++ 10 :: l).drop 1 = r.drop 1 ++ 10 :: l := by rw [List.drop_append]; simp; rw [show 1 - r.length = 0 from by omega]; rfl
  have hcd := cnt_join digitB (by decide) l r
  have hcd1 := cnt_join digitB (by decide) l (r.drop 1)
  have hcw1 := cnt_join wordB (by decide) l (r.drop 1)
  have hl1 := cnt_le digitB (r.drop 1)
  rw [List.length_drop] at hl1
  have hl0 := cnt_le digitB r
  unfold tokAt num
  simp only []
  rw [hdr, hc0, hd1, hcd, hcd1, hcw1, hw _ (by omega), hw _ (by omega)]
  by_cases h : (at0 r 1).toNat = 62
  · rw [if_pos h, if_pos (h62.2 h)]
  · rw [if_neg h, if_neg (fun h' => h (h62.1 h'))]

/-- Where none begins lies in the text. -/
theorem toks_place : ∀ (f p : Nat) (l : List UInt8) (q : Nat), (toks f p l).2 = some q → p ≤ q ∧ q ≤ p + l.length := by
  intro f
  induction f with
  | zero => intro p l q h; exact absurd h (by simp [toks])
  | succ f ih =>
    intro p l q h
    rw [toks_step] at h
    have hle := skipC_le false l
    by_cases h1 : l.length ≤ skipC false l
    · rw [if_pos h1] at h; simp at h
    · rw [if_neg h1] at h
      by_cases h2 : (tokAt (l.drop (skipC false l))).2 = 0
      · rw [if_pos h2] at h; simp at h; omega
      · rw [if_neg h2] at h
        have := ih _ _ q h
        rw [List.length_drop, List.length_drop] at this
        have htl := tokAt_le (l.drop (skipC false l))
        rw [List.length_drop] at htl
        omega

theorem toks_len : ∀ (f p : Nat) (l : List UInt8), (toks f p l).1.length ≤ l.length := by
  intro f
  induction f with
  | zero => intro p l; simp [toks]
  | succ f ih =>
    intro p l
    rw [toks_step]
    by_cases h1 : l.length ≤ skipC false l
    · rw [if_pos h1]; simp
    · rw [if_neg h1]
      by_cases h2 : (tokAt (l.drop (skipC false l))).2 = 0
      · rw [if_pos h2]; simp
      · rw [if_neg h2]
        have := ih (p + skipC false l + (tokAt (l.drop (skipC false l))).2) ((l.drop (skipC false l)).drop (tokAt (l.drop (skipC false l))).2)
        rw [List.length_drop, List.length_drop] at this
        rw [List.length_cons]; omega

theorem toks_at : ∀ (f p : Nat) (l : List UInt8) (q : Nat), (toks f p l).2 = some q → q < p + l.length := by
  intro f
  induction f with
  | zero => intro p l q h; exact absurd h (by simp [toks])
  | succ f ih =>
    intro p l q h
    rw [toks_step] at h
    by_cases h1 : l.length ≤ skipC false l
    · rw [if_pos h1] at h; simp at h
    · rw [if_neg h1] at h
      by_cases h2 : (tokAt (l.drop (skipC false l))).2 = 0
      · rw [if_pos h2] at h; simp at h; omega
      · rw [if_neg h2] at h
        have := ih _ _ q h
        rw [List.length_drop, List.length_drop] at this
        have htl := tokAt_le (l.drop (skipC false l))
        rw [List.length_drop] at htl
        omega

/-- Each token lies in the text. -/
theorem toks_mem : ∀ (f p : Nat) (l : List UInt8) (t : Tok), t ∈ (toks f p l).1 → p ≤ t.pos ∧ t.pos + t.text.length ≤ p + l.length := by
  intro f
  induction f with
  | zero => intro p l t h; exact absurd h (by simp [toks])
  | succ f ih =>
    intro p l t h
    rw [toks_step] at h
    have hle := skipC_le false l
    by_cases h1 : l.length ≤ skipC false l
    · rw [if_pos h1] at h; simp at h
    · rw [if_neg h1] at h
      by_cases h2 : (tokAt (l.drop (skipC false l))).2 = 0
      · rw [if_pos h2] at h; simp at h
      · rw [if_neg h2] at h
        have htl := tokAt_le (l.drop (skipC false l))
        rw [List.length_drop] at htl
        rcases List.mem_cons.1 h with rfl | h
        · simp only [mkTok, List.length_take, List.length_drop]; omega
        · have := ih _ _ t h
          rw [List.length_drop, List.length_drop] at this
          omega

/-- The tokens of both. -/
theorem toks_join (b : List UInt8) : ∀ (n : Nat) (a : List UInt8) (p : Nat), a.length < n →
    toks (a.length + 1 + b.length + 1) p (a ++ 10 :: b) =
      match (toks (a.length + 1) p a).2 with
      | some q => ((toks (a.length + 1) p a).1, some q)
      | none => ((toks (a.length + 1) p a).1 ++ (toks (b.length + 1) (p + a.length + 1) b).1, (toks (b.length + 1) (p + a.length + 1) b).2) := by
  intro n
  induction n with
  | zero => intro a p h; omega
  | succ n ih =>
    intro a p hn
    have hsk := skip_join b a false
    have hle := skipC_le false a
    by_cases h1 : a.length ≤ skipC false a
    · rw [if_neg (by omega)] at hsk
      have ea : toks (a.length + 1) p a = ([], none) := by rw [toks_step, if_pos h1]
      rw [ea]
      have ed : (a ++ 10 :: b).drop (a.length + 1) = b := by rw [List.drop_append]; simp
      have edd : ∀ s, (a ++ 10 :: b).drop (a.length + 1 + s) = b.drop s := by
        intro s
        have := congrArg (List.drop s) ed
        rw [List.drop_drop] at this; exact this
      rw [toks_fuel (b.length + 1) (a.length + 1 + b.length + 1) _ b (by omega) (by omega), toks_step, toks_step, hsk, edd]
      simp only [List.nil_append]
      have hl : (a ++ 10 :: b).length = a.length + 1 + b.length := by simp; omega
      rw [hl]
      by_cases h2 : b.length ≤ skipC false b
      · rw [if_pos h2, if_pos (by omega)]
      · rw [if_neg h2, if_neg (by omega)]
        have e1 : p + (a.length + 1 + skipC false b) = p + a.length + 1 + skipC false b := by omega
        rw [e1]
    · rw [if_pos (by omega)] at hsk
      have hr : 0 < (a.drop (skipC false a)).length := by rw [List.length_drop]; omega
      have edr : (a ++ 10 :: b).drop (skipC false a) = a.drop (skipC false a) ++ 10 :: b := by rw [List.drop_append_of_le_length (by omega)]
      have htk := tokAt_join (a.drop (skipC false a)) b hr
      have htl := tokAt_le (a.drop (skipC false a))
      have hl : (a ++ 10 :: b).length = a.length + 1 + b.length := by simp; omega
      rw [toks_step, toks_step (a.length), hsk, edr, htk, if_neg (by omega), if_neg h1]
      by_cases h2 : (tokAt (a.drop (skipC false a))).2 = 0
      · rw [if_pos h2, if_pos h2]
      · rw [if_neg h2, if_neg h2]
        rw [List.length_drop] at htl
        have et : (a.drop (skipC false a) ++ 10 :: b).take (tokAt (a.drop (skipC false a))).2 = (a.drop (skipC false a)).take (tokAt (a.drop (skipC false a))).2 := by
          rw [List.take_append_of_le_length (by rw [List.length_drop]; omega)]
        have edn : (a.drop (skipC false a) ++ 10 :: b).drop (tokAt (a.drop (skipC false a))).2 = (a.drop (skipC false a)).drop (tokAt (a.drop (skipC false a))).2 ++ 10 :: b := by
          rw [List.drop_append_of_le_length (by rw [List.length_drop]; omega)]
        rw [et, edn]
        generalize hA : (a.drop (skipC false a)).drop (tokAt (a.drop (skipC false a))).2 = A
        have hAl : A.length + skipC false a + (tokAt (a.drop (skipC false a))).2 = a.length := by rw [← hA, List.length_drop, List.length_drop]; omega
        generalize hP : p + skipC false a + (tokAt (a.drop (skipC false a))).2 = P
        have hih := ih A P (by omega)
        rw [toks_fuel (a.length + 1 + b.length) (A.length + 1 + b.length + 1) P _ (by simp; omega) (by simp; omega), hih, toks_fuel a.length (A.length + 1) P A (by omega) (by omega)]
        have hPA : P + A.length + 1 = p + a.length + 1 := by omega
        rw [hPA]
        cases (toks (A.length + 1) P A).2 with
        | none => rfl
        | some q => rfl
end Lx
end Go.Proofs.YtnhndamfbeiljaaGreatDoor
