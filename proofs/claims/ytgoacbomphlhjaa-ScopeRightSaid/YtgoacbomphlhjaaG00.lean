/-
  Several texts in one: Pure, ReadPure, Toks, PPure, Scope, Tokens, Own.
-/
import GoSem.Core.Value
import Derived.Lib.ParseIntB
import Derived.Scope
import Derived.Test.YtgoacbomphlhjaaRows
import Derived.WalkKit
import Derived.WalkSpells
import Derived.Lib.Hide
import Derived.Below
import Derived.Lib.ConvBytes
namespace Go.Proofs.Ytgoacbomphlhjaa
namespace Lx
def blankB (c : UInt8) : Bool := c.toNat == 32 || c.toNat == 10 || c.toNat == 9 || c.toNat == 13
def digitB (c : UInt8) : Bool := 48 ≤ c.toNat && c.toNat ≤ 57
def smallB (c : UInt8) : Bool := 97 ≤ c.toNat && c.toNat ≤ 122
def greatB (c : UInt8) : Bool := 65 ≤ c.toNat && c.toNat ≤ 90
def wordB (c : UInt8) : Bool := smallB c || greatB c || digitB c || c.toNat == 39
/-- The byte at a place; 0 behind the end. -/
def at0 (l : List UInt8) (n : Nat) : UInt8 := l.getD n 0
/-- How many bytes stand ahead of the next token: false: from a blank on; true: from inside a note on. -/
def skipC : Bool → List UInt8 → Nat
 | _, [] => 0
 | false, c :: r => if blankB c then skipC false r + 1 else if c.toNat = 59 then skipC true r + 1 else 0
 | true, c :: r => if c.toNat = 10 then skipC false r + 1 else skipC true r + 1
/-- How many bytes from the first on are as told. -/
def cnt (p : UInt8 → Bool) : List UInt8 → Nat
 | [] => 0
 | c :: r => if p c then cnt p r + 1 else 0
/-- A byte's kind, where it is a token alone; below 0, if it is none. -/
def single (c : UInt8) : Int :=
 if c.toNat = 40 then 0 else if c.toNat = 41 then 1 else
 if c.toNat = 95 ∨ c.toNat = 43 ∨ c.toNat = 45 ∨ c.toNat = 42 ∨ c.toNat = 47 ∨ c.toNat = 37 ∨ c.toNat = 61 ∨ c.toNat = 60 then 5 else -1
/-- A number's kind and length: o bytes ahead of the digits, m digits. -/
def num (l : List UInt8) (o m : Nat) : Int × Nat := if 18 < m || wordB (at0 l (o + m)) then (0, 0) else (2, o + m)
def one (c : UInt8) : Int × Nat := if single c < 0 then (0, 0) else (single c, 1)
/-- The kind and the length of the token that begins a text; (0, 0): none does. -/
def tokAt (l : List UInt8) : Int × Nat :=
 let c := at0 l 0
 if c.toNat = 45 then
  if (at0 l 1).toNat = 62 then (5, 2) else if digitB (at0 l 1) then num l 1 (cnt digitB (l.drop 1)) else one c
 else if digitB c then num l 0 (cnt digitB l)
 else if smallB c then (3, cnt wordB (l.drop 1) + 1)
 else if greatB c then (4, cnt wordB (l.drop 1) + 1)
 else one c
theorem drop_at (l : List UInt8) (k : Nat) (h : k < l.length) : l.drop k = at0 l k :: l.drop (k + 1) := by
 rw [List.drop_eq_getElem_cons h]; congr 1; simp [at0, List.getD_eq_getElem?_getD, List.getElem?_eq_getElem h]
theorem at0_out (l : List UInt8) (k : Nat) (h : l.length ≤ k) : at0 l k = 0 := by unfold at0; rw [List.getD_eq_getElem?_getD, List.getElem?_eq_none h]; rfl
theorem at0_drop (l : List UInt8) (k j : Nat) : at0 (l.drop k) j = at0 l (k + j) := by simp [at0, List.getD_eq_getElem?_getD]
theorem skip_blank (l : List UInt8) (k : Nat) (hb : blankB (at0 l k) = true) : k < l.length ∧ skipC false (l.drop k) = skipC false (l.drop (k + 1)) + 1 := by
 have hk : k < l.length := by
  rcases Nat.lt_or_ge k l.length with h | h
  · exact h
  · rw [at0_out l k h] at hb; exact absurd hb (by decide)
 exact ⟨hk, by rw [drop_at l k hk, skipC, if_pos hb]⟩
theorem skip_semi (l : List UInt8) (k : Nat) (hs : (at0 l k).toNat = 59) : k < l.length ∧ skipC false (l.drop k) = skipC true (l.drop (k + 1)) + 1 := by
 have hk : k < l.length := by
  rcases Nat.lt_or_ge k l.length with h | h
  · exact h
  · rw [at0_out l k h] at hs; exact absurd hs (by decide)
 exact ⟨hk, by rw [drop_at l k hk, skipC, if_neg (by simp [blankB, hs]), if_pos hs]⟩
theorem skip_end (l : List UInt8) (k : Nat) (hb : blankB (at0 l k) = false) (hs : (at0 l k).toNat ≠ 59) : skipC false (l.drop k) = 0 := by
 rcases Nat.lt_or_ge k l.length with h | h
 · rw [drop_at l k h, skipC, if_neg (by simp [hb]), if_neg hs]
 · rw [List.drop_eq_nil_of_le h]; rfl
theorem skip_note (l : List UInt8) (k : Nat) (hk : k < l.length) (hs : (at0 l k).toNat ≠ 10) : skipC true (l.drop k) = skipC true (l.drop (k + 1)) + 1 := by
 rw [drop_at l k hk, skipC, if_neg hs]
theorem skip_line (l : List UInt8) (k : Nat) (h : k < l.length → (at0 l k).toNat = 10) : skipC true (l.drop k) = skipC false (l.drop k) := by
 rcases Nat.lt_or_ge k l.length with hk | hk
 · rw [drop_at l k hk, skipC, skipC, if_pos (h hk), if_pos (by simp [blankB, h hk])]
 · rw [List.drop_eq_nil_of_le hk]; rfl
end Lx
end Go.Proofs.Ytgoacbomphlhjaa
namespace Go.Proofs.Ytgoacbomphlhjaa
namespace Lx
theorem cnt_step (p : UInt8 → Bool) (l : List UInt8) (k : Nat) (h0 : p 0 = false) (h : p (at0 l k) = true) : k < l.length ∧ cnt p (l.drop k) = cnt p (l.drop (k + 1)) + 1 := by
 have hk : k < l.length := by
  rcases Nat.lt_or_ge k l.length with h' | h'
  · exact h'
  · rw [at0_out l k h', h0] at h; exact absurd h (by decide)
 exact ⟨hk, by rw [drop_at l k hk, cnt, if_pos h]⟩
theorem cnt_stop (p : UInt8 → Bool) (l : List UInt8) (k : Nat) (h : p (at0 l k) = false) : cnt p (l.drop k) = 0 := by
 rcases Nat.lt_or_ge k l.length with h' | h'
 · rw [drop_at l k h', cnt, if_neg (by simp [h])]
 · rw [List.drop_eq_nil_of_le h']; rfl
theorem cnt_le (p : UInt8 → Bool) : ∀ l : List UInt8, cnt p l ≤ l.length
 | [] => Nat.le_refl _
 | c :: r => by rw [cnt]; have := cnt_le p r; split <;> simp <;> omega
theorem digit0 : digitB 0 = false := by decide
theorem word0 : wordB 0 = false := by decide
def RdR (l : List UInt8) (i lab : Nat) (K : Int) (E D : Nat) : Prop :=
 (lab = 0 ∧ E = i + 1 ∧ D = i ∧ (at0 l i).toNat = 45) ∨
 (lab = 1 ∧ ∃ o, D = i + o ∧ D ≤ E ∧ E + cnt digitB (l.drop E) = D + cnt digitB (l.drop D) ∧ tokAt (l.drop i) = num (l.drop i) o (cnt digitB (l.drop D))) ∨
 (lab = 2 ∧ tokAt (l.drop i) = (K, E + cnt wordB (l.drop E) - i)) ∨
 (lab = 3 ∧ E = i + 1 ∧ tokAt (l.drop i) = one (at0 l i)) ∨
 (lab = 4 ∧ tokAt (l.drop i) = (0, 0))
section
variable {l : List UInt8} {i : Nat} {K : Int} {E D : Nat}
theorem RdR.of0 (h : RdR l i 0 K E D) : E = i + 1 ∧ D = i ∧ (at0 l i).toNat = 45 := by
 rcases h with ⟨_, h⟩ | ⟨h, _⟩ | ⟨h, _⟩ | ⟨h, _⟩ | ⟨h, _⟩
 · exact h
 all_goals omega
theorem RdR.of1 (h : RdR l i 1 K E D) : ∃ o, D = i + o ∧ D ≤ E ∧ E + cnt digitB (l.drop E) = D + cnt digitB (l.drop D) ∧ tokAt (l.drop i) = num (l.drop i) o (cnt digitB (l.drop D)) := by
 rcases h with ⟨h, _⟩ | ⟨_, h⟩ | ⟨h, _⟩ | ⟨h, _⟩ | ⟨h, _⟩
 · omega
 · exact h
 all_goals omega
theorem RdR.of2 (h : RdR l i 2 K E D) : tokAt (l.drop i) = (K, E + cnt wordB (l.drop E) - i) := by
 rcases h with ⟨h, _⟩ | ⟨h, _⟩ | ⟨_, h⟩ | ⟨h, _⟩ | ⟨h, _⟩
 · omega
 · omega
 · exact h
 all_goals omega
theorem RdR.of3 (h : RdR l i 3 K E D) : E = i + 1 ∧ tokAt (l.drop i) = one (at0 l i) := by
 rcases h with ⟨h, _⟩ | ⟨h, _⟩ | ⟨h, _⟩ | ⟨_, h⟩ | ⟨h, _⟩
 · omega
 · omega
 · omega
 · exact h
 · omega
theorem RdR.of4 (h : RdR l i 4 K E D) : tokAt (l.drop i) = (0, 0) := by
 rcases h with ⟨h, _⟩ | ⟨h, _⟩ | ⟨h, _⟩ | ⟨h, _⟩ | ⟨_, h⟩
 · omega
 · omega
 · omega
 · omega
 · exact h
theorem RdR.lab_le {lab : Nat} (h : RdR l i lab K E D) : lab = 0 ∨ lab = 1 ∨ lab = 2 ∨ lab = 3 ∨ lab = 4 := by
 rcases h with ⟨h, _⟩ | ⟨h, _⟩ | ⟨h, _⟩ | ⟨h, _⟩ | ⟨h, _⟩ <;> omega
theorem tokAt_eq (l : List UInt8) (i : Nat) : tokAt (l.drop i) =
 if (at0 l i).toNat = 45 then
  if (at0 l (i + 1)).toNat = 62 then (5, 2) else if digitB (at0 l (i + 1)) then num (l.drop i) 1 (cnt digitB (l.drop (i + 1))) else one (at0 l i)
 else if digitB (at0 l i) then num (l.drop i) 0 (cnt digitB (l.drop i))
 else if smallB (at0 l i) then (3, cnt wordB (l.drop (i + 1)) + 1)
 else if greatB (at0 l i) then (4, cnt wordB (l.drop (i + 1)) + 1)
 else one (at0 l i) := by
 unfold tokAt
 simp only [at0_drop, Nat.add_zero, List.drop_drop]
/- From the first byte. -/
theorem rd_minus (h : (at0 l i).toNat = 45) : RdR l i 0 K (i + 1) i := .inl ⟨rfl, rfl, rfl, h⟩
theorem rd_digit (h : (at0 l i).toNat ≠ 45) (hd : digitB (at0 l i) = true) : RdR l i 1 K (i + 1) i :=
 .inr (.inl ⟨rfl, 0, rfl, by omega, by have := (cnt_step digitB l i digit0 hd).2; omega, by rw [tokAt_eq, if_neg h, if_pos hd]⟩)
theorem rd_small (h : (at0 l i).toNat ≠ 45) (hd : digitB (at0 l i) = false) (hs : smallB (at0 l i) = true) : RdR l i 2 3 (i + 1) D :=
 .inr (.inr (.inl ⟨rfl, by rw [tokAt_eq, if_neg h, if_neg (by simp [hd]), if_pos hs]; congr 1; omega⟩))
theorem rd_great (h : (at0 l i).toNat ≠ 45) (hd : digitB (at0 l i) = false) (hs : smallB (at0 l i) = false) (hg : greatB (at0 l i) = true) : RdR l i 2 4 (i + 1) D :=
 .inr (.inr (.inl ⟨rfl, by rw [tokAt_eq, if_neg h, if_neg (by simp [hd]), if_neg (by simp [hs]), if_pos hg]; congr 1; omega⟩))
theorem rd_other (h : (at0 l i).toNat ≠ 45) (hd : digitB (at0 l i) = false) (hs : smallB (at0 l i) = false) (hg : greatB (at0 l i) = false) : RdR l i 3 K (i + 1) D :=
 .inr (.inr (.inr (.inl ⟨rfl, rfl, by rw [tokAt_eq, if_neg h, if_neg (by simp [hd]), if_neg (by simp [hs]), if_neg (by simp [hg])]⟩)))
/- From minus. -/
theorem rd_arrow (h : (at0 l i).toNat = 45) (h1 : (at0 l (i + 1)).toNat = 62) : tokAt (l.drop i) = (5, 2) ∧ i + 2 ≤ l.length := by
 refine ⟨by rw [tokAt_eq, if_pos h, if_pos h1], ?_⟩
 rcases Nat.lt_or_ge (i + 1) l.length with h' | h'
 · omega
 · rw [at0_out l (i + 1) h'] at h1; exact absurd h1 (by decide)
theorem rd_neg (h : (at0 l i).toNat = 45) (h1 : (at0 l (i + 1)).toNat ≠ 62) (hd : digitB (at0 l (i + 1)) = true) : RdR l i 1 K (i + 1) (i + 1) :=
 .inr (.inl ⟨rfl, 1, rfl, by omega, rfl, by rw [tokAt_eq, if_pos h, if_neg h1, if_pos hd]⟩)
theorem rd_lone (h : (at0 l i).toNat = 45) (h1 : (at0 l (i + 1)).toNat ≠ 62) (hd : digitB (at0 l (i + 1)) = false) : RdR l i 3 K (i + 1) D :=
 .inr (.inr (.inr (.inl ⟨rfl, rfl, by rw [tokAt_eq, if_pos h, if_neg h1, if_neg (by simp [hd])]⟩)))
theorem rd_arrow' (hE : E = i + 1) (h : (at0 l i).toNat = 45) (h1 : (at0 l E).toNat = 62) : tokAt (l.drop i) = (5, 2) ∧ E + 1 ≤ l.length := by
 subst hE; exact rd_arrow h h1
theorem rd_neg' (hE : E = i + 1) (h : (at0 l i).toNat = 45) (h1 : (at0 l E).toNat ≠ 62) (hd : digitB (at0 l E) = true) : RdR l i 1 K E E := by
 subst hE; exact rd_neg h h1 hd
theorem rd_lone' (hE : E = i + 1) (h : (at0 l i).toNat = 45) (h1 : (at0 l E).toNat ≠ 62) (hd : digitB (at0 l E) = false) : RdR l i 3 K E D := by
 subst hE; exact rd_lone h h1 hd
/- From number. -/
theorem rd_more (h : RdR l i 1 K E D) (hd : digitB (at0 l E) = true) : E < l.length ∧ RdR l i 1 K (E + 1) D := by
 obtain ⟨o, h1, h2, h3, h4⟩ := h.of1
 obtain ⟨hk, hs⟩ := cnt_step digitB l E digit0 hd
 exact ⟨hk, .inr (.inl ⟨rfl, o, h1, by omega, by omega, h4⟩)⟩
theorem rd_bounds (h : RdR l i 1 K E D) : D ≤ E ∧ i ≤ D := by
 obtain ⟨o, h1, h2, h3, h4⟩ := h.of1
 omega
theorem num_mid (h : RdR l i 1 K E D) (hd : digitB (at0 l E) = false) : tokAt (l.drop i) = if 18 < E - D || wordB (at0 l E) then (0, 0) else (2, E - i) := by
 obtain ⟨o, h1, h2, h3, h4⟩ := h.of1
 have hs := cnt_stop digitB l E hd
 rw [hs] at h3
 have e1 : cnt digitB (l.drop D) = E - D := by omega
 have e2 : i + (o + (E - D)) = E := by omega
 have e3 : o + (E - D) = E - i := by omega
 rw [h4, e1, num, at0_drop, e2, e3]
theorem rd_long (h : RdR l i 1 K E D) (hd : digitB (at0 l E) = false) (hl : 18 < E - D) : RdR l i 4 K E D :=
 .inr (.inr (.inr (.inr ⟨rfl, by rw [num_mid h hd, if_pos (by simp [hl])]⟩)))
theorem rd_tied (h : RdR l i 1 K E D) (hd : digitB (at0 l E) = false) (hw : wordB (at0 l E) = true) : RdR l i 4 K E D :=
 .inr (.inr (.inr (.inr ⟨rfl, by rw [num_mid h hd, if_pos (by simp [hw])]⟩)))
theorem rd_num (h : RdR l i 1 K E D) (hd : digitB (at0 l E) = false) (hl : ¬ 18 < E - D) (hw : wordB (at0 l E) = false) : tokAt (l.drop i) = (2, E - i) := by
 rw [num_mid h hd, if_neg (by simp [hl, hw])]
/- From word. -/
theorem rd_letter (h : RdR l i 2 K E D) (hw : wordB (at0 l E) = true) : E < l.length ∧ RdR l i 2 K (E + 1) D := by
 obtain ⟨hk, hs⟩ := cnt_step wordB l E word0 hw
 exact ⟨hk, .inr (.inr (.inl ⟨rfl, by rw [h.of2, hs]; congr 1; omega⟩))⟩
theorem rd_word (h : RdR l i 2 K E D) (hw : wordB (at0 l E) = false) : tokAt (l.drop i) = (K, E - i) := by
 rw [h.of2, cnt_stop wordB l E hw]; rfl
/- From single. -/
theorem rd_none (h : RdR l i 3 K E D) (hs : single (at0 l i) < 0) : RdR l i 4 (single (at0 l i)) E D :=
 .inr (.inr (.inr (.inr ⟨rfl, by rw [h.of3.2, one, if_pos hs]⟩)))
theorem rd_one (h : RdR l i 3 K E D) (hs : ¬ single (at0 l i) < 0) : tokAt (l.drop i) = (single (at0 l i), 1) := by
 rw [h.of3.2, one, if_neg hs]
end
end Lx
end Go.Proofs.Ytgoacbomphlhjaa
namespace Go.Proofs.Ytgoacbomphlhjaa
namespace Lx
structure Tok where
 kind : Int
 pos : Nat
 text : List UInt8
 int : Int
def natV : List UInt8 → Nat → Nat
 | [], acc => acc
 | c :: r, acc => natV r (acc * 10 + (c.toNat - 48))
theorem natV_cons (c : UInt8) (r : List UInt8) (acc : Nat) : natV (c :: r) acc = natV r (acc * 10 + (c.toNat - 48)) := rfl
def numV (l : List UInt8) : Int := if (at0 l 0).toNat = 45 then -(natV (l.drop 1) 0 : Int) else natV l 0
def mkTok (p : Nat) (k : Int) (t : List UInt8) : Tok := ⟨k, p, t, if k = 2 then numV t else 0⟩
/-- The tokens from a place on (p: the place; the list: what stands there), or the first place at which none begins. -/
def toks : Nat → Nat → List UInt8 → List Tok × Option Nat
 | 0, _, _ => ([], none)
 | f + 1, p, l =>
   let a := skipC false l
   if l.length ≤ a then ([], none) else
    let r := l.drop a
    let n := (tokAt r).2
    if n = 0 then ([], some (p + a)) else
     let x := toks f (p + a + n) (r.drop n)
     (mkTok (p + a) (tokAt r).1 (r.take n) :: x.1, x.2)
theorem cnt_spec (p : UInt8 → Bool) : ∀ (l : List UInt8), ∀ c ∈ l.take (cnt p l), p c = true
 | [], c, h => by simp at h
 | d :: r, c, h => by
   rw [cnt] at h
   by_cases hd : p d
   · rw [if_pos hd, List.take_succ_cons] at h
     rcases List.mem_cons.1 h with rfl | h
     · exact hd
     · exact cnt_spec p r c h
   · rw [if_neg hd] at h; simp at h
theorem skipC_le : ∀ (b : Bool) (l : List UInt8), skipC b l ≤ l.length
 | b, [] => by cases b <;> simp [skipC]
 | false, c :: r => by
   rw [skipC]
   have h1 := skipC_le false r; have h2 := skipC_le true r
   split
   · simp; omega
   · split
     · simp; omega
     · simp
 | true, c :: r => by
   rw [skipC]
   have h1 := skipC_le false r; have h2 := skipC_le true r
   split <;> simp <;> omega
/-- How the kinds come about. -/
inductive Way (l : List UInt8) : Int → Nat → Prop
 | arrow : (at0 l 0).toNat = 45 → (at0 l 1).toNat = 62 → Way l 5 2
 | neg : (at0 l 0).toNat = 45 → digitB (at0 l 1) = true → cnt digitB (l.drop 1) ≤ 18 → wordB (at0 l (1 + cnt digitB (l.drop 1))) = false → Way l 2 (1 + cnt digitB (l.drop 1))
 | pos : digitB (at0 l 0) = true → cnt digitB l ≤ 18 → wordB (at0 l (cnt digitB l)) = false → Way l 2 (cnt digitB l)
 | name : smallB (at0 l 0) = true → Way l 3 (cnt wordB (l.drop 1) + 1)
 | con : greatB (at0 l 0) = true → Way l 4 (cnt wordB (l.drop 1) + 1)
 | one : ¬ single (at0 l 0) < 0 → ((at0 l 0).toNat = 45 → (at0 l 1).toNat ≠ 62 ∧ digitB (at0 l 1) = false) → Way l (single (at0 l 0)) 1
 | none : Way l 0 0
theorem single_cases (c : UInt8) : single c = 0 ∨ single c = 1 ∨ single c = 5 ∨ single c = -1 := by unfold single; repeat' split
                                                                                                    all_goals simp
theorem way (l : List UInt8) : Way l (tokAt l).1 (tokAt l).2 := by
 unfold tokAt
 simp only []
 by_cases h1 : (at0 l 0).toNat = 45
 · rw [if_pos h1]
   by_cases h2 : (at0 l 1).toNat = 62
   · rw [if_pos h2]; exact .arrow h1 h2
   · rw [if_neg h2]
     by_cases h3 : digitB (at0 l 1) = true
     · rw [if_pos h3]
       unfold num
       by_cases h4 : (decide (18 < cnt digitB (l.drop 1)) || wordB (at0 l (1 + cnt digitB (l.drop 1)))) = true
       · rw [if_pos h4]; exact .none
       · rw [if_neg h4]
         simp only [Bool.or_eq_true, decide_eq_true_eq, not_or] at h4
         exact .neg h1 h3 (by omega) (by simpa using h4.2)
     · rw [if_neg h3]
       unfold one
       by_cases h4 : single (at0 l 0) < 0
       · rw [if_pos h4]; exact .none
       · rw [if_neg h4]; exact .one h4 (fun _ => ⟨h2, by simpa using h3⟩)
 · rw [if_neg h1]
   by_cases h2 : digitB (at0 l 0) = true
   · rw [if_pos h2]
     unfold num
     by_cases h4 : (decide (18 < cnt digitB l) || wordB (at0 l (0 + cnt digitB l))) = true
     · rw [if_pos h4]; exact .none
     · rw [if_neg h4]
       simp only [Bool.or_eq_true, decide_eq_true_eq, not_or, Nat.zero_add] at h4
       rw [Nat.zero_add]
       exact .pos h2 (by omega) (by simpa using h4.2)
   · rw [if_neg h2]
     by_cases h3 : smallB (at0 l 0) = true
     · rw [if_pos h3]; exact .name h3
     · rw [if_neg h3]
       by_cases h4 : greatB (at0 l 0) = true
       · rw [if_pos h4]; exact .con h4
       · rw [if_neg h4]
         unfold one
         by_cases h5 : single (at0 l 0) < 0
         · rw [if_pos h5]; exact .none
         · rw [if_neg h5]; exact .one h5 (fun h => absurd h h1)
theorem ne_out (l : List UInt8) (k : Nat) (p : UInt8 → Bool) (h0 : p 0 = false) (h : p (at0 l k) = true) : k < l.length := by
 rcases Nat.lt_or_ge k l.length with h' | h'
 · exact h'
 · rw [at0_out l k h', h0] at h; exact absurd h (by decide)
/-- What is read lies inside. -/
theorem tokAt_le (l : List UInt8) : (tokAt l).2 ≤ l.length := by
 have hw := way l
 revert hw
 generalize (tokAt l).1 = k
 generalize (tokAt l).2 = n
 intro hw
 cases hw with
 | arrow h1 h2 => 
   have := ne_out l 1 (fun c => c.toNat == 62) (by decide) (by simp [h2]); omega
 | neg h1 h2 h3 h4 => 
   have := ne_out l 1 digitB (by decide) h2
   have := cnt_le digitB (l.drop 1); rw [List.length_drop] at this; omega
 | pos h1 h2 h3 => exact cnt_le _ _
 | name h => 
   have := ne_out l 0 smallB (by decide) h
   have := cnt_le wordB (l.drop 1); rw [List.length_drop] at this; omega
 | con h => 
   have := ne_out l 0 greatB (by decide) h
   have := cnt_le wordB (l.drop 1); rw [List.length_drop] at this; omega
 | one h _ => 
   have := ne_out l 0 (fun c => decide (¬ single c < 0)) (by decide) (by simpa using h); omega
 | none => omega
theorem digit_bd (c : UInt8) (h : digitB c = true) : 48 ≤ c.toNat ∧ c.toNat ≤ 57 := by simpa [digitB] using h
theorem natV_bound (l : List UInt8) : ∀ (acc b : Nat), (∀ c ∈ l, digitB c = true) → acc < b → natV l acc < b * 10 ^ l.length := by
 induction l with
 | nil => intro acc b _ h; rw [List.length_nil, Nat.pow_zero, Nat.mul_one]; exact h
 | cons c r ih =>
   intro acc b hd h
   have hc := digit_bd c (hd c (by simp))
   have := ih (acc * 10 + (c.toNat - 48)) (b * 10) (fun d h => hd d (by simp [h])) (by omega)
   rw [natV_cons, List.length_cons, Nat.pow_succ, Nat.mul_comm (10 ^ r.length), ← Nat.mul_assoc]
   exact this
/-- Up to eighteen digits are parsed. -/
theorem parseM (l : List UInt8) : ∀ (acc : Nat), (∀ c ∈ l, digitB c = true) → acc < 1000000000000000000 → (acc + 1) * 10 ^ l.length ≤ 1000000000000000000 → Lib.parseUintM 18446744073709551615 acc l = .ok (natV l acc) := by
 induction l with
 | nil => intros; rfl
 | cons c r ih =>
   intro acc hd ha hb
   have hc := digit_bd c (hd c (by simp))
   have e : (acc + 1) * 10 ^ (r.length + 1) = ((acc + 1) * 10) * 10 ^ r.length := by rw [Nat.pow_succ, Nat.mul_comm (10 ^ r.length), ← Nat.mul_assoc]
   rw [List.length_cons, e] at hb
   have hp : 0 < 10 ^ r.length := Nat.pow_pos (by omega)
   have h1 : (acc + 1) * 10 ≤ 1000000000000000000 := Nat.le_trans (Nat.le_mul_of_pos_right _ hp) hb
   have h2 : (acc * 10 + (c.toNat - 48) + 1) * 10 ^ r.length ≤ ((acc + 1) * 10) * 10 ^ r.length := Nat.mul_le_mul_right _ (by omega)
   rw [Lib.parseUintM, if_pos (by omega), if_neg (by omega), if_neg (by omega), natV_cons]
   exact ih _ (fun d h => hd d (by simp [h])) (by omega) (by omega)
theorem pow18 (n : Nat) (h : n ≤ 18) : 10 ^ n ≤ 1000000000000000000 := Nat.le_trans (Nat.pow_le_pow_right (by omega) h) (Nat.le_refl (10 ^ 18))
theorem take_at0 (l : List UInt8) (n k : Nat) (h : k < n) : at0 (l.take n) k = at0 l k := by
 unfold at0; rw [List.getD_eq_getElem?_getD, List.getD_eq_getElem?_getD, List.getElem?_take_of_lt h]
theorem parse_tok (l : List UInt8) (h2 : (tokAt l).1 = 2) : Lib.parseIntB 64 (l.take (tokAt l).2) = .ok (numV (l.take (tokAt l).2)) := by
 have hw := way l
 have hle := tokAt_le l
 revert hw hle
 generalize (tokAt l).2 = n
 rw [h2]
 intro hw hle
 generalize hk : (2 : Int) = k at hw
 cases hw with
 | arrow _ _ => omega
 | neg h1 hd hm hw => 
   obtain ⟨c, r, rfl⟩ : ∃ c r, l = c :: r := by
    cases l with
    | nil => exact absurd h1 (by decide)
    | cons c r => exact ⟨c, r, rfl⟩
   have hc : c.toNat = 45 := h1
   have e1 : (c :: r).drop 1 = r := rfl
   rw [e1] at hm hw hle ⊢
   rw [Nat.add_comm, List.take_succ_cons]
   have hds := cnt_spec digitB r
   have hcl := cnt_le digitB r
   have hn : 0 < cnt digitB r := by
    have h := cnt_step digitB (c :: r) 1 digit0 hd
    rw [e1] at h
    omega
   have hne : r.take (cnt digitB r) ≠ [] := by intro h; have := congrArg List.length h; rw [List.length_take, List.length_nil] at this; omega
   have hlen : (r.take (cnt digitB r)).length ≤ 18 := by rw [List.length_take]; omega
   generalize r.take (cnt digitB r) = t at *
   have hp := parseM t 0 hds (by omega) (by rw [Nat.zero_add, Nat.one_mul]; exact pow18 _ hlen)
   have hb := natV_bound t 0 1 hds (by omega)
   have hb' : natV t 0 < 1000000000000000000 := Nat.lt_of_lt_of_le hb (by rw [Nat.one_mul]; exact pow18 _ hlen)
   have e2 : numV (c :: t) = -(natV t 0 : Int) := by unfold numV; rw [if_pos (by simpa [at0] using hc)]; rfl
   rw [e2]
   unfold Lib.parseIntB
   simp only [hc, or_true, if_true, Lib.parseUintB, if_neg hne, hp]
   simp
   omega
 | pos hd hm hw => 
   obtain ⟨c, r, rfl⟩ : ∃ c r, l = c :: r := by
    cases l with
    | nil => exact absurd hd (by decide)
    | cons c r => exact ⟨c, r, rfl⟩
   have hc : digitB c = true := hd
   have hds := cnt_spec digitB (c :: r)
   have hcl := cnt_le digitB (c :: r)
   have hn : cnt digitB (c :: r) = cnt digitB r + 1 := by rw [cnt, if_pos hc]
   rw [hn] at hds hcl hm hw ⊢
   rw [List.take_succ_cons] at hds ⊢
   have hlen : (c :: r.take (cnt digitB r)).length ≤ 18 := by simp at hcl ⊢; omega
   generalize r.take (cnt digitB r) = t at *
   have hp := parseM (c :: t) 0 hds (by omega) (by rw [Nat.zero_add, Nat.one_mul]; exact pow18 _ hlen)
   have hb := natV_bound (c :: t) 0 1 hds (by omega)
   have hb' : natV (c :: t) 0 < 1000000000000000000 := Nat.lt_of_lt_of_le hb (by rw [Nat.one_mul]; exact pow18 _ hlen)
   simp [digitB] at hc
   have e2 : numV (c :: t) = (natV (c :: t) 0 : Int) := by unfold numV; rw [if_neg (by simp [at0]; omega)]
   rw [e2]
   unfold Lib.parseIntB
   have h45 : ¬ c.toNat = 45 := by omega
   have h43 : ¬ c.toNat = 43 := by omega
   simp only [h45, h43, or_self, if_false, Lib.parseUintB, if_neg (List.cons_ne_nil c t), hp]
   simp
   omega
 | name _ => omega
 | con _ => omega
 | one _ _ => have := single_cases (at0 l 0); omega
 | none => omega
end Lx
end Go.Proofs.Ytgoacbomphlhjaa
namespace Go.Proofs.Ytgoacbomphlhjaa
namespace Px
open Lx (Tok)
/-- A token, or a list of nodes (then tok is its parenthesis). -/
inductive Node where
 | mk (tok : Tok) (list : List Node) (takes : Nat)
def Node.tok : Node → Tok | .mk t _ _ => t
def Node.list : Node → List Node | .mk _ l _ => l
def Node.takes : Node → Nat | .mk _ _ k => k
def Node.pos (n : Node) : Nat := n.tok.pos
def Node.text (n : Node) : List UInt8 := n.tok.text
/-- What comes of a part, or the place of what is wrong. -/
abbrev R (α : Type) := Except Nat α
def takesOf (t : List UInt8) : Nat :=
 if t = [43] ∨ t = [45] ∨ t = [42] ∨ t = [47] ∨ t = [37] ∨ t = [61] ∨ t = [60] ∨ t = [99, 112, 120] ∨ t = [99, 97, 100, 100] ∨ t = [99, 109, 117, 108] then 2
 else if t = [114, 101] ∨ t = [105, 109] then 1 else 0
mutual
/-- A node that stands in d lists, and the tokens behind it. -/
def node (stop : Nat) : Nat → Nat → List Tok → R (Node × List Tok)
 | 0, _, _ => .error stop
 | _ + 1, _, [] => .error stop
 | f + 1, d, t :: ts =>
   if t.kind = 1 then .error t.pos
   else if t.kind = 0 then
    if d = 40 then .error t.pos else
     match rest stop f (d + 1) ts with
     | .error p => .error p
     | .ok (l, ts') => .ok (.mk t l 0, ts')
   else .ok (.mk t [] (takesOf t.text), ts)
/-- A list's nodes, and the tokens behind its end. -/
def rest (stop : Nat) : Nat → Nat → List Tok → R (List Node × List Tok)
 | 0, _, _ => .error stop
 | _ + 1, _, [] => .error stop
 | f + 1, d, t :: ts =>
   if t.kind = 1 then .ok ([], ts) else
    match node stop f d (t :: ts) with
    | .error p => .error p
    | .ok (n, ts') =>
      match rest stop f d ts' with
      | .error p => .error p
      | .ok (l, ts'') => .ok (n :: l, ts'')
end
def isNameB (n : Node) : Bool :=
 !(n.text == [100, 97, 116, 97] || n.text == [100, 101, 102] || n.text == [102, 110] || n.text == [108, 101, 116] || n.text == [99, 97, 115, 101]) && n.tok.kind == 3 && n.takes == 0
def isListB (n : Node) : Bool := n.tok.kind == 0
def isConB (n : Node) : Bool := n.tok.kind == 4
def isIntB (n : Node) : Bool := n.tok.kind == 2
def word (n : Node) : List UInt8 :=
 match n.list with
 | [] => []
 | m :: _ => if isListB m then [] else m.text
def hold (n : Node) (least most : Nat) : R Unit :=
 if n.list.length < least then .error n.pos else
  match n.list[most]? with
  | some m => .error m.pos
  | none => .ok ()
def nodes (n : Node) (least most : Nat) : R (List Node) :=
 if isListB n then
  match hold n least most with
  | .error p => .error p
  | .ok _ => .ok n.list
 else .error n.pos
def each {α : Type} (f : Node → R α) : List Node → R (List α)
 | [] => .ok []
 | n :: r =>
   match f n with
   | .error p => .error p
   | .ok x =>
     match each f r with
     | .error p => .error p
     | .ok xs => .ok (x :: xs)
def name (n : Node) : R (List UInt8) := if isNameB n then .ok n.text else .error n.pos
def conName (n : Node) : R (List UInt8) := if isConB n then .ok n.text else .error n.pos
def names (n : Node) (least : Nat) : R (List (List UInt8)) :=
 match nodes n least 8 with
 | .error p => .error p
 | .ok l => each name l
inductive TypeE where
 | mk (pos : Nat) (name : List UInt8) (args : List TypeE)
inductive Pat where
 | mk (kind : Nat) (pos : Nat) (name : List UInt8) (int : Int) (args : List Pat)
inductive Expr where
 | mk (kind : Nat) (pos : Nat) (name : List UInt8) (int : Int) (names : List (List UInt8)) (args : List Expr) (alts : List (Pat × Expr))
def typeE : Nat → Node → R TypeE
 | 0, n => .error n.pos
 | f + 1, n =>
   if isConB n || isNameB n then .ok (.mk n.pos n.text [])
   else match nodes n 2 9 with
    | .error p => .error p
    | .ok l =>
      match (if word n = [45, 62] then (match hold n 3 3 with | .error p => .error p | .ok _ => .ok [45, 62]) else conName (l.headD n)) with
      | .error p => .error p
      | .ok nm =>
        match each (typeE f) l.tail with
        | .error p => .error p
        | .ok xs => .ok (.mk n.pos nm xs)
def pat : Nat → Node → R Pat
 | 0, n => .error n.pos
 | f + 1, n =>
   if isListB n then
    match nodes n 2 9 with
    | .error p => .error p
    | .ok l =>
      match conName (l.headD n) with
      | .error p => .error p
      | .ok nm =>
        match each (pat f) l.tail with
        | .error p => .error p
        | .ok xs => .ok (.mk 3 n.pos nm 0 xs)
   else if isIntB n then .ok (.mk 2 n.pos [] n.tok.int [])
   else if isConB n then .ok (.mk 3 n.pos n.text 0 [])
   else if isNameB n then .ok (.mk 1 n.pos n.text 0 [])
   else if n.text = [95] then .ok (.mk 0 n.pos [] 0 [])
   else .error n.pos
/-- A pair's name and expression (ex: what an expression comes to). -/
def pair (ex : Node → R Expr) (b : Node) : R (List UInt8 × Expr) :=
 match nodes b 2 2 with
 | .error p => .error p
 | .ok l =>
   match name (l.headD b) with
   | .error p => .error p
   | .ok s =>
     match ex (l.getD 1 b) with
     | .error p => .error p
     | .ok x => .ok (s, x)
def alt (f : Nat) (ex : Node → R Expr) (b : Node) : R (Pat × Expr) :=
 match nodes b 2 2 with
 | .error p => .error p
 | .ok l =>
   match pat f (l.headD b) with
   | .error p => .error p
   | .ok s =>
     match ex (l.getD 1 b) with
     | .error p => .error p
     | .ok x => .ok (s, x)
def fnExpr (ex : Node → R Expr) (n : Node) : R Expr :=
 match nodes n 3 3 with
 | .error p => .error p
 | .ok l =>
   match names (l.getD 1 n) 1 with
   | .error p => .error p
   | .ok ns =>
     match ex (l.getD 2 n) with
     | .error p => .error p
     | .ok x => .ok (.mk 3 n.pos [] 0 ns [x] [])
def letExpr (ex : Node → R Expr) (n : Node) : R Expr :=
 match nodes n 3 3 with
 | .error p => .error p
 | .ok l =>
   match nodes (l.getD 1 n) 1 8 with
   | .error p => .error p
   | .ok ps =>
     match each (pair ex) ps with
     | .error p => .error p
     | .ok bs =>
       match ex (l.getD 2 n) with
       | .error p => .error p
       | .ok x => .ok (.mk 4 n.pos [] 0 (bs.map (·.1)) (bs.map (·.2) ++ [x]) [])
def caseExpr (f : Nat) (ex : Node → R Expr) (n : Node) : R Expr :=
 match nodes n 3 18 with
 | .error p => .error p
 | .ok l =>
   match ex (l.getD 1 n) with
   | .error p => .error p
   | .ok x =>
     match each (alt f ex) (l.drop 2) with
     | .error p => .error p
     | .ok bs => .ok (.mk 5 n.pos [] 0 [] [x] bs)
/-- A list that is no fn, let, case. -/
def plainExpr (ex : Node → R Expr) (n : Node) : R Expr :=
 match nodes n 2 9 with
 | .error p => .error p
 | .ok l =>
   let first := l.headD n
   if 0 < first.takes then
    match hold n (1 + first.takes) (1 + first.takes) with
    | .error p => .error p
    | .ok _ =>
      match each ex l.tail with
      | .error p => .error p
      | .ok xs => .ok (.mk 7 n.pos first.text 0 [] xs [])
   else if isConB first then
    match each ex l.tail with
    | .error p => .error p
    | .ok xs => .ok (.mk 2 n.pos first.text 0 [] xs [])
   else
    match each ex l with
    | .error p => .error p
    | .ok xs => .ok (.mk 6 n.pos [] 0 [] xs [])
def listExpr (f : Nat) (ex : Node → R Expr) (n : Node) : R Expr :=
 if word n = [102, 110] then fnExpr ex n
 else if word n = [108, 101, 116] then letExpr ex n
 else if word n = [99, 97, 115, 101] then caseExpr f ex n
 else plainExpr ex n
def expr : Nat → Node → R Expr
 | 0, n => .error n.pos
 | f + 1, n =>
   if isListB n then listExpr f (expr f) n
   else if isIntB n then .ok (.mk 0 n.pos [] n.tok.int [] [] [])
   else if isConB n then .ok (.mk 2 n.pos n.text 0 [] [] [])
   else if isNameB n then .ok (.mk 1 n.pos n.text 0 [] [] [])
   else .error n.pos
structure Con where
 pos : Nat
 name : List UInt8
 fields : List TypeE
structure Data where
 pos : Nat
 name : List UInt8
 params : List (List UInt8)
 cons : List Con
structure Def where
 pos : Nat
 name : List UInt8
 params : List (List UInt8)
 body : Expr
structure Prog where
 datas : List Data
 defs : List Def
def con (f : Nat) (n : Node) : R Con :=
 match nodes n 1 9 with
 | .error p => .error p
 | .ok l =>
   match conName (l.headD n) with
   | .error p => .error p
   | .ok s =>
     match each (typeE f) l.tail with
     | .error p => .error p
     | .ok ts => .ok ⟨n.pos, s, ts⟩
def data (f : Nat) (n : Node) : R Data :=
 match nodes n 4 103 with
 | .error p => .error p
 | .ok l =>
   match conName (l.getD 1 n) with
   | .error p => .error p
   | .ok s =>
     match names (l.getD 2 n) 0 with
     | .error p => .error p
     | .ok ps =>
       match each (con f) (l.drop 3) with
       | .error p => .error p
       | .ok cs => .ok ⟨n.pos, s, ps, cs⟩
def defn (f : Nat) (n : Node) : R Def :=
 match nodes n 4 4 with
 | .error p => .error p
 | .ok l =>
   match name (l.getD 1 n) with
   | .error p => .error p
   | .ok s =>
     match names (l.getD 2 n) 0 with
     | .error p => .error p
     | .ok ps =>
       match expr f (l.getD 3 n) with
       | .error p => .error p
       | .ok x => .ok ⟨n.pos, s, ps, x⟩
/-- A program's lists, from the one with number c on (f: no fewer than the tokens). -/
def prog (stop : Nat) : Nat → Nat → List Tok → R Prog
 | 0, _, _ => .ok ⟨[], []⟩
 | _ + 1, _, [] => .ok ⟨[], []⟩
 | f + 1, c, ts =>
   match node stop (2 * ts.length + 2) 0 ts with
   | .error p => .error p
   | .ok (n, ts') =>
     if c = 100 then .error n.pos
     else if word n = [100, 97, 116, 97] then
      match data 50 n with
      | .error p => .error p
      | .ok d => match prog stop f (c + 1) ts' with
        | .error p => .error p
        | .ok q => .ok ⟨d :: q.datas, q.defs⟩
     else if word n = [100, 101, 102] then
      match defn 50 n with
      | .error p => .error p
      | .ok d => match prog stop f (c + 1) ts' with
        | .error p => .error p
        | .ok q => .ok ⟨q.datas, d :: q.defs⟩
     else .error n.pos
def onlyExpr (stop : Nat) (ts : List Tok) : R Expr :=
 match node stop (2 * ts.length + 2) 0 ts with
 | .error p => .error p
 | .ok (n, ts') =>
   match ts' with
   | t :: _ => .error t.pos
   | [] => expr 50 n
/-- The whole of a text: layer 1's place, or the part's. (2: no tokens; 3: what says nothing.) -/
inductive Outcome (α : Type) where
 | lex (p : Nat)
 | parse (p : Nat)
 | done (x : α)
def parsed {α : Type} (read : Nat → List Tok → R α) (l : List UInt8) : Outcome α :=
 if 4096 < l.length then .lex 4096 else
  match Lx.toks (l.length + 1) 0 l with
  | (_, some q) => .lex q
  | (ts, none) =>
    match read l.length ts with
    | .error p => .parse p
    | .ok x => .done x
def program (l : List UInt8) : Outcome Prog := parsed (fun stop ts => prog stop (ts.length + 1) 0 ts) l
def exprOf (l : List UInt8) : Outcome Expr := parsed onlyExpr l
/-- So deep are a node's lists at most. -/
def Fits : Nat → Node → Prop
 | 0, n => n.list = []
 | k + 1, n => ∀ m ∈ n.list, Fits k m
end Px
end Go.Proofs.Ytgoacbomphlhjaa
namespace Go.Proofs.Ytgoacbomphlhjaa
open Go
/-- As Q; by a goto to label l: J l. -/
def Exit.jumps (J : Nat → Act → World → Prop) (Q : Exit → Act → World → Prop) : Exit → Act → World → Prop
 | .goto l, a, w => J l a w
 | e, a, w => Q e a w
section
variable {P : Program} {a : Act} {w : World} {Q : Exit → Act → World → Prop}
theorem wp_scope_labels {c : Code} (J : Nat → Act → World → Prop) (μ : Nat → Act → World → Nat)
 (first : c.wp P (Exit.jumps J Q) a w)
 (pass : ∀ l a w, J l a w → ∃ rest, findLabel c l = some rest ∧ rest.wp P (Exit.jumps (fun l' a' w' => J l' a' w' ∧ μ l' a' w' < μ l a w) Q) a w) : (Code.scope c).wp P Q a w := by
 intro b k cs
 have hg : ∀ l rest, findLabel c l = some rest → gotoIn l (.inScope c :: k) = some (.code rest :: .inScope c :: k) := fun l rest h => by simp [gotoIn, h]
 have key : ∀ n l a w, μ l a w = n → J l a w → ∃ rest, findLabel c l = some rest ∧ ∃ e a' w', Q e a' w' ∧ Arrives P (lone (b.at a (.code rest :: .inScope c :: k)) cs w) b k cs e a' w' := by
  intro n
  induction n using Nat.strongRecOn with
  | _ n ih =>
    intro l a w hn hJ
    obtain ⟨rest, hr, hp⟩ := pass l a w hJ
    refine ⟨rest, hr, ?_⟩
    obtain ⟨e, a₁, w₁, hq, harr⟩ := hp b (.inScope c :: k) cs
    cases e with
    | normal => exact ⟨.normal, a₁, w₁, hq, Steps.trans harr (.one step_inScope)⟩
    | exit id => exact ⟨.exit id, a₁, w₁, hq, fun k' hk => harr k' (by simp [exitTo, hk])⟩
    | goto l' =>
      obtain ⟨hJ', hlt⟩ := hq
      obtain ⟨rest', hr', e₂, a₂, w₂, hq₂, harr₂⟩ := ih _ (by omega) l' a₁ w₁ rfl hJ'
      exact ⟨e₂, a₂, w₂, hq₂, .of_steps (harr _ (hg l' rest' hr')) harr₂⟩
    | ret => exact ⟨_, a₁, w₁, hq, harr⟩
    | panic ch => exact ⟨_, a₁, w₁, hq, harr⟩
    | outgrown => exact ⟨_, a₁, w₁, hq, harr⟩
 obtain ⟨e, a₁, w₁, hq, harr⟩ := first b (.inScope c :: k) cs
 cases e with
 | normal => exact ⟨.normal, a₁, w₁, hq, .head step_scope (Steps.trans harr (.one step_inScope))⟩
 | exit id => exact ⟨.exit id, a₁, w₁, hq, fun k' hk => .head step_scope (harr k' (by simp [exitTo, hk]))⟩
 | goto l' =>
   obtain ⟨rest', hr', e₂, a₂, w₂, hq₂, harr₂⟩ := key _ l' a₁ w₁ rfl hq
   exact ⟨e₂, a₂, w₂, hq₂, .of_steps (.head step_scope (harr _ (hg l' rest' hr'))) harr₂⟩
 | ret => exact ⟨_, a₁, w₁, hq, .of_steps (.one step_scope) harr⟩
 | panic ch => exact ⟨_, a₁, w₁, hq, .of_steps (.one step_scope) harr⟩
 | outgrown => exact ⟨_, a₁, w₁, hq, .of_steps (.one step_scope) harr⟩
theorem Exit.jumps_mono {J J' : Nat → Act → World → Prop} (h : ∀ l a w, J l a w → J' l a w) {e : Exit} {a : Act} {w : World} (hq : Exit.jumps J Q e a w) : Exit.jumps J' Q e a w := by
 cases e with
 | goto l => exact h l a w hq
 | _ => exact hq
theorem Exit.jumps_ret (J : Nat → Act → World → Prop) : Exit.jumps J Q .ret a w = Q .ret a w := rfl
theorem Exit.jumps_goto (J : Nat → Act → World → Prop) (l : Nat) : Exit.jumps J Q (.goto l) a w = J l a w := rfl
theorem wp_mono {c : Code} {Q Q' : Exit → Act → World → Prop} (h : ∀ e a w, Q e a w → Q' e a w) (hc : c.wp P Q a w) : c.wp P Q' a w := fun b k cs =>
 let ⟨e, a', w', hq, harr⟩ := hc b k cs
 ⟨e, a', w', h e a' w' hq, harr⟩
/-- As above, where the scope begins with a label: what stands behind it is walked once. -/
theorem wp_scope_first {r : Code} (l0 : Nat) (J : Nat → Act → World → Prop) (μ : Nat → Act → World → Nat) (hJ : J l0 a w)
 (pass0 : ∀ a w, J l0 a w → r.wp P (Exit.jumps (fun l' a' w' => J l' a' w' ∧ μ l' a' w' < μ l0 a w) Q) a w)
 (pass : ∀ l a w, l ≠ l0 → J l a w → ∃ rest, findLabel r l = some rest ∧ rest.wp P (Exit.jumps (fun l' a' w' => J l' a' w' ∧ μ l' a' w' < μ l a w) Q) a w) : (Code.scope (.seq (.label l0) r)).wp P Q a w := by
 refine wp_scope_labels J μ ?_ ?_
 · refine wp_seq (wp_label ?_)
   exact wp_mono (fun e a' w' hq => Exit.jumps_mono (fun _ _ _ h => h.1) hq) (pass0 a w hJ)
 · intro l a w hl
   by_cases h : l = l0
   · subst h
     exact ⟨_, by simp [findLabel], wp_seq (wp_skip (pass0 a w hl))⟩
   · obtain ⟨rest, hr, hp⟩ := pass l a w h hl
     exact ⟨rest, by simp [findLabel, hr, Ne.symm h], hp⟩
/-- As above, where code stands ahead of the label: behind it what the first walk comes to is known already. -/
theorem wp_scope_lead {c r : Code} (l0 : Nat) (hf : findLabel c l0 = some (.seq .skip r)) (J : Nat → Act → World → Prop) (μ : Nat → Act → World → Nat)
 (pass0 : ∀ a w, J l0 a w → r.wp P (Exit.jumps (fun l' a' w' => J l' a' w' ∧ μ l' a' w' < μ l0 a w) Q) a w)
 (pass : ∀ l a w, l ≠ l0 → J l a w → ∃ rest, findLabel c l = some rest ∧ rest.wp P (Exit.jumps (fun l' a' w' => J l' a' w' ∧ μ l' a' w' < μ l a w) Q) a w)
 (first : (∀ a w, J l0 a w → r.wp P (Exit.jumps J Q) a w) → c.wp P (Exit.jumps J Q) a w) : (Code.scope c).wp P Q a w := by
 refine wp_scope_labels J μ (first fun a w h => wp_mono (fun e a' w' hq => Exit.jumps_mono (fun _ _ _ h => h.1) hq) (pass0 a w h)) ?_
 intro l a w hl
 by_cases h : l = l0
 · subst h; exact ⟨_, hf, wp_seq (wp_skip (pass0 a w hl))⟩
 · exact pass l a w h hl
end
end Go.Proofs.Ytgoacbomphlhjaa
namespace Go.Proofs.Ytgoacbomphlhjaa
open Go Go.RowKit
set_option linter.unusedVariables false
set_option linter.unusedSimpArgs false
theorem ret_bool {a b : Bool} (h : a = b) : Ending.returned (.bool a) = .returned (.bool b) := by rw [h]
theorem ret_int {k : IntKind} {a b : Int} (h : a = b) : Ending.returned (.int k a) = .returned (.int k b) := by rw [h]
theorem bcell {W w1 : World} (hb : Below W.heap.size W w1) : (∀ b o, b < W.heap.size → w1.cell? ⟨b, o, none⟩ = W.cell? ⟨b, o, none⟩) ∧ (∀ b o, b < W.heap.size → w1.frozen? ⟨b, o, none⟩ = W.frozen? ⟨b, o, none⟩) :=
 ⟨fun b o h => hb.cell (p := ⟨b, o, none⟩) h, fun b o h => hb.frozen (p := ⟨b, o, none⟩) h⟩
def tokCells (t : Lx.Tok) : List Value := [.int .i64 t.kind, .int .i64 t.pos, .string ⟨t.text.toArray⟩, .int .i64 t.int]
def toksCells (ts : List Lx.Tok) : List Value := ts.flatMap tokCells
/-- What stands in the world: the slice's bytes. -/
def BytesAt (w : World) (b off : Nat) (l : List UInt8) : Prop := ∀ j, j < l.length → w.cell? ⟨b, off + j, none⟩ = some (.int .u8 (Lx.at0 l j).toNat)
theorem BytesAt.below {w w' : World} {b off : Nat} {l : List UInt8} (h : BytesAt w b off l) (hb : Below w.heap.size w w') : BytesAt w' b off l := fun j hj => by
 have := h j hj
 rw [hb.cell (World.block_lt_of_cell? w _ this)]; exact this
def TkR (l : List UInt8) (done : List Lx.Tok) (E : Nat) : Prop :=
 ∃ f, l.length < E + f ∧ Lx.toks (l.length + 1) 0 l = (done ++ (Lx.toks f E (l.drop E)).1, (Lx.toks f E (l.drop E)).2)
theorem tkR_start (l : List UInt8) : TkR l [] 0 := ⟨l.length + 1, by omega, by simp⟩
theorem toks_succ (f p : Nat) (l : List UInt8) : Lx.toks (f + 1) p l =
 if l.length ≤ Lx.skipC false l then ([], none) else
  if (Lx.tokAt (l.drop (Lx.skipC false l))).2 = 0 then ([], some (p + Lx.skipC false l)) else
   (Lx.mkTok (p + Lx.skipC false l) (Lx.tokAt (l.drop (Lx.skipC false l))).1 ((l.drop (Lx.skipC false l)).take (Lx.tokAt (l.drop (Lx.skipC false l))).2) ::
     (Lx.toks f (p + Lx.skipC false l + (Lx.tokAt (l.drop (Lx.skipC false l))).2) ((l.drop (Lx.skipC false l)).drop (Lx.tokAt (l.drop (Lx.skipC false l))).2)).1,
    (Lx.toks f (p + Lx.skipC false l + (Lx.tokAt (l.drop (Lx.skipC false l))).2) ((l.drop (Lx.skipC false l)).drop (Lx.tokAt (l.drop (Lx.skipC false l))).2)).2) := rfl
theorem tk_step {l : List UInt8} {done : List Lx.Tok} {E A : Nat} (h : TkR l done E) (hE : E ≤ l.length) (hA : E + Lx.skipC false (l.drop E) = A) :
 A ≤ l.length ∧ E ≤ A ∧ (A = l.length → Lx.toks (l.length + 1) 0 l = (done, none)) ∧
 (A < l.length → (Lx.tokAt (l.drop A)).2 = 0 → (Lx.toks (l.length + 1) 0 l).2 = some A) ∧
 (A < l.length → (Lx.tokAt (l.drop A)).2 ≠ 0 → TkR l (done ++ [Lx.mkTok A (Lx.tokAt (l.drop A)).1 ((l.drop A).take (Lx.tokAt (l.drop A)).2)]) (A + (Lx.tokAt (l.drop A)).2)) := by
 obtain ⟨f, hf, ht⟩ := h
 have hle := Lx.skipC_le false (l.drop E)
 rw [List.length_drop] at hle
 obtain ⟨f, rfl⟩ : ∃ g, f = g + 1 := ⟨f - 1, by omega⟩
 rw [toks_succ f E (l.drop E), List.length_drop, List.drop_drop, hA] at ht
 refine ⟨by omega, by omega, ?_, ?_, ?_⟩
 · intro he
   rw [if_pos (by omega)] at ht
   rw [ht]; simp
 · intro h1 h2
   rw [if_neg (by omega), if_pos h2] at ht
   rw [ht]
 · intro h1 h2
   rw [if_neg (by omega), if_neg h2, List.drop_drop] at ht
   exact ⟨f, by omega, by rw [ht]; simp⟩
theorem grown_below {B : Nat} {w w' : World} (h : Below B w w') (hB : w.heap.size ≤ B) (row : Option Nat) : w.grownBy w' row := ⟨h.os, h.tape, h.output, h.size, fun k hk _ => h.block k (by omega)⟩
theorem info70 : (Try.prog.info? 70).map (fun i => (i.zero, i.size, i.bytes)) = some (some (.agg #[.int .i64 0, .int .i64 0, .string ⟨#[]⟩, .int .i64 0]), 4, 40) := by kernel_rfl
theorem own_kept {w w' : World} {base : Nat} {e : TypeId} {size : Nat} {v : Value} {n : Nat} {xs : List Value} (h : w.ownsRow base e size v n xs) (hb : Below w.heap.size w w') : w'.ownsRow base e size v n xs := by
 refine h.kept (grown_below hb (Nat.le_refl _) (some w.heap.size)) ?_
 cases hv : v.ownBlock with
 | none => exact .inl rfl
 | some k => exact .inr (by have := (h.lt k hv).2; simp; omega)
theorem four_at (w : World) (x0 x1 x2 x3 : Value) (T : TypeId) (j : Nat) (u : Value) (h : [x0, x1, x2, x3][j]? = some u) :
 (w.alloc (.cells #[x0, x1, x2, x3] T)).cell? ((⟨w.heap.size, 0, none⟩ : Addr).add j) = some u := by
 have e : (⟨w.heap.size, 0, none⟩ : Addr).add j = ⟨w.heap.size, j, none⟩ := by unfold Addr.add; split <;> simp_all
 rw [e, World.cell?_alloc_mark]
 simpa using h
theorem four_one (k p i : Int) (t : ByteArray) : ∀ u ∈ [Value.int .i64 k, .int .i64 p, .string t, .int .i64 i], u.oneCell' = true := by
 intro u hu
 simp only [List.mem_cons, List.not_mem_nil, or_false] at hu
 rcases hu with rfl | rfl | rfl | rfl <;> rfl
theorem toksCells_snoc (done : List Lx.Tok) (A : Nat) (k : Int) (t : List UInt8) (iv : Int) (h : (Lx.mkTok A k t).int = iv) :
 toksCells done ++ [.int .i64 k, .int .i64 A, .string ⟨t.toArray⟩, .int .i64 iv] = toksCells (done ++ [Lx.mkTok A k t]) := by
 subst h; simp [toksCells, tokCells, Lx.mkTok]
/-- A slice of bytes, whatever it is, in the world. -/
def SliceAt (w : World) (v : Value) (l : List UInt8) : Prop :=
 (∃ p cap, v = .slice p 0 cap ∧ l = []) ∨ (∃ b off cap, v = .slice (some ⟨b, off, none⟩) l.length cap ∧ l.length ≤ cap ∧ cap ≤ 9223372036854775807 ∧ BytesAt w b off l)
end Go.Proofs.Ytgoacbomphlhjaa
namespace Go.Proofs.Ytgoacbomphlhjaa
set_option linter.unusedVariables false
set_option linter.unusedSimpArgs false
open Go Go.RowKit
/-- The slice of an owned list of tokens that is not empty, cell by cell. -/
theorem own_toks {w : World} {base : Nat} {v : Value} {ts : List Lx.Tok} (h : w.ownsRow base 70 4 v ts.length (toksCells ts)) (hne : ts ≠ []) :
 ∃ g cap, v = .slice (some ⟨g, 0, none⟩) ts.length cap ∧ base ≤ g ∧ g < w.heap.size ∧ ts.length ≤ cap ∧ (cap : Int) ≤ 9223372036854775807 ∧
  ∀ i t, ts[i]? = some t → w.cell? ⟨g, i * 4, none⟩ = some (.int .i64 t.kind) ∧ w.cell? ⟨g, i * 4 + 1, none⟩ = some (.int .i64 t.pos) ∧ w.cell? ⟨g, i * 4 + 2, none⟩ = some (.string ⟨t.text.toArray⟩) ∧ w.cell? ⟨g, i * 4 + 3, none⟩ = some (.int .i64 t.int) := by
 obtain ⟨hlen, h0 | ⟨g, cap, cur, rfl, hb, hh, hn, hm, hsz, htk⟩⟩ := h
 · exact absurd (List.eq_nil_of_length_eq_zero h0.2) hne
 · refine ⟨g, cap, rfl, hb, ?_, hn, by unfold maxLen at hm; omega, ?_⟩
   · rcases Nat.lt_or_ge g w.heap.size with h' | h'
     · exact h'
     · rw [Array.getElem?_eq_none h'] at hh; exact absurd hh (by simp)
   · have key : ∀ k u, (toksCells ts)[k]? = some u → w.cell? ⟨g, k, none⟩ = some u := by
      intro k u hk
      have := World.ownsRow.cells (w := w) (base := base) (e := 70) (size := 4) (v := .slice (some ⟨g, 0, none⟩) ts.length cap) (n := ts.length) (xs := toksCells ts) ⟨hlen, .inr ⟨g, cap, cur, rfl, hb, hh, hn, hm, hsz, htk⟩⟩ (g := g) rfl k u hk
      have e : (⟨g, 0, none⟩ : Addr).add k = ⟨g, k, none⟩ := by unfold Addr.add; split <;> simp_all
      rwa [e] at this
     have part : ∀ (ts : List Lx.Tok) i t, ts[i]? = some t → ∀ j, j < 4 → (toksCells ts)[i * 4 + j]? = (tokCells t)[j]? := by
      intro ts
      induction ts with
      | nil => intro i t h; simp at h
      | cons a r ih =>
        intro i t h j hj
        have e : toksCells (a :: r) = tokCells a ++ toksCells r := by simp [toksCells]
        have hl : (tokCells a).length = 4 := rfl
        cases i with
        | zero =>
          simp at h; subst h
          rw [e, List.getElem?_append_left (by omega)]; simp
        | succ i =>
          simp at h
          rw [e, List.getElem?_append_right (by omega), hl]
          have := ih i t h j hj
          rw [← this]; congr 1; omega
     intro i t h
     refine ⟨?_, ?_, ?_, ?_⟩
     · exact key _ _ (by have := part ts i t h 0 (by omega); simpa [tokCells] using this)
     · exact key _ _ (by have := part ts i t h 1 (by omega); simpa [tokCells] using this)
     · exact key _ _ (by have := part ts i t h 2 (by omega); simpa [tokCells] using this)
     · exact key _ _ (by have := part ts i t h 3 (by omega); simpa [tokCells] using this)
def byteV (c : UInt8) : Value := .int .u8 c.toNat
theorem at0_set (l : List UInt8) (i j : Nat) (x : UInt8) (hi : i < l.length) : Lx.at0 (l.set i x) j = if i = j then x else Lx.at0 l j := by
 unfold Lx.at0
 rw [List.getD_eq_getElem?_getD, List.getD_eq_getElem?_getD, List.getElem?_set]
 by_cases h : i = j
 · subst h; simp [hi]
 · simp [h]
theorem at0_get (l : List UInt8) (j : Nat) (h : j < l.length) : (l.map byteV)[j]? = some (.int .u8 (Lx.at0 l j).toNat) := by
 rw [List.getElem?_map, List.getElem?_eq_getElem h]
 simp [byteV, Lx.at0, List.getD_eq_getElem?_getD, List.getElem?_eq_getElem h]
theorem bytesAt_own {w : World} {base e g n cap : Nat} {l : List UInt8} (h : w.ownsRow base e 1 (.slice (some ⟨g, 0, none⟩) n cap) n (l.map byteV)) : BytesAt w g 0 l ∧ l.length = n := by
 have hl : l.length = n := by have := h.1; simpa using this
 refine ⟨fun j hj => ?_, hl⟩
 have := World.ownsRow.cellAt h j (by omega)
 rw [Nat.zero_add, this]; exact at0_get l j hj
/-- An owned slice, nil or not, is a slice of bytes. -/
theorem sliceAt_own {w : World} {base e n : Nat} {v : Value} {l : List UInt8} (h : w.ownsRow base e 1 v n (l.map byteV)) : SliceAt w v l := by
 have hl : l.length = n := by have := h.1; simpa using this
 rcases h.2 with ⟨rfl, rfl⟩ | ⟨g, cap, cur, rfl, hb, hh, hn, hm, hsz, htk⟩
 · exact .inl ⟨none, 0, rfl, List.eq_nil_of_length_eq_zero hl⟩
 · refine .inr ⟨g, 0, cap, by rw [hl], by omega, by unfold maxLen at hm; omega, (bytesAt_own h).1⟩
theorem madeBytes (n : Nat) : (madeCells (Value.int .u8 0).cells (n * 1)).toList = (List.replicate n (0 : UInt8)).map byteV := by
 unfold madeCells
 simp [Value.cells, byteV, Nat.mod_one]
 rw [List.map_const', List.length_range]
theorem info5 : (Try.prog.info? 5).map (fun i => (i.zero, i.size, i.bytes)) = some (some (.int .u8 0), 1, 1) := by kernel_rfl
/-- A list's value is a slice of that length. -/
theorem own_len {w : World} {base e size n : Nat} {v : Value} {xs : List Value} (h : w.ownsRow base e size v n xs) : ∃ p cap, v = .slice p n cap := by
 rcases h.2 with ⟨rfl, rfl⟩ | ⟨g, cap, cur, rfl, _⟩
 · exact ⟨none, 0, rfl⟩
 · exact ⟨_, cap, rfl⟩
/-- '[]byte(s)' in its new block. -/
theorem bytesWorld_at (w : World) (e : TypeId) (l : List UInt8) : BytesAt (Lib.bytesWorld w e ⟨l.toArray⟩) w.heap.size 0 l := fun j hj => by
 rw [Nat.zero_add, Lib.bytesWorld_cell _ _ _ _ (by simpa [ByteArray.size] using hj)]
 rfl
theorem conv_text (w : World) (l : List UInt8) : (convert 9 22 (.string ⟨l.toArray⟩)).run Try.prog w = .ok (.slice (some ⟨w.heap.size, 0, none⟩) l.length (grownCap w l.length 0 5)) (Lib.bytesWorld w 5 ⟨l.toArray⟩) :=
 Lib.run_convert_string_bytes (P := Try.prog) w 9 22 5 ⟨l.toArray⟩ Try.underlying9 Try.underlying22 Try.underlying5
theorem byte_of (c : Int) (h : (Lit.int .u8 c).wf = true) : ∃ u : UInt8, c = (u.toNat : Int) := by
 have hb : 0 ≤ c ∧ c ≤ 255 := by simpa [Lit.wf, IntKind.min, IntKind.max, IntKind.bits, IntKind.signed] using h
 refine ⟨UInt8.ofNat c.toNat, ?_⟩
 rw [UInt8.toNat_ofNat']; omega
/-- The cells of a list of tokens, its pointer a variable. -/
theorem own_cells {w : World} {base : Nat} {p : Option Addr} {cap : Nat} {ts : List Lx.Tok} (h : w.ownsRow base 70 4 (.slice p ts.length cap) ts.length (toksCells ts)) (k : Nat) (t : Lx.Tok) (hk : ts[k]? = some t) :
 ∃ g, p = some ⟨g, 0, none⟩ ∧ g < w.heap.size ∧ w.cell? ⟨g, k * 4, none⟩ = some (.int .i64 t.kind) ∧ w.cell? ⟨g, k * 4 + 1, none⟩ = some (.int .i64 t.pos) ∧ w.cell? ⟨g, k * 4 + 2, none⟩ = some (.string ⟨t.text.toArray⟩) ∧ w.cell? ⟨g, k * 4 + 3, none⟩ = some (.int .i64 t.int) := by
 obtain ⟨g, cap', he, _, hg, _, _, hc⟩ := own_toks h (by intro e; subst e; simp at hk)
 injection he with he1
 exact ⟨g, he1, hg, hc k t hk⟩
namespace Lx
theorem skip_all (r : List UInt8) : (∀ j, j + 1 < r.length → (at0 r j).toNat ≠ 10) → skipC true r = r.length := by
 induction r with
 | nil => intro _; rfl
 | cons c r ih =>
   intro h
   rw [skipC, List.length_cons]
   by_cases hc : c.toNat = 10
   · have hr : r = [] := by
      cases r with
      | nil => rfl
      | cons d r => exact absurd hc (h 0 (by simp))
     subst hr
     rw [if_pos hc]; rfl
   · rw [if_neg hc, ih (fun j hj => by have := h (j + 1) (by simpa using hj); simpa [at0] using this)]
end Lx
end Go.Proofs.Ytgoacbomphlhjaa
