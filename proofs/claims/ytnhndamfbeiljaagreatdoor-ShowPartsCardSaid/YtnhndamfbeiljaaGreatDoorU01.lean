/-
  Several texts in one: Pure, ReadPure, Toks, PPure, NumPure, JoinPure, PTk, PSim, PMore, PSumPure.
-/
import Derived.Test.YtnhndamfbeiljaaGreatDoorU00
import GoSem.Core.Value
import Derived.Lib.ParseIntB
import Derived.Lib.ItoaNum
set_option linter.unusedVariables false
set_option linter.unusedSimpArgs false
set_option maxHeartbeats 4000000
set_option maxRecDepth 100000
namespace Go.Proofs.YtnhndamfbeiljaaGreatDoor
open Go.Lib (hid)
open List renaming getElem_toArray → jPC, getElem_cons_succ → jPD, getElem_cons_zero → jPE, setIfInBounds_toArray → jPF, set_cons_zero → jPG, set_cons_succ → jPH
namespace Lx
def jCT (c : UInt8) : Bool := c.toNat == 32 || c.toNat == 10 || c.toNat == 9 || c.toNat == 13
def jA9 (c : UInt8) : Bool := 48 <= c.toNat && c.toNat <= 57
def jCF (c : UInt8) : Bool := 97 <= c.toNat && c.toNat <= 122
def jCS (c : UInt8) : Bool := 65 <= c.toNat && c.toNat <= 90
def jBQ (c : UInt8) : Bool := jCF c || jCS c || jA9 c || c.toNat == 39
def at0 (l : List UInt8) (n : Nat) : UInt8 := l.getD n 0
def skipC : Bool -> List UInt8 -> Nat
 | _, [] => 0
 | false, c :: r => if jCT c then skipC false r + 1 else if c.toNat = 59 then skipC true r + 1 else 0
 | true, c :: r => if c.toNat = 10 then skipC false r + 1 else skipC true r + 1
def cnt (p : UInt8 -> Bool) : List UInt8 -> Nat
 | [] => 0
 | c :: r => if p c then cnt p r + 1 else 0
def single (c : UInt8) : Int :=
 if c.toNat = 40 then 0 else if c.toNat = 41 then 1 else
 if c.toNat = 95 \/ c.toNat = 43 \/ c.toNat = 45 \/ c.toNat = 42 \/ c.toNat = 47 \/ c.toNat = 37 \/ c.toNat = 61 \/ c.toNat = 60 then 5 else -1
def num (l : List UInt8) (o m : Nat) : Int × Nat := if 18 < m || jBQ (at0 l (o + m)) then (0, 0) else (2, o + m)
def one (c : UInt8) : Int × Nat := if single c < 0 then (0, 0) else (single c, 1)
def jAL (l : List UInt8) : Int × Nat :=
 let c := at0 l 0
 if c.toNat = 45 then
  if (at0 l 1).toNat = 62 then (5, 2) else if jA9 (at0 l 1) then num l 1 (cnt jA9 (l.drop 1)) else one c
 else if jA9 c then num l 0 (cnt jA9 l)
 else if jCF c then (3, cnt jBQ (l.drop 1) + 1)
 else if jCS c then (4, cnt jBQ (l.drop 1) + 1)
 else one c
theorem drop_at (l : List UInt8) (k : Nat) (h : k < l.length) : l.drop k = at0 l k :: l.drop (k + 1) := by
 rw [List.drop_eq_getElem_cons h]; congr 1; simp [at0, List.getD_eq_getElem?_getD, List.getElem?_eq_getElem h]
theorem jGQ (l : List UInt8) (k : Nat) (h : l.length <= k) : at0 l k = 0 := by unfold at0; rw [List.getD_eq_getElem?_getD, List.getElem?_eq_none h]; rfl
theorem at0_drop (l : List UInt8) (k j : Nat) : at0 (l.drop k) j = at0 l (k + j) := by simp [at0, List.getD_eq_getElem?_getD]
theorem jMH (l : List UInt8) (k : Nat) (hb : jCT (at0 l k) = true) : k < l.length /\ skipC false (l.drop k) = skipC false (l.drop (k + 1)) + 1 := by
 have hk : k < l.length := by
  rcases Nat.lt_or_ge k l.length with h | h
  . exact h
  . rw [jGQ l k h] at hb; exact absurd hb (by decide)
 exact ⟨hk, by rw [drop_at l k hk, skipC, if_pos hb]⟩
theorem jO5 (l : List UInt8) (k : Nat) (hs : (at0 l k).toNat = 59) : k < l.length /\ skipC false (l.drop k) = skipC true (l.drop (k + 1)) + 1 := by
 have hk : k < l.length := by
  rcases Nat.lt_or_ge k l.length with h | h
  . exact h
  . rw [jGQ l k h] at hs; exact absurd hs (by decide)
 exact ⟨hk, by rw [drop_at l k hk, skipC, if_neg (by simp [jCT, hs]), if_pos hs]⟩
theorem skip_end (l : List UInt8) (k : Nat) (hb : jCT (at0 l k) = false) (hs : (at0 l k).toNat ≠ 59) : skipC false (l.drop k) = 0 := by
 rcases Nat.lt_or_ge k l.length with h | h
 . rw [drop_at l k h, skipC, if_neg (by simp [hb]), if_neg hs]
 . rw [List.drop_eq_nil_of_le h]; rfl
theorem jO6 (l : List UInt8) (k : Nat) (hk : k < l.length) (hs : (at0 l k).toNat ≠ 10) : skipC true (l.drop k) = skipC true (l.drop (k + 1)) + 1 := by
 rw [drop_at l k hk, skipC, if_neg hs]
theorem jJ7 (l : List UInt8) (k : Nat) (h : k < l.length -> (at0 l k).toNat = 10) : skipC true (l.drop k) = skipC false (l.drop k) := by
 rcases Nat.lt_or_ge k l.length with hk | hk
 . rw [drop_at l k hk, skipC, skipC, if_pos (h hk), if_pos (by simp [jCT, h hk])]
 . rw [List.drop_eq_nil_of_le hk]; rfl
end Lx
namespace Lx
theorem jGP (p : UInt8 -> Bool) (l : List UInt8) (k : Nat) (h0 : p 0 = false) (h : p (at0 l k) = true) : k < l.length /\ cnt p (l.drop k) = cnt p (l.drop (k + 1)) + 1 := by
 have hk : k < l.length := by
  rcases Nat.lt_or_ge k l.length with h' | h'
  . exact h'
  . rw [jGQ l k h', h0] at h; exact absurd h (by decide)
 exact ⟨hk, by rw [drop_at l k hk, cnt, if_pos h]⟩
theorem jM2 (p : UInt8 -> Bool) (l : List UInt8) (k : Nat) (h : p (at0 l k) = false) : cnt p (l.drop k) = 0 := by
 rcases Nat.lt_or_ge k l.length with h' | h'
 . rw [drop_at l k h', cnt, if_neg (by simp [h])]
 . rw [List.drop_eq_nil_of_le h']; rfl
theorem jFW (p : UInt8 -> Bool) : ∀ l : List UInt8, cnt p l <= l.length
 | [] => Nat.le_refl _
 | c :: r => by rw [cnt]; have := jFW p r; split <;> simp <;> omega
theorem jMZ : jA9 0 = false := by decide
theorem word0 : jBQ 0 = false := by decide
def RdR (l : List UInt8) (i lab : Nat) (K : Int) (E D : Nat) : Prop :=
 (lab = 0 /\ E = i + 1 /\ D = i /\ (at0 l i).toNat = 45) \/
 (lab = 1 /\ ∃ o, D = i + o /\ D <= E /\ E + cnt jA9 (l.drop E) = D + cnt jA9 (l.drop D) /\ jAL (l.drop i) = num (l.drop i) o (cnt jA9 (l.drop D))) \/
 (lab = 2 /\ jAL (l.drop i) = (K, E + cnt jBQ (l.drop E) - i)) \/
 (lab = 3 /\ E = i + 1 /\ jAL (l.drop i) = one (at0 l i)) \/
 (lab = 4 /\ jAL (l.drop i) = (0, 0))
section
variable {l : List UInt8} {i : Nat} {K : Int} {E D : Nat}
theorem RdR.of0 (h : RdR l i 0 K E D) : E = i + 1 /\ D = i /\ (at0 l i).toNat = 45 := by
 rcases h with ⟨_, h⟩ | ⟨h, _⟩ | ⟨h, _⟩ | ⟨h, _⟩ | ⟨h, _⟩
 . exact h
 all_goals omega
theorem RdR.of1 (h : RdR l i 1 K E D) : ∃ o, D = i + o /\ D <= E /\ E + cnt jA9 (l.drop E) = D + cnt jA9 (l.drop D) /\ jAL (l.drop i) = num (l.drop i) o (cnt jA9 (l.drop D)) := by
 rcases h with ⟨h, _⟩ | ⟨_, h⟩ | ⟨h, _⟩ | ⟨h, _⟩ | ⟨h, _⟩
 . omega
 . exact h
 all_goals omega
theorem RdR.of2 (h : RdR l i 2 K E D) : jAL (l.drop i) = (K, E + cnt jBQ (l.drop E) - i) := by
 rcases h with ⟨h, _⟩ | ⟨h, _⟩ | ⟨_, h⟩ | ⟨h, _⟩ | ⟨h, _⟩
 . omega
 . omega
 . exact h
 all_goals omega
theorem RdR.of3 (h : RdR l i 3 K E D) : E = i + 1 /\ jAL (l.drop i) = one (at0 l i) := by
 rcases h with ⟨h, _⟩ | ⟨h, _⟩ | ⟨h, _⟩ | ⟨_, h⟩ | ⟨h, _⟩
 . omega
 . omega
 . omega
 . exact h
 . omega
theorem RdR.of4 (h : RdR l i 4 K E D) : jAL (l.drop i) = (0, 0) := by
 rcases h with ⟨h, _⟩ | ⟨h, _⟩ | ⟨h, _⟩ | ⟨h, _⟩ | ⟨_, h⟩
 . omega
 . omega
 . omega
 . omega
 . exact h
theorem RdR.lab_le {lab : Nat} (h : RdR l i lab K E D) : lab = 0 \/ lab = 1 \/ lab = 2 \/ lab = 3 \/ lab = 4 := by
 rcases h with ⟨h, _⟩ | ⟨h, _⟩ | ⟨h, _⟩ | ⟨h, _⟩ | ⟨h, _⟩ <;> omega
theorem jE5 (l : List UInt8) (i : Nat) : jAL (l.drop i) =
 if (at0 l i).toNat = 45 then
  if (at0 l (i + 1)).toNat = 62 then (5, 2) else if jA9 (at0 l (i + 1)) then num (l.drop i) 1 (cnt jA9 (l.drop (i + 1))) else one (at0 l i)
 else if jA9 (at0 l i) then num (l.drop i) 0 (cnt jA9 (l.drop i))
 else if jCF (at0 l i) then (3, cnt jBQ (l.drop (i + 1)) + 1)
 else if jCS (at0 l i) then (4, cnt jBQ (l.drop (i + 1)) + 1)
 else one (at0 l i) := by
 unfold jAL; simp only [at0_drop, Nat.add_zero, List.drop_drop]
theorem rd_minus (h : (at0 l i).toNat = 45) : RdR l i 0 K (i + 1) i := .inl ⟨rfl, rfl, rfl, h⟩
theorem rd_digit (h : (at0 l i).toNat ≠ 45) (hd : jA9 (at0 l i) = true) : RdR l i 1 K (i + 1) i :=
 .inr (.inl ⟨rfl, 0, rfl, by omega, by have := (jGP jA9 l i jMZ hd).2; omega, by rw [jE5, if_neg h, if_pos hd]⟩)
theorem rd_small (h : (at0 l i).toNat ≠ 45) (hd : jA9 (at0 l i) = false) (hs : jCF (at0 l i) = true) : RdR l i 2 3 (i + 1) D :=
 .inr (.inr (.inl ⟨rfl, by rw [jE5, if_neg h, if_neg (by simp [hd]), if_pos hs]; congr 1; omega⟩))
theorem rd_great (h : (at0 l i).toNat ≠ 45) (hd : jA9 (at0 l i) = false) (hs : jCF (at0 l i) = false) (hg : jCS (at0 l i) = true) : RdR l i 2 4 (i + 1) D :=
 .inr (.inr (.inl ⟨rfl, by rw [jE5, if_neg h, if_neg (by simp [hd]), if_neg (by simp [hs]), if_pos hg]; congr 1; omega⟩))
theorem rd_other (h : (at0 l i).toNat ≠ 45) (hd : jA9 (at0 l i) = false) (hs : jCF (at0 l i) = false) (hg : jCS (at0 l i) = false) : RdR l i 3 K (i + 1) D :=
 .inr (.inr (.inr (.inl ⟨rfl, rfl, by rw [jE5, if_neg h, if_neg (by simp [hd]), if_neg (by simp [hs]), if_neg (by simp [hg])]⟩)))
theorem rd_arrow (h : (at0 l i).toNat = 45) (h1 : (at0 l (i + 1)).toNat = 62) : jAL (l.drop i) = (5, 2) /\ i + 2 <= l.length := by
 refine ⟨by rw [jE5, if_pos h, if_pos h1], ?_⟩
 rcases Nat.lt_or_ge (i + 1) l.length with h' | h'
 . omega
 . rw [jGQ l (i + 1) h'] at h1; exact absurd h1 (by decide)
theorem rd_neg (h : (at0 l i).toNat = 45) (h1 : (at0 l (i + 1)).toNat ≠ 62) (hd : jA9 (at0 l (i + 1)) = true) : RdR l i 1 K (i + 1) (i + 1) :=
 .inr (.inl ⟨rfl, 1, rfl, by omega, rfl, by rw [jE5, if_pos h, if_neg h1, if_pos hd]⟩)
theorem rd_lone (h : (at0 l i).toNat = 45) (h1 : (at0 l (i + 1)).toNat ≠ 62) (hd : jA9 (at0 l (i + 1)) = false) : RdR l i 3 K (i + 1) D :=
 .inr (.inr (.inr (.inl ⟨rfl, rfl, by rw [jE5, if_pos h, if_neg h1, if_neg (by simp [hd])]⟩)))
theorem jOG (hE : E = i + 1) (h : (at0 l i).toNat = 45) (h1 : (at0 l E).toNat = 62) : jAL (l.drop i) = (5, 2) /\ E + 1 <= l.length := by
 subst hE; exact rd_arrow h h1
theorem rd_neg' (hE : E = i + 1) (h : (at0 l i).toNat = 45) (h1 : (at0 l E).toNat ≠ 62) (hd : jA9 (at0 l E) = true) : RdR l i 1 K E E := by
 subst hE; exact rd_neg h h1 hd
theorem rd_lone' (hE : E = i + 1) (h : (at0 l i).toNat = 45) (h1 : (at0 l E).toNat ≠ 62) (hd : jA9 (at0 l E) = false) : RdR l i 3 K E D := by
 subst hE; exact rd_lone h h1 hd
theorem jNH (h : RdR l i 1 K E D) (hd : jA9 (at0 l E) = true) : E < l.length /\ RdR l i 1 K (E + 1) D := by
 obtain ⟨o, h1, h2, h3, h4⟩ := h.of1; obtain ⟨hk, hs⟩ := jGP jA9 l E jMZ hd; exact ⟨hk, .inr (.inl ⟨rfl, o, h1, by omega, by omega, h4⟩)⟩
theorem jOF (h : RdR l i 1 K E D) : D <= E /\ i <= D := by
 obtain ⟨o, h1, h2, h3, h4⟩ := h.of1; omega
theorem jK5 (h : RdR l i 1 K E D) (hd : jA9 (at0 l E) = false) : jAL (l.drop i) = if 18 < E - D || jBQ (at0 l E) then (0, 0) else (2, E - i) := by
 obtain ⟨o, h1, h2, h3, h4⟩ := h.of1; have hs := jM2 jA9 l E hd; rw [hs] at h3; have e1 : cnt jA9 (l.drop D) = E - D := by omega
 have e2 : i + (o + (E - D)) = E := by omega
 have e3 : o + (E - D) = E - i := by omega
 rw [h4, e1, num, at0_drop, e2, e3]
theorem rd_long (h : RdR l i 1 K E D) (hd : jA9 (at0 l E) = false) (hl : 18 < E - D) : RdR l i 4 K E D :=
 .inr (.inr (.inr (.inr ⟨rfl, by rw [jK5 h hd, if_pos (by simp [hl])]⟩)))
theorem rd_tied (h : RdR l i 1 K E D) (hd : jA9 (at0 l E) = false) (hw : jBQ (at0 l E) = true) : RdR l i 4 K E D :=
 .inr (.inr (.inr (.inr ⟨rfl, by rw [jK5 h hd, if_pos (by simp [hw])]⟩)))
theorem rd_num (h : RdR l i 1 K E D) (hd : jA9 (at0 l E) = false) (hl : ¬ 18 < E - D) (hw : jBQ (at0 l E) = false) : jAL (l.drop i) = (2, E - i) := by
 rw [jK5 h hd, if_neg (by simp [hl, hw])]
theorem jOE (h : RdR l i 2 K E D) (hw : jBQ (at0 l E) = true) : E < l.length /\ RdR l i 2 K (E + 1) D := by
 obtain ⟨hk, hs⟩ := jGP jBQ l E word0 hw; exact ⟨hk, .inr (.inr (.inl ⟨rfl, by rw [h.of2, hs]; congr 1; omega⟩))⟩
theorem rd_word (h : RdR l i 2 K E D) (hw : jBQ (at0 l E) = false) : jAL (l.drop i) = (K, E - i) := by
 rw [h.of2, jM2 jBQ l E hw]; rfl
theorem rd_none (h : RdR l i 3 K E D) (hs : single (at0 l i) < 0) : RdR l i 4 (single (at0 l i)) E D :=
 .inr (.inr (.inr (.inr ⟨rfl, by rw [h.of3.2, one, if_pos hs]⟩)))
theorem rd_one (h : RdR l i 3 K E D) (hs : ¬ single (at0 l i) < 0) : jAL (l.drop i) = (single (at0 l i), 1) := by
 rw [h.of3.2, one, if_neg hs]
end
end Lx
namespace Lx
structure Tok where
 kind : Int
 pos : Nat
 text : List UInt8
 int : Int
def natV : List UInt8 -> Nat -> Nat
 | [], acc => acc
 | c :: r, acc => natV r (acc * 10 + (c.toNat - 48))
theorem jJF (c : UInt8) (r : List UInt8) (acc : Nat) : natV (c :: r) acc = natV r (acc * 10 + (c.toNat - 48)) := rfl
def numV (l : List UInt8) : Int := if (at0 l 0).toNat = 45 then -(natV (l.drop 1) 0 : Int) else natV l 0
def jD4 (p : Nat) (k : Int) (t : List UInt8) : Tok := ⟨k, p, t, if k = 2 then numV t else 0⟩
def toks : Nat -> Nat -> List UInt8 -> List Tok × Option Nat
 | 0, _, _ => ([], none)
 | f + 1, p, l =>
   let a := skipC false l
   if l.length <= a then ([], none) else
    let r := l.drop a
    let n := (jAL r).2
    if n = 0 then ([], some (p + a)) else
     let x := toks f (p + a + n) (r.drop n)
     (jD4 (p + a) (jAL r).1 (r.take n) :: x.1, x.2)
theorem jDN (p : UInt8 -> Bool) : ∀ (l : List UInt8), ∀ c ∈ l.take (cnt p l), p c = true
 | [], c, h => by simp at h
 | d :: r, c, h => by
   rw [cnt] at h; by_cases hd : p d
   . rw [if_pos hd, List.take_succ_cons] at h
     rcases List.mem_cons.1 h with rfl | h
     . exact hd
     . exact jDN p r c h
   . rw [if_neg hd] at h; simp at h
theorem jFG : ∀ (b : Bool) (l : List UInt8), skipC b l <= l.length
 | b, [] => by cases b <;> simp [skipC]
 | false, c :: r => by
   rw [skipC]; have h1 := jFG false r; have h2 := jFG true r
   split
   . simp; omega
   . split
     . simp; omega
     . simp
 | true, c :: r => by
   rw [skipC]; have h1 := jFG false r; have h2 := jFG true r
   split <;> simp <;> omega
inductive Way (l : List UInt8) : Int -> Nat -> Prop
 | arrow : (at0 l 0).toNat = 45 -> (at0 l 1).toNat = 62 -> Way l 5 2
 | neg : (at0 l 0).toNat = 45 -> jA9 (at0 l 1) = true -> cnt jA9 (l.drop 1) <= 18 -> jBQ (at0 l (1 + cnt jA9 (l.drop 1))) = false -> Way l 2 (1 + cnt jA9 (l.drop 1))
 | pos : jA9 (at0 l 0) = true -> cnt jA9 l <= 18 -> jBQ (at0 l (cnt jA9 l)) = false -> Way l 2 (cnt jA9 l)
 | name : jCF (at0 l 0) = true -> Way l 3 (cnt jBQ (l.drop 1) + 1)
 | con : jCS (at0 l 0) = true -> Way l 4 (cnt jBQ (l.drop 1) + 1)
 | one : ¬ single (at0 l 0) < 0 -> ((at0 l 0).toNat = 45 -> (at0 l 1).toNat ≠ 62 /\ jA9 (at0 l 1) = false) -> Way l (single (at0 l 0)) 1
 | none : Way l 0 0
theorem jDI (c : UInt8) : single c = 0 \/ single c = 1 \/ single c = 5 \/ single c = -1 := by
 unfold single; repeat' split
 all_goals simp
theorem way (l : List UInt8) : Way l (jAL l).1 (jAL l).2 := by
 unfold jAL; simp only []; by_cases h1 : (at0 l 0).toNat = 45
 . rw [if_pos h1]; by_cases h2 : (at0 l 1).toNat = 62
   . rw [if_pos h2]; exact .arrow h1 h2
   . rw [if_neg h2]; by_cases h3 : jA9 (at0 l 1) = true
     . rw [if_pos h3]; unfold num; by_cases h4 : (decide (18 < cnt jA9 (l.drop 1)) || jBQ (at0 l (1 + cnt jA9 (l.drop 1)))) = true
       . rw [if_pos h4]; exact .none
       . rw [if_neg h4]; simp only [Bool.or_eq_true, decide_eq_true_eq, not_or] at h4; exact .neg h1 h3 (by omega) (by simpa using h4.2)
     . rw [if_neg h3]; unfold one; by_cases h4 : single (at0 l 0) < 0
       . rw [if_pos h4]; exact .none
       . rw [if_neg h4]; exact .one h4 (fun _ => ⟨h2, by simpa using h3⟩)
 . rw [if_neg h1]; by_cases h2 : jA9 (at0 l 0) = true
   . rw [if_pos h2]; unfold num; by_cases h4 : (decide (18 < cnt jA9 l) || jBQ (at0 l (0 + cnt jA9 l))) = true
     . rw [if_pos h4]; exact .none
     . rw [if_neg h4]; simp only [Bool.or_eq_true, decide_eq_true_eq, not_or, Nat.zero_add] at h4; rw [Nat.zero_add]; exact .pos h2 (by omega) (by simpa using h4.2)
   . rw [if_neg h2]; by_cases h3 : jCF (at0 l 0) = true
     . rw [if_pos h3]; exact .name h3
     . rw [if_neg h3]; by_cases h4 : jCS (at0 l 0) = true
       . rw [if_pos h4]; exact .con h4
       . rw [if_neg h4]; unfold one; by_cases h5 : single (at0 l 0) < 0
         . rw [if_pos h5]; exact .none
         . rw [if_neg h5]; exact .one h5 (fun h => absurd h h1)
theorem jF2 (l : List UInt8) (k : Nat) (p : UInt8 -> Bool) (h0 : p 0 = false) (h : p (at0 l k) = true) : k < l.length := by
 rcases Nat.lt_or_ge k l.length with h' | h'
 . exact h'
 . rw [jGQ l k h', h0] at h; exact absurd h (by decide)
theorem jHV (l : List UInt8) : (jAL l).2 <= l.length := by
 have hw := way l
 revert hw
 generalize (jAL l).1 = k; generalize (jAL l).2 = n; intro hw; cases hw with
 | arrow h1 h2 => 
   have := jF2 l 1 (fun c => c.toNat == 62) (by decide) (by simp [h2]); omega
 | neg h1 h2 h3 h4 => 
   have := jF2 l 1 jA9 (by decide) h2; have := jFW jA9 (l.drop 1); rw [List.length_drop] at this; omega
 | pos h1 h2 h3 => exact jFW _ _
 | name h => 
   have := jF2 l 0 jCF (by decide) h; have := jFW jBQ (l.drop 1); rw [List.length_drop] at this; omega
 | con h => 
   have := jF2 l 0 jCS (by decide) h; have := jFW jBQ (l.drop 1); rw [List.length_drop] at this; omega
 | one h _ => 
   have := jF2 l 0 (fun c => decide (¬ single c < 0)) (by decide) (by simpa using h); omega
 | none => omega
theorem jIG (c : UInt8) (h : jA9 c = true) : 48 <= c.toNat /\ c.toNat <= 57 := by simpa [jA9] using h
theorem jG9 (l : List UInt8) : ∀ (acc b : Nat), (∀ c ∈ l, jA9 c = true) -> acc < b -> natV l acc < b * 10 ^ l.length := by
 induction l with
 | nil => intro acc b _ h; rw [List.length_nil, Nat.pow_zero, Nat.mul_one]; exact h
 | cons c r ih =>
   intro acc b hd h; have hc := jIG c (hd c (by simp)); have := ih (acc * 10 + (c.toNat - 48)) (b * 10) (fun d h => hd d (by simp [h])) (by omega); rw [jJF, List.length_cons, Nat.pow_succ, Nat.mul_comm (10 ^ r.length), <- Nat.mul_assoc]; exact this
theorem parseM (l : List UInt8) : ∀ (acc : Nat), (∀ c ∈ l, jA9 c = true) -> acc < 1000000000000000000 -> (acc + 1) * 10 ^ l.length <= 1000000000000000000 -> Lib.parseUintM 18446744073709551615 acc l = .ok (natV l acc) := by
 induction l with
 | nil => intros; rfl
 | cons c r ih =>
   intro acc hd ha hb; have hc := jIG c (hd c (by simp)); have e : (acc + 1) * 10 ^ (r.length + 1) = ((acc + 1) * 10) * 10 ^ r.length := by rw [Nat.pow_succ, Nat.mul_comm (10 ^ r.length), <- Nat.mul_assoc]
   rw [List.length_cons, e] at hb; have hp : 0 < 10 ^ r.length := Nat.pow_pos (by omega); have h1 : (acc + 1) * 10 <= 1000000000000000000 := Nat.le_trans (Nat.le_mul_of_pos_right _ hp) hb; have h2 : (acc * 10 + (c.toNat - 48) + 1) * 10 ^ r.length <= ((acc + 1) * 10) * 10 ^ r.length := Nat.mul_le_mul_right _ (by omega); rw [Lib.parseUintM, if_pos (by omega), if_neg (by omega), if_neg (by omega), jJF]; exact ih _ (fun d h => hd d (by simp [h])) (by omega) (by omega)
theorem jNI (n : Nat) (h : n <= 18) : 10 ^ n <= 1000000000000000000 := Nat.le_trans (Nat.pow_le_pow_right (by omega) h) (Nat.le_refl (10 ^ 18))
theorem take_at0 (l : List UInt8) (n k : Nat) (h : k < n) : at0 (l.take n) k = at0 l k := by
 unfold at0; rw [List.getD_eq_getElem?_getD, List.getD_eq_getElem?_getD, List.getElem?_take_of_lt h]
theorem jOO (l : List UInt8) (h2 : (jAL l).1 = 2) : Lib.parseIntB 64 (l.take (jAL l).2) = .ok (numV (l.take (jAL l).2)) := by
 have hw := way l; have hle := jHV l
 revert hw hle
 generalize (jAL l).2 = n; rw [h2]; intro hw hle; generalize hk : (2 : Int) = k at hw; cases hw with
 | arrow _ _ => omega
 | neg h1 hd hm hw => 
   obtain ⟨c, r, rfl⟩ : ∃ c r, l = c :: r := by
    cases l with
    | nil => exact absurd h1 (by decide)
    | cons c r => exact ⟨c, r, rfl⟩
   have hc : c.toNat = 45 := h1; have e1 : (c :: r).drop 1 = r := rfl; rw [e1] at hm hw hle ⊢; rw [Nat.add_comm, List.take_succ_cons]; have hds := jDN jA9 r; have hcl := jFW jA9 r
   have hn : 0 < cnt jA9 r := by
    have h := jGP jA9 (c :: r) 1 jMZ hd; rw [e1] at h; omega
   have hne : r.take (cnt jA9 r) ≠ [] := by intro h; have := congrArg List.length h; rw [List.length_take, List.length_nil] at this; omega
   have hlen : (r.take (cnt jA9 r)).length <= 18 := by rw [List.length_take]; omega
   generalize r.take (cnt jA9 r) = t at *; have hp := parseM t 0 hds (by omega) (by rw [Nat.zero_add, Nat.one_mul]; exact jNI _ hlen); have hb := jG9 t 0 1 hds (by omega); have hb' : natV t 0 < 1000000000000000000 := Nat.lt_of_lt_of_le hb (by rw [Nat.one_mul]; exact jNI _ hlen); have e2 : numV (c :: t) = -(natV t 0 : Int) := by unfold numV; rw [if_pos (by simpa [at0] using hc)]; rfl
   rw [e2]; unfold Lib.parseIntB; simp only [hc, or_true, if_true, Lib.parseUintB, if_neg hne, hp]
   simp
   omega
 | pos hd hm hw => 
   obtain ⟨c, r, rfl⟩ : ∃ c r, l = c :: r := by
    cases l with
    | nil => exact absurd hd (by decide)
    | cons c r => exact ⟨c, r, rfl⟩
   have hc : jA9 c = true := hd; have hds := jDN jA9 (c :: r); have hcl := jFW jA9 (c :: r); have hn : cnt jA9 (c :: r) = cnt jA9 r + 1 := by rw [cnt, if_pos hc]
   rw [hn] at hds hcl hm hw ⊢; rw [List.take_succ_cons] at hds ⊢; have hlen : (c :: r.take (cnt jA9 r)).length <= 18 := by simp at hcl ⊢; omega
   generalize r.take (cnt jA9 r) = t at *; have hp := parseM (c :: t) 0 hds (by omega) (by rw [Nat.zero_add, Nat.one_mul]; exact jNI _ hlen); have hb := jG9 (c :: t) 0 1 hds (by omega); have hb' : natV (c :: t) 0 < 1000000000000000000 := Nat.lt_of_lt_of_le hb (by rw [Nat.one_mul]; exact jNI _ hlen); simp [jA9] at hc; have e2 : numV (c :: t) = (natV (c :: t) 0 : Int) := by unfold numV; rw [if_neg (by simp [at0]; omega)]
   rw [e2]; unfold Lib.parseIntB; have h45 : ¬ c.toNat = 45 := by omega
   have h43 : ¬ c.toNat = 43 := by omega
   simp only [h45, h43, or_self, if_false, Lib.parseUintB, if_neg (List.cons_ne_nil c t), hp]
   simp
   omega
 | name _ => omega
 | con _ => omega
 | one _ _ => have := jDI (at0 l 0); omega
 | none => omega
end Lx
namespace Px
open Lx (Tok)
inductive Node where
 | mk (tok : Tok) (list : List Node) (takes : Nat)
def Node.tok : Node -> Tok | .mk t _ _ => t
def Node.list : Node -> List Node | .mk _ l _ => l
def Node.takes : Node -> Nat | .mk _ _ k => k
def Node.pos (n : Node) : Nat := n.tok.pos
def Node.text (n : Node) : List UInt8 := n.tok.text
abbrev R (α : Type) := Except Nat α
def jC7 (t : List UInt8) : Nat :=
 if t = [43] \/ t = [45] \/ t = [42] \/ t = [47] \/ t = [37] \/ t = [61] \/ t = [60] \/ t = [99, 112, 120] \/ t = [99, 97, 100, 100] \/ t = [99, 109, 117, 108] then 2
 else if t = [114, 101] \/ t = [105, 109] then 1 else 0
mutual
def node (stop : Nat) : Nat -> Nat -> List Tok -> R (Node × List Tok)
 | 0, _, _ => .error stop
 | _ + 1, _, [] => .error stop
 | f + 1, d, t :: ts =>
   if t.kind = 1 then .error t.pos
   else if t.kind = 0 then
    if d = 40 then .error t.pos else
     match rest stop f (d + 1) ts with
     | .error p => .error p
     | .ok (l, ts') => .ok (.mk t l 0, ts')
   else .ok (.mk t [] (jC7 t.text), ts)
def rest (stop : Nat) : Nat -> Nat -> List Tok -> R (List Node × List Tok)
 | 0, _, _ => .error stop
 | _ + 1, _, [] => .error stop
 | f + 1, d, t :: ts =>
   if t.kind = 1 then .ok ([], ts) else
    match node stop f d (t :: ts) with
    | .error p => .error p
    | .ok (n, ts') =>
      match rest stop f d ts' with
      | .error p => .error p
      | .ok (l, ts'') => .ok (n :: l, ts'')
end
def jAS (n : Node) : Bool :=
 !(n.text == [100, 97, 116, 97] || n.text == [100, 101, 102] || n.text == [102, 110] || n.text == [108, 101, 116] || n.text == [99, 97, 115, 101]) && n.tok.kind == 3 && n.takes == 0
def jAJ (n : Node) : Bool := n.tok.kind == 0
def jAZ (n : Node) : Bool := n.tok.kind == 4
def jBB (n : Node) : Bool := n.tok.kind == 2
def word (n : Node) : List UInt8 :=
 match n.list with
 | [] => []
 | m :: _ => if jAJ m then [] else m.text
def hold (n : Node) (least most : Nat) : R Unit :=
 if n.list.length < least then .error n.pos else
  match n.list[most]? with
  | some m => .error m.pos
  | none => .ok ()
def nodes (n : Node) (least most : Nat) : R (List Node) :=
 if jAJ n then
  match hold n least most with
  | .error p => .error p
  | .ok _ => .ok n.list
 else .error n.pos
def each {α : Type} (f : Node -> R α) : List Node -> R (List α)
 | [] => .ok []
 | n :: r =>
   match f n with
   | .error p => .error p
   | .ok x =>
     match each f r with
     | .error p => .error p
     | .ok xs => .ok (x :: xs)
def name (n : Node) : R (List UInt8) := if jAS n then .ok n.text else .error n.pos
def jAT (n : Node) : R (List UInt8) := if jAZ n then .ok n.text else .error n.pos
def names (n : Node) (least : Nat) : R (List (List UInt8)) :=
 match nodes n least 8 with
 | .error p => .error p
 | .ok l => each name l
inductive TypeE where
 | mk (pos : Nat) (name : List UInt8) (args : List TypeE)
inductive Pat where
 | mk (kind : Nat) (pos : Nat) (name : List UInt8) (int : Int) (args : List Pat)
inductive Expr where
 | mk (kind : Nat) (pos : Nat) (name : List UInt8) (int : Int) (names : List (List UInt8)) (args : List Expr) (alts : List (Pat × Expr))
def jC : Nat -> Node -> R TypeE
 | 0, n => .error n.pos
 | f + 1, n =>
   if jAZ n || jAS n then .ok (.mk n.pos n.text [])
   else match nodes n 2 9 with
    | .error p => .error p
    | .ok l =>
      match (if word n = [45, 62] then (match hold n 3 3 with | .error p => .error p | .ok _ => .ok [45, 62]) else jAT (l.headD n)) with
      | .error p => .error p
      | .ok nm =>
        match each (jC f) l.tail with
        | .error p => .error p
        | .ok xs => .ok (.mk n.pos nm xs)
def pat : Nat -> Node -> R Pat
 | 0, n => .error n.pos
 | f + 1, n =>
   if jAJ n then
    match nodes n 2 9 with
    | .error p => .error p
    | .ok l =>
      match jAT (l.headD n) with
      | .error p => .error p
      | .ok nm =>
        match each (pat f) l.tail with
        | .error p => .error p
        | .ok xs => .ok (.mk 3 n.pos nm 0 xs)
   else if jBB n then .ok (.mk 2 n.pos [] n.tok.int [])
   else if jAZ n then .ok (.mk 3 n.pos n.text 0 [])
   else if jAS n then .ok (.mk 1 n.pos n.text 0 [])
   else if n.text = [95] then .ok (.mk 0 n.pos [] 0 [])
   else .error n.pos
def pair (ex : Node -> R Expr) (b : Node) : R (List UInt8 × Expr) :=
 match nodes b 2 2 with
 | .error p => .error p
 | .ok l =>
   match name (l.headD b) with
   | .error p => .error p
   | .ok s =>
     match ex (l.getD 1 b) with
     | .error p => .error p
     | .ok x => .ok (s, x)
def alt (f : Nat) (ex : Node -> R Expr) (b : Node) : R (Pat × Expr) :=
 match nodes b 2 2 with
 | .error p => .error p
 | .ok l =>
   match pat f (l.headD b) with
   | .error p => .error p
   | .ok s =>
     match ex (l.getD 1 b) with
     | .error p => .error p
     | .ok x => .ok (s, x)
def jCX (ex : Node -> R Expr) (n : Node) : R Expr :=
 match nodes n 3 3 with
 | .error p => .error p
 | .ok l =>
   match names (l.getD 1 n) 1 with
   | .error p => .error p
   | .ok ns =>
     match ex (l.getD 2 n) with
     | .error p => .error p
     | .ok x => .ok (.mk 3 n.pos [] 0 ns [x] [])
def jBY (ex : Node -> R Expr) (n : Node) : R Expr :=
 match nodes n 3 3 with
 | .error p => .error p
 | .ok l =>
   match nodes (l.getD 1 n) 1 8 with
   | .error p => .error p
   | .ok ps =>
     match each (pair ex) ps with
     | .error p => .error p
     | .ok bs =>
       match ex (l.getD 2 n) with
       | .error p => .error p
       | .ok x => .ok (.mk 4 n.pos [] 0 (bs.map (·.1)) (bs.map (·.2) ++ [x]) [])
def jBK (f : Nat) (ex : Node -> R Expr) (n : Node) : R Expr :=
 match nodes n 3 18 with
 | .error p => .error p
 | .ok l =>
   match ex (l.getD 1 n) with
   | .error p => .error p
   | .ok x =>
     match each (alt f ex) (l.drop 2) with
     | .error p => .error p
     | .ok bs => .ok (.mk 5 n.pos [] 0 [] [x] bs)
def jAW (ex : Node -> R Expr) (n : Node) : R Expr :=
 match nodes n 2 9 with
 | .error p => .error p
 | .ok l =>
   let first := l.headD n
   if 0 < first.takes then
    match hold n (1 + first.takes) (1 + first.takes) with
    | .error p => .error p
    | .ok _ =>
      match each ex l.tail with
      | .error p => .error p
      | .ok xs => .ok (.mk 7 n.pos first.text 0 [] xs [])
   else if jAZ first then
    match each ex l.tail with
    | .error p => .error p
    | .ok xs => .ok (.mk 2 n.pos first.text 0 [] xs [])
   else
    match each ex l with
    | .error p => .error p
    | .ok xs => .ok (.mk 6 n.pos [] 0 [] xs [])
def listExpr (f : Nat) (ex : Node -> R Expr) (n : Node) : R Expr :=
 if word n = [102, 110] then jCX ex n
 else if word n = [108, 101, 116] then jBY ex n
 else if word n = [99, 97, 115, 101] then jBK f ex n
 else jAW ex n
def expr : Nat -> Node -> R Expr
 | 0, n => .error n.pos
 | f + 1, n =>
   if jAJ n then listExpr f (expr f) n
   else if jBB n then .ok (.mk 0 n.pos [] n.tok.int [] [] [])
   else if jAZ n then .ok (.mk 2 n.pos n.text 0 [] [] [])
   else if jAS n then .ok (.mk 1 n.pos n.text 0 [] [] [])
   else .error n.pos
structure Con where
 pos : Nat
 name : List UInt8
 fields : List TypeE
structure Data where
 pos : Nat
 name : List UInt8
 params : List (List UInt8)
 cons : List Con
structure Def where
 pos : Nat
 name : List UInt8
 params : List (List UInt8)
 body : Expr
structure Prog where
 datas : List Data
 defs : List Def
def con (f : Nat) (n : Node) : R Con :=
 match nodes n 1 9 with
 | .error p => .error p
 | .ok l =>
   match jAT (l.headD n) with
   | .error p => .error p
   | .ok s =>
     match each (jC f) l.tail with
     | .error p => .error p
     | .ok ts => .ok ⟨n.pos, s, ts⟩
def data (f : Nat) (n : Node) : R Data :=
 match nodes n 4 103 with
 | .error p => .error p
 | .ok l =>
   match jAT (l.getD 1 n) with
   | .error p => .error p
   | .ok s =>
     match names (l.getD 2 n) 0 with
     | .error p => .error p
     | .ok ps =>
       match each (con f) (l.drop 3) with
       | .error p => .error p
       | .ok cs => .ok ⟨n.pos, s, ps, cs⟩
def defn (f : Nat) (n : Node) : R Def :=
 match nodes n 4 4 with
 | .error p => .error p
 | .ok l =>
   match name (l.getD 1 n) with
   | .error p => .error p
   | .ok s =>
     match names (l.getD 2 n) 0 with
     | .error p => .error p
     | .ok ps =>
       match expr f (l.getD 3 n) with
       | .error p => .error p
       | .ok x => .ok ⟨n.pos, s, ps, x⟩
def prog (stop : Nat) : Nat -> Nat -> List Tok -> R Prog
 | 0, _, _ => .ok ⟨[], []⟩
 | _ + 1, _, [] => .ok ⟨[], []⟩
 | f + 1, c, ts =>
   match node stop (2 * ts.length + 2) 0 ts with
   | .error p => .error p
   | .ok (n, ts') =>
     if c = 100 then .error n.pos
     else if word n = [100, 97, 116, 97] then
      match data 50 n with
      | .error p => .error p
      | .ok d => match prog stop f (c + 1) ts' with
        | .error p => .error p
        | .ok q => .ok ⟨d :: q.datas, q.defs⟩
     else if word n = [100, 101, 102] then
      match defn 50 n with
      | .error p => .error p
      | .ok d => match prog stop f (c + 1) ts' with
        | .error p => .error p
        | .ok q => .ok ⟨q.datas, d :: q.defs⟩
     else .error n.pos
def jCV (stop : Nat) (ts : List Tok) : R Expr :=
 match node stop (2 * ts.length + 2) 0 ts with
 | .error p => .error p
 | .ok (n, ts') =>
   match ts' with
   | t :: _ => .error t.pos
   | [] => expr 50 n
inductive Outcome (α : Type) where
 | lex (p : Nat)
 | parse (p : Nat)
 | done (x : α)
def parsed {α : Type} (read : Nat -> List Tok -> R α) (l : List UInt8) : Outcome α :=
 if 4096 < l.length then .lex 4096 else
  match Lx.toks (l.length + 1) 0 l with
  | (_, some q) => .lex q
  | (ts, none) =>
    match read l.length ts with
    | .error p => .parse p
    | .ok x => .done x
def program (l : List UInt8) : Outcome Prog := parsed (fun stop ts => prog stop (ts.length + 1) 0 ts) l
def jER (l : List UInt8) : Outcome Expr := parsed jCV l
def Fits : Nat -> Node -> Prop
 | 0, n => n.list = []
 | k + 1, n => ∀ m ∈ n.list, Fits k m
end Px
namespace Lx
theorem jFC (c : UInt8) (h : jA9 c = true) : jCT c = false /\ c.toNat ≠ 59 /\ c.toNat ≠ 45 /\ c.toNat ≠ 62 := by
 have h' := jIG c h; refine ⟨?_, by omega, by omega, by omega⟩; unfold jCT
 simp; omega
end Lx
namespace Lx
theorem jDD (f p : Nat) (l : List UInt8) : toks (f + 1) p l =
 if l.length <= skipC false l then ([], none) else
  if (jAL (l.drop (skipC false l))).2 = 0 then ([], some (p + skipC false l)) else
   (jD4 (p + skipC false l) (jAL (l.drop (skipC false l))).1 ((l.drop (skipC false l)).take (jAL (l.drop (skipC false l))).2) ::
     (toks f (p + skipC false l + (jAL (l.drop (skipC false l))).2) ((l.drop (skipC false l)).drop (jAL (l.drop (skipC false l))).2)).1,
    (toks f (p + skipC false l + (jAL (l.drop (skipC false l))).2) ((l.drop (skipC false l)).drop (jAL (l.drop (skipC false l))).2)).2) := rfl
def shift (d : Nat) (t : Tok) : Tok := { t with pos := t.pos + d }
theorem jMF (d : Nat) : ∀ (f p : Nat) (l : List UInt8), toks f (p + d) l = ((toks f p l).1.map (shift d), (toks f p l).2.map (· + d)) := by
 intro f
 induction f with
 | zero => intro p l; rfl
 | succ f ih =>
   intro p l; rw [jDD, jDD]; by_cases h1 : l.length <= skipC false l
   . rw [if_pos h1, if_pos h1]; rfl
   . rw [if_neg h1, if_neg h1]; by_cases h2 : (jAL (l.drop (skipC false l))).2 = 0
     . rw [if_pos h2, if_pos h2]; simp; omega
     . rw [if_neg h2, if_neg h2]; have e : p + d + skipC false l + (jAL (l.drop (skipC false l))).2 = p + skipC false l + (jAL (l.drop (skipC false l))).2 + d := by omega
       rw [e, ih]; have e2 : p + d + skipC false l = p + skipC false l + d := by omega
       rw [e2]; rfl
theorem cnt_cons (p : UInt8 -> Bool) (c : UInt8) (r : List UInt8) : cnt p (c :: r) = if p c then cnt p r + 1 else 0 := rfl
theorem jKQ : ∀ (f p : Nat) (l : List UInt8), (toks f p l).1.length <= l.length := by
 intro f
 induction f with
 | zero => intro p l; simp [toks]
 | succ f ih =>
   intro p l; rw [jDD]; by_cases h1 : l.length <= skipC false l
   . rw [if_pos h1]; simp
   . rw [if_neg h1]; by_cases h2 : (jAL (l.drop (skipC false l))).2 = 0
     . rw [if_pos h2]; simp
     . rw [if_neg h2]; have := ih (p + skipC false l + (jAL (l.drop (skipC false l))).2) ((l.drop (skipC false l)).drop (jAL (l.drop (skipC false l))).2); rw [List.length_drop, List.length_drop] at this; rw [List.length_cons]; omega
end Lx
namespace Lx
def tk (p : Nat) (l : List UInt8) : List Tok × Option Nat := toks (l.length + 1) p l
def Ends (r : List UInt8) : Prop := jBQ (at0 r 0) = false /\ (at0 r 0).toNat ≠ 62
structure IsTok (k : Int) (t : List UInt8) : Prop where
 ne : t ≠ []
 blank : jCT (at0 t 0) = false
 note : (at0 t 0).toNat ≠ 59
 is : ∀ r, Ends r -> jAL (t ++ r) = (k, t.length)
theorem jNR (p : UInt8 -> Bool) (t r : List UInt8) (h : ∀ c ∈ t, p c = true) (hr : p (at0 r 0) = false) : cnt p (t ++ r) = t.length := by
 induction t with
 | nil =>
   cases r with
   | nil => rfl
   | cons c r => 
     have : p c = false := hr; rw [List.nil_append, cnt_cons, if_neg (by simp [this])]; rfl
 | cons c t ih =>
   rw [List.cons_append, cnt_cons, if_pos (h c (by simp)), ih (fun d hd => h d (by simp [hd])), List.length_cons]
theorem jMD {c : UInt8} (h : jBQ c = false) : jA9 c = false := by
 unfold jBQ at h; simp only [Bool.or_eq_false_iff] at h; exact h.1.2
theorem jN (k : Nat) : ∀ u, u < 10 ^ (k + 1) -> (Lib.decDigits u).length <= k + 1 := by
 induction k with
 | zero => intro u h; rw [Lib.decDigits, dif_pos (by omega)]; simp
 | succ k ih =>
   intro u h; rw [Lib.decDigits]
   split
   . simp
   . rw [List.length_append, List.length_singleton]; have := ih (u / 10) (by rw [Nat.pow_succ] at h; omega); omega
theorem jMU (n : Int) : Lib.itoa n = if n < 0 then 45 :: Lib.decDigits n.natAbs else Lib.decDigits n.natAbs := by
 unfold Lib.itoa; by_cases h : n < 0
 . rw [if_pos h, if_pos h]
 . rw [if_neg h, if_neg h]; congr 1; omega
theorem jKE (c : UInt8) (hb : jCT c = false) (hs : c.toNat ≠ 59) (hd : jA9 c = false) (hsm : jCF c = false) (hg : jCS c = false) (h : ¬ single c < 0) : IsTok (single c) [c] := by
 refine ⟨by simp, hb, hs, fun r hr => ?_⟩; have e0 : at0 ([c] ++ r) 0 = c := rfl; have e1 : at0 ([c] ++ r) 1 = at0 r 0 := rfl; have ho : one c = (single c, 1) := by unfold one; rw [if_neg h]
 unfold jAL; simp only []; rw [e0, e1]; by_cases h45 : c.toNat = 45
 . rw [if_pos h45, if_neg hr.2, if_neg (by rw [jMD hr.1]; decide), ho]; rfl
 . rw [if_neg h45, if_neg (by simp [hd]), if_neg (by simp [hsm]), if_neg (by simp [hg]), ho]; rfl
theorem jLJ (c : UInt8) (t : List UInt8) (hc : jCF c = true) (h : ∀ d ∈ t, jBQ d = true) : IsTok 3 (c :: t) := by
 have hb : 97 <= c.toNat /\ c.toNat <= 122 := by simpa [jCF] using hc
 refine ⟨by simp, ?_, ?_, fun r hr => ?_⟩
 . show jCT c = false; unfold jCT; simp; omega
 . show c.toNat ≠ 59; omega
 . have e0 : at0 (c :: t ++ r) 0 = c := rfl; have ed : (c :: t ++ r).drop 1 = t ++ r := rfl; have hdg : jA9 c = false := by unfold jA9; simp; omega
   unfold jAL; simp only []; rw [e0, ed, if_neg (by omega), if_neg (by simp [hdg]), if_pos hc, jNR jBQ t r h hr.1]; rfl
theorem jLK (c : UInt8) (t : List UInt8) (hc : jCS c = true) (h : ∀ d ∈ t, jBQ d = true) : IsTok 4 (c :: t) := by
 have hb : 65 <= c.toNat /\ c.toNat <= 90 := by simpa [jCS] using hc
 refine ⟨by simp, ?_, ?_, fun r hr => ?_⟩
 . show jCT c = false; unfold jCT; simp; omega
 . show c.toNat ≠ 59; omega
 . have e0 : at0 (c :: t ++ r) 0 = c := rfl; have ed : (c :: t ++ r).drop 1 = t ++ r := rfl; have hdg : jA9 c = false := by unfold jA9; simp; omega
   have hsm : jCF c = false := by unfold jCF; simp; omega
   unfold jAL; simp only []; rw [e0, ed, if_neg (by omega), if_neg (by simp [hdg]), if_neg (by simp [hsm]), if_pos hc, jNR jBQ t r h hr.1]; rfl
end Lx
namespace Px
open Lx (Tok)
def Plain (s : List UInt8) : Prop :=
 jC7 s = 0 /\ s ≠ [100, 97, 116, 97] /\ s ≠ [100, 101, 102] /\ s ≠ [102, 110] /\ s ≠ [108, 101, 116] /\ s ≠ [99, 97, 115, 101] /\ s ≠ [45, 62] /\ s ≠ [95]
structure TSim (ρ : Nat -> Nat -> Prop) (t u : Tok) : Prop where
 kind : u.kind = t.kind
 pos : ρ t.pos u.pos
 int : u.int = t.int
 num : t.kind = 2 -> Plain t.text /\ Plain u.text
 text : t.kind ≠ 2 -> u.text = t.text
inductive All2 {α β : Type} (S : α -> β -> Prop) : List α -> List β -> Prop
 | nil : All2 S [] []
 | cons {a : α} {b : β} {l : List α} {m : List β} : S a b -> All2 S l m -> All2 S (a :: l) (b :: m)
theorem All2.len {α β : Type} {S : α -> β -> Prop} : ∀ {l : List α} {m : List β}, All2 S l m -> m.length = l.length
 | _, _, .nil => rfl
 | _, _, .cons _ h => by rw [List.length_cons, List.length_cons, h.len]
theorem All2.mono {α β : Type} {S S' : α -> β -> Prop} (hs : ∀ a b, S a b -> S' a b) : ∀ {l : List α} {m : List β}, All2 S l m -> All2 S' l m
 | _, _, .nil => .nil
 | _, _, .cons h1 h => .cons (hs _ _ h1) (h.mono hs)
theorem All2.eq {α : Type} : ∀ {l m : List α}, All2 (fun a b => b = a) l m -> m = l
 | _, _, .nil => rfl
 | _, _, .cons h1 h => by rw [h1, h.eq]
theorem All2.refl {α : Type} {S : α -> α -> Prop} (h : ∀ a, S a a) : ∀ l : List α, All2 S l l
 | [] => .nil
 | a :: l => .cons (h a) (All2.refl h l)
theorem All2.map {α β γ δ : Type} {S : α -> β -> Prop} {S' : γ -> δ -> Prop} (f : α -> γ) (g : β -> δ) (hs : ∀ a b, S a b -> S' (f a) (g b)) : ∀ {l : List α} {m : List β}, All2 S l m -> All2 S' (l.map f) (m.map g)
 | _, _, .nil => .nil
 | _, _, .cons h1 h => .cons (hs _ _ h1) (h.map f g hs)
theorem All2.app {α β : Type} {S : α -> β -> Prop} : ∀ {l : List α} {m : List β} {l' : List α} {m' : List β}, All2 S l m -> All2 S l' m' -> All2 S (l ++ l') (m ++ m')
 | _, _, _, _, .nil, h => h
 | _, _, _, _, .cons h1 h, h' => .cons h1 (h.app h')
theorem All2.drop {α β : Type} {S : α -> β -> Prop} : ∀ (k : Nat) {l : List α} {m : List β}, All2 S l m -> All2 S (l.drop k) (m.drop k)
 | 0, _, _, h => h
 | _ + 1, _, _, .nil => .nil
 | k + 1, _, _, .cons _ h => All2.drop k h
theorem All2.tail {α β : Type} {S : α -> β -> Prop} {l : List α} {m : List β} (h : All2 S l m) : All2 S l.tail m.tail := by
 cases h with
 | nil => exact .nil
 | cons _ h => exact h
theorem All2.getD {α β : Type} {S : α -> β -> Prop} (a : α) (b : β) (hab : S a b) : ∀ (k : Nat) {l : List α} {m : List β}, All2 S l m -> S (l.getD k a) (m.getD k b)
 | _, _, _, .nil => by simpa using hab
 | 0, _, _, .cons h _ => by simpa using h
 | k + 1, _, _, .cons _ h => by simpa using All2.getD a b hab k h
theorem All2.headD {α β : Type} {S : α -> β -> Prop} {a : α} {b : β} (hab : S a b) {l : List α} {m : List β} (h : All2 S l m) : S (l.headD a) (m.headD b) := by
 cases h with
 | nil => exact hab
 | cons h _ => exact h
theorem All2.get {α β : Type} {S : α -> β -> Prop} : ∀ {l : List α} {m : List β}, All2 S l m -> ∀ k : Nat, (l[k]? = none /\ m[k]? = none) \/ ∃ a b, l[k]? = some a /\ m[k]? = some b /\ S a b
 | _, _, .nil, k => .inl ⟨by simp, by simp⟩
 | _, _, .cons h1 h, 0 => .inr ⟨_, _, rfl, rfl, h1⟩
 | _, _, .cons _ h, k + 1 => by simpa using h.get k
inductive Sim (ρ : Nat -> Nat -> Prop) : Node -> Node -> Prop
 | mk (t u : Tok) (l m : List Node) (k : Nat) : TSim ρ t u -> (t.kind = 2 -> k = 0) -> All2 (Sim ρ) l m -> Sim ρ (.mk t l k) (.mk u m k)
variable {ρ : Nat -> Nat -> Prop}
theorem Sim.tok {n m : Node} (h : Sim ρ n m) : TSim ρ n.tok m.tok := by cases h with | mk t u l m k h1 h2 h3 => exact h1
theorem Sim.takes {n m : Node} (h : Sim ρ n m) : m.takes = n.takes := by cases h with | mk t u l m k h1 h2 h3 => rfl
theorem Sim.num {n m : Node} (h : Sim ρ n m) (hk : n.tok.kind = 2) : n.takes = 0 := by cases h with | mk t u l m k h1 h2 h3 => exact h2 hk
theorem Sim.kids {n m : Node} (h : Sim ρ n m) : All2 (Sim ρ) n.list m.list := by cases h with | mk t u l m k h1 h2 h3 => exact h3
theorem Sim.pos {n m : Node} (h : Sim ρ n m) : ρ n.pos m.pos := h.tok.pos
theorem Sim.text {n m : Node} (h : Sim ρ n m) (hk : n.tok.kind ≠ 2) : m.text = n.text := h.tok.text hk
theorem Sim.isList {n m : Node} (h : Sim ρ n m) : jAJ m = jAJ n := by unfold jAJ; rw [h.tok.kind]
theorem Sim.jIE {n m : Node} (h : Sim ρ n m) : jAZ m = jAZ n := by unfold jAZ; rw [h.tok.kind]
theorem Sim.isInt {n m : Node} (h : Sim ρ n m) : jBB m = jBB n := by unfold jBB; rw [h.tok.kind]
theorem Sim.isName {n m : Node} (h : Sim ρ n m) : jAS m = jAS n := by
 unfold jAS; rw [h.tok.kind, h.takes]; by_cases hk : n.tok.kind = 2
 . rw [hk]; simp
 . rw [h.text hk]
theorem Sim.word {n m : Node} (h : Sim ρ n m) : word m = word n \/ Plain (word n) /\ Plain (word m) := by
 have hk := h.kids; unfold Px.word
 revert hk
 generalize n.list = l; generalize m.list = l'; intro hk; cases hk with
 | nil => exact .inl rfl
 | @cons a b l l' h1 h2 =>
   simp only []; rw [h1.isList]; by_cases hl : jAJ a = true
   . rw [if_pos hl, if_pos hl]; exact .inl rfl
   . rw [if_neg hl, if_neg hl]; by_cases h2 : a.tok.kind = 2
     . exact .inr (h1.tok.num h2)
     . exact .inl (h1.text h2)
theorem jHO {a b : List UInt8} (h : b = a \/ Plain a /\ Plain b) (s : List UInt8) (hs : ∀ x, Plain x -> x ≠ s) : (b = s) = (a = s) := by
 rcases h with rfl | ⟨h1, h2⟩
 . rfl
 . exact propext ⟨fun h => absurd h (hs _ h2), fun h => absurd h (hs _ h1)⟩
def RR {α β : Type} (ρ : Nat -> Nat -> Prop) (S : α -> β -> Prop) : R α -> R β -> Prop
 | .ok x, .ok y => S x y
 | .error p, .error q => ρ p q
 | _, _ => False
theorem jLO {n m : Node} (h : Sim ρ n m) (a b : Nat) : RR ρ (fun _ _ => True) (hold n a b) (hold m a b) := by
 unfold hold; rw [h.kids.len]; by_cases h1 : n.list.length < a
 . rw [if_pos h1, if_pos h1]; exact h.pos
 . rw [if_neg h1, if_neg h1]
   rcases h.kids.get b with ⟨e1, e2⟩ | ⟨x, y, e1, e2, e3⟩
   . rw [e1, e2]; trivial
   . rw [e1, e2]; exact e3.pos
theorem jD0 {n m : Node} (h : Sim ρ n m) (a b : Nat) : RR ρ (All2 (Sim ρ)) (nodes n a b) (nodes m a b) := by
 unfold nodes; rw [h.isList]; by_cases h1 : jAJ n = true
 . rw [if_pos h1, if_pos h1]; have hh := jLO h a b; cases e1 : hold n a b <;> cases e2 : hold m a b <;> rw [e1, e2] at hh <;> first | exact hh | exact hh.elim | exact h.kids
 . rw [if_neg h1, if_neg h1]; exact h.pos
theorem jEA {α β : Type} {S : α -> β -> Prop} {f : Node -> R α} {g : Node -> R β} (hf : ∀ a b, Sim ρ a b -> RR ρ S (f a) (g b)) : ∀ {l m : List Node}, All2 (Sim ρ) l m -> RR ρ (All2 S) (each f l) (each g m) := by
 intro l
 induction l with
 | nil => intro m h; cases h; exact .nil
 | cons a l ih =>
   intro m h; cases h with
   | @cons _ b _ m h1 h2 =>
     have hh := hf a b h1; have hi := ih h2; simp only [each]; cases e1 : f a <;> cases e2 : g b <;> rw [e1, e2] at hh <;> try exact hh.elim
     . exact hh
     . simp only []; cases e3 : each f l <;> cases e4 : each g m <;> rw [e3, e4] at hi <;> try exact hi.elim
       . exact hi
       . exact .cons hh hi
theorem jLG {n m : Node} (h : Sim ρ n m) : RR ρ (fun a b => b = a) (name n) (name m) := by
 unfold name; rw [h.isName]; by_cases h1 : jAS n = true
 . rw [if_pos h1, if_pos h1]; refine h.text ?_; unfold jAS at h1; simp only [Bool.and_eq_true, beq_iff_eq] at h1
   intro e; rw [e] at h1; exact absurd h1.1.2 (by decide)
 . rw [if_neg h1, if_neg h1]; exact h.pos
theorem jM {n m : Node} (h : Sim ρ n m) : RR ρ (fun a b => b = a) (jAT n) (jAT m) := by
 unfold jAT; rw [h.jIE]; by_cases h1 : jAZ n = true
 . rw [if_pos h1, if_pos h1]; refine h.text ?_; unfold jAZ at h1; simp only [beq_iff_eq] at h1
   intro e; rw [e] at h1; exact absurd h1 (by decide)
 . rw [if_neg h1, if_neg h1]; exact h.pos
theorem jOV {n m : Node} (h : Sim ρ n m) (a : Nat) : RR ρ (fun a b => b = a) (names n a) (names m a) := by
 unfold names; have hh := jD0 h a 8; cases e1 : nodes n a 8 <;> cases e2 : nodes m a 8 <;> rw [e1, e2] at hh <;> try exact hh.elim
 . exact hh
 . rename_i l l'; simp only []; have hn := jEA (S := fun a b => b = a) (fun a b h => jLG h) hh; cases e3 : each name l <;> cases e4 : each name l' <;> rw [e3, e4] at hn <;> try exact hn.elim
   . exact hn
   . exact hn.eq
inductive SimT (ρ : Nat -> Nat -> Prop) : TypeE -> TypeE -> Prop
 | mk (p q : Nat) (nm : List UInt8) (l m : List TypeE) : ρ p q -> All2 (SimT ρ) l m -> SimT ρ (.mk p nm l) (.mk q nm m)
inductive SimP (ρ : Nat -> Nat -> Prop) : Pat -> Pat -> Prop
 | mk (k p q : Nat) (nm : List UInt8) (i : Int) (l m : List Pat) : ρ p q -> All2 (SimP ρ) l m -> SimP ρ (.mk k p nm i l) (.mk k q nm i m)
inductive SimE (ρ : Nat -> Nat -> Prop) : Expr -> Expr -> Prop
 | mk (k p q : Nat) (nm : List UInt8) (i : Int) (ns : List (List UInt8)) (xs ys : List Expr) (al bl : List (Pat × Expr)) : ρ p q -> All2 (SimE ρ) xs ys ->
    All2 (SimP ρ) (al.map (·.1)) (bl.map (·.1)) -> All2 (SimE ρ) (al.map (·.2)) (bl.map (·.2)) -> SimE ρ (.mk k p nm i ns xs al) (.mk k q nm i ns ys bl)
theorem jNK {n : Node} (h : jBB n = false) : n.tok.kind ≠ 2 := by
 unfold jBB at h; simpa using h
theorem kind_con {n : Node} (h : jAZ n = true) : n.tok.kind ≠ 2 := by
 unfold jAZ at h; simp only [beq_iff_eq] at h; intro e; rw [e] at h; exact absurd h (by decide)
theorem pat_sim : ∀ (f : Nat) {n m : Node}, Sim ρ n m -> RR ρ (SimP ρ) (pat f n) (pat f m) := by
 intro f
 induction f with
 | zero => intro n m h; exact h.pos
 | succ f ih =>
   intro n m h; rw [pat, pat, h.isList, h.isInt, h.jIE, h.isName, h.tok.int]; by_cases h1 : jAJ n = true
   . rw [if_pos h1, if_pos h1]; have hh := jD0 h 2 9; cases e1 : nodes n 2 9 <;> cases e2 : nodes m 2 9 <;> rw [e1, e2] at hh <;> try exact hh.elim
     . exact hh
     . rename_i l l'; simp only []; have key := jM (All2.headD h hh); cases eA : jAT (l.headD n) <;> cases eB : jAT (l'.headD m) <;> rw [eA, eB] at key <;> try exact key.elim
       . exact key
       . obtain rfl := key; simp only []; have hn := jEA (S := SimP ρ) (fun a b h => ih h) hh.tail; cases e3 : each (pat f) l.tail <;> cases e4 : each (pat f) l'.tail <;> rw [e3, e4] at hn <;> try exact hn.elim
         . exact hn
         . exact .mk _ _ _ _ _ _ _ h.pos hn
   . rw [if_neg h1, if_neg h1]; by_cases h2 : jBB n = true
     . rw [if_pos h2, if_pos h2]; exact .mk _ _ _ _ _ _ _ h.pos .nil
     . rw [if_neg h2, if_neg h2, h.text (jNK (by simpa using h2))]; by_cases h3 : jAZ n = true
       . rw [if_pos h3, if_pos h3]; exact .mk _ _ _ _ _ _ _ h.pos .nil
       . rw [if_neg h3, if_neg h3]; by_cases h4 : jAS n = true
         . rw [if_pos h4, if_pos h4]; exact .mk _ _ _ _ _ _ _ h.pos .nil
         . rw [if_neg h4, if_neg h4]; by_cases h5 : n.text = [95]
           . rw [if_pos h5, if_pos h5]; exact .mk _ _ _ _ _ _ _ h.pos .nil
           . rw [if_neg h5, if_neg h5]; exact h.pos
def PairS (ρ : Nat -> Nat -> Prop) (a b : List UInt8 × Expr) : Prop := b.1 = a.1 /\ SimE ρ a.2 b.2
def AltS (ρ : Nat -> Nat -> Prop) (a b : Pat × Expr) : Prop := SimP ρ a.1 b.1 /\ SimE ρ a.2 b.2
section
variable {ex : Node -> R Expr} (hex : ∀ a b, Sim ρ a b -> RR ρ (SimE ρ) (ex a) (ex b))
include hex
theorem pair_sim {n m : Node} (h : Sim ρ n m) : RR ρ (PairS ρ) (pair ex n) (pair ex m) := by
 unfold pair; have hh := jD0 h 2 2; cases e1 : nodes n 2 2 <;> cases e2 : nodes m 2 2 <;> rw [e1, e2] at hh <;> try exact hh.elim
 . exact hh
 . rename_i l l'; simp only []; have key := jLG (All2.headD h hh); cases eA : name (l.headD n) <;> cases eB : name (l'.headD m) <;> rw [eA, eB] at key <;> try exact key.elim
   . exact key
   . obtain rfl := key; simp only []; have k2 := hex _ _ (All2.getD n m h 1 hh); cases eC : ex (l.getD 1 n) <;> cases eD : ex (l'.getD 1 m) <;> rw [eC, eD] at k2 <;> try exact k2.elim
     . exact k2
     . exact ⟨rfl, k2⟩
theorem alt_sim (f : Nat) {n m : Node} (h : Sim ρ n m) : RR ρ (AltS ρ) (alt f ex n) (alt f ex m) := by
 unfold alt; have hh := jD0 h 2 2; cases e1 : nodes n 2 2 <;> cases e2 : nodes m 2 2 <;> rw [e1, e2] at hh <;> try exact hh.elim
 . exact hh
 . rename_i l l'; simp only []; have key := pat_sim f (All2.headD h hh); cases eA : pat f (l.headD n) <;> cases eB : pat f (l'.headD m) <;> rw [eA, eB] at key <;> try exact key.elim
   . exact key
   . simp only []; have k2 := hex _ _ (All2.getD n m h 1 hh); cases eC : ex (l.getD 1 n) <;> cases eD : ex (l'.getD 1 m) <;> rw [eC, eD] at k2 <;> try exact k2.elim
     . exact k2
     . exact ⟨key, k2⟩
theorem fn_sim {n m : Node} (h : Sim ρ n m) : RR ρ (SimE ρ) (jCX ex n) (jCX ex m) := by
 unfold jCX; have hh := jD0 h 3 3; cases e1 : nodes n 3 3 <;> cases e2 : nodes m 3 3 <;> rw [e1, e2] at hh <;> try exact hh.elim
 . exact hh
 . rename_i l l'; simp only []; have key := jOV (All2.getD n m h 1 hh) 1; cases eA : names (l.getD 1 n) 1 <;> cases eB : names (l'.getD 1 m) 1 <;> rw [eA, eB] at key <;> try exact key.elim
   . exact key
   . obtain rfl := key; simp only []; have k2 := hex _ _ (All2.getD n m h 2 hh); cases eC : ex (l.getD 2 n) <;> cases eD : ex (l'.getD 2 m) <;> rw [eC, eD] at k2 <;> try exact k2.elim
     . exact k2
     . exact .mk _ _ _ _ _ _ _ _ _ _ h.pos (.cons k2 .nil) .nil .nil
theorem let_sim {n m : Node} (h : Sim ρ n m) : RR ρ (SimE ρ) (jBY ex n) (jBY ex m) := by
 unfold jBY; have hh := jD0 h 3 3; cases e1 : nodes n 3 3 <;> cases e2 : nodes m 3 3 <;> rw [e1, e2] at hh <;> try exact hh.elim
 . exact hh
 . rename_i l l'; simp only []; have key := jD0 (All2.getD n m h 1 hh) 1 8; cases eA : nodes (l.getD 1 n) 1 8 <;> cases eB : nodes (l'.getD 1 m) 1 8 <;> rw [eA, eB] at key <;> try exact key.elim
   . exact key
   . rename_i ps ps'; simp only []; have hb := jEA (S := PairS ρ) (fun a b h => pair_sim hex h) key; cases eE : each (pair ex) ps <;> cases eF : each (pair ex) ps' <;> rw [eE, eF] at hb <;> try exact hb.elim
     . exact hb
     . rename_i bs bs'; simp only []; have k2 := hex _ _ (All2.getD n m h 2 hh); cases eC : ex (l.getD 2 n) <;> cases eD : ex (l'.getD 2 m) <;> rw [eC, eD] at k2 <;> try exact k2.elim
       . exact k2
       . have e : bs'.map (·.1) = bs.map (·.1) := (hb.map (S' := fun a b => b = a) (·.1) (·.1) (fun a b h => h.1)).eq; have e2 : All2 (SimE ρ) (bs.map (·.2)) (bs'.map (·.2)) := hb.map (·.2) (·.2) (fun a b h => h.2); have e3 : All2 (SimE ρ) [_] [_] := .cons k2 .nil; simp only [RR]; rw [e]; exact .mk _ _ _ _ _ _ _ _ _ _ h.pos (e2.app e3) .nil .nil
theorem case_sim (f : Nat) {n m : Node} (h : Sim ρ n m) : RR ρ (SimE ρ) (jBK f ex n) (jBK f ex m) := by
 unfold jBK; have hh := jD0 h 3 18; cases e1 : nodes n 3 18 <;> cases e2 : nodes m 3 18 <;> rw [e1, e2] at hh <;> try exact hh.elim
 . exact hh
 . rename_i l l'; simp only []; have k2 := hex _ _ (All2.getD n m h 1 hh); cases eC : ex (l.getD 1 n) <;> cases eD : ex (l'.getD 1 m) <;> rw [eC, eD] at k2 <;> try exact k2.elim
   . exact k2
   . simp only []; have hb := jEA (S := AltS ρ) (fun a b h => alt_sim hex f h) (hh.drop 2); cases eE : each (alt f ex) (l.drop 2) <;> cases eF : each (alt f ex) (l'.drop 2) <;> rw [eE, eF] at hb <;> try exact hb.elim
     . exact hb
     . exact .mk _ _ _ _ _ _ _ _ _ _ h.pos (.cons k2 .nil) (hb.map _ _ (fun a b h => h.1)) (hb.map _ _ (fun a b h => h.2))
theorem jOJ {n m : Node} (h : Sim ρ n m) : RR ρ (SimE ρ) (jAW ex n) (jAW ex m) := by
 unfold jAW; have hh := jD0 h 2 9; cases e1 : nodes n 2 9 <;> cases e2 : nodes m 2 9 <;> rw [e1, e2] at hh <;> try exact hh.elim
 . exact hh
 . rename_i l l'; have hf := All2.headD h hh; simp only []; generalize l.headD n = x at hf ⊢; generalize l'.headD m = y at hf ⊢; rw [hf.takes, hf.jIE]; by_cases h1 : 0 < x.takes
   . rw [if_pos h1, if_pos h1, hf.text (fun e => by have := hf.num e; omega)]; have h3 := jLO h (1 + x.takes) (1 + x.takes); cases e3 : hold n (1 + x.takes) (1 + x.takes) <;> cases e4 : hold m (1 + x.takes) (1 + x.takes) <;> rw [e3, e4] at h3 <;> try exact h3.elim
     . exact h3
     . simp only []; have hb := jEA (S := SimE ρ) hex hh.tail; cases eE : each ex l.tail <;> cases eF : each ex l'.tail <;> rw [eE, eF] at hb <;> try exact hb.elim
       . exact hb
       . exact .mk _ _ _ _ _ _ _ _ _ _ h.pos hb .nil .nil
   . rw [if_neg h1, if_neg h1]; by_cases h2 : jAZ x = true
     . rw [if_pos h2, if_pos h2, hf.text (kind_con h2)]; have hb := jEA (S := SimE ρ) hex hh.tail; cases eE : each ex l.tail <;> cases eF : each ex l'.tail <;> rw [eE, eF] at hb <;> try exact hb.elim
       . exact hb
       . exact .mk _ _ _ _ _ _ _ _ _ _ h.pos hb .nil .nil
     . rw [if_neg h2, if_neg h2]; have hb := jEA (S := SimE ρ) hex hh; cases eE : each ex l <;> cases eF : each ex l' <;> rw [eE, eF] at hb <;> try exact hb.elim
       . exact hb
       . exact .mk _ _ _ _ _ _ _ _ _ _ h.pos hb .nil .nil
theorem list_sim (f : Nat) {n m : Node} (h : Sim ρ n m) : RR ρ (SimE ρ) (listExpr f ex n) (listExpr f ex m) := by
 unfold listExpr; have w1 : (word m = [102, 110]) = (word n = [102, 110]) := jHO h.word _ (fun x hx => hx.2.2.2.1); have w2 : (word m = [108, 101, 116]) = (word n = [108, 101, 116]) := jHO h.word _ (fun x hx => hx.2.2.2.2.1); have w3 : (word m = [99, 97, 115, 101]) = (word n = [99, 97, 115, 101]) := jHO h.word _ (fun x hx => hx.2.2.2.2.2.1); simp only [w1, w2, w3]; by_cases h1 : word n = [102, 110]
 . rw [if_pos h1, if_pos h1]; exact fn_sim hex h
 . rw [if_neg h1, if_neg h1]; by_cases h2 : word n = [108, 101, 116]
   . rw [if_pos h2, if_pos h2]; exact let_sim hex h
   . rw [if_neg h2, if_neg h2]; by_cases h3 : word n = [99, 97, 115, 101]
     . rw [if_pos h3, if_pos h3]; exact case_sim hex f h
     . rw [if_neg h3, if_neg h3]; exact jOJ hex h
end
theorem expr_sim : ∀ (f : Nat) (n m : Node), Sim ρ n m -> RR ρ (SimE ρ) (expr f n) (expr f m) := by
 intro f
 induction f with
 | zero => intro n m h; exact h.pos
 | succ f ih =>
   intro n m h; rw [expr, expr, h.isList, h.isInt, h.jIE, h.isName, h.tok.int]; by_cases h1 : jAJ n = true
   . rw [if_pos h1, if_pos h1]; exact list_sim ih f h
   . rw [if_neg h1, if_neg h1]; by_cases h2 : jBB n = true
     . rw [if_pos h2, if_pos h2]; exact .mk _ _ _ _ _ _ _ _ _ _ h.pos .nil .nil .nil
     . rw [if_neg h2, if_neg h2, h.text (jNK (by simpa using h2))]; by_cases h3 : jAZ n = true
       . rw [if_pos h3, if_pos h3]; exact .mk _ _ _ _ _ _ _ _ _ _ h.pos .nil .nil .nil
       . rw [if_neg h3, if_neg h3]; by_cases h4 : jAS n = true
         . rw [if_pos h4, if_pos h4]; exact .mk _ _ _ _ _ _ _ _ _ _ h.pos .nil .nil .nil
         . rw [if_neg h4, if_neg h4]; exact h.pos
structure SimCon (ρ : Nat -> Nat -> Prop) (a b : Con) : Prop where
 pos : ρ a.pos b.pos
 name : b.name = a.name
 fields : All2 (SimT ρ) a.fields b.fields
structure SimData (ρ : Nat -> Nat -> Prop) (a b : Data) : Prop where
 pos : ρ a.pos b.pos
 name : b.name = a.name
 params : b.params = a.params
 cons : All2 (SimCon ρ) a.cons b.cons
structure SimDef (ρ : Nat -> Nat -> Prop) (a b : Def) : Prop where
 pos : ρ a.pos b.pos
 name : b.name = a.name
 params : b.params = a.params
 body : SimE ρ a.body b.body
structure SimProg (ρ : Nat -> Nat -> Prop) (a b : Prog) : Prop where
 datas : All2 (SimData ρ) a.datas b.datas
 defs : All2 (SimDef ρ) a.defs b.defs
def NodeS (ρ : Nat -> Nat -> Prop) (a b : Node × List Tok) : Prop := Sim ρ a.1 b.1 /\ All2 (TSim ρ) a.2 b.2
def RestS (ρ : Nat -> Nat -> Prop) (a b : List Node × List Tok) : Prop := All2 (Sim ρ) a.1 b.1 /\ All2 (TSim ρ) a.2 b.2
theorem jO4 {t u : Tok} (h : TSim ρ t u) : jC7 u.text = jC7 t.text /\ (t.kind = 2 -> jC7 t.text = 0) := by
 by_cases hk : t.kind = 2
 . obtain ⟨h1, h2⟩ := h.num hk; exact ⟨by rw [h1.1, h2.1], fun _ => h1.1⟩
 . exact ⟨by rw [h.text hk], fun e => absurd e hk⟩
theorem jIY (stop stop' : Nat) (hs : ρ stop stop') : ∀ (f d : Nat) (ts us : List Tok), All2 (TSim ρ) ts us ->
 RR ρ (NodeS ρ) (node stop f d ts) (node stop' f d us) /\ RR ρ (RestS ρ) (rest stop f d ts) (rest stop' f d us) := by
 intro f
 induction f with
 | zero => intro d ts us h; exact ⟨hs, hs⟩
 | succ f ih =>
   intro d ts us h; cases h with
   | nil => exact ⟨hs, hs⟩
   | @cons t u ts us h1 h2 =>
     constructor
     . rw [node, node, h1.kind]; by_cases k1 : t.kind = 1
       . rw [if_pos k1, if_pos k1]; exact h1.pos
       . rw [if_neg k1, if_neg k1]; by_cases k0 : t.kind = 0
         . rw [if_pos k0, if_pos k0]; by_cases hd : d = 40
           . rw [if_pos hd, if_pos hd]; exact h1.pos
           . rw [if_neg hd, if_neg hd]; have hr := (ih (d + 1) ts us h2).2; cases e1 : rest stop f (d + 1) ts <;> cases e2 : rest stop' f (d + 1) us <;> rw [e1, e2] at hr <;> try exact hr.elim
             . exact hr
             . exact ⟨.mk _ _ _ _ _ h1 (fun _ => rfl) hr.1, hr.2⟩
         . rw [if_neg k0, if_neg k0]; obtain ⟨t1, t2⟩ := jO4 h1; rw [t1]; exact ⟨.mk _ _ _ _ _ h1 t2 .nil, h2⟩
     . rw [rest, rest, h1.kind]; by_cases k1 : t.kind = 1
       . rw [if_pos k1, if_pos k1]; exact ⟨.nil, h2⟩
       . rw [if_neg k1, if_neg k1]; have hn := (ih d (t :: ts) (u :: us) (.cons h1 h2)).1; cases e1 : node stop f d (t :: ts) <;> cases e2 : node stop' f d (u :: us) <;> rw [e1, e2] at hn <;> try exact hn.elim
         . exact hn
         . rename_i x y; obtain ⟨n, ts'⟩ := x; obtain ⟨m, us'⟩ := y; simp only []; have hr := (ih d ts' us' hn.2).2; cases e3 : rest stop f d ts' <;> cases e4 : rest stop' f d us' <;> rw [e3, e4] at hr <;> try exact hr.elim
           . exact hr
           . exact ⟨.cons hn.1 hr.1, hr.2⟩
end Px
namespace Px
open Lx (Tok)
def opens : List Tok -> Nat
 | [] => 0
 | t :: ts => (if t.kind = 0 then 1 else 0) + opens ts
theorem jJD (stop stop' : Nat) : ∀ (f d : Nat) (ts : List Tok),
 (∀ n ts', node stop f d ts = .ok (n, ts') -> opens ts' <= opens ts /\ (n.list ≠ [] -> opens ts' < opens ts) /\ ts'.length < ts.length /\
   ∀ f' d' more, f <= f' -> (d' = d \/ d' + opens ts <= 40) -> node stop' f' d' (ts ++ more) = .ok (n, ts' ++ more)) /\
 (∀ l ts', rest stop f d ts = .ok (l, ts') -> opens ts' <= opens ts /\ ts'.length < ts.length /\
   ∀ f' d' more, f <= f' -> (d' = d \/ d' + opens ts <= 40) -> rest stop' f' d' (ts ++ more) = .ok (l, ts' ++ more)) := by
 intro f
 induction f with
 | zero => intro d ts; exact ⟨fun n ts' h => (by cases h), fun l ts' h => (by cases h)⟩
 | succ f ih =>
   intro d ts; cases ts with
   | nil => exact ⟨fun n ts' h => (by cases h), fun l ts' h => (by cases h)⟩
   | cons t ts =>
     constructor
     . intro n ts' h; rw [node] at h; by_cases k1 : t.kind = 1
       . rw [if_pos k1] at h; cases h
       . rw [if_neg k1] at h; by_cases k0 : t.kind = 0
         . rw [if_pos k0] at h; by_cases hd : d = 40
           . rw [if_pos hd] at h; cases h
           . rw [if_neg hd] at h; have hi := (ih (d + 1) ts).2; cases hr : rest stop f (d + 1) ts with
             | error p => rw [hr] at h; cases h
             | ok x =>
               obtain ⟨l, ts1⟩ := x; rw [hr] at h; simp only [Except.ok.injEq, Prod.mk.injEq] at h; obtain ⟨rfl, rfl⟩ := h; obtain ⟨h1, h2, h3⟩ := hi _ _ hr; have ho : opens (t :: ts) = opens ts + 1 := by rw [opens, if_pos k0]; omega
               refine ⟨by omega, fun _ => by omega, by rw [List.length_cons]; omega, fun f' d' more hf hdd => ?_⟩; obtain ⟨f', rfl⟩ : ∃ g, f' = g + 1 := ⟨f' - 1, by omega⟩
               rw [List.cons_append, node, if_neg k1, if_pos k0, if_neg (by omega), h3 f' (d' + 1) more (by omega) (by omega)]
         . rw [if_neg k0] at h; simp only [Except.ok.injEq, Prod.mk.injEq] at h; obtain ⟨rfl, rfl⟩ := h; have ho : opens (t :: ts) = opens ts := by rw [opens, if_neg k0]; omega
           refine ⟨by omega, fun e => absurd rfl e, by rw [List.length_cons]; omega, fun f' d' more hf hdd => ?_⟩; obtain ⟨f', rfl⟩ : ∃ g, f' = g + 1 := ⟨f' - 1, by omega⟩
           rw [List.cons_append, node, if_neg k1, if_neg k0]
     . intro l ts' h; rw [rest] at h; by_cases k1 : t.kind = 1
       . rw [if_pos k1] at h; simp only [Except.ok.injEq, Prod.mk.injEq] at h; obtain ⟨rfl, rfl⟩ := h; have ho : opens (t :: ts) = opens ts := by rw [opens, if_neg (by omega)]; omega
         refine ⟨by omega, by rw [List.length_cons]; omega, fun f' d' more hf hdd => ?_⟩; obtain ⟨f', rfl⟩ : ∃ g, f' = g + 1 := ⟨f' - 1, by omega⟩
         rw [List.cons_append, rest, if_pos k1]
       . rw [if_neg k1] at h; have hi := (ih d (t :: ts)).1; cases hn : node stop f d (t :: ts) with
         | error p => rw [hn] at h; cases h
         | ok x =>
           obtain ⟨n, ts1⟩ := x; rw [hn] at h; simp only at h; obtain ⟨h1, _, h2, h3⟩ := hi _ _ hn; have hj := (ih d ts1).2; cases hr : rest stop f d ts1 with
           | error p => rw [hr] at h; cases h
           | ok y =>
             obtain ⟨l', ts2⟩ := y; rw [hr] at h; simp only [Except.ok.injEq, Prod.mk.injEq] at h; obtain ⟨rfl, rfl⟩ := h; obtain ⟨g1, g2, g3⟩ := hj _ _ hr; refine ⟨by omega, by omega, fun f' d' more hf hdd => ?_⟩; obtain ⟨f', rfl⟩ : ∃ g, f' = g + 1 := ⟨f' - 1, by omega⟩
             have a1 := h3 f' d' more (by omega) hdd; have a2 := g3 f' d' more (by omega) (by omega); rw [List.cons_append] at a1 ⊢; rw [rest, if_neg k1, a1]; simp only [a2]
theorem jL7 (stop f c : Nat) : prog stop f c [] = .ok ⟨[], []⟩ := by cases f <;> rfl
theorem jJA (stop f c : Nat) (t : Tok) (ts : List Tok) : prog stop (f + 1) c (t :: ts) =
 match node stop (2 * (t :: ts).length + 2) 0 (t :: ts) with
 | .error p => .error p
 | .ok (n, ts') =>
   if c = 100 then .error n.pos
   else if word n = [100, 97, 116, 97] then
    match data 50 n with
    | .error p => .error p
    | .ok d => match prog stop f (c + 1) ts' with
      | .error p => .error p
      | .ok q => .ok ⟨d :: q.datas, q.defs⟩
   else if word n = [100, 101, 102] then
    match defn 50 n with
    | .error p => .error p
    | .ok d => match prog stop f (c + 1) ts' with
      | .error p => .error p
      | .ok q => .ok ⟨q.datas, d :: q.defs⟩
   else .error n.pos := by
 rw [prog]
 all_goals first | rfl | simp
def Prog.size (p : Prog) : Nat := p.datas.length + p.defs.length
def Prog.add (p q : Prog) : Prog := ⟨p.datas ++ q.datas, p.defs ++ q.defs⟩
end Px
namespace Px
open Lx (Tok tk jD4)
def Small (n : Int) : Prop := -1000000000000000000 < n /\ n < 1000000000000000000
theorem jJE (stop f d : Nat) (t : Tok) (ts : List Tok) (h1 : t.kind ≠ 1) (h0 : t.kind ≠ 0) : node stop (f + 1) d (t :: ts) = .ok (.mk t [] (jC7 t.text), ts) := by
 rw [node, if_neg h1, if_neg h0]
end Px
end Go.Proofs.YtnhndamfbeiljaaGreatDoor
