/-
  Several texts in one: Pure, ReadPure, Toks, PPure, NumPure, JoinPure, PTk.
-/
import Derived.Test.YtnhndamfbeiljaaGreatDoorT00
import GoSem.Core.Value
import Derived.Lib.ParseIntB
import Derived.Lib.ItoaNum
set_option linter.unusedVariables false
set_option linter.unusedSimpArgs false
set_option maxHeartbeats 4000000
set_option maxRecDepth 100000
namespace Go.Proofs.YtnhndamfbeiljaaGreatDoor
open Go.Lib (hid)
open List renaming getElem_toArray → jR, getElem_cons_succ → jR0, getElem_cons_zero → jR1, setIfInBounds_toArray → jR2, set_cons_zero → jR3, set_cons_succ → jR4
namespace Lx
def jCA (c : UInt8) : Bool := c.toNat == 32 || c.toNat == 10 || c.toNat == 9 || c.toNat == 13
def jA8 (c : UInt8) : Bool := 48 <= c.toNat && c.toNat <= 57
def jCH (c : UInt8) : Bool := 97 <= c.toNat && c.toNat <= 122
def jCV (c : UInt8) : Bool := 65 <= c.toNat && c.toNat <= 90
def jBT (c : UInt8) : Bool := jCH c || jCV c || jA8 c || c.toNat == 39
def at0 (l : List UInt8) (n : Nat) : UInt8 := l.getD n 0
def skipC : Bool -> List UInt8 -> Nat
 | _, [] => 0
 | false, c :: r => if jCA c then skipC false r + 1 else if c.toNat = 59 then skipC true r + 1 else 0
 | true, c :: r => if c.toNat = 10 then skipC false r + 1 else skipC true r + 1
def cnt (p : UInt8 -> Bool) : List UInt8 -> Nat
 | [] => 0
 | c :: r => if p c then cnt p r + 1 else 0
def single (c : UInt8) : Int :=
 if c.toNat = 40 then 0 else if c.toNat = 41 then 1 else
 if c.toNat = 95 \/ c.toNat = 43 \/ c.toNat = 45 \/ c.toNat = 42 \/ c.toNat = 47 \/ c.toNat = 37 \/ c.toNat = 61 \/ c.toNat = 60 then 5 else -1
def num (l : List UInt8) (o m : Nat) : Int × Nat := if 18 < m || jBT (at0 l (o + m)) then (0, 0) else (2, o + m)
def one (c : UInt8) : Int × Nat := if single c < 0 then (0, 0) else (single c, 1)
def jAK (l : List UInt8) : Int × Nat :=
 let c := at0 l 0
 if c.toNat = 45 then
  if (at0 l 1).toNat = 62 then (5, 2) else if jA8 (at0 l 1) then num l 1 (cnt jA8 (l.drop 1)) else one c
 else if jA8 c then num l 0 (cnt jA8 l)
 else if jCH c then (3, cnt jBT (l.drop 1) + 1)
 else if jCV c then (4, cnt jBT (l.drop 1) + 1)
 else one c
theorem drop_at (l : List UInt8) (k : Nat) (h : k < l.length) : l.drop k = at0 l k :: l.drop (k + 1) := by
 rw [List.drop_eq_getElem_cons h]; congr 1; simp [at0, List.getD_eq_getElem?_getD, List.getElem?_eq_getElem h]
theorem jGY (l : List UInt8) (k : Nat) (h : l.length <= k) : at0 l k = 0 := by unfold at0; rw [List.getD_eq_getElem?_getD, List.getElem?_eq_none h]; rfl
theorem at0_drop (l : List UInt8) (k j : Nat) : at0 (l.drop k) j = at0 l (k + j) := by simp [at0, List.getD_eq_getElem?_getD]
theorem jNS (l : List UInt8) (k : Nat) (hb : jCA (at0 l k) = true) : k < l.length /\ skipC false (l.drop k) = skipC false (l.drop (k + 1)) + 1 := by
 have hk : k < l.length := by
  rcases Nat.lt_or_ge k l.length with h | h
  . exact h
  . rw [jGY l k h] at hb; exact absurd hb (by decide)
 exact ⟨hk, by rw [drop_at l k hk, skipC, if_pos hb]⟩
theorem jPM (l : List UInt8) (k : Nat) (hs : (at0 l k).toNat = 59) : k < l.length /\ skipC false (l.drop k) = skipC true (l.drop (k + 1)) + 1 := by
 have hk : k < l.length := by
  rcases Nat.lt_or_ge k l.length with h | h
  . exact h
  . rw [jGY l k h] at hs; exact absurd hs (by decide)
 exact ⟨hk, by rw [drop_at l k hk, skipC, if_neg (by simp [jCA, hs]), if_pos hs]⟩
theorem jMA (l : List UInt8) (k : Nat) (hb : jCA (at0 l k) = false) (hs : (at0 l k).toNat ≠ 59) : skipC false (l.drop k) = 0 := by
 rcases Nat.lt_or_ge k l.length with h | h
 . rw [drop_at l k h, skipC, if_neg (by simp [hb]), if_neg hs]
 . rw [List.drop_eq_nil_of_le h]; rfl
theorem jPN (l : List UInt8) (k : Nat) (hk : k < l.length) (hs : (at0 l k).toNat ≠ 10) : skipC true (l.drop k) = skipC true (l.drop (k + 1)) + 1 := by
 rw [drop_at l k hk, skipC, if_neg hs]
theorem jK2 (l : List UInt8) (k : Nat) (h : k < l.length -> (at0 l k).toNat = 10) : skipC true (l.drop k) = skipC false (l.drop k) := by
 rcases Nat.lt_or_ge k l.length with hk | hk
 . rw [drop_at l k hk, skipC, skipC, if_pos (h hk), if_pos (by simp [jCA, h hk])]
 . rw [List.drop_eq_nil_of_le hk]; rfl
end Lx
namespace Lx
theorem jGX (p : UInt8 -> Bool) (l : List UInt8) (k : Nat) (h0 : p 0 = false) (h : p (at0 l k) = true) : k < l.length /\ cnt p (l.drop k) = cnt p (l.drop (k + 1)) + 1 := by
 have hk : k < l.length := by
  rcases Nat.lt_or_ge k l.length with h' | h'
  . exact h'
  . rw [jGY l k h', h0] at h; exact absurd h (by decide)
 exact ⟨hk, by rw [drop_at l k hk, cnt, if_pos h]⟩
theorem jNE (p : UInt8 -> Bool) (l : List UInt8) (k : Nat) (h : p (at0 l k) = false) : cnt p (l.drop k) = 0 := by
 rcases Nat.lt_or_ge k l.length with h' | h'
 . rw [drop_at l k h', cnt, if_neg (by simp [h])]
 . rw [List.drop_eq_nil_of_le h']; rfl
theorem jG2 (p : UInt8 -> Bool) : ∀ l : List UInt8, cnt p l <= l.length
 | [] => Nat.le_refl _
 | c :: r => by rw [cnt]; have := jG2 p r; split <;> simp <;> omega
theorem jOD : jA8 0 = false := by decide
theorem word0 : jBT 0 = false := by decide
def RdR (l : List UInt8) (i lab : Nat) (K : Int) (E D : Nat) : Prop :=
 (lab = 0 /\ E = i + 1 /\ D = i /\ (at0 l i).toNat = 45) \/
 (lab = 1 /\ ∃ o, D = i + o /\ D <= E /\ E + cnt jA8 (l.drop E) = D + cnt jA8 (l.drop D) /\ jAK (l.drop i) = num (l.drop i) o (cnt jA8 (l.drop D))) \/
 (lab = 2 /\ jAK (l.drop i) = (K, E + cnt jBT (l.drop E) - i)) \/
 (lab = 3 /\ E = i + 1 /\ jAK (l.drop i) = one (at0 l i)) \/
 (lab = 4 /\ jAK (l.drop i) = (0, 0))
section
variable {l : List UInt8} {i : Nat} {K : Int} {E D : Nat}
theorem RdR.of0 (h : RdR l i 0 K E D) : E = i + 1 /\ D = i /\ (at0 l i).toNat = 45 := by
 rcases h with ⟨_, h⟩ | ⟨h, _⟩ | ⟨h, _⟩ | ⟨h, _⟩ | ⟨h, _⟩
 . exact h
 all_goals omega
theorem RdR.of1 (h : RdR l i 1 K E D) : ∃ o, D = i + o /\ D <= E /\ E + cnt jA8 (l.drop E) = D + cnt jA8 (l.drop D) /\ jAK (l.drop i) = num (l.drop i) o (cnt jA8 (l.drop D)) := by
 rcases h with ⟨h, _⟩ | ⟨_, h⟩ | ⟨h, _⟩ | ⟨h, _⟩ | ⟨h, _⟩
 . omega
 . exact h
 all_goals omega
theorem RdR.of2 (h : RdR l i 2 K E D) : jAK (l.drop i) = (K, E + cnt jBT (l.drop E) - i) := by
 rcases h with ⟨h, _⟩ | ⟨h, _⟩ | ⟨_, h⟩ | ⟨h, _⟩ | ⟨h, _⟩
 . omega
 . omega
 . exact h
 all_goals omega
theorem RdR.of3 (h : RdR l i 3 K E D) : E = i + 1 /\ jAK (l.drop i) = one (at0 l i) := by
 rcases h with ⟨h, _⟩ | ⟨h, _⟩ | ⟨h, _⟩ | ⟨_, h⟩ | ⟨h, _⟩
 . omega
 . omega
 . omega
 . exact h
 . omega
theorem RdR.of4 (h : RdR l i 4 K E D) : jAK (l.drop i) = (0, 0) := by
 rcases h with ⟨h, _⟩ | ⟨h, _⟩ | ⟨h, _⟩ | ⟨h, _⟩ | ⟨_, h⟩
 . omega
 . omega
 . omega
 . omega
 . exact h
theorem RdR.lab_le {lab : Nat} (h : RdR l i lab K E D) : lab = 0 \/ lab = 1 \/ lab = 2 \/ lab = 3 \/ lab = 4 := by
 rcases h with ⟨h, _⟩ | ⟨h, _⟩ | ⟨h, _⟩ | ⟨h, _⟩ | ⟨h, _⟩ <;> omega
theorem jEG (l : List UInt8) (i : Nat) : jAK (l.drop i) =
 if (at0 l i).toNat = 45 then
  if (at0 l (i + 1)).toNat = 62 then (5, 2) else if jA8 (at0 l (i + 1)) then num (l.drop i) 1 (cnt jA8 (l.drop (i + 1))) else one (at0 l i)
 else if jA8 (at0 l i) then num (l.drop i) 0 (cnt jA8 (l.drop i))
 else if jCH (at0 l i) then (3, cnt jBT (l.drop (i + 1)) + 1)
 else if jCV (at0 l i) then (4, cnt jBT (l.drop (i + 1)) + 1)
 else one (at0 l i) := by
 unfold jAK; simp only [at0_drop, Nat.add_zero, List.drop_drop]
theorem rd_minus (h : (at0 l i).toNat = 45) : RdR l i 0 K (i + 1) i := .inl ⟨rfl, rfl, rfl, h⟩
theorem rd_digit (h : (at0 l i).toNat ≠ 45) (hd : jA8 (at0 l i) = true) : RdR l i 1 K (i + 1) i :=
 .inr (.inl ⟨rfl, 0, rfl, by omega, by have := (jGX jA8 l i jOD hd).2; omega, by rw [jEG, if_neg h, if_pos hd]⟩)
theorem rd_small (h : (at0 l i).toNat ≠ 45) (hd : jA8 (at0 l i) = false) (hs : jCH (at0 l i) = true) : RdR l i 2 3 (i + 1) D :=
 .inr (.inr (.inl ⟨rfl, by rw [jEG, if_neg h, if_neg (by simp [hd]), if_pos hs]; congr 1; omega⟩))
theorem rd_great (h : (at0 l i).toNat ≠ 45) (hd : jA8 (at0 l i) = false) (hs : jCH (at0 l i) = false) (hg : jCV (at0 l i) = true) : RdR l i 2 4 (i + 1) D :=
 .inr (.inr (.inl ⟨rfl, by rw [jEG, if_neg h, if_neg (by simp [hd]), if_neg (by simp [hs]), if_pos hg]; congr 1; omega⟩))
theorem rd_other (h : (at0 l i).toNat ≠ 45) (hd : jA8 (at0 l i) = false) (hs : jCH (at0 l i) = false) (hg : jCV (at0 l i) = false) : RdR l i 3 K (i + 1) D :=
 .inr (.inr (.inr (.inl ⟨rfl, rfl, by rw [jEG, if_neg h, if_neg (by simp [hd]), if_neg (by simp [hs]), if_neg (by simp [hg])]⟩)))
theorem rd_arrow (h : (at0 l i).toNat = 45) (h1 : (at0 l (i + 1)).toNat = 62) : jAK (l.drop i) = (5, 2) /\ i + 2 <= l.length := by
 refine ⟨by rw [jEG, if_pos h, if_pos h1], ?_⟩
 rcases Nat.lt_or_ge (i + 1) l.length with h' | h'
 . omega
 . rw [jGY l (i + 1) h'] at h1; exact absurd h1 (by decide)
theorem rd_neg (h : (at0 l i).toNat = 45) (h1 : (at0 l (i + 1)).toNat ≠ 62) (hd : jA8 (at0 l (i + 1)) = true) : RdR l i 1 K (i + 1) (i + 1) :=
 .inr (.inl ⟨rfl, 1, rfl, by omega, rfl, by rw [jEG, if_pos h, if_neg h1, if_pos hd]⟩)
theorem rd_lone (h : (at0 l i).toNat = 45) (h1 : (at0 l (i + 1)).toNat ≠ 62) (hd : jA8 (at0 l (i + 1)) = false) : RdR l i 3 K (i + 1) D :=
 .inr (.inr (.inr (.inl ⟨rfl, rfl, by rw [jEG, if_pos h, if_neg h1, if_neg (by simp [hd])]⟩)))
theorem jPZ (hE : E = i + 1) (h : (at0 l i).toNat = 45) (h1 : (at0 l E).toNat = 62) : jAK (l.drop i) = (5, 2) /\ E + 1 <= l.length := by
 subst hE; exact rd_arrow h h1
theorem rd_neg' (hE : E = i + 1) (h : (at0 l i).toNat = 45) (h1 : (at0 l E).toNat ≠ 62) (hd : jA8 (at0 l E) = true) : RdR l i 1 K E E := by
 subst hE; exact rd_neg h h1 hd
theorem rd_lone' (hE : E = i + 1) (h : (at0 l i).toNat = 45) (h1 : (at0 l E).toNat ≠ 62) (hd : jA8 (at0 l E) = false) : RdR l i 3 K E D := by
 subst hE; exact rd_lone h h1 hd
theorem jOZ (h : RdR l i 1 K E D) (hd : jA8 (at0 l E) = true) : E < l.length /\ RdR l i 1 K (E + 1) D := by
 obtain ⟨o, h1, h2, h3, h4⟩ := h.of1; obtain ⟨hk, hs⟩ := jGX jA8 l E jOD hd; exact ⟨hk, .inr (.inl ⟨rfl, o, h1, by omega, by omega, h4⟩)⟩
theorem jPY (h : RdR l i 1 K E D) : D <= E /\ i <= D := by
 obtain ⟨o, h1, h2, h3, h4⟩ := h.of1; omega
theorem jL8 (h : RdR l i 1 K E D) (hd : jA8 (at0 l E) = false) : jAK (l.drop i) = if 18 < E - D || jBT (at0 l E) then (0, 0) else (2, E - i) := by
 obtain ⟨o, h1, h2, h3, h4⟩ := h.of1; have hs := jNE jA8 l E hd; rw [hs] at h3; have e1 : cnt jA8 (l.drop D) = E - D := by omega
 have e2 : i + (o + (E - D)) = E := by omega
 have e3 : o + (E - D) = E - i := by omega
 rw [h4, e1, num, at0_drop, e2, e3]
theorem rd_long (h : RdR l i 1 K E D) (hd : jA8 (at0 l E) = false) (hl : 18 < E - D) : RdR l i 4 K E D :=
 .inr (.inr (.inr (.inr ⟨rfl, by rw [jL8 h hd, if_pos (by simp [hl])]⟩)))
theorem rd_tied (h : RdR l i 1 K E D) (hd : jA8 (at0 l E) = false) (hw : jBT (at0 l E) = true) : RdR l i 4 K E D :=
 .inr (.inr (.inr (.inr ⟨rfl, by rw [jL8 h hd, if_pos (by simp [hw])]⟩)))
theorem rd_num (h : RdR l i 1 K E D) (hd : jA8 (at0 l E) = false) (hl : ¬ 18 < E - D) (hw : jBT (at0 l E) = false) : jAK (l.drop i) = (2, E - i) := by
 rw [jL8 h hd, if_neg (by simp [hl, hw])]
theorem jPX (h : RdR l i 2 K E D) (hw : jBT (at0 l E) = true) : E < l.length /\ RdR l i 2 K (E + 1) D := by
 obtain ⟨hk, hs⟩ := jGX jBT l E word0 hw; exact ⟨hk, .inr (.inr (.inl ⟨rfl, by rw [h.of2, hs]; congr 1; omega⟩))⟩
theorem rd_word (h : RdR l i 2 K E D) (hw : jBT (at0 l E) = false) : jAK (l.drop i) = (K, E - i) := by
 rw [h.of2, jNE jBT l E hw]; rfl
theorem rd_none (h : RdR l i 3 K E D) (hs : single (at0 l i) < 0) : RdR l i 4 (single (at0 l i)) E D :=
 .inr (.inr (.inr (.inr ⟨rfl, by rw [h.of3.2, one, if_pos hs]⟩)))
theorem rd_one (h : RdR l i 3 K E D) (hs : ¬ single (at0 l i) < 0) : jAK (l.drop i) = (single (at0 l i), 1) := by
 rw [h.of3.2, one, if_neg hs]
end
end Lx
namespace Lx
structure Tok where
 kind : Int
 pos : Nat
 text : List UInt8
 int : Int
def natV : List UInt8 -> Nat -> Nat
 | [], acc => acc
 | c :: r, acc => natV r (acc * 10 + (c.toNat - 48))
theorem natV_cons (c : UInt8) (r : List UInt8) (acc : Nat) : natV (c :: r) acc = natV r (acc * 10 + (c.toNat - 48)) := rfl
def numV (l : List UInt8) : Int := if (at0 l 0).toNat = 45 then -(natV (l.drop 1) 0 : Int) else natV l 0
def jBH (p : Nat) (k : Int) (t : List UInt8) : Tok := ⟨k, p, t, if k = 2 then numV t else 0⟩
def toks : Nat -> Nat -> List UInt8 -> List Tok × Option Nat
 | 0, _, _ => ([], none)
 | f + 1, p, l =>
   let a := skipC false l
   if l.length <= a then ([], none) else
    let r := l.drop a
    let n := (jAK r).2
    if n = 0 then ([], some (p + a)) else
     let x := toks f (p + a + n) (r.drop n)
     (jBH (p + a) (jAK r).1 (r.take n) :: x.1, x.2)
theorem jDO (p : UInt8 -> Bool) : ∀ (l : List UInt8), ∀ c ∈ l.take (cnt p l), p c = true
 | [], c, h => by simp at h
 | d :: r, c, h => by
   rw [cnt] at h; by_cases hd : p d
   . rw [if_pos hd, List.take_succ_cons] at h
     rcases List.mem_cons.1 h with rfl | h
     . exact hd
     . exact jDO p r c h
   . rw [if_neg hd] at h; simp at h
theorem jFP : ∀ (b : Bool) (l : List UInt8), skipC b l <= l.length
 | b, [] => by cases b <;> simp [skipC]
 | false, c :: r => by
   rw [skipC]; have h1 := jFP false r; have h2 := jFP true r
   split
   . simp; omega
   . split
     . simp; omega
     . simp
 | true, c :: r => by
   rw [skipC]; have h1 := jFP false r; have h2 := jFP true r
   split <;> simp <;> omega
inductive Way (l : List UInt8) : Int -> Nat -> Prop
 | arrow : (at0 l 0).toNat = 45 -> (at0 l 1).toNat = 62 -> Way l 5 2
 | neg : (at0 l 0).toNat = 45 -> jA8 (at0 l 1) = true -> cnt jA8 (l.drop 1) <= 18 -> jBT (at0 l (1 + cnt jA8 (l.drop 1))) = false -> Way l 2 (1 + cnt jA8 (l.drop 1))
 | pos : jA8 (at0 l 0) = true -> cnt jA8 l <= 18 -> jBT (at0 l (cnt jA8 l)) = false -> Way l 2 (cnt jA8 l)
 | name : jCH (at0 l 0) = true -> Way l 3 (cnt jBT (l.drop 1) + 1)
 | con : jCV (at0 l 0) = true -> Way l 4 (cnt jBT (l.drop 1) + 1)
 | one : ¬ single (at0 l 0) < 0 -> ((at0 l 0).toNat = 45 -> (at0 l 1).toNat ≠ 62 /\ jA8 (at0 l 1) = false) -> Way l (single (at0 l 0)) 1
 | none : Way l 0 0
theorem jDJ (c : UInt8) : single c = 0 \/ single c = 1 \/ single c = 5 \/ single c = -1 := by
 unfold single; repeat' split
 all_goals simp
theorem way (l : List UInt8) : Way l (jAK l).1 (jAK l).2 := by
 unfold jAK; simp only []; by_cases h1 : (at0 l 0).toNat = 45
 . rw [if_pos h1]; by_cases h2 : (at0 l 1).toNat = 62
   . rw [if_pos h2]; exact .arrow h1 h2
   . rw [if_neg h2]; by_cases h3 : jA8 (at0 l 1) = true
     . rw [if_pos h3]; unfold num; by_cases h4 : (decide (18 < cnt jA8 (l.drop 1)) || jBT (at0 l (1 + cnt jA8 (l.drop 1)))) = true
       . rw [if_pos h4]; exact .none
       . rw [if_neg h4]; simp only [Bool.or_eq_true, decide_eq_true_eq, not_or] at h4; exact .neg h1 h3 (by omega) (by simpa using h4.2)
     . rw [if_neg h3]; unfold one; by_cases h4 : single (at0 l 0) < 0
       . rw [if_pos h4]; exact .none
       . rw [if_neg h4]; exact .one h4 (fun _ => ⟨h2, by simpa using h3⟩)
 . rw [if_neg h1]; by_cases h2 : jA8 (at0 l 0) = true
   . rw [if_pos h2]; unfold num; by_cases h4 : (decide (18 < cnt jA8 l) || jBT (at0 l (0 + cnt jA8 l))) = true
     . rw [if_pos h4]; exact .none
     . rw [if_neg h4]; simp only [Bool.or_eq_true, decide_eq_true_eq, not_or, Nat.zero_add] at h4; rw [Nat.zero_add]; exact .pos h2 (by omega) (by simpa using h4.2)
   . rw [if_neg h2]; by_cases h3 : jCH (at0 l 0) = true
     . rw [if_pos h3]; exact .name h3
     . rw [if_neg h3]; by_cases h4 : jCV (at0 l 0) = true
       . rw [if_pos h4]; exact .con h4
       . rw [if_neg h4]; unfold one; by_cases h5 : single (at0 l 0) < 0
         . rw [if_pos h5]; exact .none
         . rw [if_neg h5]; exact .one h5 (fun h => absurd h h1)
theorem jFD (l : List UInt8) (k : Nat) (p : UInt8 -> Bool) (h0 : p 0 = false) (h : p (at0 l k) = true) : k < l.length := by
 rcases Nat.lt_or_ge k l.length with h' | h'
 . exact h'
 . rw [jGY l k h', h0] at h; exact absurd h (by decide)
theorem jIF (l : List UInt8) : (jAK l).2 <= l.length := by
 have hw := way l
 revert hw
 generalize (jAK l).1 = k; generalize (jAK l).2 = n; intro hw; cases hw with
 | arrow h1 h2 => 
   have := jFD l 1 (fun c => c.toNat == 62) (by decide) (by simp [h2]); omega
 | neg h1 h2 h3 h4 => 
   have := jFD l 1 jA8 (by decide) h2; have := jG2 jA8 (l.drop 1); rw [List.length_drop] at this; omega
 | pos h1 h2 h3 => exact jG2 _ _
 | name h => 
   have := jFD l 0 jCH (by decide) h; have := jG2 jBT (l.drop 1); rw [List.length_drop] at this; omega
 | con h => 
   have := jFD l 0 jCV (by decide) h; have := jG2 jBT (l.drop 1); rw [List.length_drop] at this; omega
 | one h _ => 
   have := jFD l 0 (fun c => decide (¬ single c < 0)) (by decide) (by simpa using h); omega
 | none => omega
theorem jJ7 (c : UInt8) (h : jA8 c = true) : 48 <= c.toNat /\ c.toNat <= 57 := by simpa [jA8] using h
theorem jGI (l : List UInt8) : ∀ (acc b : Nat), (∀ c ∈ l, jA8 c = true) -> acc < b -> natV l acc < b * 10 ^ l.length := by
 induction l with
 | nil => intro acc b _ h; rw [List.length_nil, Nat.pow_zero, Nat.mul_one]; exact h
 | cons c r ih =>
   intro acc b hd h; have hc := jJ7 c (hd c (by simp)); have := ih (acc * 10 + (c.toNat - 48)) (b * 10) (fun d h => hd d (by simp [h])) (by omega); rw [natV_cons, List.length_cons, Nat.pow_succ, Nat.mul_comm (10 ^ r.length), <- Nat.mul_assoc]; exact this
theorem parseM (l : List UInt8) : ∀ (acc : Nat), (∀ c ∈ l, jA8 c = true) -> acc < 1000000000000000000 -> (acc + 1) * 10 ^ l.length <= 1000000000000000000 -> Lib.parseUintM 18446744073709551615 acc l = .ok (natV l acc) := by
 induction l with
 | nil => intros; rfl
 | cons c r ih =>
   intro acc hd ha hb; have hc := jJ7 c (hd c (by simp)); have e : (acc + 1) * 10 ^ (r.length + 1) = ((acc + 1) * 10) * 10 ^ r.length := by rw [Nat.pow_succ, Nat.mul_comm (10 ^ r.length), <- Nat.mul_assoc]
   rw [List.length_cons, e] at hb; have hp : 0 < 10 ^ r.length := Nat.pow_pos (by omega); have h1 : (acc + 1) * 10 <= 1000000000000000000 := Nat.le_trans (Nat.le_mul_of_pos_right _ hp) hb; have h2 : (acc * 10 + (c.toNat - 48) + 1) * 10 ^ r.length <= ((acc + 1) * 10) * 10 ^ r.length := Nat.mul_le_mul_right _ (by omega); rw [Lib.parseUintM, if_pos (by omega), if_neg (by omega), if_neg (by omega), natV_cons]; exact ih _ (fun d h => hd d (by simp [h])) (by omega) (by omega)
theorem jP (n : Nat) (h : n <= 18) : 10 ^ n <= 1000000000000000000 := Nat.le_trans (Nat.pow_le_pow_right (by omega) h) (Nat.le_refl (10 ^ 18))
theorem take_at0 (l : List UInt8) (n k : Nat) (h : k < n) : at0 (l.take n) k = at0 l k := by
 unfold at0; rw [List.getD_eq_getElem?_getD, List.getD_eq_getElem?_getD, List.getElem?_take_of_lt h]
theorem jQ7 (l : List UInt8) (h2 : (jAK l).1 = 2) : Lib.parseIntB 64 (l.take (jAK l).2) = .ok (numV (l.take (jAK l).2)) := by
 have hw := way l; have hle := jIF l
 revert hw hle
 generalize (jAK l).2 = n; rw [h2]; intro hw hle; generalize hk : (2 : Int) = k at hw; cases hw with
 | arrow _ _ => omega
 | neg h1 hd hm hw => 
   obtain ⟨c, r, rfl⟩ : ∃ c r, l = c :: r := by
    cases l with
    | nil => exact absurd h1 (by decide)
    | cons c r => exact ⟨c, r, rfl⟩
   have hc : c.toNat = 45 := h1; have e1 : (c :: r).drop 1 = r := rfl; rw [e1] at hm hw hle ⊢; rw [Nat.add_comm, List.take_succ_cons]; have hds := jDO jA8 r; have hcl := jG2 jA8 r
   have hn : 0 < cnt jA8 r := by
    have h := jGX jA8 (c :: r) 1 jOD hd; rw [e1] at h; omega
   have hne : r.take (cnt jA8 r) ≠ [] := by intro h; have := congrArg List.length h; rw [List.length_take, List.length_nil] at this; omega
   have hlen : (r.take (cnt jA8 r)).length <= 18 := by rw [List.length_take]; omega
   generalize r.take (cnt jA8 r) = t at *; have hp := parseM t 0 hds (by omega) (by rw [Nat.zero_add, Nat.one_mul]; exact jP _ hlen); have hb := jGI t 0 1 hds (by omega); have hb' : natV t 0 < 1000000000000000000 := Nat.lt_of_lt_of_le hb (by rw [Nat.one_mul]; exact jP _ hlen); have e2 : numV (c :: t) = -(natV t 0 : Int) := by unfold numV; rw [if_pos (by simpa [at0] using hc)]; rfl
   rw [e2]; unfold Lib.parseIntB; simp only [hc, or_true, if_true, Lib.parseUintB, if_neg hne, hp]
   simp
   omega
 | pos hd hm hw => 
   obtain ⟨c, r, rfl⟩ : ∃ c r, l = c :: r := by
    cases l with
    | nil => exact absurd hd (by decide)
    | cons c r => exact ⟨c, r, rfl⟩
   have hc : jA8 c = true := hd; have hds := jDO jA8 (c :: r); have hcl := jG2 jA8 (c :: r); have hn : cnt jA8 (c :: r) = cnt jA8 r + 1 := by rw [cnt, if_pos hc]
   rw [hn] at hds hcl hm hw ⊢; rw [List.take_succ_cons] at hds ⊢; have hlen : (c :: r.take (cnt jA8 r)).length <= 18 := by simp at hcl ⊢; omega
   generalize r.take (cnt jA8 r) = t at *; have hp := parseM (c :: t) 0 hds (by omega) (by rw [Nat.zero_add, Nat.one_mul]; exact jP _ hlen); have hb := jGI (c :: t) 0 1 hds (by omega); have hb' : natV (c :: t) 0 < 1000000000000000000 := Nat.lt_of_lt_of_le hb (by rw [Nat.one_mul]; exact jP _ hlen); simp [jA8] at hc; have e2 : numV (c :: t) = (natV (c :: t) 0 : Int) := by unfold numV; rw [if_neg (by simp [at0]; omega)]
   rw [e2]; unfold Lib.parseIntB; have h45 : ¬ c.toNat = 45 := by omega
   have h43 : ¬ c.toNat = 43 := by omega
   simp only [h45, h43, or_self, if_false, Lib.parseUintB, if_neg (List.cons_ne_nil c t), hp]
   simp
   omega
 | name _ => omega
 | con _ => omega
 | one _ _ => have := jDJ (at0 l 0); omega
 | none => omega
end Lx
namespace Px
open Lx (Tok)
inductive Node where
 | mk (tok : Tok) (list : List Node) (takes : Nat)
def Node.tok : Node -> Tok | .mk t _ _ => t
def Node.list : Node -> List Node | .mk _ l _ => l
def Node.takes : Node -> Nat | .mk _ _ k => k
def Node.pos (n : Node) : Nat := n.tok.pos
def Node.text (n : Node) : List UInt8 := n.tok.text
abbrev R (α : Type) := Except Nat α
def jBG (t : List UInt8) : Nat :=
 if t = [43] \/ t = [45] \/ t = [42] \/ t = [47] \/ t = [37] \/ t = [61] \/ t = [60] \/ t = [99, 112, 120] \/ t = [99, 97, 100, 100] \/ t = [99, 109, 117, 108] then 2
 else if t = [114, 101] \/ t = [105, 109] then 1 else 0
mutual
def node (stop : Nat) : Nat -> Nat -> List Tok -> R (Node × List Tok)
 | 0, _, _ => .error stop
 | _ + 1, _, [] => .error stop
 | f + 1, d, t :: ts =>
   if t.kind = 1 then .error t.pos
   else if t.kind = 0 then
    if d = 40 then .error t.pos else
     match rest stop f (d + 1) ts with
     | .error p => .error p
     | .ok (l, ts') => .ok (.mk t l 0, ts')
   else .ok (.mk t [] (jBG t.text), ts)
def rest (stop : Nat) : Nat -> Nat -> List Tok -> R (List Node × List Tok)
 | 0, _, _ => .error stop
 | _ + 1, _, [] => .error stop
 | f + 1, d, t :: ts =>
   if t.kind = 1 then .ok ([], ts) else
    match node stop f d (t :: ts) with
    | .error p => .error p
    | .ok (n, ts') =>
      match rest stop f d ts' with
      | .error p => .error p
      | .ok (l, ts'') => .ok (n :: l, ts'')
end
def jAM (n : Node) : Bool :=
 !(n.text == [100, 97, 116, 97] || n.text == [100, 101, 102] || n.text == [102, 110] || n.text == [108, 101, 116] || n.text == [99, 97, 115, 101]) && n.tok.kind == 3 && n.takes == 0
def jAF (n : Node) : Bool := n.tok.kind == 0
def jAS (n : Node) : Bool := n.tok.kind == 4
def jB8 (n : Node) : Bool := n.tok.kind == 2
def word (n : Node) : List UInt8 :=
 match n.list with
 | [] => []
 | m :: _ => if jAF m then [] else m.text
def hold (n : Node) (least most : Nat) : R Unit :=
 if n.list.length < least then .error n.pos else
  match n.list[most]? with
  | some m => .error m.pos
  | none => .ok ()
def nodes (n : Node) (least most : Nat) : R (List Node) :=
 if jAF n then
  match hold n least most with
  | .error p => .error p
  | .ok _ => .ok n.list
 else .error n.pos
def each {α : Type} (f : Node -> R α) : List Node -> R (List α)
 | [] => .ok []
 | n :: r =>
   match f n with
   | .error p => .error p
   | .ok x =>
     match each f r with
     | .error p => .error p
     | .ok xs => .ok (x :: xs)
def name (n : Node) : R (List UInt8) := if jAM n then .ok n.text else .error n.pos
def jAJ (n : Node) : R (List UInt8) := if jAS n then .ok n.text else .error n.pos
def names (n : Node) (least : Nat) : R (List (List UInt8)) :=
 match nodes n least 8 with
 | .error p => .error p
 | .ok l => each name l
inductive TypeE where
 | mk (pos : Nat) (name : List UInt8) (args : List TypeE)
inductive Pat where
 | mk (kind : Nat) (pos : Nat) (name : List UInt8) (int : Int) (args : List Pat)
inductive Expr where
 | mk (kind : Nat) (pos : Nat) (name : List UInt8) (int : Int) (names : List (List UInt8)) (args : List Expr) (alts : List (Pat × Expr))
def typeE : Nat -> Node -> R TypeE
 | 0, n => .error n.pos
 | f + 1, n =>
   if jAS n || jAM n then .ok (.mk n.pos n.text [])
   else match nodes n 2 9 with
    | .error p => .error p
    | .ok l =>
      match (if word n = [45, 62] then (match hold n 3 3 with | .error p => .error p | .ok _ => .ok [45, 62]) else jAJ (l.headD n)) with
      | .error p => .error p
      | .ok nm =>
        match each (typeE f) l.tail with
        | .error p => .error p
        | .ok xs => .ok (.mk n.pos nm xs)
def pat : Nat -> Node -> R Pat
 | 0, n => .error n.pos
 | f + 1, n =>
   if jAF n then
    match nodes n 2 9 with
    | .error p => .error p
    | .ok l =>
      match jAJ (l.headD n) with
      | .error p => .error p
      | .ok nm =>
        match each (pat f) l.tail with
        | .error p => .error p
        | .ok xs => .ok (.mk 3 n.pos nm 0 xs)
   else if jB8 n then .ok (.mk 2 n.pos [] n.tok.int [])
   else if jAS n then .ok (.mk 3 n.pos n.text 0 [])
   else if jAM n then .ok (.mk 1 n.pos n.text 0 [])
   else if n.text = [95] then .ok (.mk 0 n.pos [] 0 [])
   else .error n.pos
def pair (ex : Node -> R Expr) (b : Node) : R (List UInt8 × Expr) :=
 match nodes b 2 2 with
 | .error p => .error p
 | .ok l =>
   match name (l.headD b) with
   | .error p => .error p
   | .ok s =>
     match ex (l.getD 1 b) with
     | .error p => .error p
     | .ok x => .ok (s, x)
def alt (f : Nat) (ex : Node -> R Expr) (b : Node) : R (Pat × Expr) :=
 match nodes b 2 2 with
 | .error p => .error p
 | .ok l =>
   match pat f (l.headD b) with
   | .error p => .error p
   | .ok s =>
     match ex (l.getD 1 b) with
     | .error p => .error p
     | .ok x => .ok (s, x)
def jCW (ex : Node -> R Expr) (n : Node) : R Expr :=
 match nodes n 3 3 with
 | .error p => .error p
 | .ok l =>
   match names (l.getD 1 n) 1 with
   | .error p => .error p
   | .ok ns =>
     match ex (l.getD 2 n) with
     | .error p => .error p
     | .ok x => .ok (.mk 3 n.pos [] 0 ns [x] [])
def jBW (ex : Node -> R Expr) (n : Node) : R Expr :=
 match nodes n 3 3 with
 | .error p => .error p
 | .ok l =>
   match nodes (l.getD 1 n) 1 8 with
   | .error p => .error p
   | .ok ps =>
     match each (pair ex) ps with
     | .error p => .error p
     | .ok bs =>
       match ex (l.getD 2 n) with
       | .error p => .error p
       | .ok x => .ok (.mk 4 n.pos [] 0 (bs.map (·.1)) (bs.map (·.2) ++ [x]) [])
def jBL (f : Nat) (ex : Node -> R Expr) (n : Node) : R Expr :=
 match nodes n 3 18 with
 | .error p => .error p
 | .ok l =>
   match ex (l.getD 1 n) with
   | .error p => .error p
   | .ok x =>
     match each (alt f ex) (l.drop 2) with
     | .error p => .error p
     | .ok bs => .ok (.mk 5 n.pos [] 0 [] [x] bs)
def jAV (ex : Node -> R Expr) (n : Node) : R Expr :=
 match nodes n 2 9 with
 | .error p => .error p
 | .ok l =>
   let first := l.headD n
   if 0 < first.takes then
    match hold n (1 + first.takes) (1 + first.takes) with
    | .error p => .error p
    | .ok _ =>
      match each ex l.tail with
      | .error p => .error p
      | .ok xs => .ok (.mk 7 n.pos first.text 0 [] xs [])
   else if jAS first then
    match each ex l.tail with
    | .error p => .error p
    | .ok xs => .ok (.mk 2 n.pos first.text 0 [] xs [])
   else
    match each ex l with
    | .error p => .error p
    | .ok xs => .ok (.mk 6 n.pos [] 0 [] xs [])
def listExpr (f : Nat) (ex : Node -> R Expr) (n : Node) : R Expr :=
 if word n = [102, 110] then jCW ex n
 else if word n = [108, 101, 116] then jBW ex n
 else if word n = [99, 97, 115, 101] then jBL f ex n
 else jAV ex n
def expr : Nat -> Node -> R Expr
 | 0, n => .error n.pos
 | f + 1, n =>
   if jAF n then listExpr f (expr f) n
   else if jB8 n then .ok (.mk 0 n.pos [] n.tok.int [] [] [])
   else if jAS n then .ok (.mk 2 n.pos n.text 0 [] [] [])
   else if jAM n then .ok (.mk 1 n.pos n.text 0 [] [] [])
   else .error n.pos
structure Con where
 pos : Nat
 name : List UInt8
 fields : List TypeE
structure Data where
 pos : Nat
 name : List UInt8
 params : List (List UInt8)
 cons : List Con
structure Def where
 pos : Nat
 name : List UInt8
 params : List (List UInt8)
 body : Expr
structure Prog where
 datas : List Data
 defs : List Def
def con (f : Nat) (n : Node) : R Con :=
 match nodes n 1 9 with
 | .error p => .error p
 | .ok l =>
   match jAJ (l.headD n) with
   | .error p => .error p
   | .ok s =>
     match each (typeE f) l.tail with
     | .error p => .error p
     | .ok ts => .ok ⟨n.pos, s, ts⟩
def data (f : Nat) (n : Node) : R Data :=
 match nodes n 4 103 with
 | .error p => .error p
 | .ok l =>
   match jAJ (l.getD 1 n) with
   | .error p => .error p
   | .ok s =>
     match names (l.getD 2 n) 0 with
     | .error p => .error p
     | .ok ps =>
       match each (con f) (l.drop 3) with
       | .error p => .error p
       | .ok cs => .ok ⟨n.pos, s, ps, cs⟩
def defn (f : Nat) (n : Node) : R Def :=
 match nodes n 4 4 with
 | .error p => .error p
 | .ok l =>
   match name (l.getD 1 n) with
   | .error p => .error p
   | .ok s =>
     match names (l.getD 2 n) 0 with
     | .error p => .error p
     | .ok ps =>
       match expr f (l.getD 3 n) with
       | .error p => .error p
       | .ok x => .ok ⟨n.pos, s, ps, x⟩
def prog (stop : Nat) : Nat -> Nat -> List Tok -> R Prog
 | 0, _, _ => .ok ⟨[], []⟩
 | _ + 1, _, [] => .ok ⟨[], []⟩
 | f + 1, c, ts =>
   match node stop (2 * ts.length + 2) 0 ts with
   | .error p => .error p
   | .ok (n, ts') =>
     if c = 100 then .error n.pos
     else if word n = [100, 97, 116, 97] then
      match data 50 n with
      | .error p => .error p
      | .ok d => match prog stop f (c + 1) ts' with
        | .error p => .error p
        | .ok q => .ok ⟨d :: q.datas, q.defs⟩
     else if word n = [100, 101, 102] then
      match defn 50 n with
      | .error p => .error p
      | .ok d => match prog stop f (c + 1) ts' with
        | .error p => .error p
        | .ok q => .ok ⟨q.datas, d :: q.defs⟩
     else .error n.pos
def jCY (stop : Nat) (ts : List Tok) : R Expr :=
 match node stop (2 * ts.length + 2) 0 ts with
 | .error p => .error p
 | .ok (n, ts') =>
   match ts' with
   | t :: _ => .error t.pos
   | [] => expr 50 n
inductive Outcome (α : Type) where
 | lex (p : Nat)
 | parse (p : Nat)
 | done (x : α)
def parsed {α : Type} (read : Nat -> List Tok -> R α) (l : List UInt8) : Outcome α :=
 if 4096 < l.length then .lex 4096 else
  match Lx.toks (l.length + 1) 0 l with
  | (_, some q) => .lex q
  | (ts, none) =>
    match read l.length ts with
    | .error p => .parse p
    | .ok x => .done x
def program (l : List UInt8) : Outcome Prog := parsed (fun stop ts => prog stop (ts.length + 1) 0 ts) l
def jF0 (l : List UInt8) : Outcome Expr := parsed jCY l
def Fits : Nat -> Node -> Prop
 | 0, n => n.list = []
 | k + 1, n => ∀ m ∈ n.list, Fits k m
end Px
namespace Lx
theorem jI6 (l : List UInt8) (k : Nat) (h : k < l.length) : at0 l k ∈ l := by
 unfold at0; rw [List.getD_eq_getElem?_getD, List.getElem?_eq_getElem h]; exact List.getElem_mem h
theorem jPL (l : List UInt8) (hb : jCA (at0 l 0) = false) (hs : (at0 l 0).toNat ≠ 59) : skipC false l = 0 := by
 have := jMA l 0 hb hs; simpa using this
theorem jCR (c : UInt8) (h : jA8 c = true) : jCA c = false /\ c.toNat ≠ 59 /\ c.toNat ≠ 45 /\ c.toNat ≠ 62 := by
 have h' := jJ7 c h; refine ⟨?_, by omega, by omega, by omega⟩; unfold jCA
 simp; omega
theorem natV_append (a b : List UInt8) : ∀ acc, natV (a ++ b) acc = natV b (natV a acc) := by
 induction a with
 | nil => intro acc; rfl
 | cons c r ih => intro acc; rw [List.cons_append, natV_cons, natV_cons, ih]
theorem jFL (u : Nat) : ∀ c ∈ Lib.decDigits u, jA8 c = true := by
 induction u using Nat.strongRecOn with
 | _ u ih =>
   intro c hc; rw [Lib.decDigits] at hc
   have key : ∀ d, d < 10 -> jA8 (UInt8.ofNat (48 + d)) = true := by
    intro d hd; unfold jA8; rw [UInt8.toNat_ofNat']
    simp; omega
   by_cases h : u < 10
   . rw [dif_pos h] at hc; rw [List.mem_singleton] at hc; subst hc
     exact key u h
   . rw [dif_neg h, List.mem_append] at hc
     rcases hc with hc | hc
     . exact ih (u / 10) (by omega) c hc
     . rw [List.mem_singleton] at hc; subst hc
       exact key (u % 10) (by omega)
theorem jN9 (u : Nat) : natV (Lib.decDigits u) 0 = u := by
 induction u using Nat.strongRecOn with
 | _ u ih =>
   rw [Lib.decDigits]; by_cases h : u < 10
   . rw [dif_pos h, natV_cons, UInt8.toNat_ofNat']; show 0 * 10 + _ = u; omega
   . rw [dif_neg h, natV_append, ih (u / 10) (by omega), natV_cons, UInt8.toNat_ofNat']; show u / 10 * 10 + _ = u; omega
theorem jLM (u : Nat) : Lib.decDigits u ≠ [] := by
 rw [Lib.decDigits]; split <;> simp
end Lx
namespace Lx
theorem jC6 (f p : Nat) (l : List UInt8) : toks (f + 1) p l =
 if l.length <= skipC false l then ([], none) else
  if (jAK (l.drop (skipC false l))).2 = 0 then ([], some (p + skipC false l)) else
   (jBH (p + skipC false l) (jAK (l.drop (skipC false l))).1 ((l.drop (skipC false l)).take (jAK (l.drop (skipC false l))).2) ::
     (toks f (p + skipC false l + (jAK (l.drop (skipC false l))).2) ((l.drop (skipC false l)).drop (jAK (l.drop (skipC false l))).2)).1,
    (toks f (p + skipC false l + (jAK (l.drop (skipC false l))).2) ((l.drop (skipC false l)).drop (jAK (l.drop (skipC false l))).2)).2) := rfl
theorem jK1 : ∀ (f f' p : Nat) (l : List UInt8), l.length < f -> l.length < f' -> toks f p l = toks f' p l := by
 intro f
 induction f with
 | zero => intro f' p l h; omega
 | succ f ih =>
   intro f' p l h h'; obtain ⟨f', rfl⟩ : ∃ g, f' = g + 1 := ⟨f' - 1, by omega⟩
   rw [jC6, jC6]; by_cases h1 : l.length <= skipC false l
   . rw [if_pos h1, if_pos h1]
   . rw [if_neg h1, if_neg h1]; by_cases h2 : (jAK (l.drop (skipC false l))).2 = 0
     . rw [if_pos h2, if_pos h2]
     . rw [if_neg h2, if_neg h2]; have hl : ((l.drop (skipC false l)).drop (jAK (l.drop (skipC false l))).2).length < f := by rw [List.length_drop, List.length_drop]; omega
       have hl' : ((l.drop (skipC false l)).drop (jAK (l.drop (skipC false l))).2).length < f' := by rw [List.length_drop, List.length_drop]; omega
       rw [ih f' _ _ hl hl']
def shift (d : Nat) (t : Tok) : Tok := { t with pos := t.pos + d }
theorem jNP (d : Nat) : ∀ (f p : Nat) (l : List UInt8), toks f (p + d) l = ((toks f p l).1.map (shift d), (toks f p l).2.map (· + d)) := by
 intro f
 induction f with
 | zero => intro p l; rfl
 | succ f ih =>
   intro p l; rw [jC6, jC6]; by_cases h1 : l.length <= skipC false l
   . rw [if_pos h1, if_pos h1]; rfl
   . rw [if_neg h1, if_neg h1]; by_cases h2 : (jAK (l.drop (skipC false l))).2 = 0
     . rw [if_pos h2, if_pos h2]; simp; omega
     . rw [if_neg h2, if_neg h2]; have e : p + d + skipC false l + (jAK (l.drop (skipC false l))).2 = p + skipC false l + (jAK (l.drop (skipC false l))).2 + d := by omega
       rw [e, ih]; have e2 : p + d + skipC false l = p + skipC false l + d := by omega
       rw [e2]; rfl
theorem cnt_cons (p : UInt8 -> Bool) (c : UInt8) (r : List UInt8) : cnt p (c :: r) = if p c then cnt p r + 1 else 0 := rfl
theorem jLZ : ∀ (f p : Nat) (l : List UInt8), (toks f p l).1.length <= l.length := by
 intro f
 induction f with
 | zero => intro p l; simp [toks]
 | succ f ih =>
   intro p l; rw [jC6]; by_cases h1 : l.length <= skipC false l
   . rw [if_pos h1]; simp
   . rw [if_neg h1]; by_cases h2 : (jAK (l.drop (skipC false l))).2 = 0
     . rw [if_pos h2]; simp
     . rw [if_neg h2]; have := ih (p + skipC false l + (jAK (l.drop (skipC false l))).2) ((l.drop (skipC false l)).drop (jAK (l.drop (skipC false l))).2); rw [List.length_drop, List.length_drop] at this; rw [List.length_cons]; omega
end Lx
namespace Lx
def tk (p : Nat) (l : List UInt8) : List Tok × Option Nat := toks (l.length + 1) p l
theorem jIC (f p : Nat) (c : UInt8) (l : List UInt8) (h : jCA c = true) : toks (f + 1) p (c :: l) = toks (f + 1) (p + 1) l := by
 rw [jC6, jC6]; have e : skipC false (c :: l) = skipC false l + 1 := by rw [skipC, if_pos h]
 rw [e, List.length_cons, List.drop_succ_cons]; have e2 : p + (skipC false l + 1) = p + 1 + skipC false l := by omega
 rw [e2]; by_cases h1 : l.length <= skipC false l
 . rw [if_pos h1, if_pos (by omega)]
 . rw [if_neg h1, if_neg (by omega)]
theorem jM3 (p : Nat) (c : UInt8) (l : List UInt8) (h : jCA c = true) : tk p (c :: l) = tk (p + 1) l := by
 unfold tk; rw [List.length_cons, jIC _ _ _ _ h]; exact jK1 _ _ _ _ (by omega) (by omega)
theorem tk_32 (p : Nat) (l : List UInt8) : tk p (32 :: l) = tk (p + 1) l := jM3 p 32 l (by decide)
theorem tk_10 (p : Nat) (l : List UInt8) : tk p (10 :: l) = tk (p + 1) l := jM3 p 10 l (by decide)
theorem jNR (p : Nat) (t r : List UInt8) (k : Int) (hne : t ≠ []) (hb : jCA (at0 t 0) = false) (hs : (at0 t 0).toNat ≠ 59) (h : jAK (t ++ r) = (k, t.length)) :
 tk p (t ++ r) = (jBH p k t :: (tk (p + t.length) r).1, (tk (p + t.length) r).2) := by
 have hl : 0 < t.length := List.length_pos_iff.2 hne; have e0 : at0 (t ++ r) 0 = at0 t 0 := by unfold at0; rw [List.getD_eq_getElem?_getD, List.getD_eq_getElem?_getD, List.getElem?_append_left hl]
 have hsk : skipC false (t ++ r) = 0 := jPL _ (by rw [e0]; exact hb) (by rw [e0]; exact hs); unfold tk; rw [jC6, hsk, List.drop_zero, h]; have hz : ¬ (t ++ r).length <= 0 := by rw [List.length_append]; omega
 rw [if_neg hz, if_neg (by show ¬ t.length = 0; omega), List.take_left, List.drop_left]; simp only [Nat.add_zero]; rw [jK1 (t ++ r).length (r.length + 1) (p + t.length) r (by rw [List.length_append]; omega) (by omega)]
def Ends (r : List UInt8) : Prop := jBT (at0 r 0) = false /\ (at0 r 0).toNat ≠ 62
theorem ends_32 (r : List UInt8) : Ends (32 :: r) := ⟨by rfl, by show (32 : UInt8).toNat ≠ 62; decide⟩
theorem ends_41 (r : List UInt8) : Ends (41 :: r) := ⟨by rfl, by show (41 : UInt8).toNat ≠ 62; decide⟩
theorem ends_10 (r : List UInt8) : Ends (10 :: r) := ⟨by rfl, by show (10 : UInt8).toNat ≠ 62; decide⟩
structure IsTok (k : Int) (t : List UInt8) : Prop where
 ne : t ≠ []
 blank : jCA (at0 t 0) = false
 note : (at0 t 0).toNat ≠ 59
 is : ∀ r, Ends r -> jAK (t ++ r) = (k, t.length)
theorem jOW (p : Nat) {k : Int} {t r : List UInt8} (h : IsTok k t) (hr : Ends r) : tk p (t ++ r) = (jBH p k t :: (tk (p + t.length) r).1, (tk (p + t.length) r).2) :=
 jNR p t r k h.ne h.blank h.note (h.is r hr)
theorem tk_open (p : Nat) (r : List UInt8) : tk p (40 :: r) = (jBH p 0 [40] :: (tk (p + 1) r).1, (tk (p + 1) r).2) :=
 jNR p [40] r 0 (by simp) (by decide) (by decide) rfl
theorem jM2 (p : Nat) (r : List UInt8) : tk p (41 :: r) = (jBH p 1 [41] :: (tk (p + 1) r).1, (tk (p + 1) r).2) :=
 jNR p [41] r 1 (by simp) (by decide) (by decide) rfl
theorem jP6 (t r : List UInt8) (j : Nat) (h : j < t.length) : at0 (t ++ r) j = at0 t j := by
 unfold at0; rw [List.getD_eq_getElem?_getD, List.getD_eq_getElem?_getD, List.getElem?_append_left h]
theorem at0_app_end (t r : List UInt8) : at0 (t ++ r) t.length = at0 r 0 := by
 unfold at0; rw [List.getD_eq_getElem?_getD, List.getD_eq_getElem?_getD, List.getElem?_append_right (Nat.le_refl _), Nat.sub_self]
theorem jI4 (p : UInt8 -> Bool) (t r : List UInt8) (h : ∀ c ∈ t, p c = true) (hr : p (at0 r 0) = false) : cnt p (t ++ r) = t.length := by
 induction t with
 | nil =>
   cases r with
   | nil => rfl
   | cons c r => 
     have : p c = false := hr; rw [List.nil_append, cnt_cons, if_neg (by simp [this])]; rfl
 | cons c t ih =>
   rw [List.cons_append, cnt_cons, if_pos (h c (by simp)), ih (fun d hd => h d (by simp [hd])), List.length_cons]
theorem jGF {c : UInt8} (h : jBT c = false) : jA8 c = false := by
 unfold jBT at h; simp only [Bool.or_eq_false_iff] at h; exact h.1.2
theorem jLK (D : List UInt8) (hd : ∀ c ∈ D, jA8 c = true) (hne : D ≠ []) (h18 : D.length <= 18) : IsTok 2 D := by
 have hl : 0 < D.length := List.length_pos_iff.2 hne; have h0 := hd _ (jI6 D 0 hl); obtain ⟨hb, hs, h45, _⟩ := jCR _ h0; refine ⟨hne, hb, hs, fun r hr => ?_⟩; have hc := jI4 jA8 D r hd (jGF hr.1); unfold jAK num; simp only []; rw [jP6 D r 0 hl, if_neg h45, if_pos h0, hc, Nat.zero_add, at0_app_end, hr.1, if_neg (by simp; omega)]
theorem jQJ (D : List UInt8) (hd : ∀ c ∈ D, jA8 c = true) (hne : D ≠ []) (h18 : D.length <= 18) : IsTok 2 (45 :: D) := by
 have hl : 0 < D.length := List.length_pos_iff.2 hne; have h0 := hd _ (jI6 D 0 hl); obtain ⟨_, _, _, h62⟩ := jCR _ h0; refine ⟨by simp, by show jCA 45 = false; decide, by show (45 : UInt8).toNat ≠ 59; decide, fun r hr => ?_⟩; have hc := jI4 jA8 D r hd (jGF hr.1); have e1 : at0 (45 :: D ++ r) 1 = at0 D 0 := by rw [List.cons_append]; show at0 (D ++ r) 0 = _; exact jP6 D r 0 hl
 have ed : (45 :: D ++ r).drop 1 = D ++ r := rfl; have ee : at0 (45 :: D ++ r) (1 + D.length) = at0 r 0 := by have := at0_app_end (45 :: D) r; rwa [List.length_cons, Nat.add_comm] at this
 have e0 : (at0 (45 :: D ++ r) 0).toNat = 45 := rfl; unfold jAK num; simp only []; rw [if_pos e0, e1, if_neg h62, if_pos h0, ed, hc, ee, hr.1, if_neg (by simp; omega), List.length_cons, Nat.add_comm]
theorem jJ8 (k : Nat) : ∀ u, u < 10 ^ (k + 1) -> (Lib.decDigits u).length <= k + 1 := by
 induction k with
 | zero => intro u h; rw [Lib.decDigits, dif_pos (by omega)]; simp
 | succ k ih =>
   intro u h; rw [Lib.decDigits]
   split
   . simp
   . rw [List.length_append, List.length_singleton]; have := ih (u / 10) (by rw [Nat.pow_succ] at h; omega); omega
theorem jFG (n : Int) : Lib.itoa n = if n < 0 then 45 :: Lib.decDigits n.natAbs else Lib.decDigits n.natAbs := by
 unfold Lib.itoa; by_cases h : n < 0
 . rw [if_pos h, if_pos h]
 . rw [if_neg h, if_neg h]; congr 1; omega
theorem jO6 (n : Int) (h0 : -1000000000000000000 < n) (h1 : n < 1000000000000000000) : IsTok 2 (Lib.itoa n) := by
 have hl := jJ8 17 n.natAbs (by omega); rw [jFG]
 split
 . exact jQJ _ (jFL _) (jLM _) hl
 . exact jLK _ (jFL _) (jLM _) hl
theorem jQ9 (n : Int) : numV (Lib.itoa n) = n := by
 rw [jFG]; unfold numV
 split
 . rw [if_pos (by rfl)]; show -(natV (Lib.decDigits n.natAbs) 0 : Int) = n; rw [jN9]; omega
 . have hd := jFL n.natAbs _ (jI6 _ 0 (List.length_pos_iff.2 (jLM n.natAbs))); rw [if_neg (jCR _ hd).2.2.1, jN9]; omega
theorem jGJ (p : Nat) (n : Int) : jBH p 2 (Lib.itoa n) = ⟨2, p, Lib.itoa n, n⟩ := by
 unfold jBH; rw [if_pos rfl, jQ9]
theorem jLJ (c : UInt8) (hb : jCA c = false) (hs : c.toNat ≠ 59) (hd : jA8 c = false) (hsm : jCH c = false) (hg : jCV c = false) (h : ¬ single c < 0) : IsTok (single c) [c] := by
 refine ⟨by simp, hb, hs, fun r hr => ?_⟩; have e0 : at0 ([c] ++ r) 0 = c := rfl; have e1 : at0 ([c] ++ r) 1 = at0 r 0 := rfl; have ho : one c = (single c, 1) := by unfold one; rw [if_neg h]
 unfold jAK; simp only []; rw [e0, e1]; by_cases h45 : c.toNat = 45
 . rw [if_pos h45, if_neg hr.2, if_neg (by rw [jGF hr.1]; decide), ho]; rfl
 . rw [if_neg h45, if_neg (by simp [hd]), if_neg (by simp [hsm]), if_neg (by simp [hg]), ho]; rfl
theorem jMU (c : UInt8) (t : List UInt8) (hc : jCH c = true) (h : ∀ d ∈ t, jBT d = true) : IsTok 3 (c :: t) := by
 have hb : 97 <= c.toNat /\ c.toNat <= 122 := by simpa [jCH] using hc
 refine ⟨by simp, ?_, ?_, fun r hr => ?_⟩
 . show jCA c = false; unfold jCA; simp; omega
 . show c.toNat ≠ 59; omega
 . have e0 : at0 (c :: t ++ r) 0 = c := rfl; have ed : (c :: t ++ r).drop 1 = t ++ r := rfl; have hdg : jA8 c = false := by unfold jA8; simp; omega
   unfold jAK; simp only []; rw [e0, ed, if_neg (by omega), if_neg (by simp [hdg]), if_pos hc, jI4 jBT t r h hr.1]; rfl
theorem jMV (c : UInt8) (t : List UInt8) (hc : jCV c = true) (h : ∀ d ∈ t, jBT d = true) : IsTok 4 (c :: t) := by
 have hb : 65 <= c.toNat /\ c.toNat <= 90 := by simpa [jCV] using hc
 refine ⟨by simp, ?_, ?_, fun r hr => ?_⟩
 . show jCA c = false; unfold jCA; simp; omega
 . show c.toNat ≠ 59; omega
 . have e0 : at0 (c :: t ++ r) 0 = c := rfl; have ed : (c :: t ++ r).drop 1 = t ++ r := rfl; have hdg : jA8 c = false := by unfold jA8; simp; omega
   have hsm : jCH c = false := by unfold jCH; simp; omega
   unfold jAK; simp only []; rw [e0, ed, if_neg (by omega), if_neg (by simp [hdg]), if_neg (by simp [hsm]), if_pos hc, jI4 jBT t r h hr.1]; rfl
end Lx
end Go.Proofs.YtnhndamfbeiljaaGreatDoor
