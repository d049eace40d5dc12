/-
  Lexing, as plain functions on lists of bytes: what package lex computes. No project text.
-/
import GoSem.Core.Value
namespace Go.Proofs.YtcnpbbhkdogdeaaDoor
namespace Lx

def blankB (c : UInt8) : Bool := c.toNat == 32 || c.toNat == 10 || c.toNat == 9 || c.toNat == 13
def digitB (c : UInt8) : Bool := 48 ≤ c.toNat && c.toNat ≤ 57
def smallB (c : UInt8) : Bool := 97 ≤ c.toNat && c.toNat ≤ 122
def greatB (c : UInt8) : Bool := 65 ≤ c.toNat && c.toNat ≤ 90
def wordB (c : UInt8) : Bool := smallB c || greatB c || digitB c || c.toNat == 39

/-- The byte at a place; 0 behind the end. -/
def at0 (l : List UInt8) (n : Nat) : UInt8 := l.getD n 0

/-- How many bytes stand ahead of the next token: false: from a blank on; true: from inside a note on. -/
def skipC : Bool → List UInt8 → Nat
  | _, [] => 0
  | false, c :: r => if blankB c then skipC false r + 1 else if c.toNat = 59 then skipC true r + 1 else 0
  | true, c :: r => if c.toNat = 10 then skipC false r + 1 else skipC true r + 1

/-- How many bytes from the first on are as told. -/
def cnt (p : UInt8 → Bool) : List UInt8 → Nat
  | [] => 0
  | c :: r => if p c then cnt p r + 1 else 0

/-- A byte's kind, where it is a token alone; below 0, if it is none. -/
def single (c : UInt8) : Int :=
  if c.toNat = 40 then 0 else if c.toNat = 41 then 1 else
  if c.toNat = 95 ∨ c.toNat = 43 ∨ c.toNat = 45 ∨ c.toNat = 42 ∨ c.toNat = 47 ∨ c.toNat = 37 ∨ c.toNat = 61 ∨ c.toNat = 60 then 5 else -1

/-- A number's kind and length: o bytes ahead of the digits, m digits. -/
def num (l : List UInt8) (o m : Nat) : Int × Nat := if 18 < m || wordB (at0 l (o + m)) then (0, 0) else (2, o + m)

def one (c : UInt8) : Int × Nat := if single c < 0 then (0, 0) else (single c, 1)

/-- The kind and the length of the token that begins a text; (0, 0): none does. -/
def tokAt (l : List UInt8) : Int × Nat :=
  let c := at0 l 0
  if c.toNat = 45 then
    if (at0 l 1).toNat = 62 then (5, 2) else if digitB (at0 l 1) then num l 1 (cnt digitB (l.drop 1)) else one c
  else if digitB c then num l 0 (cnt digitB l)
  else if smallB c then (3, cnt wordB (l.drop 1) + 1)
  else if greatB c then (4, cnt wordB (l.drop 1) + 1)
  else one c

theorem drop_at (l : List UInt8) (k : Nat) (h : k < l.length) : l.drop k = at0 l k :: l.drop (k + 1) := by
  rw [List.drop_eq_getElem_cons h]; congr 1; simp [at0, List.getD_eq_getElem?_getD, List.getElem?_eq_getElem h]
theorem at0_out (l : List UInt8) (k : Nat) (h : l.length ≤ k) : at0 l k = 0 := by unfold at0; rw [List.getD_eq_getElem?_getD, List.getElem?_eq_none h]; rfl
theorem at0_drop (l : List UInt8) (k j : Nat) : at0 (l.drop k) j = at0 l (k + j) := by simp [at0, List.getD_eq_getElem?_getD]

theorem skip_blank (l : List UInt8) (k : Nat) (hb : blankB (at0 l k) = true) : k < l.length ∧ skipC false (l.drop k) = skipC false (l.drop (k + 1)) + 1 := by
  have hk : k < l.length := by
    rcases Nat.lt_or_ge k l.length with h | h
    · exact h
    · rw [at0_out l k h] at hb; exact absurd hb (by decide)
  exact ⟨hk, by rw [drop_at l k hk, skipC, if_pos hb]⟩
theorem skip_semi (l : List UInt8) (k : Nat) (hs : (at0 l k).toNat = 59) : k < l.length ∧ skipC false (l.drop k) = skipC true (l.drop (k + 1)) + 1 := by
  have hk : k < l.length := by
    rcases Nat.lt_or_ge k l.length with h | h
    · exact h
    · rw [at0_out l k h] at hs; exact absurd hs (by decide)
  exact ⟨hk, by rw [drop_at l k hk, skipC, if_neg (by simp [blankB, hs]), if_pos hs]⟩
theorem skip_end (l : List UInt8) (k : Nat) (hb : blankB (at0 l k) = false) (hs : (at0 l k).toNat ≠ 59) : skipC false (l.drop k) = 0 := by
  rcases Nat.lt_or_ge k l.length with h | h
  · rw [drop_at l k h, skipC, if_neg (by simp [hb]), if_neg hs]
  · rw [List.drop_eq_nil_of_le h]; rfl
theorem skip_note (l : List UInt8) (k : Nat) (hk : k < l.length) (hs : (at0 l k).toNat ≠ 10) : skipC true (l.drop k) = skipC true (l.drop (k + 1)) + 1 := by
  rw [drop_at l k hk, skipC, if_neg hs]
theorem skip_line (l : List UInt8) (k : Nat) (h : k < l.length → (at0 l k).toNat = 10) : skipC true (l.drop k) = skipC false (l.drop k) := by
  rcases Nat.lt_or_ge k l.length with hk | hk
  · rw [drop_at l k hk, skipC, skipC, if_pos (h hk), if_pos (by simp [blankB, h hk])]
  · rw [List.drop_eq_nil_of_le hk]; rfl

end Lx
end Go.Proofs.YtcnpbbhkdogdeaaDoor
