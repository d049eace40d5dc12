/-
  Several texts in one: Pure, ReadPure, Toks, PPure, Scope, Tokens, Own, Row.
-/
import Derived.Test.YtgoacbomphlhjaaP00
import GoSem.Core.Value
import Derived.Lib.ParseIntB
import Derived.Scope
import Derived.Test.YtgoacbomphlhjaaRows
import Derived.WalkKit
import Derived.WalkSpells
import Derived.Lib.Hide
import Derived.Below
import Derived.Lib.ConvBytes
import Derived.Maps.AppendAt
set_option linter.unusedVariables false
set_option linter.unusedSimpArgs false
namespace Go.Proofs.Ytgoacbomphlhjaa
open Go.Lib (hid)
open List renaming getElem_toArray → jX, getElem_cons_succ → jY, getElem_cons_zero → jZ, setIfInBounds_toArray → JA, set_cons_zero → JB, set_cons_succ → JC
namespace Lx
def blankB (c : UInt8) : Bool := c.toNat == 32 || c.toNat == 10 || c.toNat == 9 || c.toNat == 13
def jT (c : UInt8) : Bool := 48 ≤ c.toNat && c.toNat ≤ 57
def smallB (c : UInt8) : Bool := 97 ≤ c.toNat && c.toNat ≤ 122
def greatB (c : UInt8) : Bool := 65 ≤ c.toNat && c.toNat ≤ 90
def wordB (c : UInt8) : Bool := smallB c || greatB c || jT c || c.toNat == 39
/-- The byte at a place; 0 behind the end. -/
def at0 (l : List UInt8) (n : Nat) : UInt8 := l.getD n 0
/-- How many bytes stand ahead of the next token: false: from a blank on; true: from inside a note on. -/
def skipC : Bool → List UInt8 → Nat
 | _, [] => 0
 | false, c :: r => if blankB c then skipC false r + 1 else if c.toNat = 59 then skipC true r + 1 else 0
 | true, c :: r => if c.toNat = 10 then skipC false r + 1 else skipC true r + 1
/-- How many bytes from the first on are as told. -/
def cnt (p : UInt8 → Bool) : List UInt8 → Nat
 | [] => 0
 | c :: r => if p c then cnt p r + 1 else 0
/-- A byte's kind, where it is a token alone; below 0, if it is none. -/
def single (c : UInt8) : Int :=
 if c.toNat = 40 then 0 else if c.toNat = 41 then 1 else
 if c.toNat = 95 ∨ c.toNat = 43 ∨ c.toNat = 45 ∨ c.toNat = 42 ∨ c.toNat = 47 ∨ c.toNat = 37 ∨ c.toNat = 61 ∨ c.toNat = 60 then 5 else -1
/-- A number's kind and length: o bytes ahead of the digits, m digits. -/
def num (l : List UInt8) (o m : Nat) : Int × Nat := if 18 < m || wordB (at0 l (o + m)) then (0, 0) else (2, o + m)
def one (c : UInt8) : Int × Nat := if single c < 0 then (0, 0) else (single c, 1)
/-- The kind and the length of the token that begins a text; (0, 0): none does. -/
def tokAt (l : List UInt8) : Int × Nat :=
 let c := at0 l 0
 if c.toNat = 45 then
  if (at0 l 1).toNat = 62 then (5, 2) else if jT (at0 l 1) then num l 1 (cnt jT (l.drop 1)) else one c
 else if jT c then num l 0 (cnt jT l)
 else if smallB c then (3, cnt wordB (l.drop 1) + 1)
 else if greatB c then (4, cnt wordB (l.drop 1) + 1)
 else one c
theorem drop_at (l : List UInt8) (k : Nat) (h : k < l.length) : l.drop k = at0 l k :: l.drop (k + 1) := by
 rw [List.drop_eq_getElem_cons h]; congr 1; simp [at0, List.getD_eq_getElem?_getD, List.getElem?_eq_getElem h]
theorem at0_out (l : List UInt8) (k : Nat) (h : l.length ≤ k) : at0 l k = 0 := by unfold at0; rw [List.getD_eq_getElem?_getD, List.getElem?_eq_none h]; rfl
theorem at0_drop (l : List UInt8) (k j : Nat) : at0 (l.drop k) j = at0 l (k + j) := by simp [at0, List.getD_eq_getElem?_getD]
theorem skip_blank (l : List UInt8) (k : Nat) (hb : blankB (at0 l k) = true) : k < l.length ∧ skipC false (l.drop k) = skipC false (l.drop (k + 1)) + 1 := by
 have hk : k < l.length := by
  rcases Nat.lt_or_ge k l.length with h | h
  · exact h
  · rw [at0_out l k h] at hb; exact absurd hb (by decide)
 exact ⟨hk, by rw [drop_at l k hk, skipC, if_pos hb]⟩
theorem skip_semi (l : List UInt8) (k : Nat) (hs : (at0 l k).toNat = 59) : k < l.length ∧ skipC false (l.drop k) = skipC true (l.drop (k + 1)) + 1 := by
 have hk : k < l.length := by
  rcases Nat.lt_or_ge k l.length with h | h
  · exact h
  · rw [at0_out l k h] at hs; exact absurd hs (by decide)
 exact ⟨hk, by rw [drop_at l k hk, skipC, if_neg (by simp [blankB, hs]), if_pos hs]⟩
theorem skip_end (l : List UInt8) (k : Nat) (hb : blankB (at0 l k) = false) (hs : (at0 l k).toNat ≠ 59) : skipC false (l.drop k) = 0 := by
 rcases Nat.lt_or_ge k l.length with h | h
 · rw [drop_at l k h, skipC, if_neg (by simp [hb]), if_neg hs]
 · rw [List.drop_eq_nil_of_le h]; rfl
theorem skip_note (l : List UInt8) (k : Nat) (hk : k < l.length) (hs : (at0 l k).toNat ≠ 10) : skipC true (l.drop k) = skipC true (l.drop (k + 1)) + 1 := by
 rw [drop_at l k hk, skipC, if_neg hs]
theorem skip_line (l : List UInt8) (k : Nat) (h : k < l.length → (at0 l k).toNat = 10) : skipC true (l.drop k) = skipC false (l.drop k) := by
 rcases Nat.lt_or_ge k l.length with hk | hk
 · rw [drop_at l k hk, skipC, skipC, if_pos (h hk), if_pos (by simp [blankB, h hk])]
 · rw [List.drop_eq_nil_of_le hk]; rfl
end Lx
end Go.Proofs.Ytgoacbomphlhjaa

namespace Go.Proofs.Ytgoacbomphlhjaa
open Go.Lib (hid)
open List renaming getElem_toArray → jX, getElem_cons_succ → jY, getElem_cons_zero → jZ, setIfInBounds_toArray → JA, set_cons_zero → JB, set_cons_succ → JC
namespace Lx
theorem cnt_step (p : UInt8 → Bool) (l : List UInt8) (k : Nat) (h0 : p 0 = false) (h : p (at0 l k) = true) : k < l.length ∧ cnt p (l.drop k) = cnt p (l.drop (k + 1)) + 1 := by
 have hk : k < l.length := by
  rcases Nat.lt_or_ge k l.length with h' | h'
  · exact h'
  · rw [at0_out l k h', h0] at h; exact absurd h (by decide)
 exact ⟨hk, by rw [drop_at l k hk, cnt, if_pos h]⟩
theorem cnt_stop (p : UInt8 → Bool) (l : List UInt8) (k : Nat) (h : p (at0 l k) = false) : cnt p (l.drop k) = 0 := by
 rcases Nat.lt_or_ge k l.length with h' | h'
 · rw [drop_at l k h', cnt, if_neg (by simp [h])]
 · rw [List.drop_eq_nil_of_le h']; rfl
theorem cnt_le (p : UInt8 → Bool) : ∀ l : List UInt8, cnt p l ≤ l.length
 | [] => Nat.le_refl _
 | c :: r => by rw [cnt]; have := cnt_le p r; split <;> simp <;> omega
theorem digit0 : jT 0 = false := by decide
theorem word0 : wordB 0 = false := by decide
section
variable {l : List UInt8} {i : Nat} {K : Int} {E D : Nat}
theorem tokAt_eq (l : List UInt8) (i : Nat) : tokAt (l.drop i) =
 if (at0 l i).toNat = 45 then
  if (at0 l (i + 1)).toNat = 62 then (5, 2) else if jT (at0 l (i + 1)) then num (l.drop i) 1 (cnt jT (l.drop (i + 1))) else one (at0 l i)
 else if jT (at0 l i) then num (l.drop i) 0 (cnt jT (l.drop i))
 else if smallB (at0 l i) then (3, cnt wordB (l.drop (i + 1)) + 1)
 else if greatB (at0 l i) then (4, cnt wordB (l.drop (i + 1)) + 1)
 else one (at0 l i) := by
 unfold tokAt
 simp only [at0_drop, Nat.add_zero, List.drop_drop]
/- From the first byte. -/
end
end Lx
end Go.Proofs.Ytgoacbomphlhjaa

namespace Go.Proofs.Ytgoacbomphlhjaa
open Go.Lib (hid)
open List renaming getElem_toArray → jX, getElem_cons_succ → jY, getElem_cons_zero → jZ, setIfInBounds_toArray → JA, set_cons_zero → JB, set_cons_succ → JC
namespace Lx
structure Tok where
 kind : Int
 pos : Nat
 text : List UInt8
 int : Int
def natV : List UInt8 → Nat → Nat
 | [], acc => acc
 | c :: r, acc => natV r (acc * 10 + (c.toNat - 48))
theorem natV_cons (c : UInt8) (r : List UInt8) (acc : Nat) : natV (c :: r) acc = natV r (acc * 10 + (c.toNat - 48)) := rfl
def numV (l : List UInt8) : Int := if (at0 l 0).toNat = 45 then -(natV (l.drop 1) 0 : Int) else natV l 0
def mkTok (p : Nat) (k : Int) (t : List UInt8) : Tok := ⟨k, p, t, if k = 2 then numV t else 0⟩
/-- The tokens from a place on (p: the place; the list: what stands there), or the first place at which none begins. -/
def toks : Nat → Nat → List UInt8 → List Tok × Option Nat
 | 0, _, _ => ([], none)
 | f + 1, p, l =>
   let a := skipC false l
   if l.length ≤ a then ([], none) else
    let r := l.drop a
    let n := (tokAt r).2
    if n = 0 then ([], some (p + a)) else
     let x := toks f (p + a + n) (r.drop n)
     (mkTok (p + a) (tokAt r).1 (r.take n) :: x.1, x.2)
theorem cnt_spec (p : UInt8 → Bool) : ∀ (l : List UInt8), ∀ c ∈ l.take (cnt p l), p c = true
 | [], c, h => by simp at h
 | d :: r, c, h => by
   rw [cnt] at h
   by_cases hd : p d
   · rw [if_pos hd, List.take_succ_cons] at h
     rcases List.mem_cons.1 h with rfl | h
     · exact hd
     · exact cnt_spec p r c h
   · rw [if_neg hd] at h; simp at h
theorem skipC_le : ∀ (b : Bool) (l : List UInt8), skipC b l ≤ l.length
 | b, [] => by cases b <;> simp [skipC]
 | false, c :: r => by
   rw [skipC]
   have h1 := skipC_le false r; have h2 := skipC_le true r
   split
   · simp; omega
   · split
     · simp; omega
     · simp
 | true, c :: r => by
   rw [skipC]
   have h1 := skipC_le false r; have h2 := skipC_le true r
   split <;> simp <;> omega
/-- How the kinds come about. -/
inductive Way (l : List UInt8) : Int → Nat → Prop
 | arrow : (at0 l 0).toNat = 45 → (at0 l 1).toNat = 62 → Way l 5 2
 | neg : (at0 l 0).toNat = 45 → jT (at0 l 1) = true → cnt jT (l.drop 1) ≤ 18 → wordB (at0 l (1 + cnt jT (l.drop 1))) = false → Way l 2 (1 + cnt jT (l.drop 1))
 | pos : jT (at0 l 0) = true → cnt jT l ≤ 18 → wordB (at0 l (cnt jT l)) = false → Way l 2 (cnt jT l)
 | name : smallB (at0 l 0) = true → Way l 3 (cnt wordB (l.drop 1) + 1)
 | con : greatB (at0 l 0) = true → Way l 4 (cnt wordB (l.drop 1) + 1)
 | one : ¬ single (at0 l 0) < 0 → ((at0 l 0).toNat = 45 → (at0 l 1).toNat ≠ 62 ∧ jT (at0 l 1) = false) → Way l (single (at0 l 0)) 1
 | none : Way l 0 0
theorem single_cases (c : UInt8) : single c = 0 ∨ single c = 1 ∨ single c = 5 ∨ single c = -1 := by unfold single; repeat' split
                                                                                                    all_goals simp
theorem way (l : List UInt8) : Way l (tokAt l).1 (tokAt l).2 := by
 unfold tokAt
 simp only []
 by_cases h1 : (at0 l 0).toNat = 45
 · rw [if_pos h1]
   by_cases h2 : (at0 l 1).toNat = 62
   · rw [if_pos h2]; exact .arrow h1 h2
   · rw [if_neg h2]
     by_cases h3 : jT (at0 l 1) = true
     · rw [if_pos h3]
       unfold num
       by_cases h4 : (decide (18 < cnt jT (l.drop 1)) || wordB (at0 l (1 + cnt jT (l.drop 1)))) = true
       · rw [if_pos h4]; exact .none
       · rw [if_neg h4]
         simp only [Bool.or_eq_true, decide_eq_true_eq, not_or] at h4
         exact .neg h1 h3 (by omega) (by simpa using h4.2)
     · rw [if_neg h3]
       unfold one
       by_cases h4 : single (at0 l 0) < 0
       · rw [if_pos h4]; exact .none
       · rw [if_neg h4]; exact .one h4 (fun _ => ⟨h2, by simpa using h3⟩)
 · rw [if_neg h1]
   by_cases h2 : jT (at0 l 0) = true
   · rw [if_pos h2]
     unfold num
     by_cases h4 : (decide (18 < cnt jT l) || wordB (at0 l (0 + cnt jT l))) = true
     · rw [if_pos h4]; exact .none
     · rw [if_neg h4]
       simp only [Bool.or_eq_true, decide_eq_true_eq, not_or, Nat.zero_add] at h4
       rw [Nat.zero_add]
       exact .pos h2 (by omega) (by simpa using h4.2)
   · rw [if_neg h2]
     by_cases h3 : smallB (at0 l 0) = true
     · rw [if_pos h3]; exact .name h3
     · rw [if_neg h3]
       by_cases h4 : greatB (at0 l 0) = true
       · rw [if_pos h4]; exact .con h4
       · rw [if_neg h4]
         unfold one
         by_cases h5 : single (at0 l 0) < 0
         · rw [if_pos h5]; exact .none
         · rw [if_neg h5]; exact .one h5 (fun h => absurd h h1)
theorem ne_out (l : List UInt8) (k : Nat) (p : UInt8 → Bool) (h0 : p 0 = false) (h : p (at0 l k) = true) : k < l.length := by
 rcases Nat.lt_or_ge k l.length with h' | h'
 · exact h'
 · rw [at0_out l k h', h0] at h; exact absurd h (by decide)
/-- What is read lies inside. -/
theorem tokAt_le (l : List UInt8) : (tokAt l).2 ≤ l.length := by
 have hw := way l
 revert hw
 generalize (tokAt l).1 = k
 generalize (tokAt l).2 = n
 intro hw
 cases hw with
 | arrow h1 h2 => 
   have := ne_out l 1 (fun c => c.toNat == 62) (by decide) (by simp [h2]); omega
 | neg h1 h2 h3 h4 => 
   have := ne_out l 1 jT (by decide) h2
   have := cnt_le jT (l.drop 1); rw [List.length_drop] at this; omega
 | pos h1 h2 h3 => exact cnt_le _ _
 | name h => 
   have := ne_out l 0 smallB (by decide) h
   have := cnt_le wordB (l.drop 1); rw [List.length_drop] at this; omega
 | con h => 
   have := ne_out l 0 greatB (by decide) h
   have := cnt_le wordB (l.drop 1); rw [List.length_drop] at this; omega
 | one h _ => 
   have := ne_out l 0 (fun c => decide (¬ single c < 0)) (by decide) (by simpa using h); omega
 | none => omega
theorem digit_bd (c : UInt8) (h : jT c = true) : 48 ≤ c.toNat ∧ c.toNat ≤ 57 := by simpa [jT] using h
theorem natV_bound (l : List UInt8) : ∀ (acc b : Nat), (∀ c ∈ l, jT c = true) → acc < b → natV l acc < b * 10 ^ l.length := by
 induction l with
 | nil => intro acc b _ h; rw [List.length_nil, Nat.pow_zero, Nat.mul_one]; exact h
 | cons c r ih =>
   intro acc b hd h
   have hc := digit_bd c (hd c (by simp))
   have := ih (acc * 10 + (c.toNat - 48)) (b * 10) (fun d h => hd d (by simp [h])) (by omega)
   rw [natV_cons, List.length_cons, Nat.pow_succ, Nat.mul_comm (10 ^ r.length), ← Nat.mul_assoc]
   exact this
theorem pow18 (n : Nat) (h : n ≤ 18) : 10 ^ n ≤ 1000000000000000000 := Nat.le_trans (Nat.pow_le_pow_right (by omega) h) (Nat.le_refl (10 ^ 18))
theorem take_at0 (l : List UInt8) (n k : Nat) (h : k < n) : at0 (l.take n) k = at0 l k := by
 unfold at0; rw [List.getD_eq_getElem?_getD, List.getD_eq_getElem?_getD, List.getElem?_take_of_lt h]
end Lx
end Go.Proofs.Ytgoacbomphlhjaa

namespace Go.Proofs.Ytgoacbomphlhjaa
open Go.Lib (hid)
open List renaming getElem_toArray → jX, getElem_cons_succ → jY, getElem_cons_zero → jZ, setIfInBounds_toArray → JA, set_cons_zero → JB, set_cons_succ → JC
namespace Px
open Lx (Tok)
/-- A token, or a list of nodes (then tok is its parenthesis). -/
inductive Node where
 | mk (tok : Tok) (list : List Node) (takes : Nat)
def Node.tok : Node → Tok | .mk t _ _ => t
def Node.list : Node → List Node | .mk _ l _ => l
def Node.takes : Node → Nat | .mk _ _ k => k
def Node.pos (n : Node) : Nat := n.tok.pos
def Node.text (n : Node) : List UInt8 := n.tok.text
/-- What comes of a part, or the place of what is wrong. -/
abbrev R (α : Type) := Except Nat α
def takesOf (t : List UInt8) : Nat :=
 if t = [43] ∨ t = [45] ∨ t = [42] ∨ t = [47] ∨ t = [37] ∨ t = [61] ∨ t = [60] ∨ t = [99, 112, 120] ∨ t = [99, 97, 100, 100] ∨ t = [99, 109, 117, 108] then 2
 else if t = [114, 101] ∨ t = [105, 109] then 1 else 0
mutual
/-- A node that stands in d lists, and the tokens behind it. -/
def node (stop : Nat) : Nat → Nat → List Tok → R (Node × List Tok)
 | 0, _, _ => .error stop
 | _ + 1, _, [] => .error stop
 | f + 1, d, t :: ts =>
   if t.kind = 1 then .error t.pos
   else if t.kind = 0 then
    if d = 40 then .error t.pos else
     match rest stop f (d + 1) ts with
     | .error p => .error p
     | .ok (l, ts') => .ok (.mk t l 0, ts')
   else .ok (.mk t [] (takesOf t.text), ts)
/-- A list's nodes, and the tokens behind its end. -/
def rest (stop : Nat) : Nat → Nat → List Tok → R (List Node × List Tok)
 | 0, _, _ => .error stop
 | _ + 1, _, [] => .error stop
 | f + 1, d, t :: ts =>
   if t.kind = 1 then .ok ([], ts) else
    match node stop f d (t :: ts) with
    | .error p => .error p
    | .ok (n, ts') =>
      match rest stop f d ts' with
      | .error p => .error p
      | .ok (l, ts'') => .ok (n :: l, ts'')
end
def isNameB (n : Node) : Bool :=
 !(n.text == [100, 97, 116, 97] || n.text == [100, 101, 102] || n.text == [102, 110] || n.text == [108, 101, 116] || n.text == [99, 97, 115, 101]) && n.tok.kind == 3 && n.takes == 0
def jS (n : Node) : Bool := n.tok.kind == 0
def isConB (n : Node) : Bool := n.tok.kind == 4
def isIntB (n : Node) : Bool := n.tok.kind == 2
def word (n : Node) : List UInt8 :=
 match n.list with
 | [] => []
 | m :: _ => if jS m then [] else m.text
def hold (n : Node) (least most : Nat) : R Unit :=
 if n.list.length < least then .error n.pos else
  match n.list[most]? with
  | some m => .error m.pos
  | none => .ok ()
def nodes (n : Node) (least most : Nat) : R (List Node) :=
 if jS n then
  match hold n least most with
  | .error p => .error p
  | .ok _ => .ok n.list
 else .error n.pos
def each {α : Type} (f : Node → R α) : List Node → R (List α)
 | [] => .ok []
 | n :: r =>
   match f n with
   | .error p => .error p
   | .ok x =>
     match each f r with
     | .error p => .error p
     | .ok xs => .ok (x :: xs)
def name (n : Node) : R (List UInt8) := if isNameB n then .ok n.text else .error n.pos
def conName (n : Node) : R (List UInt8) := if isConB n then .ok n.text else .error n.pos
def names (n : Node) (least : Nat) : R (List (List UInt8)) :=
 match nodes n least 8 with
 | .error p => .error p
 | .ok l => each name l
inductive TypeE where
 | mk (pos : Nat) (name : List UInt8) (args : List TypeE)
inductive Pat where
 | mk (kind : Nat) (pos : Nat) (name : List UInt8) (int : Int) (args : List Pat)
inductive Expr where
 | mk (kind : Nat) (pos : Nat) (name : List UInt8) (int : Int) (names : List (List UInt8)) (args : List Expr) (alts : List (Pat × Expr))
def typeE : Nat → Node → R TypeE
 | 0, n => .error n.pos
 | f + 1, n =>
   if isConB n || isNameB n then .ok (.mk n.pos n.text [])
   else match nodes n 2 9 with
    | .error p => .error p
    | .ok l =>
      match (if word n = [45, 62] then (match hold n 3 3 with | .error p => .error p | .ok _ => .ok [45, 62]) else conName (l.headD n)) with
      | .error p => .error p
      | .ok nm =>
        match each (typeE f) l.tail with
        | .error p => .error p
        | .ok xs => .ok (.mk n.pos nm xs)
def pat : Nat → Node → R Pat
 | 0, n => .error n.pos
 | f + 1, n =>
   if jS n then
    match nodes n 2 9 with
    | .error p => .error p
    | .ok l =>
      match conName (l.headD n) with
      | .error p => .error p
      | .ok nm =>
        match each (pat f) l.tail with
        | .error p => .error p
        | .ok xs => .ok (.mk 3 n.pos nm 0 xs)
   else if isIntB n then .ok (.mk 2 n.pos [] n.tok.int [])
   else if isConB n then .ok (.mk 3 n.pos n.text 0 [])
   else if isNameB n then .ok (.mk 1 n.pos n.text 0 [])
   else if n.text = [95] then .ok (.mk 0 n.pos [] 0 [])
   else .error n.pos
/-- A pair's name and expression (ex: what an expression comes to). -/
def pair (ex : Node → R Expr) (b : Node) : R (List UInt8 × Expr) :=
 match nodes b 2 2 with
 | .error p => .error p
 | .ok l =>
   match name (l.headD b) with
   | .error p => .error p
   | .ok s =>
     match ex (l.getD 1 b) with
     | .error p => .error p
     | .ok x => .ok (s, x)
def alt (f : Nat) (ex : Node → R Expr) (b : Node) : R (Pat × Expr) :=
 match nodes b 2 2 with
 | .error p => .error p
 | .ok l =>
   match pat f (l.headD b) with
   | .error p => .error p
   | .ok s =>
     match ex (l.getD 1 b) with
     | .error p => .error p
     | .ok x => .ok (s, x)
def fnExpr (ex : Node → R Expr) (n : Node) : R Expr :=
 match nodes n 3 3 with
 | .error p => .error p
 | .ok l =>
   match names (l.getD 1 n) 1 with
   | .error p => .error p
   | .ok ns =>
     match ex (l.getD 2 n) with
     | .error p => .error p
     | .ok x => .ok (.mk 3 n.pos [] 0 ns [x] [])
def letExpr (ex : Node → R Expr) (n : Node) : R Expr :=
 match nodes n 3 3 with
 | .error p => .error p
 | .ok l =>
   match nodes (l.getD 1 n) 1 8 with
   | .error p => .error p
   | .ok ps =>
     match each (pair ex) ps with
     | .error p => .error p
     | .ok bs =>
       match ex (l.getD 2 n) with
       | .error p => .error p
       | .ok x => .ok (.mk 4 n.pos [] 0 (bs.map (·.1)) (bs.map (·.2) ++ [x]) [])
def caseExpr (f : Nat) (ex : Node → R Expr) (n : Node) : R Expr :=
 match nodes n 3 18 with
 | .error p => .error p
 | .ok l =>
   match ex (l.getD 1 n) with
   | .error p => .error p
   | .ok x =>
     match each (alt f ex) (l.drop 2) with
     | .error p => .error p
     | .ok bs => .ok (.mk 5 n.pos [] 0 [] [x] bs)
/-- A list that is no fn, let, case. -/
def plainExpr (ex : Node → R Expr) (n : Node) : R Expr :=
 match nodes n 2 9 with
 | .error p => .error p
 | .ok l =>
   let first := l.headD n
   if 0 < first.takes then
    match hold n (1 + first.takes) (1 + first.takes) with
    | .error p => .error p
    | .ok _ =>
      match each ex l.tail with
      | .error p => .error p
      | .ok xs => .ok (.mk 7 n.pos first.text 0 [] xs [])
   else if isConB first then
    match each ex l.tail with
    | .error p => .error p
    | .ok xs => .ok (.mk 2 n.pos first.text 0 [] xs [])
   else
    match each ex l with
    | .error p => .error p
    | .ok xs => .ok (.mk 6 n.pos [] 0 [] xs [])
def listExpr (f : Nat) (ex : Node → R Expr) (n : Node) : R Expr :=
 if word n = [102, 110] then fnExpr ex n
 else if word n = [108, 101, 116] then letExpr ex n
 else if word n = [99, 97, 115, 101] then caseExpr f ex n
 else plainExpr ex n
def expr : Nat → Node → R Expr
 | 0, n => .error n.pos
 | f + 1, n =>
   if jS n then listExpr f (expr f) n
   else if isIntB n then .ok (.mk 0 n.pos [] n.tok.int [] [] [])
   else if isConB n then .ok (.mk 2 n.pos n.text 0 [] [] [])
   else if isNameB n then .ok (.mk 1 n.pos n.text 0 [] [] [])
   else .error n.pos
structure Con where
 pos : Nat
 name : List UInt8
 fields : List TypeE
structure Data where
 pos : Nat
 name : List UInt8
 params : List (List UInt8)
 cons : List Con
structure Def where
 pos : Nat
 name : List UInt8
 params : List (List UInt8)
 body : Expr
structure Prog where
 datas : List Data
 defs : List Def
def con (f : Nat) (n : Node) : R Con :=
 match nodes n 1 9 with
 | .error p => .error p
 | .ok l =>
   match conName (l.headD n) with
   | .error p => .error p
   | .ok s =>
     match each (typeE f) l.tail with
     | .error p => .error p
     | .ok ts => .ok ⟨n.pos, s, ts⟩
def data (f : Nat) (n : Node) : R Data :=
 match nodes n 4 103 with
 | .error p => .error p
 | .ok l =>
   match conName (l.getD 1 n) with
   | .error p => .error p
   | .ok s =>
     match names (l.getD 2 n) 0 with
     | .error p => .error p
     | .ok ps =>
       match each (con f) (l.drop 3) with
       | .error p => .error p
       | .ok cs => .ok ⟨n.pos, s, ps, cs⟩
def defn (f : Nat) (n : Node) : R Def :=
 match nodes n 4 4 with
 | .error p => .error p
 | .ok l =>
   match name (l.getD 1 n) with
   | .error p => .error p
   | .ok s =>
     match names (l.getD 2 n) 0 with
     | .error p => .error p
     | .ok ps =>
       match expr f (l.getD 3 n) with
       | .error p => .error p
       | .ok x => .ok ⟨n.pos, s, ps, x⟩
/-- A program's lists, from the one with number c on (f: no fewer than the tokens). -/
def prog (stop : Nat) : Nat → Nat → List Tok → R Prog
 | 0, _, _ => .ok ⟨[], []⟩
 | _ + 1, _, [] => .ok ⟨[], []⟩
 | f + 1, c, ts =>
   match node stop (2 * ts.length + 2) 0 ts with
   | .error p => .error p
   | .ok (n, ts') =>
     if c = 100 then .error n.pos
     else if word n = [100, 97, 116, 97] then
      match data 50 n with
      | .error p => .error p
      | .ok d => match prog stop f (c + 1) ts' with
        | .error p => .error p
        | .ok q => .ok ⟨d :: q.datas, q.defs⟩
     else if word n = [100, 101, 102] then
      match defn 50 n with
      | .error p => .error p
      | .ok d => match prog stop f (c + 1) ts' with
        | .error p => .error p
        | .ok q => .ok ⟨q.datas, d :: q.defs⟩
     else .error n.pos
def onlyExpr (stop : Nat) (ts : List Tok) : R Expr :=
 match node stop (2 * ts.length + 2) 0 ts with
 | .error p => .error p
 | .ok (n, ts') =>
   match ts' with
   | t :: _ => .error t.pos
   | [] => expr 50 n
/-- The whole of a text: layer 1's place, or the part's. (2: no tokens; 3: what says nothing.) -/
inductive Outcome (α : Type) where
 | lex (p : Nat)
 | parse (p : Nat)
 | done (x : α)
def parsed {α : Type} (read : Nat → List Tok → R α) (l : List UInt8) : Outcome α :=
 if 4096 < l.length then .lex 4096 else
  match Lx.toks (l.length + 1) 0 l with
  | (_, some q) => .lex q
  | (ts, none) =>
    match read l.length ts with
    | .error p => .parse p
    | .ok x => .done x
def program (l : List UInt8) : Outcome Prog := parsed (fun stop ts => prog stop (ts.length + 1) 0 ts) l
def exprOf (l : List UInt8) : Outcome Expr := parsed onlyExpr l
/-- So deep are a node's lists at most. -/
def Fits : Nat → Node → Prop
 | 0, n => n.list = []
 | k + 1, n => ∀ m ∈ n.list, Fits k m
end Px
end Go.Proofs.Ytgoacbomphlhjaa

namespace Go.Proofs.Ytgoacbomphlhjaa
open Go.Lib (hid)
open List renaming getElem_toArray → jX, getElem_cons_succ → jY, getElem_cons_zero → jZ, setIfInBounds_toArray → JA, set_cons_zero → JB, set_cons_succ → JC
open Go
section
variable {P : Program} {a : Act} {w : World} {Q : Exit → Act → World → Prop}
end
end Go.Proofs.Ytgoacbomphlhjaa

namespace Go.Proofs.Ytgoacbomphlhjaa
open Go.Lib (hid)
open List renaming getElem_toArray → jX, getElem_cons_succ → jY, getElem_cons_zero → jZ, setIfInBounds_toArray → JA, set_cons_zero → JB, set_cons_succ → JC
open Go Go.RowKit
theorem ret_bool {a b : Bool} (h : a = b) : Ending.returned (.bool a) = .returned (.bool b) := by rw [h]
def tokCells (t : Lx.Tok) : List Value := [.int .i64 t.kind, .int .i64 t.pos, .string ⟨t.text.toArray⟩, .int .i64 t.int]
def toksCells (ts : List Lx.Tok) : List Value := ts.flatMap tokCells
/-- What stands in the world: the slice's bytes. -/
def BytesAt (w : World) (b off : Nat) (l : List UInt8) : Prop := ∀ j, j < l.length → w.cell? ⟨b, off + j, none⟩ = some (.int .u8 (Lx.at0 l j).toNat)
theorem BytesAt.below {w w' : World} {b off : Nat} {l : List UInt8} (h : BytesAt w b off l) (hb : Below w.heap.size w w') : BytesAt w' b off l := fun j hj => by
 have := h j hj
 rw [hb.cell (World.block_lt_of_cell? w _ this)]; exact this
def TkR (l : List UInt8) (done : List Lx.Tok) (E : Nat) : Prop :=
 ∃ f, l.length < E + f ∧ Lx.toks (l.length + 1) 0 l = (done ++ (Lx.toks f E (l.drop E)).1, (Lx.toks f E (l.drop E)).2)
theorem tkR_start (l : List UInt8) : TkR l [] 0 := ⟨l.length + 1, by omega, by simp⟩
theorem toks_succ (f p : Nat) (l : List UInt8) : Lx.toks (f + 1) p l =
 if l.length ≤ Lx.skipC false l then ([], none) else
  if (Lx.tokAt (l.drop (Lx.skipC false l))).2 = 0 then ([], some (p + Lx.skipC false l)) else
   (Lx.mkTok (p + Lx.skipC false l) (Lx.tokAt (l.drop (Lx.skipC false l))).1 ((l.drop (Lx.skipC false l)).take (Lx.tokAt (l.drop (Lx.skipC false l))).2) ::
     (Lx.toks f (p + Lx.skipC false l + (Lx.tokAt (l.drop (Lx.skipC false l))).2) ((l.drop (Lx.skipC false l)).drop (Lx.tokAt (l.drop (Lx.skipC false l))).2)).1,
    (Lx.toks f (p + Lx.skipC false l + (Lx.tokAt (l.drop (Lx.skipC false l))).2) ((l.drop (Lx.skipC false l)).drop (Lx.tokAt (l.drop (Lx.skipC false l))).2)).2) := rfl
theorem tk_step {l : List UInt8} {done : List Lx.Tok} {E A : Nat} (h : TkR l done E) (hE : E ≤ l.length) (hA : E + Lx.skipC false (l.drop E) = A) :
 A ≤ l.length ∧ E ≤ A ∧ (A = l.length → Lx.toks (l.length + 1) 0 l = (done, none)) ∧
 (A < l.length → (Lx.tokAt (l.drop A)).2 = 0 → (Lx.toks (l.length + 1) 0 l).2 = some A) ∧
 (A < l.length → (Lx.tokAt (l.drop A)).2 ≠ 0 → TkR l (done ++ [Lx.mkTok A (Lx.tokAt (l.drop A)).1 ((l.drop A).take (Lx.tokAt (l.drop A)).2)]) (A + (Lx.tokAt (l.drop A)).2)) := by
 obtain ⟨f, hf, ht⟩ := h
 have hle := Lx.skipC_le false (l.drop E)
 rw [List.length_drop] at hle
 obtain ⟨f, rfl⟩ : ∃ g, f = g + 1 := ⟨f - 1, by omega⟩
 rw [toks_succ f E (l.drop E), List.length_drop, List.drop_drop, hA] at ht
 refine ⟨by omega, by omega, ?_, ?_, ?_⟩
 · intro he
   rw [if_pos (by omega)] at ht
   rw [ht]; simp
 · intro h1 h2
   rw [if_neg (by omega), if_pos h2] at ht
   rw [ht]
 · intro h1 h2
   rw [if_neg (by omega), if_neg h2, List.drop_drop] at ht
   exact ⟨f, by omega, by rw [ht]; simp⟩
theorem grown_below {B : Nat} {w w' : World} (h : Below B w w') (hB : w.heap.size ≤ B) (row : Option Nat) : w.grownBy w' row := ⟨h.os, h.tape, h.output, h.size, fun k hk _ => h.block k (by omega)⟩
theorem info70 : (Try.prog.info? 70).map (fun i => (i.zero, i.size, i.bytes)) = some (some (.agg #[.int .i64 0, .int .i64 0, .string ⟨#[]⟩, .int .i64 0]), 4, 40) := by kernel_rfl
theorem jJ {w w' : World} {base : Nat} {e : TypeId} {size : Nat} {v : Value} {n : Nat} {xs : List Value} (h : w.ownsRow base e size v n xs) (hb : Below w.heap.size w w') : w'.ownsRow base e size v n xs := by
 refine h.kept (grown_below hb (Nat.le_refl _) (some w.heap.size)) ?_
 cases hv : v.ownBlock with
 | none => exact .inl rfl
 | some k => exact .inr (by have := (h.lt k hv).2; simp; omega)
theorem four_at (w : World) (x0 x1 x2 x3 : Value) (T : TypeId) (j : Nat) (u : Value) (h : [x0, x1, x2, x3][j]? = some u) :
 (w.alloc (.cells #[x0, x1, x2, x3] T)).cell? ((⟨w.heap.size, 0, none⟩ : Addr).add j) = some u := by
 have e : (⟨w.heap.size, 0, none⟩ : Addr).add j = ⟨w.heap.size, j, none⟩ := by unfold Addr.add; split <;> simp_all
 rw [e, World.cell?_alloc_mark]
 simpa using h
theorem four_one (k p i : Int) (t : ByteArray) : ∀ u ∈ [Value.int .i64 k, .int .i64 p, .string t, .int .i64 i], u.oneCell' = true := by
 intro u hu
 simp only [List.mem_cons, List.not_mem_nil, or_false] at hu
 rcases hu with rfl | rfl | rfl | rfl <;> rfl
/-- A slice of bytes, whatever it is, in the world. -/
def SliceAt (w : World) (v : Value) (l : List UInt8) : Prop :=
 (∃ p cap, v = .slice p 0 cap ∧ l = []) ∨ (∃ b off cap, v = .slice (some ⟨b, off, none⟩) l.length cap ∧ l.length ≤ cap ∧ cap ≤ 9223372036854775807 ∧ BytesAt w b off l)
end Go.Proofs.Ytgoacbomphlhjaa

namespace Go.Proofs.Ytgoacbomphlhjaa
open Go.Lib (hid)
open List renaming getElem_toArray → jX, getElem_cons_succ → jY, getElem_cons_zero → jZ, setIfInBounds_toArray → JA, set_cons_zero → JB, set_cons_succ → JC
open Go Go.RowKit
/-- The slice of an owned list of tokens that is not empty, cell by cell. -/
theorem own_toks {w : World} {base : Nat} {v : Value} {ts : List Lx.Tok} (h : w.ownsRow base 70 4 v ts.length (toksCells ts)) (hne : ts ≠ []) :
 ∃ g cap, v = .slice (some ⟨g, 0, none⟩) ts.length cap ∧ base ≤ g ∧ g < w.heap.size ∧ ts.length ≤ cap ∧ (cap : Int) ≤ 9223372036854775807 ∧
  ∀ i t, ts[i]? = some t → w.cell? ⟨g, i * 4, none⟩ = some (.int .i64 t.kind) ∧ w.cell? ⟨g, i * 4 + 1, none⟩ = some (.int .i64 t.pos) ∧ w.cell? ⟨g, i * 4 + 2, none⟩ = some (.string ⟨t.text.toArray⟩) ∧ w.cell? ⟨g, i * 4 + 3, none⟩ = some (.int .i64 t.int) := by
 obtain ⟨hlen, h0 | ⟨g, cap, cur, rfl, hb, hh, hn, hm, hsz, htk⟩⟩ := h
 · exact absurd (List.eq_nil_of_length_eq_zero h0.2) hne
 · refine ⟨g, cap, rfl, hb, ?_, hn, by unfold maxLen at hm; omega, ?_⟩
   · rcases Nat.lt_or_ge g w.heap.size with h' | h'
     · exact h'
     · rw [Array.getElem?_eq_none h'] at hh; exact absurd hh (by simp)
   · have key : ∀ k u, (toksCells ts)[k]? = some u → w.cell? ⟨g, k, none⟩ = some u := by
      intro k u hk
      have := World.ownsRow.cells (w := w) (base := base) (e := 70) (size := 4) (v := .slice (some ⟨g, 0, none⟩) ts.length cap) (n := ts.length) (xs := toksCells ts) ⟨hlen, .inr ⟨g, cap, cur, rfl, hb, hh, hn, hm, hsz, htk⟩⟩ (g := g) rfl k u hk
      have e : (⟨g, 0, none⟩ : Addr).add k = ⟨g, k, none⟩ := by unfold Addr.add; split <;> simp_all
      rwa [e] at this
     have part : ∀ (ts : List Lx.Tok) i t, ts[i]? = some t → ∀ j, j < 4 → (toksCells ts)[i * 4 + j]? = (tokCells t)[j]? := by
      intro ts
      induction ts with
      | nil => intro i t h; simp at h
      | cons a r ih =>
        intro i t h j hj
        have e : toksCells (a :: r) = tokCells a ++ toksCells r := by simp [toksCells]
        have hl : (tokCells a).length = 4 := rfl
        cases i with
        | zero =>
          simp at h; subst h
          rw [e, List.getElem?_append_left (by omega)]; simp
        | succ i =>
          simp at h
          rw [e, List.getElem?_append_right (by omega), hl]
          have := ih i t h j hj
          rw [← this]; congr 1; omega
     intro i t h
     refine ⟨?_, ?_, ?_, ?_⟩
     · exact key _ _ (by have := part ts i t h 0 (by omega); simpa [tokCells] using this)
     · exact key _ _ (by have := part ts i t h 1 (by omega); simpa [tokCells] using this)
     · exact key _ _ (by have := part ts i t h 2 (by omega); simpa [tokCells] using this)
     · exact key _ _ (by have := part ts i t h 3 (by omega); simpa [tokCells] using this)
def byteV (c : UInt8) : Value := .int .u8 c.toNat
theorem at0_get (l : List UInt8) (j : Nat) (h : j < l.length) : (l.map byteV)[j]? = some (.int .u8 (Lx.at0 l j).toNat) := by
 rw [List.getElem?_map, List.getElem?_eq_getElem h]
 simp [byteV, Lx.at0, List.getD_eq_getElem?_getD, List.getElem?_eq_getElem h]
namespace Lx
end Lx
end Go.Proofs.Ytgoacbomphlhjaa

namespace Go.Proofs.Ytgoacbomphlhjaa
open Go.Lib (hid)
open List renaming getElem_toArray → jX, getElem_cons_succ → jY, getElem_cons_zero → jZ, setIfInBounds_toArray → JA, set_cons_zero → JB, set_cons_succ → JC
open Go Go.RowKit
open Go Go.RowKit
namespace Px
theorem each_append {α : Type} (f : Node → R α) (a b : List Node) : each f (a ++ b) = match each f a with | .error p => .error p | .ok xs => match each f b with | .error p => .error p | .ok ys => .ok (xs ++ ys) := by
 induction a with
 | nil => simp only [List.nil_append, each]; cases each f b <;> rfl
 | cons n r ih =>
   simp only [List.cons_append, each, ih]
   cases f n with
   | error p => rfl
   | ok x =>
     cases each f r with
     | error p => rfl
     | ok xs => cases each f b <;> rfl
theorem each_take {α : Type} {f : Node → R α} {l : List Node} {k : Nat} {n : Node} {xs : List α} (hn : l[k]? = some n) (h : each f (l.take k) = .ok xs) :
 (∀ x, f n = .ok x → each f (l.take (k + 1)) = .ok (xs ++ [x])) ∧ (∀ p, f n = .error p → each f l = .error p) := by
 obtain ⟨hk, rfl⟩ := List.getElem?_eq_some_iff.1 hn
 refine ⟨fun x hx => ?_, fun p hp => ?_⟩
 · rw [List.take_succ_eq_append_getElem hk, each_append, h]
   simp only [each, hx]
 · rw [← List.take_append_drop k l, each_append, h, List.drop_eq_getElem_cons hk]
   simp only [each, hp]
theorem each_len {α : Type} {f : Node → R α} : ∀ {l : List Node} {xs : List α}, each f l = .ok xs → xs.length = l.length := by
 intro l
 induction l with
 | nil => intro xs h; simp only [each, Except.ok.injEq] at h; subst h; rfl
 | cons n r ih =>
   intro xs h
   simp only [each] at h
   cases hf : f n with
   | error p => rw [hf] at h; cases h
   | ok x =>
     rw [hf] at h
     cases hr : each f r with
     | error p => rw [hr] at h; cases h
     | ok ys => rw [hr] at h; simp only [Except.ok.injEq] at h; subst h; simp [ih hr]
end Px
/-- Values that stand for parts, one by one. -/
def Reps {α : Type} (rep : Value → α → Prop) : List Value → List α → Prop
 | [], [] => True
 | v :: vs, x :: xs => rep v x ∧ Reps rep vs xs
 | _, _ => False
theorem Reps.len {α : Type} {rep : Value → α → Prop} : ∀ {vs : List Value} {xs : List α}, Reps rep vs xs → vs.length = xs.length
 | [], [], _ => rfl
 | _ :: _, _ :: _, h => by simp [Reps.len h.2]
 | [], _ :: _, h => h.elim
 | _ :: _, [], h => h.elim
theorem Reps.snoc {α : Type} {rep : Value → α → Prop} {v : Value} {x : α} (hx : rep v x) : ∀ {vs : List Value} {xs : List α}, Reps rep vs xs → Reps rep (vs ++ [v]) (xs ++ [x])
 | [], [], _ => ⟨hx, trivial⟩
 | _ :: _, _ :: _, h => ⟨h.1, Reps.snoc hx h.2⟩
 | [], _ :: _, h => h.elim
 | _ :: _, [], h => h.elim
theorem Reps.mono {α : Type} {rep rep' : Value → α → Prop} (hr : ∀ v x, rep v x → rep' v x) : ∀ {vs : List Value} {xs : List α}, Reps rep vs xs → Reps rep' vs xs
 | [], [], _ => trivial
 | _ :: vs, _ :: xs, h => ⟨hr _ _ h.1, Reps.mono hr h.2⟩
 | [], _ :: _, h => h.elim
 | _ :: _, [], h => h.elim
theorem Reps.at {α : Type} {rep : Value → α → Prop} : ∀ {vs : List Value} {xs : List α} {i : Nat} {x : α}, Reps rep vs xs → xs[i]? = some x → ∃ v, vs[i]? = some v ∧ rep v x
 | [], [], _, _, _, h => by simp at h
 | v :: _, _ :: _, 0, _, h, hx => by simp at hx; subst hx; exact ⟨v, rfl, h.1⟩
 | _ :: _, _ :: _, _ + 1, _, h, hx => by simp at hx; simpa using Reps.at h.2 hx
 | [], _ :: _, _, _, h, _ => h.elim
 | _ :: _, [], _, _, h, _ => h.elim
def cellsOf (vs : List Value) : List Value := vs.flatMap fun v => v.cells.toList
theorem cellsOf_len (sz : Nat) : ∀ {vs : List Value}, (∀ v ∈ vs, v.cells.size = sz) → (cellsOf vs).length = vs.length * sz
 | [], _ => by simp [cellsOf]
 | v :: vs, h => by
   have e : cellsOf (v :: vs) = v.cells.toList ++ cellsOf vs := by simp [cellsOf]
   rw [e, List.length_append, Array.length_toList, h v (by simp), cellsOf_len sz (fun u hu => h u (by simp [hu])), List.length_cons, Nat.add_mul]; omega
theorem cellsOf_at (sz : Nat) : ∀ {vs : List Value} {i j : Nat} {v c : Value}, (∀ v ∈ vs, v.cells.size = sz) → vs[i]? = some v → v.cells[j]? = some c → (cellsOf vs)[i * sz + j]? = some c
 | [], _, _, _, _, _, h, _ => by simp at h
 | u :: vs, 0, j, v, c, hs, h, hc => by
   simp at h; subst h
   have e : cellsOf (u :: vs) = u.cells.toList ++ cellsOf vs := by simp [cellsOf]
   have hj : j < u.cells.size := (Array.getElem?_eq_some_iff.1 hc).1
   rw [e, Nat.zero_mul, Nat.zero_add, List.getElem?_append_left (by simpa using hj)]; simpa using hc
 | u :: vs, i + 1, j, v, c, hs, h, hc => by
   simp at h
   have e : cellsOf (u :: vs) = u.cells.toList ++ cellsOf vs := by simp [cellsOf]
   have hu := hs u (by simp)
   rw [e, List.getElem?_append_right (by rw [Array.length_toList, hu, Nat.add_mul]; omega), Array.length_toList, hu]
   have := cellsOf_at sz (fun x hx => hs x (by simp [hx])) h hc
   rw [← this]; congr 1; rw [Nat.add_mul]; omega
/-- A list of parts as a slice of elements of sz cells. -/
def RowAt {α : Type} (sz : Nat) (rep : Value → α → Prop) (w : World) (v : Value) (xs : List α) : Prop :=
 (xs = [] ∧ ∃ p c, v = .slice p 0 c) ∨
   ∃ g o c, v = .slice (some ⟨g, o, none⟩) xs.length c ∧ xs.length ≤ c ∧ (c : Int) ≤ 9223372036854775807 ∧
    ∀ i x, xs[i]? = some x → ∃ u, rep u x ∧ u.cells.size = sz ∧ ∀ j z, u.cells[j]? = some z → w.cell? ⟨g, o + i * sz + j, none⟩ = some z
theorem RowAt.len {α : Type} {sz : Nat} {rep : Value → α → Prop} {w : World} {v : Value} {xs : List α} (h : RowAt sz rep w v xs) : ∃ p c, v = .slice p xs.length c := by
 rcases h with ⟨rfl, p, c, rfl⟩ | ⟨g, o, c, h, _⟩
 · exact ⟨p, c, rfl⟩
 · exact ⟨_, c, h⟩
theorem RowAt.mono {α : Type} {sz : Nat} {rep rep' : Value → α → Prop} {w w' : World} {v : Value} {xs : List α} (h : RowAt sz rep w v xs) (hb : Below w.heap.size w w') (hr : ∀ u x, x ∈ xs → rep u x → rep' u x) : RowAt sz rep' w' v xs := by
 rcases h with h | ⟨g, o, c, h1, h2, h3, h4⟩
 · exact .inl h
 · refine .inr ⟨g, o, c, h1, h2, h3, fun i x hx => ?_⟩
   obtain ⟨u, a, b, d⟩ := h4 i x hx
   refine ⟨u, hr u x (List.mem_of_getElem? hx) a, b, fun j z hz => ?_⟩
   have := d j z hz
   rw [hb.cell (World.block_lt_of_cell? w _ this)]; exact this
/-- What the new blocks of a call hold: it stays while they stay. -/
def New {α : Type} (rep : World → Value → α → Prop) (w w' : World) (v : Value) (x : α) : Prop :=
 ∀ u : World, (∀ b, w.heap.size ≤ b → b < w'.heap.size → u.heap[b]? = w'.heap[b]?) → rep u v x
theorem New.now {α : Type} {rep : World → Value → α → Prop} {w w' : World} {v : Value} {x : α} (h : New rep w w' v x) : rep w' v x := h w' fun _ _ _ => rfl
/-- A part that stays while the blocks from lo to hi stay, a list's own block not among them. -/
def Kept {α : Type} (rep : World → Value → α → Prop) (base : Nat) (w : World) (ob : Option Nat) (v : Value) (x : α) : Prop :=
 ∃ lo hi, base ≤ lo ∧ hi ≤ w.heap.size ∧ (∀ g, ob = some g → g < lo ∨ hi ≤ g) ∧ ∀ u : World, (∀ b, lo ≤ b → b < hi → u.heap[b]? = w.heap[b]?) → rep u v x
theorem Kept.since {α : Type} {rep : World → Value → α → Prop} {base : Nat} {w w' : World} {ob ob' : Option Nat} {v : Value} {x : α} (h : Kept rep base w ob v x) (hs : w.heap.size ≤ w'.heap.size)
 (hk : ∀ b, base ≤ b → b < w.heap.size → ob ≠ some b → w'.heap[b]? = w.heap[b]?) (ho : ob' = ob ∨ ∀ g, ob' = some g → w.heap.size ≤ g) : Kept rep base w' ob' v x := by
 obtain ⟨lo, hi, h0, h1, h2, h3⟩ := h
 refine ⟨lo, hi, h0, by omega, fun g hg => ?_, fun u hu => h3 u fun b hb1 hb2 => ?_⟩
 · rcases ho with rfl | ho
   · exact h2 g hg
   · have := ho g hg; omega
 · rw [hu b hb1 hb2]
   exact hk b (by omega) (by omega) (fun e => by have := h2 b e; omega)
theorem Kept.step {α : Type} {rep : World → Value → α → Prop} {base : Nat} {w w' : World} {ob ob' : Option Nat} {v : Value} {x : α} (h : Kept rep base w ob v x) (hs : w.heap.size ≤ w'.heap.size)
 (hk : ∀ b, b < w.heap.size → ob ≠ some b → w'.heap[b]? = w.heap[b]?) (ho : ob' = ob ∨ ∀ g, ob' = some g → w.heap.size ≤ g) : Kept rep base w' ob' v x :=
 h.since hs (fun b _ => hk b) ho
theorem Kept.below {α : Type} {rep : World → Value → α → Prop} {base : Nat} {w w' : World} {ob : Option Nat} {v : Value} {x : α} (h : Kept rep base w ob v x) (hb : Below w.heap.size w w') : Kept rep base w' ob v x :=
 h.step hb.size (fun b hb1 _ => hb.block b hb1) (.inl rfl)
theorem New.kept {α : Type} {rep : World → Value → α → Prop} {base : Nat} {w w' : World} {ob : Option Nat} {v : Value} {x : α} (h : New rep w w' v x) (hb : base ≤ w.heap.size) (ho : ∀ g, ob = some g → g < w.heap.size) : Kept rep base w' ob v x :=
 ⟨w.heap.size, w'.heap.size, hb, Nat.le_refl _, fun g hg => .inl (ho g hg), h⟩
/-- A list of the call's own, its parts made since: what the call hands back. -/
theorem New.row {α : Type} {sz : Nat} {rep : World → Value → α → Prop} {w0 w : World} {E n : Nat} {v : Value} {vs : List Value} {xs : List α} (h : w.ownsRow w0.heap.size E sz v n (cellsOf vs)) (hn : n = xs.length)
 (hr : Reps (Kept rep w0.heap.size w v.ownBlock) vs xs) (hs : ∀ v ∈ vs, v.cells.size = sz) : New (fun u => RowAt sz (rep u) u) w0 w v xs := by
 intro u hu
 subst hn
 rcases h.2 with ⟨rfl, hn⟩ | ⟨g, cap, cur, rfl, hb, hg, hc1, hc2, hc3, hc4⟩
 · exact .inl ⟨List.eq_nil_of_length_eq_zero hn, none, 0, rfl⟩
 · refine .inr ⟨g, 0, cap, rfl, hc1, by unfold maxLen at hc2; omega, fun i x hx => ?_⟩
   obtain ⟨y, hy, lo, hi, h0, h1, _, h3⟩ := hr.at hx
   refine ⟨y, h3 u fun b hb1 hb2 => hu b (by omega) (by omega), hs y (List.mem_of_getElem? hy), fun j z hz => ?_⟩
   have hcell := World.ownsRow.cells h (g := g) rfl (i * sz + j) z (cellsOf_at sz hs hy hz)
   have e : (⟨g, 0, none⟩ : Addr).add (i * sz + j) = ⟨g, 0 + i * sz + j, none⟩ := by unfold Addr.add; split <;> simp_all
   rw [e] at hcell
   have hlt : g < w.heap.size := (Array.getElem?_eq_some_iff.1 hg).1
   rw [World.cell?_of_block (w := w) (hu g hb hlt)]; exact hcell
theorem run_append_loc (w : World) (base : Nat) (t ty e : TypeId) (i : TypeInfo) (z : Value) (size bytes : Nat) (ht : Try.prog.underlying t = some (.slice e)) (hi : Try.prog.info? e = some i) (hz : i.zero = some z)
 (hsize : i.size = size) (hby : i.bytes = bytes) (hzs : z.cells.size = size) (hsz : 0 < size)
 (v : Value) (n : Nat) (xs : List Value) (hown : w.ownsRow base e size v n xs)
 (a : Addr) (m c : Nat) (hm : 0 < m) (news : List Value) (hl : news.length = m * size) (hnews : ∀ j u, news[j]? = some u → w.cell? (a.add j) = some u) (h1 : ∀ u ∈ news, u.oneCell' = true)
 (h63 : n + m ≤ maxLen) (hbytes : (n + m) * bytes ≤ 140737488355328) (hbase : base ≤ w.heap.size) :
 ∃ v' w', (Builtin.append_ #[t, t] ty #[v, .slice (some a) m c]).run Try.prog w = .ok v' w' ∧ w'.ownsRow base e size v' (n + m) (xs ++ news) ∧ w.grownBy w' v.ownBlock ∧
  (v'.ownBlock = v.ownBlock ∨ ∀ g, v'.ownBlock = some g → w.heap.size ≤ g) := by
 obtain ⟨v', w', hr, h2, h3, _⟩ := run_append_own (P := Try.prog) w base t ty e i z size bytes ht hi hz hsize hby hzs hsz v n xs hown a m c news hl hnews h1 h63 hbytes hbase
 refine ⟨v', w', hr, h2, h3, ?_⟩
 subst hsize
 subst hby
 have hsmall : n + m ≤ 9223372036854775807 := by simp only [maxLen] at h63; omega
 rcases hown.2 with ⟨rfl, rfl⟩ | ⟨g, cap, cur, rfl, hbg, hg, hnc, hcm, hcs, htake⟩
 · have hr' := run_append_nil (P := Try.prog) w t ty e i z ht hi hz a m c news hl hnews (by omega) (by omega) (by have hb := hbytes; simp only [Nat.zero_add] at hb; omega)
   rw [hr] at hr'
   injection hr' with hv _
   subst hv
   exact .inr fun g hg => by simp only [Value.ownBlock, Option.some.injEq] at hg; omega
 · by_cases hroom : n + m ≤ cap
   · have hfit : n * i.size + news.length ≤ cur.size := by rw [hl, hcs, ← Nat.add_mul]; exact Nat.mul_le_mul_right _ hroom
     have hr' := run_append_room (P := Try.prog) w t ty e i ht hi g n cap cur hg a m c news hl hnews h1 hroom hfit
     rw [hr] at hr'
     injection hr' with hv _
     subst hv
     exact .inl rfl
   · have holds : ∀ j u, xs[j]? = some u → w.cell? ((⟨g, 0, none⟩ : Addr).add j) = some u := hown.cells (g := g) rfl
     have hr' := run_append_grow (P := Try.prog) w t ty e i z ht hi hz ⟨g, 0, none⟩ n cap xs hown.1 holds a m c news hl hnews (by omega) (by omega) (growslice_fits (by omega) hbytes)
     rw [hr] at hr'
     injection hr' with hv _
     subst hv
     exact .inr fun g hg => by simp only [Value.ownBlock, Option.some.injEq] at hg; omega
theorem wpList_append_loc (w : World) {ops : Array Oper} {rest : List Oper} {o : Oper} {a : Act} {Q : Exit → Act → World → Prop} (hgd : o.guard = none) (s x : Operand) (t : TypeId)
 (ho : o.op = .call { callee := .builtin .append, args := #[s, x], argTypes := #[t, t] })
 (base : Nat) (e : TypeId) (i : TypeInfo) (z : Value) (size bytes : Nat) (ht : Try.prog.underlying t = some (.slice e)) (hi : Try.prog.info? e = some i) (hz : i.zero = some z)
 (hsize : i.size = size) (hby : i.bytes = bytes) (hzs : z.cells.size = size) (hsz : 0 < size)
 (v : Value) (n : Nat) (xs : List Value) (hs : a.eval s = v) (hown : w.ownsRow base e size v n xs)
 (ad : Addr) (m c : Nat) (news : List Value) (hx : a.eval x = .slice (some ad) m c) (hm : 0 < m) (hl : news.length = m * size) (hnews : ∀ j u, news[j]? = some u → w.cell? (ad.add j) = some u) (h1 : ∀ u ∈ news, u.oneCell' = true)
 (h63 : n + m ≤ maxLen) (hbytes : (n + m) * bytes ≤ 140737488355328) (hbase : base ≤ w.heap.size)
 (h : ∀ v' w', w'.ownsRow base e size v' (n + m) (xs ++ news) → w.grownBy w' v.ownBlock → (v'.ownBlock = v.ownBlock ∨ ∀ g, v'.ownBlock = some g → w.heap.size ≤ g) → wpList Try.prog ops Q rest (a.put o.dst v') w') : wpList Try.prog ops Q (o :: rest) a w := by
 refine wpList_plain hgd fun K hK => ?_
 obtain ⟨v', w', hr, h2, h3, h4⟩ := run_append_loc w base t o.type e i z size bytes ht hi hz hsize hby hzs hsz v n xs hown ad m c hm news hl hnews h1 h63 hbytes hbase
 unfold Oper.wp execOp
 simp only [ho, resolve, invoke, builtin, Sem.run_bind, Sem.run_pure, Result.andThen_ok, List.map_toArray, List.map_cons, List.map_nil, hs, hx, hr]
 exact hK _ _ (h v' w' h2 h3 h4)
theorem jA {w : World} {g : Nat} {cs : Array Value} {T : TypeId} {fr : Nat × Nat} (h : w.heap[g]? = some (.cells cs T fr)) (j : Nat) (v : Value) (hv : cs[j]? = some v) : w.cell? ⟨g, j, none⟩ = some v := by
 simp only [World.cell?, h]; simpa using hv
theorem jD {w : World} {g : Nat} {cs : Array Value} {T : TypeId} (h : w.heap[g]? = some (.cells cs T (0, 0))) (o : Nat) : w.frozen? ⟨g, o, none⟩ = false := by
 simp only [World.frozen?, h]; simp
theorem jI (w : World) (cs : Array Value) (T : TypeId) : (w.alloc (.cells cs T)).heap[w.heap.size]? = some (.cells cs T (0, 0)) := heap_alloc_new w _
theorem jK {w : World} {g : Nat} {o : Obj} (h : w.heap[g]? = some o) : g < w.heap.size := (Array.getElem?_eq_some_iff.1 h).1
theorem jH {w : World} {g : Nat} {o : Obj} (h : w.heap[g]? = some o) (o' : Obj) : (w.alloc o').heap[g]? = some o := (Below.heap_alloc w o' g (jK h)).trans h
theorem jC {w w' : World} {g : Nat} {o : Obj} (h : w.heap[g]? = some o) (hb : Below w.heap.size w w') : w'.heap[g]? = some o := (hb.block g (jK h)).trans h
theorem ent_set {w : World} {g : Nat} {cs : Array Value} {T : TypeId} (h : w.heap[g]? = some (.cells cs T (0, 0))) (j : Nat) (v : Value) : (w.setCell ⟨g, j, none⟩ v).heap[g]? = some (.cells (cs.setIfInBounds j v) T (0, 0)) := heap_setCell_same w g j _ _ _ h
theorem jB {w : World} {g : Nat} {o : Obj} (h : w.heap[g]? = some o) (b j : Nat) (v : Value) (hne : g ≠ b) : (w.setCell ⟨b, j, none⟩ v).heap[g]? = some o := (Below.heap_setCell w ⟨b, j, none⟩ v g hne).trans h
theorem New.later {α : Type} {rep : World → Value → α → Prop} {w w1 w2 w' : World} {v : Value} {x : α} (h : New rep w1 w2 v x) (h0 : w.heap.size ≤ w1.heap.size) (hs : w2.heap.size ≤ w'.heap.size)
 (hk : ∀ b, w1.heap.size ≤ b → b < w2.heap.size → w'.heap[b]? = w2.heap[b]?) : New rep w w' v x :=
 fun u hu => h u fun b hb1 hb2 => (hu b (by omega) (by omega)).trans (hk b hb1 hb2)
/-- The blocks from lo on stay as they were. -/
def Stay (lo : Nat) (w w' : World) : Prop := w.heap.size ≤ w'.heap.size ∧ ∀ b, lo ≤ b → b < w.heap.size → w'.heap[b]? = w.heap[b]?
theorem Stay.refl (lo : Nat) (w : World) : Stay lo w w := ⟨Nat.le_refl _, fun _ _ _ => rfl⟩
theorem Stay.below {lo : Nat} {w w' w'' : World} (h : Stay lo w w') (hb : Below w'.heap.size w' w'') : Stay lo w w'' :=
 ⟨Nat.le_trans h.1 hb.size, fun b h1 h2 => (hb.block b (Nat.lt_of_lt_of_le h2 h.1)).trans (h.2 b h1 h2)⟩
theorem Stay.alloc {lo : Nat} {w w' : World} (h : Stay lo w w') (o : Obj) : Stay lo w (w'.alloc o) := h.below ((Below.refl _ _).alloc (Nat.le_refl _) o)
theorem Stay.set {lo : Nat} {w w' : World} (h : Stay lo w w') (g j : Nat) (v : Value) (hg : g < lo) : Stay lo w (w'.setCell ⟨g, j, none⟩ v) :=
 ⟨by simpa using h.1, fun b h1 h2 => (Below.heap_setCell w' ⟨g, j, none⟩ v b (by simp; omega)).trans (h.2 b h1 h2)⟩
theorem Stay.drew {lo : Nat} {w w' : World} (h : Stay lo w w') : Stay lo w w'.drew := h
theorem New.stay {α : Type} {rep : World → Value → α → Prop} {w w1 w2 w' : World} {v : Value} {x : α} (h : New rep w1 w2 v x) (h0 : w.heap.size ≤ w1.heap.size) (hs : Stay w1.heap.size w2 w') : New rep w w' v x :=
 h.later h0 hs.1 hs.2
/-- A text as a value. -/
def StrAt (_ : World) (v : Value) (s : List UInt8) : Prop := v = .string ⟨s.toArray⟩
/-- A type's value (f: so deep, less one, at most). -/
def TypeAt : Nat → World → Value → Px.TypeE → Prop
 | 0, _, _, _ => False
 | f + 1, u, v, .mk p nm args => ∃ av, v = .agg #[.int .i64 p, .string ⟨nm.toArray⟩, av] ∧ RowAt 3 (TypeAt f u) u av args
def PatAt : Nat → World → Value → Px.Pat → Prop
 | 0, _, _, _ => False
 | f + 1, u, v, .mk k p nm i args => ∃ av, v = .agg #[.int .i64 k, .int .i64 p, .string ⟨nm.toArray⟩, .int .i64 i, av] ∧ RowAt 5 (PatAt f u) u av args
def AltOf (pa : Value → Px.Pat → Prop) (ex : Value → Px.Expr → Prop) (v : Value) (x : Px.Pat × Px.Expr) : Prop :=
 ∃ a0 a1 a2 a3 a4 b0 b1 b2 b3 b4 b5 b6 : Value, v = .agg #[a0, a1, a2, a3, a4, b0, b1, b2, b3, b4, b5, b6] ∧ pa (.agg #[a0, a1, a2, a3, a4]) x.1 ∧ ex (.agg #[b0, b1, b2, b3, b4, b5, b6]) x.2
def ExprAt : Nat → World → Value → Px.Expr → Prop
 | 0, _, _, _ => False
 | f + 1, u, v, .mk k p nm i ns xs al => ∃ nv xv av, v = .agg #[.int .i64 k, .int .i64 p, .string ⟨nm.toArray⟩, .int .i64 i, nv, xv, av] ∧
    RowAt 1 (StrAt u) u nv ns ∧ RowAt 7 (ExprAt f u) u xv xs ∧ RowAt 12 (AltOf (PatAt f u) (ExprAt f u)) u av al
theorem row_nil {α : Type} (sz : Nat) (rep : Value → α → Prop) (u : World) : RowAt sz rep u (.slice none 0 0) [] := .inl ⟨rfl, none, 0, rfl⟩
theorem undrew {w w' : World} (h : Below w.drew.heap.size w.drew w') : Below w.heap.size w w' := ⟨h.os, h.tape, h.output, h.size, h.block⟩
open Go Go.RowKit
/-- A part that stays while the blocks from lo to hi stay; those that may change (S) are not among them. -/
def KeptS {α : Type} (rep : World → Value → α → Prop) (base : Nat) (w : World) (S : Nat → Prop) (v : Value) (x : α) : Prop :=
 ∃ lo hi, base ≤ lo ∧ hi ≤ w.heap.size ∧ (∀ g, S g → g < lo ∨ hi ≤ g) ∧ ∀ u : World, (∀ b, lo ≤ b → b < hi → u.heap[b]? = w.heap[b]?) → rep u v x
theorem KeptS.step {α : Type} {rep : World → Value → α → Prop} {base : Nat} {w w' : World} {S S' : Nat → Prop} {v : Value} {x : α} (h : KeptS rep base w S v x) (hs : w.heap.size ≤ w'.heap.size)
 (hk : ∀ b, b < w.heap.size → base ≤ b → ¬ S b → w'.heap[b]? = w.heap[b]?) (ho : ∀ g, S' g → S g ∨ w.heap.size ≤ g) : KeptS rep base w' S' v x := by
 obtain ⟨lo, hi, h0, h1, h2, h3⟩ := h
 refine ⟨lo, hi, h0, by omega, fun g hg => ?_, fun u hu => h3 u fun b hb1 hb2 => ?_⟩
 · rcases ho g hg with hg | hg
   · exact h2 g hg
   · omega
 · rw [hu b hb1 hb2]
   exact hk b (by omega) (by omega) (fun e => by have := h2 b e; omega)
theorem KeptS.below {α : Type} {rep : World → Value → α → Prop} {base : Nat} {w w' : World} {S : Nat → Prop} {v : Value} {x : α} (h : KeptS rep base w S v x) (hb : Below w.heap.size w w') : KeptS rep base w' S v x :=
 h.step hb.size (fun b hb1 _ _ => hb.block b hb1) (fun _ h => .inl h)
theorem New.keptS {α : Type} {rep : World → Value → α → Prop} {base : Nat} {w w' : World} {S : Nat → Prop} {v : Value} {x : α} (h : New rep w w' v x) (hb : base ≤ w.heap.size) (ho : ∀ g, S g → g < w.heap.size) : KeptS rep base w' S v x :=
 ⟨w.heap.size, w'.heap.size, hb, Nat.le_refl _, fun g hg => .inl (ho g hg), h⟩
/-- A list of the call's own, read in a later world. -/
theorem rowS {α : Type} {sz : Nat} {rep : World → Value → α → Prop} {w u : World} {base E n : Nat} {S : Nat → Prop} {v : Value} {vs : List Value} {xs : List α} (h : w.ownsRow base E sz v n (cellsOf vs)) (hn : n = xs.length)
 (hr : Reps (KeptS rep base w S) vs xs) (hs : ∀ v ∈ vs, v.cells.size = sz) (hu : ∀ b, base ≤ b → b < w.heap.size → u.heap[b]? = w.heap[b]?) : RowAt sz (rep u) u v xs := by
 subst hn
 rcases h.2 with ⟨rfl, hn⟩ | ⟨g, cap, cur, rfl, hb, hg, hc1, hc2, hc3, hc4⟩
 · exact .inl ⟨List.eq_nil_of_length_eq_zero hn, none, 0, rfl⟩
 · refine .inr ⟨g, 0, cap, rfl, hc1, by unfold maxLen at hc2; omega, fun i x hx => ?_⟩
   obtain ⟨y, hy, lo, hi, h0, h1, _, h3⟩ := hr.at hx
   refine ⟨y, h3 u fun b hb1 hb2 => hu b (by omega) (by omega), hs y (List.mem_of_getElem? hy), fun j z hz => ?_⟩
   have hcell := World.ownsRow.cells h (g := g) rfl (i * sz + j) z (cellsOf_at sz hs hy hz)
   have e : (⟨g, 0, none⟩ : Addr).add (i * sz + j) = ⟨g, 0 + i * sz + j, none⟩ := by unfold Addr.add; split <;> simp_all
   rw [e] at hcell
   have hlt : g < w.heap.size := (Array.getElem?_eq_some_iff.1 hg).1
   rw [World.cell?_of_block (w := w) (hu g hb hlt)]; exact hcell
/-- A list of the call's own stays while its block stays. -/
theorem own_stays {w w' : World} {base : Nat} {e : TypeId} {size : Nat} {v : Value} {n : Nat} {xs : List Value} (h : w.ownsRow base e size v n xs) (hk : ∀ b, v.ownBlock = some b → w'.heap[b]? = w.heap[b]?) : w'.ownsRow base e size v n xs := by
 refine ⟨h.1, ?_⟩
 rcases h.2 with h | ⟨g, cap, cur, rfl, hb, hg, hc1, hc2, hc3, hc4⟩
 · exact .inl h
 · exact .inr ⟨g, cap, cur, rfl, hb, (hk g rfl).trans hg, hc1, hc2, hc3, hc4⟩
theorem own_type_ne {w : World} {base base' n n' size size' : Nat} {e e' : TypeId} {v v' : Value} {xs xs' : List Value} (h : w.ownsRow base e size v n xs) (h' : w.ownsRow base' e' size' v' n' xs') (hT : e ≠ e') (b : Nat) (hb : v.ownBlock = some b) : v'.ownBlock ≠ some b := by
 intro hb'
 rcases h.2 with ⟨rfl, _⟩ | ⟨g, cap, cur, rfl, _, hg, _⟩
 · simp [Value.ownBlock] at hb
 · rcases h'.2 with ⟨rfl, _⟩ | ⟨g', cap', cur', rfl, _, hg', _⟩
   · simp [Value.ownBlock] at hb'
   · simp only [Value.ownBlock, Option.some.injEq] at hb hb'
     subst hb; subst hb'
     rw [hg] at hg'
     simp only [Option.some.injEq, Obj.cells.injEq] at hg'
     exact hT hg'.2.1
theorem step_append_loc {w : World} {ops : Array Oper} {o : Oper} {a : Act} {K : Act → World → Prop} {Q : Exit → Act → World → Prop} {X : Prop} (hgd : o.guard = none) (s x : Operand) (t : TypeId)
 (ho : o.op = .call { callee := .builtin .append, args := #[s, x], argTypes := #[t, t] })
 (base : Nat) (e : TypeId) (i : TypeInfo) (z : Value) (size bytes : Nat) (ht : Try.prog.underlying t = some (.slice e)) (hi : Try.prog.info? e = some i) (hz : i.zero = some z)
 (hsize : i.size = size) (hby : i.bytes = bytes) (hzs : z.cells.size = size) (hsz : 0 < size)
 (v : Value) (n : Nat) (xs : List Value) (hs : a.eval s = v) (hown : w.ownsRow base e size v n xs)
 (ad : Addr) (m c : Nat) (news : List Value) (hx : a.eval x = .slice (some ad) m c) (hm : 0 < m) (hl : news.length = m * size) (hnews : ∀ j u, news[j]? = some u → w.cell? (ad.add j) = some u) (h1 : ∀ u ∈ news, u.oneCell' = true)
 (h63 : n + m ≤ maxLen) (hbytes : (n + m) * bytes ≤ 140737488355328) (hbase : base ≤ w.heap.size)
 (h : ∀ v' w', w'.ownsRow base e size v' (n + m) (xs ++ news) → w.grownBy w' v.ownBlock → (v'.ownBlock = v.ownBlock ∨ ∀ g, v'.ownBlock = some g → w.heap.size ≤ g) → K (a.put o.dst v') w') :
 if Region.wanted o (yielded ops a.tmps) = true then Oper.wp Try.prog o a w K Q else X := by
 have hw : Region.wanted o (yielded ops a.tmps) = true := by simp [Region.wanted, hgd]
 rw [if_pos hw]
 obtain ⟨v', w', hr, h2, h3, h4⟩ := run_append_loc w base t o.type e i z size bytes ht hi hz hsize hby hzs hsz v n xs hown ad m c hm news hl hnews h1 h63 hbytes hbase
 unfold Oper.wp execOp
 simp only [ho, resolve, invoke, builtin, Sem.run_bind, Sem.run_pure, Result.andThen_ok, List.map_toArray, List.map_cons, List.map_nil, hs, hx, hr]
 exact h v' w' h2 h3 h4
theorem jF {w : World} {base e size n : Nat} {v : Value} {xs : List Value} (h : w.ownsRow base e size v n xs) : ∃ p cap, v = .slice p n cap := by
 rcases h.2 with ⟨rfl, rfl⟩ | ⟨g, cap, cur, rfl, _⟩
 · exact ⟨none, 0, rfl⟩
 · exact ⟨_, cap, rfl⟩
open Go Go.RowKit
theorem row_vals {α : Type} {sz : Nat} {rep : Value → α → Prop} {w : World} {g : Nat} : ∀ (xs : List α) (o : Nat), (∀ i x, xs[i]? = some x → ∃ u, rep u x ∧ u.cells.size = sz ∧ ∀ j z, u.cells[j]? = some z → w.cell? ⟨g, o + i * sz + j, none⟩ = some z) →
 ∃ vs, Reps rep vs xs ∧ (∀ u ∈ vs, u.cells.size = sz) ∧ ∀ j z, (cellsOf vs)[j]? = some z → w.cell? ⟨g, o + j, none⟩ = some z
 | [], o, _ => ⟨[], trivial, by simp, by simp [cellsOf]⟩
 | x :: xs, o, h => by
   obtain ⟨u, hu1, hu2, hu3⟩ := h 0 x (by simp)
   obtain ⟨vs, hv1, hv2, hv3⟩ := row_vals xs (o + sz) (fun i y hy => by
    obtain ⟨u, a, b, c⟩ := h (i + 1) y (by simpa using hy)
    refine ⟨u, a, b, fun j z hz => ?_⟩
    rw [← c j z hz]
    have e : o + sz + i * sz + j = o + (i + 1) * sz + j := by rw [Nat.add_mul]; omega
    rw [e])
   refine ⟨u :: vs, ⟨hu1, hv1⟩, fun z hz => ?_, fun j z hz => ?_⟩
   · rcases List.mem_cons.1 hz with rfl | hz
     · exact hu2
     · exact hv2 _ hz
   · have e : cellsOf (u :: vs) = u.cells.toList ++ cellsOf vs := by simp [cellsOf]
     rw [e] at hz
     by_cases hj : j < u.cells.size
     · rw [List.getElem?_append_left (by simpa using hj)] at hz
       have := hu3 j z (by simpa using hz)
       simpa using this
     · rw [List.getElem?_append_right (by simpa using hj), Array.length_toList, hu2] at hz
       rw [hu2] at hj
       have h5 := hv3 _ z hz
       have e2 : o + sz + (j - sz) = o + j := by omega
       rw [e2] at h5; exact h5
theorem Reps.append {α : Type} {rep : Value → α → Prop} : ∀ {vs us : List Value} {xs ys : List α}, Reps rep vs xs → Reps rep us ys → Reps rep (vs ++ us) (xs ++ ys)
 | [], _, [], _, _, h => h
 | _ :: _, _, _ :: _, _, h, k => ⟨h.1, Reps.append h.2 k⟩
 | [], _, _ :: _, _, h, _ => h.elim
 | _ :: _, _, [], _, h, _ => h.elim
theorem Reps.all {α : Type} {rep : Value → α → Prop} {q : Value → Prop} (hq : ∀ u x, rep u x → q u) : ∀ {vs : List Value} {xs : List α}, Reps rep vs xs → ∀ u ∈ vs, q u
 | [], [], _, _, h => by cases h
 | v :: vs, x :: xs, h, u, hu => by
   rcases List.mem_cons.1 hu with rfl | hu
   · exact hq _ _ h.1
   · exact Reps.all hq h.2 u hu
 | [], _ :: _, h, _, _ => h.elim
 | _ :: _, [], h, _, _ => h.elim
theorem cellsOf_append (a b : List Value) : cellsOf (a ++ b) = cellsOf a ++ cellsOf b := by simp [cellsOf]
theorem own_row {α : Type} {rep : Value → α → Prop} {sz base E n : Nat} {w : World} {v : Value} {vs : List Value} {xs : List α} (h : w.ownsRow base E sz v n (cellsOf vs)) (hn : n = xs.length) (hr : Reps rep vs xs) (hs : ∀ u ∈ vs, u.cells.size = sz) : RowAt sz rep w v xs := by
 subst hn
 rcases h.2 with ⟨rfl, hn⟩ | ⟨g, cap, cur, rfl, hb, hg, hc1, hc2, hc3, hc4⟩
 · exact .inl ⟨List.eq_nil_of_length_eq_zero hn, none, 0, rfl⟩
 · refine .inr ⟨g, 0, cap, rfl, hc1, by unfold maxLen at hc2; omega, fun i x hx => ?_⟩
   obtain ⟨y, hy, h3⟩ := hr.at hx
   refine ⟨y, h3, hs y (List.mem_of_getElem? hy), fun j z hz => ?_⟩
   have hcell := World.ownsRow.cells h (g := g) rfl (i * sz + j) z (cellsOf_at sz hs hy hz)
   have e : (⟨g, 0, none⟩ : Addr).add (i * sz + j) = ⟨g, 0 + i * sz + j, none⟩ := by unfold Addr.add; split <;> simp_all
   rw [e] at hcell
   exact hcell
/-- An own row stays while its block does. -/
theorem own_same {w w' : World} {base e size n : Nat} {v : Value} {xs : List Value} (h : w.ownsRow base e size v n xs) (hk : ∀ k, v.ownBlock = some k → w'.heap[k]? = w.heap[k]?) : w'.ownsRow base e size v n xs := by
 refine ⟨h.1, ?_⟩
 rcases h.2 with h2 | ⟨g, cap, cur, rfl, hb, hg, hc⟩
 · exact .inl h2
 · exact .inr ⟨g, cap, cur, rfl, hb, by rw [hk g rfl]; exact hg, hc⟩
theorem run_append_zero (w : World) (base : Nat) (t ty e : TypeId) (i : TypeInfo) (size : Nat) (ht : Try.prog.underlying t = some (.slice e)) (hi : Try.prog.info? e = some i)
 (v : Value) (n : Nat) (xs : List Value) (hown : w.ownsRow base e size v n xs) (q : Option Addr) (c : Nat) : (Builtin.append_ #[t, t] ty #[v, .slice q 0 c]).run Try.prog w = .ok v w := by
 have hfc : ∀ q : Option Addr, (Builtin.firstCells i.size 0 (.slice q 0 c)).run Try.prog w = .ok #[] w := by
  intro q
  cases q <;> simp [Builtin.firstCells, loadCells, loadCellsFrom]
 rcases hown.2 with ⟨rfl, rfl⟩ | ⟨g, cap, cur, rfl, hbg, hg, hnc, hcm, hcs, htake⟩
 · simp [Builtin.append_, run_underlying ht, sizeOf, typeInfo, hi, Builtin.lenOf, hfc]
 · simp [Builtin.append_, run_underlying ht, sizeOf, typeInfo, hi, Builtin.lenOf, hfc, hnc, storeCells]
/-- 'append(s, row...)' in a region. -/
theorem step_append_row {α : Type} {rep : Value → α → Prop} {w : World} {ops : Array Oper} {o : Oper} {a : Act} {K : Act → World → Prop} {Q : Exit → Act → World → Prop} {X : Prop} (hgd : o.guard = none) (s x : Operand) (t : TypeId)
 (ho : o.op = .call { callee := .builtin .append, args := #[s, x], argTypes := #[t, t] })
 (base : Nat) (e : TypeId) (i : TypeInfo) (z : Value) (size bytes : Nat) (ht : Try.prog.underlying t = some (.slice e)) (hi : Try.prog.info? e = some i) (hz : i.zero = some z)
 (hsize : i.size = size) (hby : i.bytes = bytes) (hzs : z.cells.size = size) (hsz : 0 < size)
 (v : Value) (n : Nat) (vs : List Value) (hs : a.eval s = v) (hown : w.ownsRow base e size v n (cellsOf vs))
 (vx : Value) (hx : a.eval x = vx) (ys : List α) (hrow : RowAt size rep w vx ys) (hone : ∀ u x, rep u x → ∀ c ∈ u.cells.toList, c.oneCell' = true)
 (h63 : n + ys.length ≤ maxLen) (hbytes : (n + ys.length) * bytes ≤ 140737488355328) (hbase : base ≤ w.heap.size)
 (h : ∀ v' w' us, Reps rep us ys → (∀ u ∈ us, u.cells.size = size) → w'.ownsRow base e size v' (n + ys.length) (cellsOf (vs ++ us)) → w.grownBy w' v.ownBlock → (v'.ownBlock = v.ownBlock ∨ ∀ g, v'.ownBlock = some g → w.heap.size ≤ g) → K (a.put o.dst v') w') :
 if Region.wanted o (yielded ops a.tmps) = true then Oper.wp Try.prog o a w K Q else X := by
 have hw : Region.wanted o (yielded ops a.tmps) = true := by simp [Region.wanted, hgd]
 rw [if_pos hw]
 by_cases hys : ys = []
 · subst hys
   obtain ⟨q, c, rfl⟩ := hrow.len
   have hr := run_append_zero w base t o.type e i size ht hi v n _ hown q c
   unfold Oper.wp execOp
   simp only [ho, resolve, invoke, builtin, Sem.run_bind, Sem.run_pure, Result.andThen_ok, List.map_toArray, List.map_cons, List.map_nil, hs, hx, List.length_nil, hr]
   exact h v w [] trivial (fun u hu => by cases hu) (by rw [List.append_nil]; exact hown) ⟨rfl, rfl, rfl, Nat.le_refl _, fun _ _ _ => rfl⟩ (.inl rfl)
 · rcases hrow with ⟨h0, _⟩ | ⟨g, of, c, rfl, _, _, h4⟩
   · exact absurd h0 hys
   · obtain ⟨us, hu1, hu2, hu3⟩ := row_vals ys of h4
     have hpos : 0 < ys.length := List.length_pos_iff.2 hys
     obtain ⟨v', w', hr, h2, h3, h5⟩ := run_append_loc w base t o.type e i z size bytes ht hi hz hsize hby hzs hsz v n _ hown ⟨g, of, none⟩ ys.length c hpos (cellsOf us)
      (by rw [cellsOf_len size hu2, hu1.len]) (fun j u hj => by
        have e : (⟨g, of, none⟩ : Addr).add j = ⟨g, of + j, none⟩ := by unfold Addr.add; split <;> simp_all
        rw [e]; exact hu3 j u hj) (fun u hu => by
        obtain ⟨y, hy, hz⟩ := List.mem_flatMap.1 hu
        exact Reps.all (q := fun u => ∀ c ∈ u.cells.toList, c.oneCell' = true) hone hu1 y hy u hz) h63 hbytes hbase
     unfold Oper.wp execOp
     simp only [ho, resolve, invoke, builtin, Sem.run_bind, Sem.run_pure, Result.andThen_ok, List.map_toArray, List.map_cons, List.map_nil, hs, hx, hr]
     exact h v' w' us hu1 hu2 (by rw [cellsOf_append]; exact h2) h3 h5
end Go.Proofs.Ytgoacbomphlhjaa
