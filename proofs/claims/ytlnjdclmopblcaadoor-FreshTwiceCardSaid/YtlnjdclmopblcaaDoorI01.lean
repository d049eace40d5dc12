import Derived.Test.YtlnjdclmopblcaaDoorI00
import GoSem.Core.Value
import Derived.Lib.ParseIntB
import Derived.WalkKit
import Derived.WalkSpells
import Derived.Lib.Hide
import Derived.Below
import Derived.Test.YtlnjdclmopblcaaDoorRows
import Derived.Scope
import Derived.Lib.ConvBytes
import Derived.Maps.AppendAt
import Derived.Lib.ItoaNum
set_option linter.unusedVariables false
set_option linter.unusedSimpArgs false
set_option maxHeartbeats 40000000
set_option maxRecDepth 100000
namespace Go.Proofs.YtlnjdclmopblcaaDoor
namespace Lx
def Qd (c : UInt8) : Bool := c.toNat == 32 || c.toNat == 10 || c.toNat == 9 || c.toNat == 13
def jQ (c : UInt8) : Bool := 48 <= c.toNat && c.toNat <= 57
def ql (c : UInt8) : Bool := 97 <= c.toNat && c.toNat <= 122
def QP (c : UInt8) : Bool := 65 <= c.toNat && c.toNat <= 90
def J8 (c : UInt8) : Bool := ql c || QP c || jQ c || c.toNat == 39
def Jj (l : List UInt8) (n : Nat) : UInt8 := l.getD n 0
def JD : Bool -> List UInt8 -> Nat
 | _, [] => 0
 | false, c :: r => if Qd c then JD false r + 1 else if c.toNat = 59 then JD true r + 1 else 0
 | true, c :: r => if c.toNat = 10 then JD false r + 1 else JD true r + 1
def cnt (p : UInt8 -> Bool) : List UInt8 -> Nat
 | [] => 0
 | c :: r => if p c then cnt p r + 1 else 0
def single (c : UInt8) : Int :=
 if c.toNat = 40 then 0 else if c.toNat = 41 then 1 else
 if c.toNat = 95 \/ c.toNat = 43 \/ c.toNat = 45 \/ c.toNat = 42 \/ c.toNat = 47 \/ c.toNat = 37 \/ c.toNat = 61 \/ c.toNat = 60 then 5 else -1
def num (l : List UInt8) (o m : Nat) : Int × Nat := if 18 < m || J8 (Jj l (o + m)) then (0, 0) else (2, o + m)
def one (c : UInt8) : Int × Nat := if single c < 0 then (0, 0) else (single c, 1)
def Jp (l : List UInt8) : Int × Nat :=
 let c := Jj l 0
 if c.toNat = 45 then
  if (Jj l 1).toNat = 62 then (5, 2) else if jQ (Jj l 1) then num l 1 (cnt jQ (l.drop 1)) else one c
 else if jQ c then num l 0 (cnt jQ l)
 else if ql c then (3, cnt J8 (l.drop 1) + 1)
 else if QP c then (4, cnt J8 (l.drop 1) + 1)
 else one c
theorem drop_at (l : List UInt8) (k : Nat) (h : k < l.length) : l.drop k = Jj l k :: l.drop (k + 1) := by
 rw [Jg h]; congr 1; simp [Jj, jL, jA h]
theorem ui (l : List UInt8) (k : Nat) (h : l.length <= k) : Jj l k = 0 := by unfold Jj; rw [jL, List.getElem?_eq_none h]; rfl
theorem zP (l : List UInt8) (k j : Nat) : Jj (l.drop k) j = Jj l (k + j) := by simp [Jj, jL]
theorem dN (l : List UInt8) (k : Nat) (hb : Qd (Jj l k) = true) : k < l.length /\ JD false (l.drop k) = JD false (l.drop (k + 1)) + 1 := by
 have hk : k < l.length := by
  rcases ZA k l.length with h | h
  . exact h
  . rw [ui l k h] at hb; exact absurd hb (by decide)
 exact ⟨hk, by rw [drop_at l k hk, JD, if_pos hb]⟩
theorem FP (l : List UInt8) (k : Nat) (hs : (Jj l k).toNat = 59) : k < l.length /\ JD false (l.drop k) = JD true (l.drop (k + 1)) + 1 := by
 have hk : k < l.length := by
  rcases ZA k l.length with h | h
  . exact h
  . rw [ui l k h] at hs; exact absurd hs (by decide)
 exact ⟨hk, by rw [drop_at l k hk, JD, if_neg (by simp [Qd, hs]), if_pos hs]⟩
theorem mW (l : List UInt8) (k : Nat) (hb : Qd (Jj l k) = false) (hs : (Jj l k).toNat ≠ 59) : JD false (l.drop k) = 0 := by
 rcases ZA k l.length with h | h
 . rw [drop_at l k h, JD, if_neg (by simp [hb]), if_neg hs]
 . rw [qg h]; rfl
theorem gG (l : List UInt8) (k : Nat) (hk : k < l.length) (hs : (Jj l k).toNat ≠ 10) : JD true (l.drop k) = JD true (l.drop (k + 1)) + 1 := by
 rw [drop_at l k hk, JD, if_neg hs]
theorem gH (l : List UInt8) (k : Nat) (h : k < l.length -> (Jj l k).toNat = 10) : JD true (l.drop k) = JD false (l.drop k) := by
 rcases ZA k l.length with hk | hk
 . rw [drop_at l k hk, JD, JD, if_pos (h hk), if_pos (by simp [Qd, h hk])]
 . rw [qg hk]; rfl
end Lx
namespace Lx
theorem uj (p : UInt8 -> Bool) (l : List UInt8) (k : Nat) (h0 : p 0 = false) (h : p (Jj l k) = true) : k < l.length /\ cnt p (l.drop k) = cnt p (l.drop (k + 1)) + 1 := by
 have hk : k < l.length := by
  rcases ZA k l.length with h' | h'
  . exact h'
  . rw [ui l k h', h0] at h; exact absurd h (by decide)
 exact ⟨hk, by rw [drop_at l k hk, cnt, if_pos h]⟩
theorem mX (p : UInt8 -> Bool) (l : List UInt8) (k : Nat) (h : p (Jj l k) = false) : cnt p (l.drop k) = 0 := by
 rcases ZA k l.length with h' | h'
 . rw [drop_at l k h', cnt, if_neg (by simp [h])]
 . rw [qg h']; rfl
theorem ZY (p : UInt8 -> Bool) : ∀ l : List UInt8, cnt p l <= l.length
 | [] => jB _
 | c :: r => by rw [cnt]; have := ZY p r; split <;> simp <;> omega
theorem SH : jQ 0 = false := by decide
theorem R3 : J8 0 = false := by decide
section
variable {l : List UInt8} {i : Nat} {K : Int} {E D : Nat}
theorem mY (l : List UInt8) (i : Nat) : Jp (l.drop i) =
 if (Jj l i).toNat = 45 then
  if (Jj l (i + 1)).toNat = 62 then (5, 2) else if jQ (Jj l (i + 1)) then num (l.drop i) 1 (cnt jQ (l.drop (i + 1))) else one (Jj l i)
 else if jQ (Jj l i) then num (l.drop i) 0 (cnt jQ (l.drop i))
 else if ql (Jj l i) then (3, cnt J8 (l.drop (i + 1)) + 1)
 else if QP (Jj l i) then (4, cnt J8 (l.drop (i + 1)) + 1)
 else one (Jj l i) := by
 unfold Jp; simp only [zP, jZ, List.drop_drop]
end
end Lx
namespace Lx
structure Tok where
 kind : Int
 pos : Nat
 text : List UInt8
 int : Int
def Qn : List UInt8 -> Nat -> Nat
 | [], acc => acc
 | c :: r, acc => Qn r (acc * 10 + (c.toNat - 48))
theorem Vg (c : UInt8) (r : List UInt8) (acc : Nat) : Qn (c :: r) acc = Qn r (acc * 10 + (c.toNat - 48)) := rfl
def Gd (l : List UInt8) : Int := if (Jj l 0).toNat = 45 then -(Qn (l.drop 1) 0 : Int) else Qn l 0
def yo (p : Nat) (k : Int) (t : List UInt8) : Tok := ⟨k, p, t, if k = 2 then Gd t else 0⟩
def toks : Nat -> Nat -> List UInt8 -> List Tok × Option Nat
 | 0, _, _ => ([], none)
 | f + 1, p, l =>
   let a := JD false l
   if l.length <= a then ([], none) else
    let r := l.drop a
    let n := (Jp r).2
    if n = 0 then ([], some (p + a)) else
     let x := toks f (p + a + n) (r.drop n)
     (yo (p + a) (Jp r).1 (r.take n) :: x.1, x.2)
theorem yN (p : UInt8 -> Bool) : ∀ (l : List UInt8), ∀ c ∈ l.take (cnt p l), p c = true
 | [], c, h => by simp at h
 | d :: r, c, h => by
   rw [cnt] at h; by_cases hd : p d
   . rw [if_pos hd, Zo] at h
     rcases jf.1 h with rfl | h
     . exact hd
     . exact yN p r c h
   . rw [if_neg hd] at h; simp at h
theorem Yp : ∀ (b : Bool) (l : List UInt8), JD b l <= l.length
 | b, [] => by cases b <;> simp [JD]
 | false, c :: r => by
   rw [JD]; have h1 := Yp false r; have h2 := Yp true r
   split
   . simp; omega
   . split
     . simp; omega
     . simp
 | true, c :: r => by
   rw [JD]; have h1 := Yp false r; have h2 := Yp true r
   split <;> simp <;> omega
inductive Way (l : List UInt8) : Int -> Nat -> Prop
 | arrow : (Jj l 0).toNat = 45 -> (Jj l 1).toNat = 62 -> Way l 5 2
 | neg : (Jj l 0).toNat = 45 -> jQ (Jj l 1) = true -> cnt jQ (l.drop 1) <= 18 -> J8 (Jj l (1 + cnt jQ (l.drop 1))) = false -> Way l 2 (1 + cnt jQ (l.drop 1))
 | pos : jQ (Jj l 0) = true -> cnt jQ l <= 18 -> J8 (Jj l (cnt jQ l)) = false -> Way l 2 (cnt jQ l)
 | name : ql (Jj l 0) = true -> Way l 3 (cnt J8 (l.drop 1) + 1)
 | KJ : QP (Jj l 0) = true -> Way l 4 (cnt J8 (l.drop 1) + 1)
 | one : ¬ single (Jj l 0) < 0 -> ((Jj l 0).toNat = 45 -> (Jj l 1).toNat ≠ 62 /\ jQ (Jj l 1) = false) -> Way l (single (Jj l 0)) 1
 | none : Way l 0 0
theorem Y8 (c : UInt8) : single c = 0 \/ single c = 1 \/ single c = 5 \/ single c = -1 := by
 unfold single; repeat' split
 all_goals simp
theorem way (l : List UInt8) : Way l (Jp l).1 (Jp l).2 := by
 unfold Jp; simp only []; by_cases h1 : (Jj l 0).toNat = 45
 . rw [if_pos h1]; by_cases h2 : (Jj l 1).toNat = 62
   . rw [if_pos h2]; exact .arrow h1 h2
   . rw [if_neg h2]; by_cases h3 : jQ (Jj l 1) = true
     . rw [if_pos h3]; unfold num; by_cases h4 : (decide (18 < cnt jQ (l.drop 1)) || J8 (Jj l (1 + cnt jQ (l.drop 1)))) = true
       . rw [if_pos h4]; exact .none
       . rw [if_neg h4]; simp only [Bool.or_eq_true, Qv, not_or] at h4; exact .neg h1 h3 (by omega) (by simpa using h4.2)
     . rw [if_neg h3]; unfold one; by_cases h4 : single (Jj l 0) < 0
       . rw [if_pos h4]; exact .none
       . rw [if_neg h4]; exact .one h4 (fun _ => ⟨h2, by simpa using h3⟩)
 . rw [if_neg h1]; by_cases h2 : jQ (Jj l 0) = true
   . rw [if_pos h2]; unfold num; by_cases h4 : (decide (18 < cnt jQ l) || J8 (Jj l (0 + cnt jQ l))) = true
     . rw [if_pos h4]; exact .none
     . rw [if_neg h4]; simp only [Bool.or_eq_true, Qv, not_or, JN] at h4; rw [JN]; exact .pos h2 (by omega) (by simpa using h4.2)
   . rw [if_neg h2]; by_cases h3 : ql (Jj l 0) = true
     . rw [if_pos h3]; exact .name h3
     . rw [if_neg h3]; by_cases h4 : QP (Jj l 0) = true
       . rw [if_pos h4]; exact .KJ h4
       . rw [if_neg h4]; unfold one; by_cases h5 : single (Jj l 0) < 0
         . rw [if_pos h5]; exact .none
         . rw [if_neg h5]; exact .one h5 (fun h => absurd h h1)
theorem yA (l : List UInt8) (k : Nat) (p : UInt8 -> Bool) (h0 : p 0 = false) (h : p (Jj l k) = true) : k < l.length := by
 rcases ZA k l.length with h' | h'
 . exact h'
 . rw [ui l k h', h0] at h; exact absurd h (by decide)
theorem Wj (l : List UInt8) : (Jp l).2 <= l.length := by
 have hw := way l
 revert hw
 generalize (Jp l).1 = k; generalize (Jp l).2 = n; intro hw; cases hw with
 | arrow h1 h2 => 
   have := yA l 1 (fun c => c.toNat == 62) (by decide) (by simp [h2]); omega
 | neg h1 h2 h3 h4 => 
   have := yA l 1 jQ (by decide) h2; have := ZY jQ (l.drop 1); rw [ja] at this; omega
 | pos h1 h2 h3 => exact ZY _ _
 | name h => 
   have := yA l 0 ql (by decide) h; have := ZY J8 (l.drop 1); rw [ja] at this; omega
 | KJ h => 
   have := yA l 0 QP (by decide) h; have := ZY J8 (l.drop 1); rw [ja] at this; omega
 | one h _ => 
   have := yA l 0 (fun c => decide (¬ single c < 0)) (by decide) (by simpa using h); omega
 | none => omega
theorem zl (c : UInt8) (h : jQ c = true) : 48 <= c.toNat /\ c.toNat <= 57 := by simpa [jQ] using h
theorem uM (l : List UInt8) : ∀ (acc b : Nat), (∀ c ∈ l, jQ c = true) -> acc < b -> Qn l acc < b * 10 ^ l.length := by
 induction l with
 | nil => intro acc b _ h; rw [Qa, Nat.pow_zero, qX]; exact h
 | cons c r ih =>
   intro acc b hd h; have hc := zl c (hd c (by simp)); have := ih (acc * 10 + (c.toNat - 48)) (b * 10) (fun d h => hd d (by simp [h])) (by omega); rw [Vg, JG, Nat.pow_succ, Nat.mul_comm (10 ^ r.length), <- Nat.mul_assoc]; exact this
theorem Cz (n : Nat) (h : n <= 18) : 10 ^ n <= 1000000000000000000 := jS (Nat.pow_le_pow_right (by omega) h) (jB (10 ^ 18))
theorem Wl (l : List UInt8) (n k : Nat) (h : k < n) : Jj (l.take n) k = Jj l k := by
 unfold Jj; rw [jL, jL, WS h]
end Lx
namespace Px
open Lx (Tok)
inductive Node where
 | mk (tok : Tok) (list : List Node) (takes : Nat)
def Node.tok : Node -> Tok | .mk t _ _ => t
def Node.list : Node -> List Node | .mk _ l _ => l
def Node.takes : Node -> Nat | .mk _ _ k => k
def Node.pos (n : Node) : Nat := n.tok.pos
def Node.text (n : Node) : List UInt8 := n.tok.text
abbrev R (α : Type) := Except Nat α
def qQ (t : List UInt8) : Nat :=
 if t = [43] \/ t = [45] \/ t = [42] \/ t = [47] \/ t = [37] \/ t = [61] \/ t = [60] \/ t = [99, 112, 120] \/ t = [99, 97, 100, 100] \/ t = [99, 109, 117, 108] then 2
 else if t = [114, 101] \/ t = [105, 109] then 1 else 0
mutual
def node (stop : Nat) : Nat -> Nat -> List Tok -> R (Node × List Tok)
 | 0, _, _ => .error stop
 | _ + 1, _, [] => .error stop
 | f + 1, d, t :: ts =>
   if t.kind = 1 then .error t.pos
   else if t.kind = 0 then
    if d = 40 then .error t.pos else
     match rest stop f (d + 1) ts with
     | .error p => .error p
     | .ok (l, ts') => .ok (.mk t l 0, ts')
   else .ok (.mk t [] (qQ t.text), ts)
def rest (stop : Nat) : Nat -> Nat -> List Tok -> R (List Node × List Tok)
 | 0, _, _ => .error stop
 | _ + 1, _, [] => .error stop
 | f + 1, d, t :: ts =>
   if t.kind = 1 then .ok ([], ts) else
    match node stop f d (t :: ts) with
    | .error p => .error p
    | .ok (n, ts') =>
      match rest stop f d ts' with
      | .error p => .error p
      | .ok (l, Oe) => .ok (n :: l, Oe)
end
def qR (n : Node) : Bool :=
 !(n.text == [100, 97, 116, 97] || n.text == [100, 101, 102] || n.text == [102, 110] || n.text == [108, 101, 116] || n.text == [99, 97, 115, 101]) && n.tok.kind == 3 && n.takes == 0
def jR (n : Node) : Bool := n.tok.kind == 0
def qY (n : Node) : Bool := n.tok.kind == 4
def yB (n : Node) : Bool := n.tok.kind == 2
def word (n : Node) : List UInt8 :=
 match n.list with
 | [] => []
 | m :: _ => if jR m then [] else m.text
def hold (n : Node) (least most : Nat) : R Unit :=
 if n.list.length < least then .error n.pos else
  match n.list[most]? with
  | some m => .error m.pos
  | none => .ok ()
def nodes (n : Node) (least most : Nat) : R (List Node) :=
 if jR n then
  match hold n least most with
  | .error p => .error p
  | .ok _ => .ok n.list
 else .error n.pos
def each {α : Type} (f : Node -> R α) : List Node -> R (List α)
 | [] => .ok []
 | n :: r =>
   match f n with
   | .error p => .error p
   | .ok x =>
     match each f r with
     | .error p => .error p
     | .ok xs => .ok (x :: xs)
def name (n : Node) : R (List UInt8) := if qR n then .ok n.text else .error n.pos
def qD (n : Node) : R (List UInt8) := if qY n then .ok n.text else .error n.pos
def names (n : Node) (least : Nat) : R (List (List UInt8)) :=
 match nodes n least 8 with
 | .error p => .error p
 | .ok l => each name l
inductive zR where
 | mk (pos : Nat) (name : List UInt8) (args : List zR)
inductive QJ where
 | mk (kind : Nat) (pos : Nat) (name : List UInt8) (int : Int) (args : List QJ)
inductive Expr where
 | mk (kind : Nat) (pos : Nat) (name : List UInt8) (int : Int) (names : List (List UInt8)) (args : List Expr) (alts : List (QJ × Expr))
def Q9 : Nat -> Node -> R zR
 | 0, n => .error n.pos
 | f + 1, n =>
   if qY n || qR n then .ok (.mk n.pos n.text [])
   else match nodes n 2 9 with
    | .error p => .error p
    | .ok l =>
      match (if word n = [45, 62] then (match hold n 3 3 with | .error p => .error p | .ok _ => .ok [45, 62]) else qD (l.headD n)) with
      | .error p => .error p
      | .ok nm =>
        match each (Q9 f) l.tail with
        | .error p => .error p
        | .ok xs => .ok (.mk n.pos nm xs)
def pat : Nat -> Node -> R QJ
 | 0, n => .error n.pos
 | f + 1, n =>
   if jR n then
    match nodes n 2 9 with
    | .error p => .error p
    | .ok l =>
      match qD (l.headD n) with
      | .error p => .error p
      | .ok nm =>
        match each (pat f) l.tail with
        | .error p => .error p
        | .ok xs => .ok (.mk 3 n.pos nm 0 xs)
   else if yB n then .ok (.mk 2 n.pos [] n.tok.int [])
   else if qY n then .ok (.mk 3 n.pos n.text 0 [])
   else if qR n then .ok (.mk 1 n.pos n.text 0 [])
   else if n.text = [95] then .ok (.mk 0 n.pos [] 0 [])
   else .error n.pos
def pair (ex : Node -> R Expr) (b : Node) : R (List UInt8 × Expr) :=
 match nodes b 2 2 with
 | .error p => .error p
 | .ok l =>
   match name (l.headD b) with
   | .error p => .error p
   | .ok s =>
     match ex (l.getD 1 b) with
     | .error p => .error p
     | .ok x => .ok (s, x)
def alt (f : Nat) (ex : Node -> R Expr) (b : Node) : R (QJ × Expr) :=
 match nodes b 2 2 with
 | .error p => .error p
 | .ok l =>
   match pat f (l.headD b) with
   | .error p => .error p
   | .ok s =>
     match ex (l.getD 1 b) with
     | .error p => .error p
     | .ok x => .ok (s, x)
def zU (ex : Node -> R Expr) (n : Node) : R Expr :=
 match nodes n 3 3 with
 | .error p => .error p
 | .ok l =>
   match names (l.getD 1 n) 1 with
   | .error p => .error p
   | .ok ns =>
     match ex (l.getD 2 n) with
     | .error p => .error p
     | .ok x => .ok (.mk 3 n.pos [] 0 ns [x] [])
def letExpr (ex : Node -> R Expr) (n : Node) : R Expr :=
 match nodes n 3 3 with
 | .error p => .error p
 | .ok l =>
   match nodes (l.getD 1 n) 1 8 with
   | .error p => .error p
   | .ok ps =>
     match each (pair ex) ps with
     | .error p => .error p
     | .ok bs =>
       match ex (l.getD 2 n) with
       | .error p => .error p
       | .ok x => .ok (.mk 4 n.pos [] 0 (bs.map (·.1)) (bs.map (·.2) ++ [x]) [])
def qm (f : Nat) (ex : Node -> R Expr) (n : Node) : R Expr :=
 match nodes n 3 18 with
 | .error p => .error p
 | .ok l =>
   match ex (l.getD 1 n) with
   | .error p => .error p
   | .ok x =>
     match each (alt f ex) (l.drop 2) with
     | .error p => .error p
     | .ok bs => .ok (.mk 5 n.pos [] 0 [] [x] bs)
def J2 (ex : Node -> R Expr) (n : Node) : R Expr :=
 match nodes n 2 9 with
 | .error p => .error p
 | .ok l =>
   let first := l.headD n
   if 0 < first.takes then
    match hold n (1 + first.takes) (1 + first.takes) with
    | .error p => .error p
    | .ok _ =>
      match each ex l.tail with
      | .error p => .error p
      | .ok xs => .ok (.mk 7 n.pos first.text 0 [] xs [])
   else if qY first then
    match each ex l.tail with
    | .error p => .error p
    | .ok xs => .ok (.mk 2 n.pos first.text 0 [] xs [])
   else
    match each ex l with
    | .error p => .error p
    | .ok xs => .ok (.mk 6 n.pos [] 0 [] xs [])
def listExpr (f : Nat) (ex : Node -> R Expr) (n : Node) : R Expr :=
 if word n = [102, 110] then zU ex n
 else if word n = [108, 101, 116] then letExpr ex n
 else if word n = [99, 97, 115, 101] then qm f ex n
 else J2 ex n
def expr : Nat -> Node -> R Expr
 | 0, n => .error n.pos
 | f + 1, n =>
   if jR n then listExpr f (expr f) n
   else if yB n then .ok (.mk 0 n.pos [] n.tok.int [] [] [])
   else if qY n then .ok (.mk 2 n.pos n.text 0 [] [] [])
   else if qR n then .ok (.mk 1 n.pos n.text 0 [] [] [])
   else .error n.pos
structure dJ where
 pos : Nat
 name : List UInt8
 fields : List zR
structure Data where
 pos : Nat
 name : List UInt8
 params : List (List UInt8)
 cons : List dJ
structure Def where
 pos : Nat
 name : List UInt8
 params : List (List UInt8)
 body : Expr
structure Prog where
 jF : List Data
 defs : List Def
def KJ (f : Nat) (n : Node) : R dJ :=
 match nodes n 1 9 with
 | .error p => .error p
 | .ok l =>
   match qD (l.headD n) with
   | .error p => .error p
   | .ok s =>
     match each (Q9 f) l.tail with
     | .error p => .error p
     | .ok ts => .ok ⟨n.pos, s, ts⟩
def data (f : Nat) (n : Node) : R Data :=
 match nodes n 4 103 with
 | .error p => .error p
 | .ok l =>
   match qD (l.getD 1 n) with
   | .error p => .error p
   | .ok s =>
     match names (l.getD 2 n) 0 with
     | .error p => .error p
     | .ok ps =>
       match each (KJ f) (l.drop 3) with
       | .error p => .error p
       | .ok cs => .ok ⟨n.pos, s, ps, cs⟩
def defn (f : Nat) (n : Node) : R Def :=
 match nodes n 4 4 with
 | .error p => .error p
 | .ok l =>
   match name (l.getD 1 n) with
   | .error p => .error p
   | .ok s =>
     match names (l.getD 2 n) 0 with
     | .error p => .error p
     | .ok ps =>
       match expr f (l.getD 3 n) with
       | .error p => .error p
       | .ok x => .ok ⟨n.pos, s, ps, x⟩
def prog (stop : Nat) : Nat -> Nat -> List Tok -> R Prog
 | 0, _, _ => .ok ⟨[], []⟩
 | _ + 1, _, [] => .ok ⟨[], []⟩
 | f + 1, c, ts =>
   match node stop (2 * ts.length + 2) 0 ts with
   | .error p => .error p
   | .ok (n, ts') =>
     if c = 100 then .error n.pos
     else if word n = [100, 97, 116, 97] then
      match data 50 n with
      | .error p => .error p
      | .ok d => match prog stop f (c + 1) ts' with
        | .error p => .error p
        | .ok q => .ok ⟨d :: q.jF, q.defs⟩
     else if word n = [100, 101, 102] then
      match defn 50 n with
      | .error p => .error p
      | .ok d => match prog stop f (c + 1) ts' with
        | .error p => .error p
        | .ok q => .ok ⟨q.jF, d :: q.defs⟩
     else .error n.pos
def Ko (stop : Nat) (ts : List Tok) : R Expr :=
 match node stop (2 * ts.length + 2) 0 ts with
 | .error p => .error p
 | .ok (n, ts') =>
   match ts' with
   | t :: _ => .error t.pos
   | [] => expr 50 n
inductive Outcome (α : Type) where
 | lex (p : Nat)
 | parse (p : Nat)
 | done (x : α)
def parsed {α : Type} (read : Nat -> List Tok -> R α) (l : List UInt8) : Outcome α :=
 if 4096 < l.length then .lex 4096 else
  match Lx.toks (l.length + 1) 0 l with
  | (_, some q) => .lex q
  | (ts, none) =>
    match read l.length ts with
    | .error p => .parse p
    | .ok x => .done x
def program (l : List UInt8) : Outcome Prog := parsed (fun stop ts => prog stop (ts.length + 1) 0 ts) l
def mZ (l : List UInt8) : Outcome Expr := parsed Ko l
def Fits : Nat -> Node -> Prop
 | 0, n => n.list = []
 | k + 1, n => ∀ m ∈ n.list, Fits k m
end Px
end Go.Proofs.YtlnjdclmopblcaaDoor
namespace Go.Proofs.YtlnjdclmopblcaaDoor
open Go Go.RowKit
theorem Wm {a b : Bool} (h : a = b) : Ending.returned (.bool a) = .returned (.bool b) := by rw [h]
def Zq (t : Lx.Tok) : List Value := [.int .i64 t.kind, .int .i64 t.pos, .string ⟨t.text.toArray⟩, .int .i64 t.int]
def Qo (ts : List Lx.Tok) : List Value := ts.flatMap Zq
def BytesAt (w : World) (b off : Nat) (l : List UInt8) : Prop := ∀ j, j < l.length -> w.cell? ⟨b, off + j, none⟩ = some (.int .u8 (Lx.Jj l j).toNat)
theorem BytesAt.below {w w' : World} {b off : Nat} {l : List UInt8} (h : BytesAt w b off l) (hb : Below w.heap.size w w') : BytesAt w' b off l := fun j hj => by
 have := h j hj; rw [hb.cell (JK w _ this)]; exact this
def o7 (l : List UInt8) (done : List Lx.Tok) (E : Nat) : Prop :=
 ∃ f, l.length < E + f /\ Lx.toks (l.length + 1) 0 l = (done ++ (Lx.toks f E (l.drop E)).1, (Lx.toks f E (l.drop E)).2)
theorem FQ (l : List UInt8) : o7 l [] 0 := ⟨l.length + 1, by omega, by simp⟩
theorem FT (f p : Nat) (l : List UInt8) : Lx.toks (f + 1) p l =
 if l.length <= Lx.JD false l then ([], none) else
  if (Lx.Jp (l.drop (Lx.JD false l))).2 = 0 then ([], some (p + Lx.JD false l)) else
   (Lx.yo (p + Lx.JD false l) (Lx.Jp (l.drop (Lx.JD false l))).1 ((l.drop (Lx.JD false l)).take (Lx.Jp (l.drop (Lx.JD false l))).2) ::
     (Lx.toks f (p + Lx.JD false l + (Lx.Jp (l.drop (Lx.JD false l))).2) ((l.drop (Lx.JD false l)).drop (Lx.Jp (l.drop (Lx.JD false l))).2)).1,
    (Lx.toks f (p + Lx.JD false l + (Lx.Jp (l.drop (Lx.JD false l))).2) ((l.drop (Lx.JD false l)).drop (Lx.Jp (l.drop (Lx.JD false l))).2)).2) := rfl
theorem Ps {l : List UInt8} {done : List Lx.Tok} {E A : Nat} (h : o7 l done E) (hE : E <= l.length) (hA : E + Lx.JD false (l.drop E) = A) :
 A <= l.length /\ E <= A /\ (A = l.length -> Lx.toks (l.length + 1) 0 l = (done, none)) /\
 (A < l.length -> (Lx.Jp (l.drop A)).2 = 0 -> (Lx.toks (l.length + 1) 0 l).2 = some A) /\
 (A < l.length -> (Lx.Jp (l.drop A)).2 ≠ 0 -> o7 l (done ++ [Lx.yo A (Lx.Jp (l.drop A)).1 ((l.drop A).take (Lx.Jp (l.drop A)).2)]) (A + (Lx.Jp (l.drop A)).2)) := by
 obtain ⟨f, hf, ht⟩ := h; have hle := Lx.Yp false (l.drop E); rw [ja] at hle; obtain ⟨f, rfl⟩ : ∃ g, f = g + 1 := ⟨f - 1, by omega⟩
 rw [FT f E (l.drop E), ja, List.drop_drop, hA] at ht; refine ⟨by omega, by omega, ?_, ?_, ?_⟩
 . intro he; rw [if_pos (by omega)] at ht; rw [ht]; simp
 . intro h1 h2; rw [if_neg (by omega), if_pos h2] at ht; rw [ht]
 . intro h1 h2; rw [if_neg (by omega), if_neg h2, List.drop_drop] at ht; exact ⟨f, by omega, by rw [ht]; simp⟩
theorem Wn {B : Nat} {w w' : World} (h : Below B w w') (hB : w.heap.size <= B) (row : Option Nat) : w.grownBy w' row := ⟨h.os, h.tape, h.output, h.size, fun k hk _ => h.block k (by omega)⟩
theorem SI : (Tryd.prog.info? 70).map (fun i => (i.zero, i.size, i.bytes)) = some (some (.agg #[.int .i64 0, .int .i64 0, .string ⟨#[]⟩, .int .i64 0]), 4, 40) := by kernel_rfl
theorem jc {w w' : World} {base : Nat} {e : TypeId} {size : Nat} {v : Value} {n : Nat} {xs : List Value} (h : w.ownsRow base e size v n xs) (hb : Below w.heap.size w w') : w'.ownsRow base e size v n xs := by
 refine h.kept (Wn hb (jB _) (some w.heap.size)) ?_; cases hv : v.ownBlock with
 | none => exact .inl rfl
 | some k => exact .inr (by have := (h.lt k hv).2; simp; omega)
theorem Pt (w : World) (x0 x1 x2 x3 : Value) (T : TypeId) (j : Nat) (u : Value) (h : [x0, x1, x2, x3][j]? = some u) :
 (w.alloc (.cells #[x0, x1, x2, x3] T)).cell? ((⟨w.heap.size, 0, none⟩ : Addr).add j) = some u := by
 have e : (⟨w.heap.size, 0, none⟩ : Addr).add j = ⟨w.heap.size, j, none⟩ := by unfold Addr.add; split <;> simp_all
 rw [e, jT]
 simpa using h
theorem ma (k p i : Int) (t : ByteArray) : ∀ u ∈ [Value.int .i64 k, .int .i64 p, .string t, .int .i64 i], u.oneCell' = true := by
 intro u hu; simp only [jf, Ja, Qu] at hu
 rcases hu with rfl | rfl | rfl | rfl <;> rfl
end Go.Proofs.YtlnjdclmopblcaaDoor
namespace Go.Proofs.YtlnjdclmopblcaaDoor
open Go Go.RowKit
theorem mf {w : World} {base : Nat} {v : Value} {ts : List Lx.Tok} (h : w.ownsRow base 70 4 v ts.length (Qo ts)) (hne : ts ≠ []) :
 ∃ g cap, v = .slice (some ⟨g, 0, none⟩) ts.length cap /\ base <= g /\ g < w.heap.size /\ ts.length <= cap /\ (cap : Int) <= 9223372036854775807 /\
  ∀ i t, ts[i]? = some t -> w.cell? ⟨g, i * 4, none⟩ = some (.int .i64 t.kind) /\ w.cell? ⟨g, i * 4 + 1, none⟩ = some (.int .i64 t.pos) /\ w.cell? ⟨g, i * 4 + 2, none⟩ = some (.string ⟨t.text.toArray⟩) /\ w.cell? ⟨g, i * 4 + 3, none⟩ = some (.int .i64 t.int) := by
 obtain ⟨hlen, h0 | ⟨g, cap, cur, rfl, hb, hh, hn, hm, hsz, htk⟩⟩ := h
 . exact absurd (JP h0.2) hne
 . refine ⟨g, cap, rfl, hb, ?_, hn, by unfold maxLen at hm; omega, ?_⟩
   . rcases ZA g w.heap.size with h' | h'
     . exact h'
     . rw [Vf h'] at hh; exact absurd hh (by simp)
   . have key : ∀ k u, (Qo ts)[k]? = some u -> w.cell? ⟨g, k, none⟩ = some u := by
      intro k u hk; have := Zn (w := w) (base := base) (e := 70) (size := 4) (v := .slice (some ⟨g, 0, none⟩) ts.length cap) (n := ts.length) (xs := Qo ts) ⟨hlen, .inr ⟨g, cap, cur, rfl, hb, hh, hn, hm, hsz, htk⟩⟩ (g := g) rfl k u hk; have e : (⟨g, 0, none⟩ : Addr).add k = ⟨g, k, none⟩ := by unfold Addr.add; split <;> simp_all
      rwa [e] at this
     have part : ∀ (ts : List Lx.Tok) i t, ts[i]? = some t -> ∀ j, j < 4 -> (Qo ts)[i * 4 + j]? = (Zq t)[j]? := by
      intro ts
      induction ts with
      | nil => intro i t h; simp at h
      | cons a r ih =>
        intro i t h j hj; have e : Qo (a :: r) = Zq a ++ Qo r := by simp [Qo]
        have hl : (Zq a).length = 4 := rfl; cases i with
        | zero =>
          simp at h; subst h
          rw [e, Yh (by omega)]; simp
        | succ i =>
          simp at h; rw [e, ZP (by omega), hl]; have := ih i t h j hj; rw [<- this]; congr 1; omega
     intro i t h; refine ⟨?_, ?_, ?_, ?_⟩
     . exact key _ _ (by have := part ts i t h 0 (by omega); simpa [Zq] using this)
     . exact key _ _ (by have := part ts i t h 1 (by omega); simpa [Zq] using this)
     . exact key _ _ (by have := part ts i t h 2 (by omega); simpa [Zq] using this)
     . exact key _ _ (by have := part ts i t h 3 (by omega); simpa [Zq] using this)
end Go.Proofs.YtlnjdclmopblcaaDoor
namespace Go.Proofs.YtlnjdclmopblcaaDoor
open Go Go.RowKit
open Go Go.RowKit
namespace Px
theorem kK {α : Type} (f : Node -> R α) (a b : List Node) : each f (a ++ b) = match each f a with | .error p => .error p | .ok xs => match each f b with | .error p => .error p | .ok ys => .ok (xs ++ ys) := by
 induction a with
 | nil => simp only [J6, each]; cases each f b <;> rfl
 | cons n r ih =>
   simp only [JQ, each, ih]; cases f n with
   | error p => rfl
   | ok x =>
     cases each f r with
     | error p => rfl
     | ok xs => cases each f b <;> rfl
theorem qU {α : Type} {f : Node -> R α} {l : List Node} {k : Nat} {n : Node} {xs : List α} (hn : l[k]? = some n) (h : each f (l.take k) = .ok xs) :
 (∀ x, f n = .ok x -> each f (l.take (k + 1)) = .ok (xs ++ [x])) /\ (∀ p, f n = .error p -> each f l = .error p) := by
 obtain ⟨hk, rfl⟩ := jm.1 hn; refine ⟨fun x hx => ?_, fun p hp => ?_⟩
 . rw [List.take_succ_eq_append_getElem hk, kK, h]; simp only [each, hx]
 . rw [<- uK k l, kK, h, Jg hk]; simp only [each, hp]
theorem vg {α : Type} {f : Node -> R α} : ∀ {l : List Node} {xs : List α}, each f l = .ok xs -> xs.length = l.length := by
 intro l
 induction l with
 | nil => intro xs h; simp only [each, jJ] at h; subst h; rfl
 | cons n r ih =>
   intro xs h; simp only [each] at h; cases hf : f n with
   | error p => rw [hf] at h; cases h
   | ok x =>
     rw [hf] at h; cases hr : each f r with
     | error p => rw [hr] at h; cases h
     | ok ys => rw [hr] at h; simp only [jJ] at h; subst h; simp [ih hr]
end Px
def qw {α : Type} (Js : Value -> α -> Prop) : List Value -> List α -> Prop
 | [], [] => True
 | v :: vs, x :: xs => Js v x /\ qw Js vs xs
 | _, _ => False
theorem qw.len {α : Type} {Js : Value -> α -> Prop} : ∀ {vs : List Value} {xs : List α}, qw Js vs xs -> vs.length = xs.length
 | [], [], _ => rfl
 | _ :: _, _ :: _, h => by simp [qw.len h.2]
 | [], _ :: _, h => h.elim
 | _ :: _, [], h => h.elim
theorem qw.snoc {α : Type} {Js : Value -> α -> Prop} {v : Value} {x : α} (hx : Js v x) : ∀ {vs : List Value} {xs : List α}, qw Js vs xs -> qw Js (vs ++ [v]) (xs ++ [x])
 | [], [], _ => ⟨hx, trivial⟩
 | _ :: _, _ :: _, h => ⟨h.1, qw.snoc hx h.2⟩
 | [], _ :: _, h => h.elim
 | _ :: _, [], h => h.elim
theorem qw.mono {α : Type} {Js mg : Value -> α -> Prop} (hr : ∀ v x, Js v x -> mg v x) : ∀ {vs : List Value} {xs : List α}, qw Js vs xs -> qw mg vs xs
 | [], [], _ => trivial
 | _ :: vs, _ :: xs, h => ⟨hr _ _ h.1, qw.mono hr h.2⟩
 | [], _ :: _, h => h.elim
 | _ :: _, [], h => h.elim
theorem qw.at {α : Type} {Js : Value -> α -> Prop} : ∀ {vs : List Value} {xs : List α} {i : Nat} {x : α}, qw Js vs xs -> xs[i]? = some x -> ∃ v, vs[i]? = some v /\ Js v x
 | [], [], _, _, _, h => by simp at h
 | v :: _, _ :: _, 0, _, h, hx => by simp at hx; subst hx; exact ⟨v, rfl, h.1⟩
 | _ :: _, _ :: _, _ + 1, _, h, hx => by simp at hx; simpa using qw.at h.2 hx
 | [], _ :: _, _, _, h, _ => h.elim
 | _ :: _, [], _, _, h, _ => h.elim
def cellsOf (vs : List Value) : List Value := vs.flatMap fun v => v.cells.toList
theorem vk (sz : Nat) : ∀ {vs : List Value}, (∀ v ∈ vs, v.cells.size = sz) -> (cellsOf vs).length = vs.length * sz
 | [], _ => by simp [cellsOf]
 | v :: vs, h => by
   have e : cellsOf (v :: vs) = v.cells.toList ++ cellsOf vs := by simp [cellsOf]
   rw [e, jE, KI, h v (by simp), vk sz (fun u hu => h u (by simp [hu])), JG, Qz]; omega
theorem ZG (sz : Nat) : ∀ {vs : List Value} {i j : Nat} {v c : Value}, (∀ v ∈ vs, v.cells.size = sz) -> vs[i]? = some v -> v.cells[j]? = some c -> (cellsOf vs)[i * sz + j]? = some c
 | [], _, _, _, _, _, h, _ => by simp at h
 | u :: vs, 0, j, v, c, hs, h, hc => by
   simp at h; subst h
   have e : cellsOf (u :: vs) = u.cells.toList ++ cellsOf vs := by simp [cellsOf]
   have hj : j < u.cells.size := (JW.1 hc).1; rw [e, KX, JN, Yh (by simpa using hj)]; simpa using hc
 | u :: vs, i + 1, j, v, c, hs, h, hc => by
   simp at h; have e : cellsOf (u :: vs) = u.cells.toList ++ cellsOf vs := by simp [cellsOf]
   have hu := hs u (by simp); rw [e, ZP (by rw [KI, hu, Qz]; omega), KI, hu]; have := ZG sz (fun x hx => hs x (by simp [hx])) h hc; rw [<- this]; congr 1; rw [Qz]; omega
def JO {α : Type} (sz : Nat) (Js : Value -> α -> Prop) (w : World) (v : Value) (xs : List α) : Prop :=
 (xs = [] /\ ∃ p c, v = .slice p 0 c) \/
   ∃ g o c, v = .slice (some ⟨g, o, none⟩) xs.length c /\ xs.length <= c /\ (c : Int) <= 9223372036854775807 /\
    ∀ i x, xs[i]? = some x -> ∃ u, Js u x /\ u.cells.size = sz /\ ∀ j z, u.cells[j]? = some z -> w.cell? ⟨g, o + i * sz + j, none⟩ = some z
theorem JO.len {α : Type} {sz : Nat} {Js : Value -> α -> Prop} {w : World} {v : Value} {xs : List α} (h : JO sz Js w v xs) : ∃ p c, v = .slice p xs.length c := by
 rcases h with ⟨rfl, p, c, rfl⟩ | ⟨g, o, c, h, _⟩
 . exact ⟨p, c, rfl⟩
 . exact ⟨_, c, h⟩
theorem JO.mono {α : Type} {sz : Nat} {Js mg : Value -> α -> Prop} {w w' : World} {v : Value} {xs : List α} (h : JO sz Js w v xs) (hb : Below w.heap.size w w') (hr : ∀ u x, x ∈ xs -> Js u x -> mg u x) : JO sz mg w' v xs := by
 rcases h with h | ⟨g, o, c, h1, h2, h3, h4⟩
 . exact .inl h
 . refine .inr ⟨g, o, c, h1, h2, h3, fun i x hx => ?_⟩; obtain ⟨u, a, b, d⟩ := h4 i x hx; refine ⟨u, hr u x (jI hx) a, b, fun j z hz => ?_⟩; have := d j z hz; rw [hb.cell (JK w _ this)]; exact this
def New {α : Type} (Js : World -> Value -> α -> Prop) (w w' : World) (v : Value) (x : α) : Prop :=
 ∀ u : World, (∀ b, w.heap.size <= b -> b < w'.heap.size -> u.heap[b]? = w'.heap[b]?) -> Js u v x
theorem New.now {α : Type} {Js : World -> Value -> α -> Prop} {w w' : World} {v : Value} {x : α} (h : New Js w w' v x) : Js w' v x := h w' fun _ _ _ => rfl
def Kept {α : Type} (Js : World -> Value -> α -> Prop) (base : Nat) (w : World) (ob : Option Nat) (v : Value) (x : α) : Prop :=
 ∃ lo hi, base <= lo /\ hi <= w.heap.size /\ (∀ g, ob = some g -> g < lo \/ hi <= g) /\ ∀ u : World, (∀ b, lo <= b -> b < hi -> u.heap[b]? = w.heap[b]?) -> Js u v x
theorem Kept.since {α : Type} {Js : World -> Value -> α -> Prop} {base : Nat} {w w' : World} {ob SK : Option Nat} {v : Value} {x : α} (h : Kept Js base w ob v x) (hs : w.heap.size <= w'.heap.size)
 (hk : ∀ b, base <= b -> b < w.heap.size -> ob ≠ some b -> w'.heap[b]? = w.heap[b]?) (ho : SK = ob \/ ∀ g, SK = some g -> w.heap.size <= g) : Kept Js base w' SK v x := by
 obtain ⟨lo, hi, h0, h1, h2, h3⟩ := h; refine ⟨lo, hi, h0, by omega, fun g hg => ?_, fun u hu => h3 u fun b hb1 hb2 => ?_⟩
 . rcases ho with rfl | ho
   . exact h2 g hg
   . have := ho g hg; omega
 . rw [hu b hb1 hb2]; exact hk b (by omega) (by omega) (fun e => by have := h2 b e; omega)
theorem Kept.step {α : Type} {Js : World -> Value -> α -> Prop} {base : Nat} {w w' : World} {ob SK : Option Nat} {v : Value} {x : α} (h : Kept Js base w ob v x) (hs : w.heap.size <= w'.heap.size)
 (hk : ∀ b, b < w.heap.size -> ob ≠ some b -> w'.heap[b]? = w.heap[b]?) (ho : SK = ob \/ ∀ g, SK = some g -> w.heap.size <= g) : Kept Js base w' SK v x :=
 h.since hs (fun b _ => hk b) ho
theorem Kept.below {α : Type} {Js : World -> Value -> α -> Prop} {base : Nat} {w w' : World} {ob : Option Nat} {v : Value} {x : α} (h : Kept Js base w ob v x) (hb : Below w.heap.size w w') : Kept Js base w' ob v x :=
 h.step hb.size (fun b hb1 _ => hb.block b hb1) (.inl rfl)
theorem New.kept {α : Type} {Js : World -> Value -> α -> Prop} {base : Nat} {w w' : World} {ob : Option Nat} {v : Value} {x : α} (h : New Js w w' v x) (hb : base <= w.heap.size) (ho : ∀ g, ob = some g -> g < w.heap.size) : Kept Js base w' ob v x :=
 ⟨w.heap.size, w'.heap.size, hb, jB _, fun g hg => .inl (ho g hg), h⟩
theorem New.row {α : Type} {sz : Nat} {Js : World -> Value -> α -> Prop} {w0 w : World} {E n : Nat} {v : Value} {vs : List Value} {xs : List α} (h : w.ownsRow w0.heap.size E sz v n (cellsOf vs)) (hn : n = xs.length)
 (hr : qw (Kept Js w0.heap.size w v.ownBlock) vs xs) (hs : ∀ v ∈ vs, v.cells.size = sz) : New (fun u => JO sz (Js u) u) w0 w v xs := by
 intro u hu; subst hn
 rcases h.2 with ⟨rfl, hn⟩ | ⟨g, cap, cur, rfl, hb, hg, hc1, hc2, hc3, hc4⟩
 . exact .inl ⟨JP hn, none, 0, rfl⟩
 . refine .inr ⟨g, 0, cap, rfl, hc1, by unfold maxLen at hc2; omega, fun i x hx => ?_⟩; obtain ⟨y, hy, lo, hi, h0, h1, _, h3⟩ := hr.at hx; refine ⟨y, h3 u fun b hb1 hb2 => hu b (by omega) (by omega), hs y (jI hy), fun j z hz => ?_⟩; have hcell := Zn h (g := g) rfl (i * sz + j) z (ZG sz hs hy hz); have e : (⟨g, 0, none⟩ : Addr).add (i * sz + j) = ⟨g, 0 + i * sz + j, none⟩ := by unfold Addr.add; split <;> simp_all
   rw [e] at hcell; have hlt : g < w.heap.size := (JW.1 hg).1; rw [World.cell?_of_block (w := w) (hu g hb hlt)]; exact hcell
theorem YD (w : World) (base : Nat) (t ty e : TypeId) (i : TypeInfo) (z : Value) (size bytes : Nat) (ht : Tryd.prog.underlying t = some (.slice e)) (hi : Tryd.prog.info? e = some i) (hz : i.zero = some z)
 (hsize : i.size = size) (hby : i.bytes = bytes) (hzs : z.cells.size = size) (hsz : 0 < size)
 (v : Value) (n : Nat) (xs : List Value) (hown : w.ownsRow base e size v n xs)
 (a : Addr) (m c : Nat) (hm : 0 < m) (news : List Value) (hl : news.length = m * size) (hnews : ∀ j u, news[j]? = some u -> w.cell? (a.add j) = some u) (h1 : ∀ u ∈ news, u.oneCell' = true)
 (h63 : n + m <= maxLen) (hbytes : (n + m) * bytes <= 140737488355328) (hbase : base <= w.heap.size) :
 ∃ v' w', (Builtin.append_ #[t, t] ty #[v, .slice (some a) m c]).run Tryd.prog w = .ok v' w' /\ w'.ownsRow base e size v' (n + m) (xs ++ news) /\ w.grownBy w' v.ownBlock /\
  (v'.ownBlock = v.ownBlock \/ ∀ g, v'.ownBlock = some g -> w.heap.size <= g) := by
 obtain ⟨v', w', hr, h2, h3, _⟩ := run_append_own (P := Tryd.prog) w base t ty e i z size bytes ht hi hz hsize hby hzs hsz v n xs hown a m c news hl hnews h1 h63 hbytes hbase; refine ⟨v', w', hr, h2, h3, ?_⟩; subst hsize
 subst hby
 have hsmall : n + m <= 9223372036854775807 := by simp only [maxLen] at h63; omega
 rcases hown.2 with ⟨rfl, rfl⟩ | ⟨g, cap, cur, rfl, hbg, hg, hnc, hcm, hcs, htake⟩
 . have hr' := run_append_nil (P := Tryd.prog) w t ty e i z ht hi hz a m c news hl hnews (by omega) (by omega) (by have hb := hbytes; simp only [JN] at hb; omega); rw [hr] at hr'
   injection hr' with hv _
   subst hv; exact .inr fun g hg => by simp only [Value.ownBlock, Jn] at hg; omega
 . by_cases hroom : n + m <= cap
   . have hfit : n * i.size + news.length <= cur.size := by rw [hl, hcs, <- Qz]; exact Ze _ hroom
     have hr' := run_append_room (P := Tryd.prog) w t ty e i ht hi g n cap cur hg a m c news hl hnews h1 hroom hfit; rw [hr] at hr'
     injection hr' with hv _
     subst hv; exact .inl rfl
   . have holds : ∀ j u, xs[j]? = some u -> w.cell? ((⟨g, 0, none⟩ : Addr).add j) = some u := hown.cells (g := g) rfl
     have hr' := run_append_grow (P := Tryd.prog) w t ty e i z ht hi hz ⟨g, 0, none⟩ n cap xs hown.1 holds a m c news hl hnews (by omega) (by omega) (growslice_fits (by omega) hbytes); rw [hr] at hr'
     injection hr' with hv _
     subst hv; exact .inr fun g hg => by simp only [Value.ownBlock, Jn] at hg; omega
theorem qi (w : World) {ops : Array Oper} {rest : List Oper} {o : Oper} {a : Act} {Q : Exit -> Act -> World -> Prop} (hgd : o.guard = none) (s x : Operand) (t : TypeId)
 (ho : o.op = .call { callee := .builtin .append, args := #[s, x], argTypes := #[t, t] })
 (base : Nat) (e : TypeId) (i : TypeInfo) (z : Value) (size bytes : Nat) (ht : Tryd.prog.underlying t = some (.slice e)) (hi : Tryd.prog.info? e = some i) (hz : i.zero = some z)
 (hsize : i.size = size) (hby : i.bytes = bytes) (hzs : z.cells.size = size) (hsz : 0 < size)
 (v : Value) (n : Nat) (xs : List Value) (hs : a.eval s = v) (hown : w.ownsRow base e size v n xs)
 (ad : Addr) (m c : Nat) (news : List Value) (hx : a.eval x = .slice (some ad) m c) (hm : 0 < m) (hl : news.length = m * size) (hnews : ∀ j u, news[j]? = some u -> w.cell? (ad.add j) = some u) (h1 : ∀ u ∈ news, u.oneCell' = true)
 (h63 : n + m <= maxLen) (hbytes : (n + m) * bytes <= 140737488355328) (hbase : base <= w.heap.size)
 (h : ∀ v' w', w'.ownsRow base e size v' (n + m) (xs ++ news) -> w.grownBy w' v.ownBlock -> (v'.ownBlock = v.ownBlock \/ ∀ g, v'.ownBlock = some g -> w.heap.size <= g) -> wpList Tryd.prog ops Q rest (a.put o.dst v') w') : wpList Tryd.prog ops Q (o :: rest) a w := by
 refine wpList_plain hgd fun K hK => ?_
 obtain ⟨v', w', hr, h2, h3, h4⟩ := YD w base t o.type e i z size bytes ht hi hz hsize hby hzs hsz v n xs hown ad m c hm news hl hnews h1 h63 hbytes hbase; unfold Oper.wp execOp; simp only [ho, resolve, invoke, builtin, Sem.run_bind, Sem.run_pure, GX, dF, je, zO, hs, hx, hr]; exact hK _ _ (h v' w' h2 h3 h4)
theorem jK {w : World} {g : Nat} {cs : Array Value} {T : TypeId} {fr : Nat × Nat} (h : w.heap[g]? = some (.cells cs T fr)) (j : Nat) (v : Value) (hv : cs[j]? = some v) : w.cell? ⟨g, j, none⟩ = some v := by
 simp only [World.cell?, h]; simpa using hv
theorem jX {w : World} {g : Nat} {cs : Array Value} {T : TypeId} (h : w.heap[g]? = some (.cells cs T (0, 0))) (o : Nat) : w.frozen? ⟨g, o, none⟩ = false := by
 simp only [World.frozen?, h]; simp
theorem jb (w : World) (cs : Array Value) (T : TypeId) : (w.alloc (.cells cs T)).heap[w.heap.size]? = some (.cells cs T (0, 0)) := heap_alloc_new w _
theorem ji {w : World} {g : Nat} {o : Obj} (h : w.heap[g]? = some o) : g < w.heap.size := (JW.1 h).1
theorem JA {w : World} {g : Nat} {o : Obj} (h : w.heap[g]? = some o) (o' : Obj) : (w.alloc o').heap[g]? = some o := (QC w o' g (ji h)).trans h
theorem jM {w w' : World} {g : Nat} {o : Obj} (h : w.heap[g]? = some o) (hb : Below w.heap.size w w') : w'.heap[g]? = some o := (hb.block g (ji h)).trans h
theorem Jf {w : World} {g : Nat} {cs : Array Value} {T : TypeId} (h : w.heap[g]? = some (.cells cs T (0, 0))) (j : Nat) (v : Value) : (w.setCell ⟨g, j, none⟩ v).heap[g]? = some (.cells (cs.setIfInBounds j v) T (0, 0)) := heap_setCell_same w g j _ _ _ h
theorem jO {w : World} {g : Nat} {o : Obj} (h : w.heap[g]? = some o) (b j : Nat) (v : Value) (hne : g ≠ b) : (w.setCell ⟨b, j, none⟩ v).heap[g]? = some o := (jP w ⟨b, j, none⟩ v g hne).trans h
theorem New.later {α : Type} {Js : World -> Value -> α -> Prop} {w w1 w2 w' : World} {v : Value} {x : α} (h : New Js w1 w2 v x) (h0 : w.heap.size <= w1.heap.size) (hs : w2.heap.size <= w'.heap.size)
 (hk : ∀ b, w1.heap.size <= b -> b < w2.heap.size -> w'.heap[b]? = w2.heap[b]?) : New Js w w' v x :=
 fun u hu => h u fun b hb1 hb2 => (hu b (by omega) (by omega)).trans (hk b hb1 hb2)
def JR (lo : Nat) (w w' : World) : Prop := w.heap.size <= w'.heap.size /\ ∀ b, lo <= b -> b < w.heap.size -> w'.heap[b]? = w.heap[b]?
theorem JR.refl (lo : Nat) (w : World) : JR lo w w := ⟨jB _, fun _ _ _ => rfl⟩
theorem JR.below {lo : Nat} {w w' w'' : World} (h : JR lo w w') (hb : Below w'.heap.size w' w'') : JR lo w w'' :=
 ⟨jS h.1 hb.size, fun b h1 h2 => (hb.block b (Jo h2 h.1)).trans (h.2 b h1 h2)⟩
theorem JR.alloc {lo : Nat} {w w' : World} (h : JR lo w w') (o : Obj) : JR lo w (w'.alloc o) := h.below ((jD _ _).alloc (jB _) o)
theorem JR.set {lo : Nat} {w w' : World} (h : JR lo w w') (g j : Nat) (v : Value) (hg : g < lo) : JR lo w (w'.setCell ⟨g, j, none⟩ v) :=
 ⟨by simpa using h.1, fun b h1 h2 => (jP w' ⟨g, j, none⟩ v b (by simp; omega)).trans (h.2 b h1 h2)⟩
theorem JR.drew {lo : Nat} {w w' : World} (h : JR lo w w') : JR lo w w'.drew := h
theorem New.stay {α : Type} {Js : World -> Value -> α -> Prop} {w w1 w2 w' : World} {v : Value} {x : α} (h : New Js w1 w2 v x) (h0 : w.heap.size <= w1.heap.size) (hs : JR w1.heap.size w2 w') : New Js w w' v x :=
 h.later h0 hs.1 hs.2
def zA (_ : World) (v : Value) (s : List UInt8) : Prop := v = .string ⟨s.toArray⟩
def Q0 : Nat -> World -> Value -> Px.zR -> Prop
 | 0, _, _, _ => False
 | f + 1, u, v, .mk p nm args => ∃ av, v = .agg #[.int .i64 p, .string ⟨nm.toArray⟩, av] /\ JO 3 (Q0 f u) u av args
def qj : Nat -> World -> Value -> Px.QJ -> Prop
 | 0, _, _, _ => False
 | f + 1, u, v, .mk k p nm i args => ∃ av, v = .agg #[.int .i64 k, .int .i64 p, .string ⟨nm.toArray⟩, .int .i64 i, av] /\ JO 5 (qj f u) u av args
def vo (pa : Value -> Px.QJ -> Prop) (ex : Value -> Px.Expr -> Prop) (v : Value) (x : Px.QJ × Px.Expr) : Prop :=
 ∃ a0 a1 a2 a3 a4 b0 b1 b2 b3 b4 b5 b6 : Value, v = .agg #[a0, a1, a2, a3, a4, b0, b1, b2, b3, b4, b5, b6] /\ pa (.agg #[a0, a1, a2, a3, a4]) x.1 /\ ex (.agg #[b0, b1, b2, b3, b4, b5, b6]) x.2
def JB : Nat -> World -> Value -> Px.Expr -> Prop
 | 0, _, _, _ => False
 | f + 1, u, v, .mk k p nm i ns xs al => ∃ nv xv av, v = .agg #[.int .i64 k, .int .i64 p, .string ⟨nm.toArray⟩, .int .i64 i, nv, xv, av] /\
    JO 1 (zA u) u nv ns /\ JO 7 (JB f u) u xv xs /\ JO 12 (vo (qj f u) (JB f u)) u av al
theorem En {α : Type} (sz : Nat) (Js : Value -> α -> Prop) (u : World) : JO sz Js u (.slice none 0 0) [] := .inl ⟨rfl, none, 0, rfl⟩
theorem Y9 {w w' : World} (h : Below w.drew.heap.size w.drew w') : Below w.heap.size w w' := ⟨h.os, h.tape, h.output, h.size, h.block⟩
open Go Go.RowKit
def YX {α : Type} (Js : World -> Value -> α -> Prop) (base : Nat) (w : World) (S : Nat -> Prop) (v : Value) (x : α) : Prop :=
 ∃ lo hi, base <= lo /\ hi <= w.heap.size /\ (∀ g, S g -> g < lo \/ hi <= g) /\ ∀ u : World, (∀ b, lo <= b -> b < hi -> u.heap[b]? = w.heap[b]?) -> Js u v x
theorem YX.step {α : Type} {Js : World -> Value -> α -> Prop} {base : Nat} {w w' : World} {S S' : Nat -> Prop} {v : Value} {x : α} (h : YX Js base w S v x) (hs : w.heap.size <= w'.heap.size)
 (hk : ∀ b, b < w.heap.size -> base <= b -> ¬ S b -> w'.heap[b]? = w.heap[b]?) (ho : ∀ g, S' g -> S g \/ w.heap.size <= g) : YX Js base w' S' v x := by
 obtain ⟨lo, hi, h0, h1, h2, h3⟩ := h; refine ⟨lo, hi, h0, by omega, fun g hg => ?_, fun u hu => h3 u fun b hb1 hb2 => ?_⟩
 . rcases ho g hg with hg | hg
   . exact h2 g hg
   . omega
 . rw [hu b hb1 hb2]; exact hk b (by omega) (by omega) (fun e => by have := h2 b e; omega)
theorem YX.below {α : Type} {Js : World -> Value -> α -> Prop} {base : Nat} {w w' : World} {S : Nat -> Prop} {v : Value} {x : α} (h : YX Js base w S v x) (hb : Below w.heap.size w w') : YX Js base w' S v x :=
 h.step hb.size (fun b hb1 _ _ => hb.block b hb1) (fun _ h => .inl h)
theorem New.Eo {α : Type} {Js : World -> Value -> α -> Prop} {base : Nat} {w w' : World} {S : Nat -> Prop} {v : Value} {x : α} (h : New Js w w' v x) (hb : base <= w.heap.size) (ho : ∀ g, S g -> g < w.heap.size) : YX Js base w' S v x :=
 ⟨w.heap.size, w'.heap.size, hb, jB _, fun g hg => .inl (ho g hg), h⟩
theorem mi {α : Type} {sz : Nat} {Js : World -> Value -> α -> Prop} {w u : World} {base E n : Nat} {S : Nat -> Prop} {v : Value} {vs : List Value} {xs : List α} (h : w.ownsRow base E sz v n (cellsOf vs)) (hn : n = xs.length)
 (hr : qw (YX Js base w S) vs xs) (hs : ∀ v ∈ vs, v.cells.size = sz) (hu : ∀ b, base <= b -> b < w.heap.size -> u.heap[b]? = w.heap[b]?) : JO sz (Js u) u v xs := by
 subst hn
 rcases h.2 with ⟨rfl, hn⟩ | ⟨g, cap, cur, rfl, hb, hg, hc1, hc2, hc3, hc4⟩
 . exact .inl ⟨JP hn, none, 0, rfl⟩
 . refine .inr ⟨g, 0, cap, rfl, hc1, by unfold maxLen at hc2; omega, fun i x hx => ?_⟩; obtain ⟨y, hy, lo, hi, h0, h1, _, h3⟩ := hr.at hx; refine ⟨y, h3 u fun b hb1 hb2 => hu b (by omega) (by omega), hs y (jI hy), fun j z hz => ?_⟩; have hcell := Zn h (g := g) rfl (i * sz + j) z (ZG sz hs hy hz); have e : (⟨g, 0, none⟩ : Addr).add (i * sz + j) = ⟨g, 0 + i * sz + j, none⟩ := by unfold Addr.add; split <;> simp_all
   rw [e] at hcell; have hlt : g < w.heap.size := (JW.1 hg).1; rw [World.cell?_of_block (w := w) (hu g hb hlt)]; exact hcell
theorem Qp {w w' : World} {base : Nat} {e : TypeId} {size : Nat} {v : Value} {n : Nat} {xs : List Value} (h : w.ownsRow base e size v n xs) (hk : ∀ b, v.ownBlock = some b -> w'.heap[b]? = w.heap[b]?) : w'.ownsRow base e size v n xs := by
 refine ⟨h.1, ?_⟩
 rcases h.2 with h | ⟨g, cap, cur, rfl, hb, hg, hc1, hc2, hc3, hc4⟩
 . exact .inl h
 . exact .inr ⟨g, cap, cur, rfl, hb, (hk g rfl).trans hg, hc1, hc2, hc3, hc4⟩
theorem yO {w : World} {base base' n n' size size' : Nat} {e e' : TypeId} {v v' : Value} {xs xs' : List Value} (h : w.ownsRow base e size v n xs) (h' : w.ownsRow base' e' size' v' n' xs') (hT : e ≠ e') (b : Nat) (hb : v.ownBlock = some b) : v'.ownBlock ≠ some b := by
 intro hb'
 rcases h.2 with ⟨rfl, _⟩ | ⟨g, cap, cur, rfl, _, hg, _⟩
 . simp [Value.ownBlock] at hb
 . rcases h'.2 with ⟨rfl, _⟩ | ⟨g', cap', cur', rfl, _, hg', _⟩
   . simp [Value.ownBlock] at hb'
   . simp only [Value.ownBlock, Jn] at hb hb'; subst hb; subst hb'
     rw [hg] at hg'; simp only [Jn, kI] at hg'; exact hT hg'.2.1
theorem vR {w : World} {ops : Array Oper} {o : Oper} {a : Act} {K : Act -> World -> Prop} {Q : Exit -> Act -> World -> Prop} {X : Prop} (hgd : o.guard = none) (s x : Operand) (t : TypeId)
 (ho : o.op = .call { callee := .builtin .append, args := #[s, x], argTypes := #[t, t] })
 (base : Nat) (e : TypeId) (i : TypeInfo) (z : Value) (size bytes : Nat) (ht : Tryd.prog.underlying t = some (.slice e)) (hi : Tryd.prog.info? e = some i) (hz : i.zero = some z)
 (hsize : i.size = size) (hby : i.bytes = bytes) (hzs : z.cells.size = size) (hsz : 0 < size)
 (v : Value) (n : Nat) (xs : List Value) (hs : a.eval s = v) (hown : w.ownsRow base e size v n xs)
 (ad : Addr) (m c : Nat) (news : List Value) (hx : a.eval x = .slice (some ad) m c) (hm : 0 < m) (hl : news.length = m * size) (hnews : ∀ j u, news[j]? = some u -> w.cell? (ad.add j) = some u) (h1 : ∀ u ∈ news, u.oneCell' = true)
 (h63 : n + m <= maxLen) (hbytes : (n + m) * bytes <= 140737488355328) (hbase : base <= w.heap.size)
 (h : ∀ v' w', w'.ownsRow base e size v' (n + m) (xs ++ news) -> w.grownBy w' v.ownBlock -> (v'.ownBlock = v.ownBlock \/ ∀ g, v'.ownBlock = some g -> w.heap.size <= g) -> K (a.put o.dst v') w') :
 if Region.wanted o (yielded ops a.tmps) = true then Oper.wp Tryd.prog o a w K Q else X := by
 have hw : Region.wanted o (yielded ops a.tmps) = true := by simp [Region.wanted, hgd]
 rw [if_pos hw]; obtain ⟨v', w', hr, h2, h3, h4⟩ := YD w base t o.type e i z size bytes ht hi hz hsize hby hzs hsz v n xs hown ad m c hm news hl hnews h1 h63 hbytes hbase; unfold Oper.wp execOp; simp only [ho, resolve, invoke, builtin, Sem.run_bind, Sem.run_pure, GX, dF, je, zO, hs, hx, hr]; exact h v' w' h2 h3 h4
theorem jH {w : World} {base e size n : Nat} {v : Value} {xs : List Value} (h : w.ownsRow base e size v n xs) : ∃ p cap, v = .slice p n cap := by
 rcases h.2 with ⟨rfl, rfl⟩ | ⟨g, cap, cur, rfl, _⟩
 . exact ⟨none, 0, rfl⟩
 . exact ⟨_, cap, rfl⟩
open Go Go.RowKit
theorem Wo {α : Type} {sz : Nat} {Js : Value -> α -> Prop} {w : World} {g : Nat} : ∀ (xs : List α) (o : Nat), (∀ i x, xs[i]? = some x -> ∃ u, Js u x /\ u.cells.size = sz /\ ∀ j z, u.cells[j]? = some z -> w.cell? ⟨g, o + i * sz + j, none⟩ = some z) ->
 ∃ vs, qw Js vs xs /\ (∀ u ∈ vs, u.cells.size = sz) /\ ∀ j z, (cellsOf vs)[j]? = some z -> w.cell? ⟨g, o + j, none⟩ = some z
 | [], o, _ => ⟨[], trivial, by simp, by simp [cellsOf]⟩
 | x :: xs, o, h => by
   obtain ⟨u, hu1, hu2, hu3⟩ := h 0 x (by simp)
   obtain ⟨vs, hv1, hv2, hv3⟩ := Wo xs (o + sz) (fun i y hy => by
    obtain ⟨u, a, b, c⟩ := h (i + 1) y (by simpa using hy); refine ⟨u, a, b, fun j z hz => ?_⟩; rw [<- c j z hz]; have e : o + sz + i * sz + j = o + (i + 1) * sz + j := by rw [Qz]; omega
    rw [e])
   refine ⟨u :: vs, ⟨hu1, hv1⟩, fun z hz => ?_, fun j z hz => ?_⟩
   . rcases jf.1 hz with rfl | hz
     . exact hu2
     . exact hv2 _ hz
   . have e : cellsOf (u :: vs) = u.cells.toList ++ cellsOf vs := by simp [cellsOf]
     rw [e] at hz; by_cases hj : j < u.cells.size
     . rw [Yh (by simpa using hj)] at hz; have := hu3 j z (by simpa using hz)
       simpa using this
     . rw [ZP (by simpa using hj), KI, hu2] at hz; rw [hu2] at hj; have h5 := hv3 _ z hz; have e2 : o + sz + (j - sz) = o + j := by omega
       rw [e2] at h5; exact h5
theorem qw.append {α : Type} {Js : Value -> α -> Prop} : ∀ {vs us : List Value} {xs ys : List α}, qw Js vs xs -> qw Js us ys -> qw Js (vs ++ us) (xs ++ ys)
 | [], _, [], _, _, h => h
 | _ :: _, _, _ :: _, _, h, k => ⟨h.1, qw.append h.2 k⟩
 | [], _, _ :: _, _, h, _ => h.elim
 | _ :: _, _, [], _, h, _ => h.elim
theorem qw.all {α : Type} {Js : Value -> α -> Prop} {q : Value -> Prop} (hq : ∀ u x, Js u x -> q u) : ∀ {vs : List Value} {xs : List α}, qw Js vs xs -> ∀ u ∈ vs, q u
 | [], [], _, _, h => by cases h
 | v :: vs, x :: xs, h, u, hu => by
   rcases jf.1 hu with rfl | hu
   . exact hq _ _ h.1
   . exact qw.all hq h.2 u hu
 | [], _ :: _, h, _, _ => h.elim
 | _ :: _, [], h, _, _ => h.elim
theorem YE (a b : List Value) : cellsOf (a ++ b) = cellsOf a ++ cellsOf b := by simp [cellsOf]
theorem KY {α : Type} {Js : Value -> α -> Prop} {sz base E n : Nat} {w : World} {v : Value} {vs : List Value} {xs : List α} (h : w.ownsRow base E sz v n (cellsOf vs)) (hn : n = xs.length) (hr : qw Js vs xs) (hs : ∀ u ∈ vs, u.cells.size = sz) : JO sz Js w v xs := by
 subst hn
 rcases h.2 with ⟨rfl, hn⟩ | ⟨g, cap, cur, rfl, hb, hg, hc1, hc2, hc3, hc4⟩
 . exact .inl ⟨JP hn, none, 0, rfl⟩
 . refine .inr ⟨g, 0, cap, rfl, hc1, by unfold maxLen at hc2; omega, fun i x hx => ?_⟩; obtain ⟨y, hy, h3⟩ := hr.at hx; refine ⟨y, h3, hs y (jI hy), fun j z hz => ?_⟩; have hcell := Zn h (g := g) rfl (i * sz + j) z (ZG sz hs hy hz); have e : (⟨g, 0, none⟩ : Addr).add (i * sz + j) = ⟨g, 0 + i * sz + j, none⟩ := by unfold Addr.add; split <;> simp_all
   rw [e] at hcell; exact hcell
theorem Wp {w w' : World} {base e size n : Nat} {v : Value} {xs : List Value} (h : w.ownsRow base e size v n xs) (hk : ∀ k, v.ownBlock = some k -> w'.heap[k]? = w.heap[k]?) : w'.ownsRow base e size v n xs := by
 refine ⟨h.1, ?_⟩
 rcases h.2 with h2 | ⟨g, cap, cur, rfl, hb, hg, hc⟩
 . exact .inl h2
 . exact .inr ⟨g, cap, cur, rfl, hb, by rw [hk g rfl]; exact hg, hc⟩
theorem KL (w : World) (base : Nat) (t ty e : TypeId) (i : TypeInfo) (size : Nat) (ht : Tryd.prog.underlying t = some (.slice e)) (hi : Tryd.prog.info? e = some i)
 (v : Value) (n : Nat) (xs : List Value) (hown : w.ownsRow base e size v n xs) (q : Option Addr) (c : Nat) : (Builtin.append_ #[t, t] ty #[v, .slice q 0 c]).run Tryd.prog w = .ok v w := by
 have hfc : ∀ q : Option Addr, (Builtin.firstCells i.size 0 (.slice q 0 c)).run Tryd.prog w = .ok #[] w := by
  intro q; cases q <;> simp [Builtin.firstCells, loadCells, loadCellsFrom]
 rcases hown.2 with ⟨rfl, rfl⟩ | ⟨g, cap, cur, rfl, hbg, hg, hnc, hcm, hcs, htake⟩
 . simp [Builtin.append_, Va ht, sizeOf, typeInfo, hi, Builtin.lenOf, hfc]
 . simp [Builtin.append_, Va ht, sizeOf, typeInfo, hi, Builtin.lenOf, hfc, hnc, storeCells]
theorem qy {α : Type} {Js : Value -> α -> Prop} {w : World} {ops : Array Oper} {o : Oper} {a : Act} {K : Act -> World -> Prop} {Q : Exit -> Act -> World -> Prop} {X : Prop} (hgd : o.guard = none) (s x : Operand) (t : TypeId)
 (ho : o.op = .call { callee := .builtin .append, args := #[s, x], argTypes := #[t, t] })
 (base : Nat) (e : TypeId) (i : TypeInfo) (z : Value) (size bytes : Nat) (ht : Tryd.prog.underlying t = some (.slice e)) (hi : Tryd.prog.info? e = some i) (hz : i.zero = some z)
 (hsize : i.size = size) (hby : i.bytes = bytes) (hzs : z.cells.size = size) (hsz : 0 < size)
 (v : Value) (n : Nat) (vs : List Value) (hs : a.eval s = v) (hown : w.ownsRow base e size v n (cellsOf vs))
 (vx : Value) (hx : a.eval x = vx) (ys : List α) (hrow : JO size Js w vx ys) (hone : ∀ u x, Js u x -> ∀ c ∈ u.cells.toList, c.oneCell' = true)
 (h63 : n + ys.length <= maxLen) (hbytes : (n + ys.length) * bytes <= 140737488355328) (hbase : base <= w.heap.size)
 (h : ∀ v' w' us, qw Js us ys -> (∀ u ∈ us, u.cells.size = size) -> w'.ownsRow base e size v' (n + ys.length) (cellsOf (vs ++ us)) -> w.grownBy w' v.ownBlock -> (v'.ownBlock = v.ownBlock \/ ∀ g, v'.ownBlock = some g -> w.heap.size <= g) -> K (a.put o.dst v') w') :
 if Region.wanted o (yielded ops a.tmps) = true then Oper.wp Tryd.prog o a w K Q else X := by
 have hw : Region.wanted o (yielded ops a.tmps) = true := by simp [Region.wanted, hgd]
 rw [if_pos hw]; by_cases hys : ys = []
 . subst hys; obtain ⟨q, c, rfl⟩ := hrow.len; have hr := KL w base t o.type e i size ht hi v n _ hown q c; unfold Oper.wp execOp; simp only [ho, resolve, invoke, builtin, Sem.run_bind, Sem.run_pure, GX, dF, je, zO, hs, hx, Qa, hr]; exact h v w [] trivial (fun u hu => by cases hu) (by rw [Jl]; exact hown) ⟨rfl, rfl, rfl, jB _, fun _ _ _ => rfl⟩ (.inl rfl)
 . rcases hrow with ⟨h0, _⟩ | ⟨g, of, c, rfl, _, _, h4⟩
   . exact absurd h0 hys
   . obtain ⟨us, hu1, hu2, hu3⟩ := Wo ys of h4; have hpos : 0 < ys.length := Yo.2 hys; obtain ⟨v', w', hr, h2, h3, h5⟩ := YD w base t o.type e i z size bytes ht hi hz hsize hby hzs hsz v n _ hown ⟨g, of, none⟩ ys.length c hpos (cellsOf us)
      (by rw [vk size hu2, hu1.len]) (fun j u hj => by
        have e : (⟨g, of, none⟩ : Addr).add j = ⟨g, of + j, none⟩ := by unfold Addr.add; split <;> simp_all
        rw [e]; exact hu3 j u hj) (fun u hu => by
        obtain ⟨y, hy, hz⟩ := QS.1 hu
        exact qw.all (q := fun u => ∀ c ∈ u.cells.toList, c.oneCell' = true) hone hu1 y hy u hz) h63 hbytes hbase
     unfold Oper.wp execOp; simp only [ho, resolve, invoke, builtin, Sem.run_bind, Sem.run_pure, GX, dF, je, zO, hs, hx, hr]; exact h v' w' us hu1 hu2 (by rw [YE]; exact h2) h3 h5
theorem Za {w : World} {g : Nat} {T : TypeId} {z0 z1 z2 : Value} (h : w.heap[g]? = some (.cells #[z0, z1, z2] T (0, 0))) (v0 v1 v2 : Value) :
 (((w.setCell ⟨g, 0, none⟩ v0).setCell ⟨g, 1, none⟩ v1).setCell ⟨g, 2, none⟩ v2).heap[g]? = some (.cells #[v0, v1, v2] T (0, 0)) := by
 have h0 : (w.setCell ⟨g, 0, none⟩ v0).heap[g]? = some (.cells #[v0, z1, z2] T (0, 0)) := by have := Jf h 0 v0; simpa using this
 have h1 : ((w.setCell ⟨g, 0, none⟩ v0).setCell ⟨g, 1, none⟩ v1).heap[g]? = some (.cells #[v0, v1, z2] T (0, 0)) := by have := Jf h0 1 v1; simpa using this
 have h2 : (((w.setCell ⟨g, 0, none⟩ v0).setCell ⟨g, 1, none⟩ v1).setCell ⟨g, 2, none⟩ v2).heap[g]? = some (.cells #[v0, v1, v2] T (0, 0)) := by have := Jf h1 2 v2; simpa using this
 exact h2
theorem ZH {w : World} {g : Nat} {T : TypeId} {z0 z1 z2 z3 z4 : Value} (h : w.heap[g]? = some (.cells #[z0, z1, z2, z3, z4] T (0, 0))) (v0 v1 v2 v3 v4 : Value) :
 (((((w.setCell ⟨g, 0, none⟩ v0).setCell ⟨g, 1, none⟩ v1).setCell ⟨g, 2, none⟩ v2).setCell ⟨g, 3, none⟩ v3).setCell ⟨g, 4, none⟩ v4).heap[g]? = some (.cells #[v0, v1, v2, v3, v4] T (0, 0)) := by
 have h0 : (w.setCell ⟨g, 0, none⟩ v0).heap[g]? = some (.cells #[v0, z1, z2, z3, z4] T (0, 0)) := by have := Jf h 0 v0; simpa using this
 have h1 : ((w.setCell ⟨g, 0, none⟩ v0).setCell ⟨g, 1, none⟩ v1).heap[g]? = some (.cells #[v0, v1, z2, z3, z4] T (0, 0)) := by have := Jf h0 1 v1; simpa using this
 have h2 : (((w.setCell ⟨g, 0, none⟩ v0).setCell ⟨g, 1, none⟩ v1).setCell ⟨g, 2, none⟩ v2).heap[g]? = some (.cells #[v0, v1, v2, z3, z4] T (0, 0)) := by have := Jf h1 2 v2; simpa using this
 have h3 : ((((w.setCell ⟨g, 0, none⟩ v0).setCell ⟨g, 1, none⟩ v1).setCell ⟨g, 2, none⟩ v2).setCell ⟨g, 3, none⟩ v3).heap[g]? = some (.cells #[v0, v1, v2, v3, z4] T (0, 0)) := by have := Jf h2 3 v3; simpa using this
 have h4 : (((((w.setCell ⟨g, 0, none⟩ v0).setCell ⟨g, 1, none⟩ v1).setCell ⟨g, 2, none⟩ v2).setCell ⟨g, 3, none⟩ v3).setCell ⟨g, 4, none⟩ v4).heap[g]? = some (.cells #[v0, v1, v2, v3, v4] T (0, 0)) := by have := Jf h3 4 v4; simpa using this
 exact h4
theorem YF {w : World} {g : Nat} {T : TypeId} {z0 z1 z2 z3 z4 z5 : Value} (h : w.heap[g]? = some (.cells #[z0, z1, z2, z3, z4, z5] T (0, 0))) (v0 v1 v2 v3 v4 v5 : Value) :
 ((((((w.setCell ⟨g, 0, none⟩ v0).setCell ⟨g, 1, none⟩ v1).setCell ⟨g, 2, none⟩ v2).setCell ⟨g, 3, none⟩ v3).setCell ⟨g, 4, none⟩ v4).setCell ⟨g, 5, none⟩ v5).heap[g]? = some (.cells #[v0, v1, v2, v3, v4, v5] T (0, 0)) := by
 have h0 : (w.setCell ⟨g, 0, none⟩ v0).heap[g]? = some (.cells #[v0, z1, z2, z3, z4, z5] T (0, 0)) := by have := Jf h 0 v0; simpa using this
 have h1 : ((w.setCell ⟨g, 0, none⟩ v0).setCell ⟨g, 1, none⟩ v1).heap[g]? = some (.cells #[v0, v1, z2, z3, z4, z5] T (0, 0)) := by have := Jf h0 1 v1; simpa using this
 have h2 : (((w.setCell ⟨g, 0, none⟩ v0).setCell ⟨g, 1, none⟩ v1).setCell ⟨g, 2, none⟩ v2).heap[g]? = some (.cells #[v0, v1, v2, z3, z4, z5] T (0, 0)) := by have := Jf h1 2 v2; simpa using this
 have h3 : ((((w.setCell ⟨g, 0, none⟩ v0).setCell ⟨g, 1, none⟩ v1).setCell ⟨g, 2, none⟩ v2).setCell ⟨g, 3, none⟩ v3).heap[g]? = some (.cells #[v0, v1, v2, v3, z4, z5] T (0, 0)) := by have := Jf h2 3 v3; simpa using this
 have h4 : (((((w.setCell ⟨g, 0, none⟩ v0).setCell ⟨g, 1, none⟩ v1).setCell ⟨g, 2, none⟩ v2).setCell ⟨g, 3, none⟩ v3).setCell ⟨g, 4, none⟩ v4).heap[g]? = some (.cells #[v0, v1, v2, v3, v4, z5] T (0, 0)) := by have := Jf h3 4 v4; simpa using this
 have h5 : ((((((w.setCell ⟨g, 0, none⟩ v0).setCell ⟨g, 1, none⟩ v1).setCell ⟨g, 2, none⟩ v2).setCell ⟨g, 3, none⟩ v3).setCell ⟨g, 4, none⟩ v4).setCell ⟨g, 5, none⟩ v5).heap[g]? = some (.cells #[v0, v1, v2, v3, v4, v5] T (0, 0)) := by have := Jf h4 5 v5; simpa using this
 exact h5
theorem Je {w : World} {g : Nat} {T : TypeId} {z0 z1 z2 z3 z4 z5 z6 : Value} (h : w.heap[g]? = some (.cells #[z0, z1, z2, z3, z4, z5, z6] T (0, 0))) (v0 v1 v2 v3 v4 v5 v6 : Value) :
 (((((((w.setCell ⟨g, 0, none⟩ v0).setCell ⟨g, 1, none⟩ v1).setCell ⟨g, 2, none⟩ v2).setCell ⟨g, 3, none⟩ v3).setCell ⟨g, 4, none⟩ v4).setCell ⟨g, 5, none⟩ v5).setCell ⟨g, 6, none⟩ v6).heap[g]? = some (.cells #[v0, v1, v2, v3, v4, v5, v6] T (0, 0)) := by
 have h0 : (w.setCell ⟨g, 0, none⟩ v0).heap[g]? = some (.cells #[v0, z1, z2, z3, z4, z5, z6] T (0, 0)) := by have := Jf h 0 v0; simpa using this
 have h1 : ((w.setCell ⟨g, 0, none⟩ v0).setCell ⟨g, 1, none⟩ v1).heap[g]? = some (.cells #[v0, v1, z2, z3, z4, z5, z6] T (0, 0)) := by have := Jf h0 1 v1; simpa using this
 have h2 : (((w.setCell ⟨g, 0, none⟩ v0).setCell ⟨g, 1, none⟩ v1).setCell ⟨g, 2, none⟩ v2).heap[g]? = some (.cells #[v0, v1, v2, z3, z4, z5, z6] T (0, 0)) := by have := Jf h1 2 v2; simpa using this
 have h3 : ((((w.setCell ⟨g, 0, none⟩ v0).setCell ⟨g, 1, none⟩ v1).setCell ⟨g, 2, none⟩ v2).setCell ⟨g, 3, none⟩ v3).heap[g]? = some (.cells #[v0, v1, v2, v3, z4, z5, z6] T (0, 0)) := by have := Jf h2 3 v3; simpa using this
 have h4 : (((((w.setCell ⟨g, 0, none⟩ v0).setCell ⟨g, 1, none⟩ v1).setCell ⟨g, 2, none⟩ v2).setCell ⟨g, 3, none⟩ v3).setCell ⟨g, 4, none⟩ v4).heap[g]? = some (.cells #[v0, v1, v2, v3, v4, z5, z6] T (0, 0)) := by have := Jf h3 4 v4; simpa using this
 have h5 : ((((((w.setCell ⟨g, 0, none⟩ v0).setCell ⟨g, 1, none⟩ v1).setCell ⟨g, 2, none⟩ v2).setCell ⟨g, 3, none⟩ v3).setCell ⟨g, 4, none⟩ v4).setCell ⟨g, 5, none⟩ v5).heap[g]? = some (.cells #[v0, v1, v2, v3, v4, v5, z6] T (0, 0)) := by have := Jf h4 5 v5; simpa using this
 have h6 : (((((((w.setCell ⟨g, 0, none⟩ v0).setCell ⟨g, 1, none⟩ v1).setCell ⟨g, 2, none⟩ v2).setCell ⟨g, 3, none⟩ v3).setCell ⟨g, 4, none⟩ v4).setCell ⟨g, 5, none⟩ v5).setCell ⟨g, 6, none⟩ v6).heap[g]? = some (.cells #[v0, v1, v2, v3, v4, v5, v6] T (0, 0)) := by have := Jf h5 6 v6; simpa using this
 exact h6
theorem JI {w : World} {g : Nat} {cs : Array Value} {T : TypeId} (cs' : Array Value) (h : w.heap[g]? = some (.cells cs T (0, 0))) (j : Nat) (v : Value) (hc : cs.setIfInBounds j v = cs') :
 (w.setCell ⟨g, j, none⟩ v).heap[g]? = some (.cells cs' T (0, 0)) := by rw [<- hc]; exact Jf h j v
end Go.Proofs.YtlnjdclmopblcaaDoor
namespace Go.Proofs.YtlnjdclmopblcaaDoor
namespace Lx
theorem KM (c : UInt8) (h : jQ c = true) : Qd c = false /\ c.toNat ≠ 59 /\ c.toNat ≠ 45 /\ c.toNat ≠ 62 := by
 have h' := zl c h; refine ⟨?_, by omega, by omega, by omega⟩; unfold Qd
 simp; omega
theorem Wq (a b : List UInt8) : ∀ acc, Qn (a ++ b) acc = Qn b (Qn a acc) := by
 induction a with
 | nil => intro acc; rfl
 | cons c r ih => intro acc; rw [JQ, Vg, Vg, ih]
end Lx
namespace Lx
theorem yC (f p : Nat) (l : List UInt8) : toks (f + 1) p l =
 if l.length <= JD false l then ([], none) else
  if (Jp (l.drop (JD false l))).2 = 0 then ([], some (p + JD false l)) else
   (yo (p + JD false l) (Jp (l.drop (JD false l))).1 ((l.drop (JD false l)).take (Jp (l.drop (JD false l))).2) ::
     (toks f (p + JD false l + (Jp (l.drop (JD false l))).2) ((l.drop (JD false l)).drop (Jp (l.drop (JD false l))).2)).1,
    (toks f (p + JD false l + (Jp (l.drop (JD false l))).2) ((l.drop (JD false l)).drop (Jp (l.drop (JD false l))).2)).2) := rfl
def shift (d : Nat) (t : Tok) : Tok := { t with pos := t.pos + d }
theorem dO (d : Nat) : ∀ (f p : Nat) (l : List UInt8), toks f (p + d) l = ((toks f p l).1.map (shift d), (toks f p l).2.map (· + d)) := by
 intro f
 induction f with
 | zero => intro p l; rfl
 | succ f ih =>
   intro p l; rw [yC, yC]; by_cases h1 : l.length <= JD false l
   . rw [if_pos h1, if_pos h1]; rfl
   . rw [if_neg h1, if_neg h1]; by_cases h2 : (Jp (l.drop (JD false l))).2 = 0
     . rw [if_pos h2, if_pos h2]; simp; omega
     . rw [if_neg h2, if_neg h2]; have e : p + d + JD false l + (Jp (l.drop (JD false l))).2 = p + JD false l + (Jp (l.drop (JD false l))).2 + d := by omega
       rw [e, ih]; have e2 : p + d + JD false l = p + JD false l + d := by omega
       rw [e2]; rfl
theorem Ws (p : UInt8 -> Bool) (c : UInt8) (r : List UInt8) : cnt p (c :: r) = if p c then cnt p r + 1 else 0 := rfl
theorem mo : ∀ (f p : Nat) (l : List UInt8), (toks f p l).1.length <= l.length := by
 intro f
 induction f with
 | zero => intro p l; simp [toks]
 | succ f ih =>
   intro p l; rw [yC]; by_cases h1 : l.length <= JD false l
   . rw [if_pos h1]; simp
   . rw [if_neg h1]; by_cases h2 : (Jp (l.drop (JD false l))).2 = 0
     . rw [if_pos h2]; simp
     . rw [if_neg h2]; have := ih (p + JD false l + (Jp (l.drop (JD false l))).2) ((l.drop (JD false l)).drop (Jp (l.drop (JD false l))).2); rw [ja, ja] at this; rw [JG]; omega
end Lx
end Go.Proofs.YtlnjdclmopblcaaDoor
