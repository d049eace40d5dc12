/-
  Several texts in one: PSim, PMore, PSumPure, PWrapPure, PWrap, Leaf, Scope.
-/
import Derived.Test.YtnhndamfbeiljaaGreatDoorT00
import Derived.Test.YtnhndamfbeiljaaGreatDoorT01
import Derived.Test.YtnhndamfbeiljaaGreatDoorRows
import Derived.WalkKit
import Derived.WalkSpells
import Derived.Lib.Hide
import Derived.Scope
set_option linter.unusedVariables false
set_option linter.unusedSimpArgs false
set_option maxHeartbeats 4000000
set_option maxRecDepth 100000
namespace Go.Proofs.YtnhndamfbeiljaaGreatDoor
open Go.Lib (hid)
open List renaming getElem_toArray → jR, getElem_cons_succ → jR0, getElem_cons_zero → jR1, setIfInBounds_toArray → jR2, set_cons_zero → jR3, set_cons_succ → jR4
namespace Px
open Lx (Tok)
def Plain (s : List UInt8) : Prop :=
 jBG s = 0 /\ s ≠ [100, 97, 116, 97] /\ s ≠ [100, 101, 102] /\ s ≠ [102, 110] /\ s ≠ [108, 101, 116] /\ s ≠ [99, 97, 115, 101] /\ s ≠ [45, 62] /\ s ≠ [95]
structure TSim (ρ : Nat -> Nat -> Prop) (t u : Tok) : Prop where
 kind : u.kind = t.kind
 pos : ρ t.pos u.pos
 int : u.int = t.int
 num : t.kind = 2 -> Plain t.text /\ Plain u.text
 text : t.kind ≠ 2 -> u.text = t.text
inductive All2 {α β : Type} (S : α -> β -> Prop) : List α -> List β -> Prop
 | nil : All2 S [] []
 | cons {a : α} {b : β} {l : List α} {m : List β} : S a b -> All2 S l m -> All2 S (a :: l) (b :: m)
theorem All2.len {α β : Type} {S : α -> β -> Prop} : ∀ {l : List α} {m : List β}, All2 S l m -> m.length = l.length
 | _, _, .nil => rfl
 | _, _, .cons _ h => by rw [List.length_cons, List.length_cons, h.len]
theorem All2.mono {α β : Type} {S S' : α -> β -> Prop} (hs : ∀ a b, S a b -> S' a b) : ∀ {l : List α} {m : List β}, All2 S l m -> All2 S' l m
 | _, _, .nil => .nil
 | _, _, .cons h1 h => .cons (hs _ _ h1) (h.mono hs)
theorem All2.eq {α : Type} : ∀ {l m : List α}, All2 (fun a b => b = a) l m -> m = l
 | _, _, .nil => rfl
 | _, _, .cons h1 h => by rw [h1, h.eq]
theorem All2.refl {α : Type} {S : α -> α -> Prop} (h : ∀ a, S a a) : ∀ l : List α, All2 S l l
 | [] => .nil
 | a :: l => .cons (h a) (All2.refl h l)
theorem All2.map {α β γ δ : Type} {S : α -> β -> Prop} {S' : γ -> δ -> Prop} (f : α -> γ) (g : β -> δ) (hs : ∀ a b, S a b -> S' (f a) (g b)) : ∀ {l : List α} {m : List β}, All2 S l m -> All2 S' (l.map f) (m.map g)
 | _, _, .nil => .nil
 | _, _, .cons h1 h => .cons (hs _ _ h1) (h.map f g hs)
theorem All2.app {α β : Type} {S : α -> β -> Prop} : ∀ {l : List α} {m : List β} {l' : List α} {m' : List β}, All2 S l m -> All2 S l' m' -> All2 S (l ++ l') (m ++ m')
 | _, _, _, _, .nil, h => h
 | _, _, _, _, .cons h1 h, h' => .cons h1 (h.app h')
theorem All2.drop {α β : Type} {S : α -> β -> Prop} : ∀ (k : Nat) {l : List α} {m : List β}, All2 S l m -> All2 S (l.drop k) (m.drop k)
 | 0, _, _, h => h
 | _ + 1, _, _, .nil => .nil
 | k + 1, _, _, .cons _ h => All2.drop k h
theorem All2.tail {α β : Type} {S : α -> β -> Prop} {l : List α} {m : List β} (h : All2 S l m) : All2 S l.tail m.tail := by
 cases h with
 | nil => exact .nil
 | cons _ h => exact h
theorem All2.getD {α β : Type} {S : α -> β -> Prop} (a : α) (b : β) (hab : S a b) : ∀ (k : Nat) {l : List α} {m : List β}, All2 S l m -> S (l.getD k a) (m.getD k b)
 | _, _, _, .nil => by simpa using hab
 | 0, _, _, .cons h _ => by simpa using h
 | k + 1, _, _, .cons _ h => by simpa using All2.getD a b hab k h
theorem All2.headD {α β : Type} {S : α -> β -> Prop} {a : α} {b : β} (hab : S a b) {l : List α} {m : List β} (h : All2 S l m) : S (l.headD a) (m.headD b) := by
 cases h with
 | nil => exact hab
 | cons h _ => exact h
theorem All2.get {α β : Type} {S : α -> β -> Prop} : ∀ {l : List α} {m : List β}, All2 S l m -> ∀ k : Nat, (l[k]? = none /\ m[k]? = none) \/ ∃ a b, l[k]? = some a /\ m[k]? = some b /\ S a b
 | _, _, .nil, k => .inl ⟨by simp, by simp⟩
 | _, _, .cons h1 h, 0 => .inr ⟨_, _, rfl, rfl, h1⟩
 | _, _, .cons _ h, k + 1 => by simpa using h.get k
inductive Sim (ρ : Nat -> Nat -> Prop) : Node -> Node -> Prop
 | mk (t u : Tok) (l m : List Node) (k : Nat) : TSim ρ t u -> (t.kind = 2 -> k = 0) -> All2 (Sim ρ) l m -> Sim ρ (.mk t l k) (.mk u m k)
variable {ρ : Nat -> Nat -> Prop}
theorem Sim.tok {n m : Node} (h : Sim ρ n m) : TSim ρ n.tok m.tok := by cases h with | mk t u l m k h1 h2 h3 => exact h1
theorem Sim.takes {n m : Node} (h : Sim ρ n m) : m.takes = n.takes := by cases h with | mk t u l m k h1 h2 h3 => rfl
theorem Sim.num {n m : Node} (h : Sim ρ n m) (hk : n.tok.kind = 2) : n.takes = 0 := by cases h with | mk t u l m k h1 h2 h3 => exact h2 hk
theorem Sim.kids {n m : Node} (h : Sim ρ n m) : All2 (Sim ρ) n.list m.list := by cases h with | mk t u l m k h1 h2 h3 => exact h3
theorem Sim.pos {n m : Node} (h : Sim ρ n m) : ρ n.pos m.pos := h.tok.pos
theorem Sim.text {n m : Node} (h : Sim ρ n m) (hk : n.tok.kind ≠ 2) : m.text = n.text := h.tok.text hk
theorem Sim.isList {n m : Node} (h : Sim ρ n m) : jAF m = jAF n := by unfold jAF; rw [h.tok.kind]
theorem Sim.jHJ {n m : Node} (h : Sim ρ n m) : jAS m = jAS n := by unfold jAS; rw [h.tok.kind]
theorem Sim.isInt {n m : Node} (h : Sim ρ n m) : jB8 m = jB8 n := by unfold jB8; rw [h.tok.kind]
theorem Sim.isName {n m : Node} (h : Sim ρ n m) : jAM m = jAM n := by
 unfold jAM; rw [h.tok.kind, h.takes]; by_cases hk : n.tok.kind = 2
 . rw [hk]; simp
 . rw [h.text hk]
theorem Sim.word {n m : Node} (h : Sim ρ n m) : word m = word n \/ Plain (word n) /\ Plain (word m) := by
 have hk := h.kids; unfold Px.word
 revert hk
 generalize n.list = l; generalize m.list = l'; intro hk; cases hk with
 | nil => exact .inl rfl
 | @cons a b l l' h1 h2 =>
   simp only []; rw [h1.isList]; by_cases hl : jAF a = true
   . rw [if_pos hl, if_pos hl]; exact .inl rfl
   . rw [if_neg hl, if_neg hl]; by_cases h2 : a.tok.kind = 2
     . exact .inr (h1.tok.num h2)
     . exact .inl (h1.text h2)
theorem jEE {a b : List UInt8} (h : b = a \/ Plain a /\ Plain b) (s : List UInt8) (hs : ∀ x, Plain x -> x ≠ s) : (b = s) = (a = s) := by
 rcases h with rfl | ⟨h1, h2⟩
 . rfl
 . exact propext ⟨fun h => absurd h (hs _ h2), fun h => absurd h (hs _ h1)⟩
def RR {α β : Type} (ρ : Nat -> Nat -> Prop) (S : α -> β -> Prop) : R α -> R β -> Prop
 | .ok x, .ok y => S x y
 | .error p, .error q => ρ p q
 | _, _ => False
theorem jJ4 {n m : Node} (h : Sim ρ n m) (a b : Nat) : RR ρ (fun _ _ => True) (hold n a b) (hold m a b) := by
 unfold hold; rw [h.kids.len]; by_cases h1 : n.list.length < a
 . rw [if_pos h1, if_pos h1]; exact h.pos
 . rw [if_neg h1, if_neg h1]
   rcases h.kids.get b with ⟨e1, e2⟩ | ⟨x, y, e1, e2, e3⟩
   . rw [e1, e2]; trivial
   . rw [e1, e2]; exact e3.pos
theorem jC7 {n m : Node} (h : Sim ρ n m) (a b : Nat) : RR ρ (All2 (Sim ρ)) (nodes n a b) (nodes m a b) := by
 unfold nodes; rw [h.isList]; by_cases h1 : jAF n = true
 . rw [if_pos h1, if_pos h1]; have hh := jJ4 h a b; cases e1 : hold n a b <;> cases e2 : hold m a b <;> rw [e1, e2] at hh <;> first | exact hh | exact hh.elim | exact h.kids
 . rw [if_neg h1, if_neg h1]; exact h.pos
theorem jD7 {α β : Type} {S : α -> β -> Prop} {f : Node -> R α} {g : Node -> R β} (hf : ∀ a b, Sim ρ a b -> RR ρ S (f a) (g b)) : ∀ {l m : List Node}, All2 (Sim ρ) l m -> RR ρ (All2 S) (each f l) (each g m) := by
 intro l
 induction l with
 | nil => intro m h; cases h; exact .nil
 | cons a l ih =>
   intro m h; cases h with
   | @cons _ b _ m h1 h2 =>
     have hh := hf a b h1; have hi := ih h2; simp only [each]; cases e1 : f a <;> cases e2 : g b <;> rw [e1, e2] at hh <;> try exact hh.elim
     . exact hh
     . simp only []; cases e3 : each f l <;> cases e4 : each g m <;> rw [e3, e4] at hi <;> try exact hi.elim
       . exact hi
       . exact .cons hh hi
theorem jIW {n m : Node} (h : Sim ρ n m) : RR ρ (fun a b => b = a) (name n) (name m) := by
 unfold name; rw [h.isName]; by_cases h1 : jAM n = true
 . rw [if_pos h1, if_pos h1]; refine h.text ?_; unfold jAM at h1; simp only [Bool.and_eq_true, beq_iff_eq] at h1
   intro e; rw [e] at h1; exact absurd h1.1.2 (by decide)
 . rw [if_neg h1, if_neg h1]; exact h.pos
theorem jEY {n m : Node} (h : Sim ρ n m) : RR ρ (fun a b => b = a) (jAJ n) (jAJ m) := by
 unfold jAJ; rw [h.jHJ]; by_cases h1 : jAS n = true
 . rw [if_pos h1, if_pos h1]; refine h.text ?_; unfold jAS at h1; simp only [beq_iff_eq] at h1
   intro e; rw [e] at h1; exact absurd h1 (by decide)
 . rw [if_neg h1, if_neg h1]; exact h.pos
theorem jH8 {n m : Node} (h : Sim ρ n m) (a : Nat) : RR ρ (fun a b => b = a) (names n a) (names m a) := by
 unfold names; have hh := jC7 h a 8; cases e1 : nodes n a 8 <;> cases e2 : nodes m a 8 <;> rw [e1, e2] at hh <;> try exact hh.elim
 . exact hh
 . rename_i l l'; simp only []; have hn := jD7 (S := fun a b => b = a) (fun a b h => jIW h) hh; cases e3 : each name l <;> cases e4 : each name l' <;> rw [e3, e4] at hn <;> try exact hn.elim
   . exact hn
   . exact hn.eq
inductive SimT (ρ : Nat -> Nat -> Prop) : TypeE -> TypeE -> Prop
 | mk (p q : Nat) (nm : List UInt8) (l m : List TypeE) : ρ p q -> All2 (SimT ρ) l m -> SimT ρ (.mk p nm l) (.mk q nm m)
inductive SimP (ρ : Nat -> Nat -> Prop) : Pat -> Pat -> Prop
 | mk (k p q : Nat) (nm : List UInt8) (i : Int) (l m : List Pat) : ρ p q -> All2 (SimP ρ) l m -> SimP ρ (.mk k p nm i l) (.mk k q nm i m)
inductive SimE (ρ : Nat -> Nat -> Prop) : Expr -> Expr -> Prop
 | mk (k p q : Nat) (nm : List UInt8) (i : Int) (ns : List (List UInt8)) (xs ys : List Expr) (al bl : List (Pat × Expr)) : ρ p q -> All2 (SimE ρ) xs ys ->
    All2 (SimP ρ) (al.map (·.1)) (bl.map (·.1)) -> All2 (SimE ρ) (al.map (·.2)) (bl.map (·.2)) -> SimE ρ (.mk k p nm i ns xs al) (.mk k q nm i ns ys bl)
theorem jI2 {n : Node} (h : jB8 n = false) : n.tok.kind ≠ 2 := by
 unfold jB8 at h; simpa using h
theorem jJ3 {n : Node} (h : jAS n = true) : n.tok.kind ≠ 2 := by
 unfold jAS at h; simp only [beq_iff_eq] at h; intro e; rw [e] at h; exact absurd h (by decide)
theorem jKH {n : Node} (h : jAM n = true) : n.tok.kind ≠ 2 := by
 unfold jAM at h; simp only [Bool.and_eq_true, beq_iff_eq] at h
 intro e; rw [e] at h; exact absurd h.1.2 (by decide)
theorem jPD : ∀ (f : Nat) {n m : Node}, Sim ρ n m -> RR ρ (SimT ρ) (typeE f n) (typeE f m) := by
 intro f
 induction f with
 | zero => intro n m h; exact h.pos
 | succ f ih =>
   intro n m h; rw [typeE, typeE, h.jHJ, h.isName]; by_cases h1 : (jAS n || jAM n) = true
   . rw [if_pos h1, if_pos h1]
     have ht : m.text = n.text := by
      rw [Bool.or_eq_true] at h1
      rcases h1 with h1 | h1
      . exact h.text (jJ3 h1)
      . exact h.text (jKH h1)
     rw [ht]; exact .mk _ _ _ _ _ h.pos .nil
   . rw [if_neg h1, if_neg h1]; have hh := jC7 h 2 9; cases e1 : nodes n 2 9 <;> cases e2 : nodes m 2 9 <;> rw [e1, e2] at hh <;> try exact hh.elim
     . exact hh
     . rename_i l l'; simp only []; have hw : (word m = [45, 62]) = (word n = [45, 62]) := jEE h.word _ (fun x hx => hx.2.2.2.2.2.2.1)
       have key : RR ρ (fun a b => b = a) (if word n = [45, 62] then (match hold n 3 3 with | .error p => .error p | .ok _ => .ok ([45, 62] : List UInt8)) else jAJ (l.headD n)) (if word m = [45, 62] then (match hold m 3 3 with | .error p => .error p | .ok _ => .ok ([45, 62] : List UInt8)) else jAJ (l'.headD m)) := by
        by_cases hwn : word n = [45, 62]
        . rw [if_pos hwn, if_pos (hw.mpr hwn)]; have h3 := jJ4 h 3 3; cases e3 : hold n 3 3 <;> cases e4 : hold m 3 3 <;> rw [e3, e4] at h3 <;> try exact h3.elim
          . exact h3
          . exact rfl
        . rw [if_neg hwn, if_neg (fun e => hwn (hw.mp e))]; exact jEY (All2.headD h hh)
       revert key
       generalize (if word n = [45, 62] then (match hold n 3 3 with | .error p => .error p | .ok _ => .ok ([45, 62] : List UInt8)) else jAJ (l.headD n)) = A; generalize (if word m = [45, 62] then (match hold m 3 3 with | .error p => .error p | .ok _ => .ok ([45, 62] : List UInt8)) else jAJ (l'.headD m)) = B; intro key; cases A <;> cases B <;> try exact key.elim
       . exact key
       . obtain rfl := key; simp only []; have hn := jD7 (S := SimT ρ) (fun a b h => ih h) hh.tail; cases e3 : each (typeE f) l.tail <;> cases e4 : each (typeE f) l'.tail <;> rw [e3, e4] at hn <;> try exact hn.elim
         . exact hn
         . exact .mk _ _ _ _ _ h.pos hn
theorem pat_sim : ∀ (f : Nat) {n m : Node}, Sim ρ n m -> RR ρ (SimP ρ) (pat f n) (pat f m) := by
 intro f
 induction f with
 | zero => intro n m h; exact h.pos
 | succ f ih =>
   intro n m h; rw [pat, pat, h.isList, h.isInt, h.jHJ, h.isName, h.tok.int]; by_cases h1 : jAF n = true
   . rw [if_pos h1, if_pos h1]; have hh := jC7 h 2 9; cases e1 : nodes n 2 9 <;> cases e2 : nodes m 2 9 <;> rw [e1, e2] at hh <;> try exact hh.elim
     . exact hh
     . rename_i l l'; simp only []; have key := jEY (All2.headD h hh); cases eA : jAJ (l.headD n) <;> cases eB : jAJ (l'.headD m) <;> rw [eA, eB] at key <;> try exact key.elim
       . exact key
       . obtain rfl := key; simp only []; have hn := jD7 (S := SimP ρ) (fun a b h => ih h) hh.tail; cases e3 : each (pat f) l.tail <;> cases e4 : each (pat f) l'.tail <;> rw [e3, e4] at hn <;> try exact hn.elim
         . exact hn
         . exact .mk _ _ _ _ _ _ _ h.pos hn
   . rw [if_neg h1, if_neg h1]; by_cases h2 : jB8 n = true
     . rw [if_pos h2, if_pos h2]; exact .mk _ _ _ _ _ _ _ h.pos .nil
     . rw [if_neg h2, if_neg h2, h.text (jI2 (by simpa using h2))]; by_cases h3 : jAS n = true
       . rw [if_pos h3, if_pos h3]; exact .mk _ _ _ _ _ _ _ h.pos .nil
       . rw [if_neg h3, if_neg h3]; by_cases h4 : jAM n = true
         . rw [if_pos h4, if_pos h4]; exact .mk _ _ _ _ _ _ _ h.pos .nil
         . rw [if_neg h4, if_neg h4]; by_cases h5 : n.text = [95]
           . rw [if_pos h5, if_pos h5]; exact .mk _ _ _ _ _ _ _ h.pos .nil
           . rw [if_neg h5, if_neg h5]; exact h.pos
def PairS (ρ : Nat -> Nat -> Prop) (a b : List UInt8 × Expr) : Prop := b.1 = a.1 /\ SimE ρ a.2 b.2
def AltS (ρ : Nat -> Nat -> Prop) (a b : Pat × Expr) : Prop := SimP ρ a.1 b.1 /\ SimE ρ a.2 b.2
section
variable {ex : Node -> R Expr} (hex : ∀ a b, Sim ρ a b -> RR ρ (SimE ρ) (ex a) (ex b))
include hex
theorem pair_sim {n m : Node} (h : Sim ρ n m) : RR ρ (PairS ρ) (pair ex n) (pair ex m) := by
 unfold pair; have hh := jC7 h 2 2; cases e1 : nodes n 2 2 <;> cases e2 : nodes m 2 2 <;> rw [e1, e2] at hh <;> try exact hh.elim
 . exact hh
 . rename_i l l'; simp only []; have key := jIW (All2.headD h hh); cases eA : name (l.headD n) <;> cases eB : name (l'.headD m) <;> rw [eA, eB] at key <;> try exact key.elim
   . exact key
   . obtain rfl := key; simp only []; have k2 := hex _ _ (All2.getD n m h 1 hh); cases eC : ex (l.getD 1 n) <;> cases eD : ex (l'.getD 1 m) <;> rw [eC, eD] at k2 <;> try exact k2.elim
     . exact k2
     . exact ⟨rfl, k2⟩
theorem alt_sim (f : Nat) {n m : Node} (h : Sim ρ n m) : RR ρ (AltS ρ) (alt f ex n) (alt f ex m) := by
 unfold alt; have hh := jC7 h 2 2; cases e1 : nodes n 2 2 <;> cases e2 : nodes m 2 2 <;> rw [e1, e2] at hh <;> try exact hh.elim
 . exact hh
 . rename_i l l'; simp only []; have key := pat_sim f (All2.headD h hh); cases eA : pat f (l.headD n) <;> cases eB : pat f (l'.headD m) <;> rw [eA, eB] at key <;> try exact key.elim
   . exact key
   . simp only []; have k2 := hex _ _ (All2.getD n m h 1 hh); cases eC : ex (l.getD 1 n) <;> cases eD : ex (l'.getD 1 m) <;> rw [eC, eD] at k2 <;> try exact k2.elim
     . exact k2
     . exact ⟨key, k2⟩
theorem fn_sim {n m : Node} (h : Sim ρ n m) : RR ρ (SimE ρ) (jCW ex n) (jCW ex m) := by
 unfold jCW; have hh := jC7 h 3 3; cases e1 : nodes n 3 3 <;> cases e2 : nodes m 3 3 <;> rw [e1, e2] at hh <;> try exact hh.elim
 . exact hh
 . rename_i l l'; simp only []; have key := jH8 (All2.getD n m h 1 hh) 1; cases eA : names (l.getD 1 n) 1 <;> cases eB : names (l'.getD 1 m) 1 <;> rw [eA, eB] at key <;> try exact key.elim
   . exact key
   . obtain rfl := key; simp only []; have k2 := hex _ _ (All2.getD n m h 2 hh); cases eC : ex (l.getD 2 n) <;> cases eD : ex (l'.getD 2 m) <;> rw [eC, eD] at k2 <;> try exact k2.elim
     . exact k2
     . exact .mk _ _ _ _ _ _ _ _ _ _ h.pos (.cons k2 .nil) .nil .nil
theorem let_sim {n m : Node} (h : Sim ρ n m) : RR ρ (SimE ρ) (jBW ex n) (jBW ex m) := by
 unfold jBW; have hh := jC7 h 3 3; cases e1 : nodes n 3 3 <;> cases e2 : nodes m 3 3 <;> rw [e1, e2] at hh <;> try exact hh.elim
 . exact hh
 . rename_i l l'; simp only []; have key := jC7 (All2.getD n m h 1 hh) 1 8; cases eA : nodes (l.getD 1 n) 1 8 <;> cases eB : nodes (l'.getD 1 m) 1 8 <;> rw [eA, eB] at key <;> try exact key.elim
   . exact key
   . rename_i ps ps'; simp only []; have hb := jD7 (S := PairS ρ) (fun a b h => pair_sim hex h) key; cases eE : each (pair ex) ps <;> cases eF : each (pair ex) ps' <;> rw [eE, eF] at hb <;> try exact hb.elim
     . exact hb
     . rename_i bs bs'; simp only []; have k2 := hex _ _ (All2.getD n m h 2 hh); cases eC : ex (l.getD 2 n) <;> cases eD : ex (l'.getD 2 m) <;> rw [eC, eD] at k2 <;> try exact k2.elim
       . exact k2
       . have e : bs'.map (·.1) = bs.map (·.1) := (hb.map (S' := fun a b => b = a) (·.1) (·.1) (fun a b h => h.1)).eq; have e2 : All2 (SimE ρ) (bs.map (·.2)) (bs'.map (·.2)) := hb.map (·.2) (·.2) (fun a b h => h.2); have e3 : All2 (SimE ρ) [_] [_] := .cons k2 .nil; simp only [RR]; rw [e]; exact .mk _ _ _ _ _ _ _ _ _ _ h.pos (e2.app e3) .nil .nil
theorem case_sim (f : Nat) {n m : Node} (h : Sim ρ n m) : RR ρ (SimE ρ) (jBL f ex n) (jBL f ex m) := by
 unfold jBL; have hh := jC7 h 3 18; cases e1 : nodes n 3 18 <;> cases e2 : nodes m 3 18 <;> rw [e1, e2] at hh <;> try exact hh.elim
 . exact hh
 . rename_i l l'; simp only []; have k2 := hex _ _ (All2.getD n m h 1 hh); cases eC : ex (l.getD 1 n) <;> cases eD : ex (l'.getD 1 m) <;> rw [eC, eD] at k2 <;> try exact k2.elim
   . exact k2
   . simp only []; have hb := jD7 (S := AltS ρ) (fun a b h => alt_sim hex f h) (hh.drop 2); cases eE : each (alt f ex) (l.drop 2) <;> cases eF : each (alt f ex) (l'.drop 2) <;> rw [eE, eF] at hb <;> try exact hb.elim
     . exact hb
     . exact .mk _ _ _ _ _ _ _ _ _ _ h.pos (.cons k2 .nil) (hb.map _ _ (fun a b h => h.1)) (hb.map _ _ (fun a b h => h.2))
theorem jQ2 {n m : Node} (h : Sim ρ n m) : RR ρ (SimE ρ) (jAV ex n) (jAV ex m) := by
 unfold jAV; have hh := jC7 h 2 9; cases e1 : nodes n 2 9 <;> cases e2 : nodes m 2 9 <;> rw [e1, e2] at hh <;> try exact hh.elim
 . exact hh
 . rename_i l l'; have hf := All2.headD h hh; simp only []; generalize l.headD n = x at hf ⊢; generalize l'.headD m = y at hf ⊢; rw [hf.takes, hf.jHJ]; by_cases h1 : 0 < x.takes
   . rw [if_pos h1, if_pos h1, hf.text (fun e => by have := hf.num e; omega)]; have h3 := jJ4 h (1 + x.takes) (1 + x.takes); cases e3 : hold n (1 + x.takes) (1 + x.takes) <;> cases e4 : hold m (1 + x.takes) (1 + x.takes) <;> rw [e3, e4] at h3 <;> try exact h3.elim
     . exact h3
     . simp only []; have hb := jD7 (S := SimE ρ) hex hh.tail; cases eE : each ex l.tail <;> cases eF : each ex l'.tail <;> rw [eE, eF] at hb <;> try exact hb.elim
       . exact hb
       . exact .mk _ _ _ _ _ _ _ _ _ _ h.pos hb .nil .nil
   . rw [if_neg h1, if_neg h1]; by_cases h2 : jAS x = true
     . rw [if_pos h2, if_pos h2, hf.text (jJ3 h2)]; have hb := jD7 (S := SimE ρ) hex hh.tail; cases eE : each ex l.tail <;> cases eF : each ex l'.tail <;> rw [eE, eF] at hb <;> try exact hb.elim
       . exact hb
       . exact .mk _ _ _ _ _ _ _ _ _ _ h.pos hb .nil .nil
     . rw [if_neg h2, if_neg h2]; have hb := jD7 (S := SimE ρ) hex hh; cases eE : each ex l <;> cases eF : each ex l' <;> rw [eE, eF] at hb <;> try exact hb.elim
       . exact hb
       . exact .mk _ _ _ _ _ _ _ _ _ _ h.pos hb .nil .nil
theorem list_sim (f : Nat) {n m : Node} (h : Sim ρ n m) : RR ρ (SimE ρ) (listExpr f ex n) (listExpr f ex m) := by
 unfold listExpr; have w1 : (word m = [102, 110]) = (word n = [102, 110]) := jEE h.word _ (fun x hx => hx.2.2.2.1); have w2 : (word m = [108, 101, 116]) = (word n = [108, 101, 116]) := jEE h.word _ (fun x hx => hx.2.2.2.2.1); have w3 : (word m = [99, 97, 115, 101]) = (word n = [99, 97, 115, 101]) := jEE h.word _ (fun x hx => hx.2.2.2.2.2.1); simp only [w1, w2, w3]; by_cases h1 : word n = [102, 110]
 . rw [if_pos h1, if_pos h1]; exact fn_sim hex h
 . rw [if_neg h1, if_neg h1]; by_cases h2 : word n = [108, 101, 116]
   . rw [if_pos h2, if_pos h2]; exact let_sim hex h
   . rw [if_neg h2, if_neg h2]; by_cases h3 : word n = [99, 97, 115, 101]
     . rw [if_pos h3, if_pos h3]; exact case_sim hex f h
     . rw [if_neg h3, if_neg h3]; exact jQ2 hex h
end
theorem jN3 : ∀ (f : Nat) (n m : Node), Sim ρ n m -> RR ρ (SimE ρ) (expr f n) (expr f m) := by
 intro f
 induction f with
 | zero => intro n m h; exact h.pos
 | succ f ih =>
   intro n m h; rw [expr, expr, h.isList, h.isInt, h.jHJ, h.isName, h.tok.int]; by_cases h1 : jAF n = true
   . rw [if_pos h1, if_pos h1]; exact list_sim ih f h
   . rw [if_neg h1, if_neg h1]; by_cases h2 : jB8 n = true
     . rw [if_pos h2, if_pos h2]; exact .mk _ _ _ _ _ _ _ _ _ _ h.pos .nil .nil .nil
     . rw [if_neg h2, if_neg h2, h.text (jI2 (by simpa using h2))]; by_cases h3 : jAS n = true
       . rw [if_pos h3, if_pos h3]; exact .mk _ _ _ _ _ _ _ _ _ _ h.pos .nil .nil .nil
       . rw [if_neg h3, if_neg h3]; by_cases h4 : jAM n = true
         . rw [if_pos h4, if_pos h4]; exact .mk _ _ _ _ _ _ _ _ _ _ h.pos .nil .nil .nil
         . rw [if_neg h4, if_neg h4]; exact h.pos
structure SimCon (ρ : Nat -> Nat -> Prop) (a b : Con) : Prop where
 pos : ρ a.pos b.pos
 name : b.name = a.name
 fields : All2 (SimT ρ) a.fields b.fields
structure SimData (ρ : Nat -> Nat -> Prop) (a b : Data) : Prop where
 pos : ρ a.pos b.pos
 name : b.name = a.name
 params : b.params = a.params
 cons : All2 (SimCon ρ) a.cons b.cons
structure SimDef (ρ : Nat -> Nat -> Prop) (a b : Def) : Prop where
 pos : ρ a.pos b.pos
 name : b.name = a.name
 params : b.params = a.params
 body : SimE ρ a.body b.body
structure SimProg (ρ : Nat -> Nat -> Prop) (a b : Prog) : Prop where
 datas : All2 (SimData ρ) a.datas b.datas
 defs : All2 (SimDef ρ) a.defs b.defs
theorem con_sim (f : Nat) {n m : Node} (h : Sim ρ n m) : RR ρ (SimCon ρ) (con f n) (con f m) := by
 unfold con; have hh := jC7 h 1 9; cases e1 : nodes n 1 9 <;> cases e2 : nodes m 1 9 <;> rw [e1, e2] at hh <;> try exact hh.elim
 . exact hh
 . rename_i l l'; simp only []; have key := jEY (All2.headD h hh); cases eA : jAJ (l.headD n) <;> cases eB : jAJ (l'.headD m) <;> rw [eA, eB] at key <;> try exact key.elim
   . exact key
   . obtain rfl := key; simp only []; have hb := jD7 (S := SimT ρ) (fun a b h => jPD f h) hh.tail; cases eE : each (typeE f) l.tail <;> cases eF : each (typeE f) l'.tail <;> rw [eE, eF] at hb <;> try exact hb.elim
     . exact hb
     . exact ⟨h.pos, rfl, hb⟩
theorem data_sim (f : Nat) {n m : Node} (h : Sim ρ n m) : RR ρ (SimData ρ) (data f n) (data f m) := by
 unfold data; have hh := jC7 h 4 103; cases e1 : nodes n 4 103 <;> cases e2 : nodes m 4 103 <;> rw [e1, e2] at hh <;> try exact hh.elim
 . exact hh
 . rename_i l l'; simp only []; have key := jEY (All2.getD n m h 1 hh); cases eA : jAJ (l.getD 1 n) <;> cases eB : jAJ (l'.getD 1 m) <;> rw [eA, eB] at key <;> try exact key.elim
   . exact key
   . obtain rfl := key; simp only []; have kn := jH8 (All2.getD n m h 2 hh) 0; cases eG : names (l.getD 2 n) 0 <;> cases eH : names (l'.getD 2 m) 0 <;> rw [eG, eH] at kn <;> try exact kn.elim
     . exact kn
     . obtain rfl := kn; simp only []; have hb := jD7 (S := SimCon ρ) (fun a b h => con_sim f h) (hh.drop 3); cases eE : each (con f) (l.drop 3) <;> cases eF : each (con f) (l'.drop 3) <;> rw [eE, eF] at hb <;> try exact hb.elim
       . exact hb
       . exact ⟨h.pos, rfl, rfl, hb⟩
theorem defn_sim (f : Nat) {n m : Node} (h : Sim ρ n m) : RR ρ (SimDef ρ) (defn f n) (defn f m) := by
 unfold defn; have hh := jC7 h 4 4; cases e1 : nodes n 4 4 <;> cases e2 : nodes m 4 4 <;> rw [e1, e2] at hh <;> try exact hh.elim
 . exact hh
 . rename_i l l'; simp only []; have key := jIW (All2.getD n m h 1 hh); cases eA : name (l.getD 1 n) <;> cases eB : name (l'.getD 1 m) <;> rw [eA, eB] at key <;> try exact key.elim
   . exact key
   . obtain rfl := key; simp only []; have kn := jH8 (All2.getD n m h 2 hh) 0; cases eG : names (l.getD 2 n) 0 <;> cases eH : names (l'.getD 2 m) 0 <;> rw [eG, eH] at kn <;> try exact kn.elim
     . exact kn
     . obtain rfl := kn; simp only []; have hb := jN3 f _ _ (All2.getD n m h 3 hh); cases eE : expr f (l.getD 3 n) <;> cases eF : expr f (l'.getD 3 m) <;> rw [eE, eF] at hb <;> try exact hb.elim
       . exact hb
       . exact ⟨h.pos, rfl, rfl, hb⟩
def NodeS (ρ : Nat -> Nat -> Prop) (a b : Node × List Tok) : Prop := Sim ρ a.1 b.1 /\ All2 (TSim ρ) a.2 b.2
def RestS (ρ : Nat -> Nat -> Prop) (a b : List Node × List Tok) : Prop := All2 (Sim ρ) a.1 b.1 /\ All2 (TSim ρ) a.2 b.2
theorem jPK {t u : Tok} (h : TSim ρ t u) : jBG u.text = jBG t.text /\ (t.kind = 2 -> jBG t.text = 0) := by
 by_cases hk : t.kind = 2
 . obtain ⟨h1, h2⟩ := h.num hk; exact ⟨by rw [h1.1, h2.1], fun _ => h1.1⟩
 . exact ⟨by rw [h.text hk], fun e => absurd e hk⟩
theorem jJP (stop stop' : Nat) (hs : ρ stop stop') : ∀ (f d : Nat) (ts us : List Tok), All2 (TSim ρ) ts us ->
 RR ρ (NodeS ρ) (node stop f d ts) (node stop' f d us) /\ RR ρ (RestS ρ) (rest stop f d ts) (rest stop' f d us) := by
 intro f
 induction f with
 | zero => intro d ts us h; exact ⟨hs, hs⟩
 | succ f ih =>
   intro d ts us h; cases h with
   | nil => exact ⟨hs, hs⟩
   | @cons t u ts us h1 h2 =>
     constructor
     . rw [node, node, h1.kind]; by_cases k1 : t.kind = 1
       . rw [if_pos k1, if_pos k1]; exact h1.pos
       . rw [if_neg k1, if_neg k1]; by_cases k0 : t.kind = 0
         . rw [if_pos k0, if_pos k0]; by_cases hd : d = 40
           . rw [if_pos hd, if_pos hd]; exact h1.pos
           . rw [if_neg hd, if_neg hd]; have hr := (ih (d + 1) ts us h2).2; cases e1 : rest stop f (d + 1) ts <;> cases e2 : rest stop' f (d + 1) us <;> rw [e1, e2] at hr <;> try exact hr.elim
             . exact hr
             . exact ⟨.mk _ _ _ _ _ h1 (fun _ => rfl) hr.1, hr.2⟩
         . rw [if_neg k0, if_neg k0]; obtain ⟨t1, t2⟩ := jPK h1; rw [t1]; exact ⟨.mk _ _ _ _ _ h1 t2 .nil, h2⟩
     . rw [rest, rest, h1.kind]; by_cases k1 : t.kind = 1
       . rw [if_pos k1, if_pos k1]; exact ⟨.nil, h2⟩
       . rw [if_neg k1, if_neg k1]; have hn := (ih d (t :: ts) (u :: us) (.cons h1 h2)).1; cases e1 : node stop f d (t :: ts) <;> cases e2 : node stop' f d (u :: us) <;> rw [e1, e2] at hn <;> try exact hn.elim
         . exact hn
         . rename_i x y; obtain ⟨n, ts'⟩ := x; obtain ⟨m, us'⟩ := y; simp only []; have hr := (ih d ts' us' hn.2).2; cases e3 : rest stop f d ts' <;> cases e4 : rest stop' f d us' <;> rw [e3, e4] at hr <;> try exact hr.elim
           . exact hr
           . exact ⟨.cons hn.1 hr.1, hr.2⟩
end Px
namespace Px
open Lx (Tok)
def opens : List Tok -> Nat
 | [] => 0
 | t :: ts => (if t.kind = 0 then 1 else 0) + opens ts
theorem jKB (stop stop' : Nat) : ∀ (f d : Nat) (ts : List Tok),
 (∀ n ts', node stop f d ts = .ok (n, ts') -> opens ts' <= opens ts /\ (n.list ≠ [] -> opens ts' < opens ts) /\ ts'.length < ts.length /\
   ∀ f' d' more, f <= f' -> (d' = d \/ d' + opens ts <= 40) -> node stop' f' d' (ts ++ more) = .ok (n, ts' ++ more)) /\
 (∀ l ts', rest stop f d ts = .ok (l, ts') -> opens ts' <= opens ts /\ ts'.length < ts.length /\
   ∀ f' d' more, f <= f' -> (d' = d \/ d' + opens ts <= 40) -> rest stop' f' d' (ts ++ more) = .ok (l, ts' ++ more)) := by
 intro f
 induction f with
 | zero => intro d ts; exact ⟨fun n ts' h => (by cases h), fun l ts' h => (by cases h)⟩
 | succ f ih =>
   intro d ts; cases ts with
   | nil => exact ⟨fun n ts' h => (by cases h), fun l ts' h => (by cases h)⟩
   | cons t ts =>
     constructor
     . intro n ts' h; rw [node] at h; by_cases k1 : t.kind = 1
       . rw [if_pos k1] at h; cases h
       . rw [if_neg k1] at h; by_cases k0 : t.kind = 0
         . rw [if_pos k0] at h; by_cases hd : d = 40
           . rw [if_pos hd] at h; cases h
           . rw [if_neg hd] at h; have hi := (ih (d + 1) ts).2; cases hr : rest stop f (d + 1) ts with
             | error p => rw [hr] at h; cases h
             | ok x =>
               obtain ⟨l, ts1⟩ := x; rw [hr] at h; simp only [Except.ok.injEq, Prod.mk.injEq] at h; obtain ⟨rfl, rfl⟩ := h; obtain ⟨h1, h2, h3⟩ := hi _ _ hr; have ho : opens (t :: ts) = opens ts + 1 := by rw [opens, if_pos k0]; omega
               refine ⟨by omega, fun _ => by omega, by rw [List.length_cons]; omega, fun f' d' more hf hdd => ?_⟩; obtain ⟨f', rfl⟩ : ∃ g, f' = g + 1 := ⟨f' - 1, by omega⟩
               rw [List.cons_append, node, if_neg k1, if_pos k0, if_neg (by omega), h3 f' (d' + 1) more (by omega) (by omega)]
         . rw [if_neg k0] at h; simp only [Except.ok.injEq, Prod.mk.injEq] at h; obtain ⟨rfl, rfl⟩ := h; have ho : opens (t :: ts) = opens ts := by rw [opens, if_neg k0]; omega
           refine ⟨by omega, fun e => absurd rfl e, by rw [List.length_cons]; omega, fun f' d' more hf hdd => ?_⟩; obtain ⟨f', rfl⟩ : ∃ g, f' = g + 1 := ⟨f' - 1, by omega⟩
           rw [List.cons_append, node, if_neg k1, if_neg k0]
     . intro l ts' h; rw [rest] at h; by_cases k1 : t.kind = 1
       . rw [if_pos k1] at h; simp only [Except.ok.injEq, Prod.mk.injEq] at h; obtain ⟨rfl, rfl⟩ := h; have ho : opens (t :: ts) = opens ts := by rw [opens, if_neg (by omega)]; omega
         refine ⟨by omega, by rw [List.length_cons]; omega, fun f' d' more hf hdd => ?_⟩; obtain ⟨f', rfl⟩ : ∃ g, f' = g + 1 := ⟨f' - 1, by omega⟩
         rw [List.cons_append, rest, if_pos k1]
       . rw [if_neg k1] at h; have hi := (ih d (t :: ts)).1; cases hn : node stop f d (t :: ts) with
         | error p => rw [hn] at h; cases h
         | ok x =>
           obtain ⟨n, ts1⟩ := x; rw [hn] at h; simp only at h; obtain ⟨h1, _, h2, h3⟩ := hi _ _ hn; have hj := (ih d ts1).2; cases hr : rest stop f d ts1 with
           | error p => rw [hr] at h; cases h
           | ok y =>
             obtain ⟨l', ts2⟩ := y; rw [hr] at h; simp only [Except.ok.injEq, Prod.mk.injEq] at h; obtain ⟨rfl, rfl⟩ := h; obtain ⟨g1, g2, g3⟩ := hj _ _ hr; refine ⟨by omega, by omega, fun f' d' more hf hdd => ?_⟩; obtain ⟨f', rfl⟩ : ∃ g, f' = g + 1 := ⟨f' - 1, by omega⟩
             have a1 := h3 f' d' more (by omega) hdd; have a2 := g3 f' d' more (by omega) (by omega); rw [List.cons_append] at a1 ⊢; rw [rest, if_neg k1, a1]; simp only [a2]
theorem jFV (stop f c : Nat) : prog stop f c [] = .ok ⟨[], []⟩ := by cases f <;> rfl
theorem jEB (stop f c : Nat) (t : Tok) (ts : List Tok) : prog stop (f + 1) c (t :: ts) =
 match node stop (2 * (t :: ts).length + 2) 0 (t :: ts) with
 | .error p => .error p
 | .ok (n, ts') =>
   if c = 100 then .error n.pos
   else if word n = [100, 97, 116, 97] then
    match data 50 n with
    | .error p => .error p
    | .ok d => match prog stop f (c + 1) ts' with
      | .error p => .error p
      | .ok q => .ok ⟨d :: q.datas, q.defs⟩
   else if word n = [100, 101, 102] then
    match defn 50 n with
    | .error p => .error p
    | .ok d => match prog stop f (c + 1) ts' with
      | .error p => .error p
      | .ok q => .ok ⟨q.datas, d :: q.defs⟩
   else .error n.pos := by
 rw [prog]
 all_goals first | rfl | simp
def Prog.size (p : Prog) : Nat := p.datas.length + p.defs.length
def Prog.add (p q : Prog) : Prog := ⟨p.datas ++ q.datas, p.defs ++ q.defs⟩
theorem jQ0 (stop : Nat) : ∀ (f c : Nat) (ts : List Tok) (q : Prog), c <= 100 -> prog stop f c ts = .ok q -> c + q.size <= 100 := by
 intro f
 induction f with
 | zero => intro c ts q hc h; cases h; simpa [Prog.size] using hc
 | succ f ih =>
   intro c ts q hc h; cases ts with
   | nil => rw [jFV] at h; cases h; simpa [Prog.size] using hc
   | cons t ts =>
     rw [jEB] at h; cases hn : node stop (2 * (t :: ts).length + 2) 0 (t :: ts) with
     | error p => rw [hn] at h; cases h
     | ok x =>
       obtain ⟨n, ts1⟩ := x; rw [hn] at h; simp only at h; by_cases h100 : c = 100
       . rw [if_pos h100] at h; cases h
       . rw [if_neg h100] at h; by_cases k1 : word n = [100, 97, 116, 97]
         . rw [if_pos k1] at h; cases hd : data 50 n with
           | error p => rw [hd] at h; cases h
           | ok d =>
             rw [hd] at h; simp only at h; cases hp : prog stop f (c + 1) ts1 with
             | error p => rw [hp] at h; cases h
             | ok q' =>
               rw [hp] at h; simp only [Except.ok.injEq] at h; subst h; have := ih _ _ _ (by omega) hp; simp only [Prog.size, List.length_cons] at this ⊢; omega
         . rw [if_neg k1] at h; by_cases k2 : word n = [100, 101, 102]
           . rw [if_pos k2] at h; cases hd : defn 50 n with
             | error p => rw [hd] at h; cases h
             | ok d =>
               rw [hd] at h; simp only at h; cases hp : prog stop f (c + 1) ts1 with
               | error p => rw [hp] at h; cases h
               | ok q' =>
                 rw [hp] at h; simp only [Except.ok.injEq] at h; subst h; have := ih _ _ _ (by omega) hp; simp only [Prog.size, List.length_cons] at this ⊢; omega
           . rw [if_neg k2] at h; cases h
end Px
namespace Px
open Lx (Tok tk jBH)
def Small (n : Int) : Prop := -1000000000000000000 < n /\ n < 1000000000000000000
theorem jH6 (stop f d : Nat) (t : Tok) (ts : List Tok) (h1 : t.kind ≠ 1) (h0 : t.kind ≠ 0) : node stop (f + 1) d (t :: ts) = .ok (.mk t [] (jBG t.text), ts) := by
 rw [node, if_neg h1, if_neg h0]
theorem jQF (stop f d : Nat) (t : Tok) (ts ts' : List Tok) (l : List Node) (h0 : t.kind = 0) (hd : d ≠ 40) (h : rest stop f (d + 1) ts = .ok (l, ts')) : node stop (f + 1) d (t :: ts) = .ok (.mk t l 0, ts') := by
 rw [node, if_neg (by omega), if_pos h0, if_neg hd, h]
theorem rest_end (stop f d : Nat) (t : Tok) (ts : List Tok) (h1 : t.kind = 1) : rest stop (f + 1) d (t :: ts) = .ok ([], ts) := by
 rw [rest, if_pos h1]
end Px
namespace Lx
theorem tk_shift (d : Nat) (l : List UInt8) : tk d l = ((tk 0 l).1.map (shift d), (tk 0 l).2.map (· + d)) := by
 have := jNP d (l.length + 1) 0 l; rw [Nat.zero_add] at this; exact this
theorem jLV {l : List UInt8} {n : Nat} (h : Way l 0 n) (hn : n ≠ 0) : (at0 l 0).toNat = 40 := by
 generalize hk : (0 : Int) = k at h; cases h with
 | arrow => omega
 | neg => omega
 | pos => omega
 | name => omega
 | con => omega
 | one h1 h2 =>
   by_cases e : (at0 l 0).toNat = 40
   . exact e
   . unfold single at hk; rw [if_neg e] at hk
     repeat' split at hk
     all_goals omega
 | none => omega
theorem jO : ∀ (f p : Nat) (l : List UInt8), Px.opens (toks f p l).1 <= l.count 40 := by
 intro f
 induction f with
 | zero => intro p l; simp [toks, Px.opens]
 | succ f ih =>
   intro p l; rw [jC6]; by_cases h1 : l.length <= skipC false l
   . rw [if_pos h1]; simp [Px.opens]
   . rw [if_neg h1]; by_cases h2 : (jAK (l.drop (skipC false l))).2 = 0
     . rw [if_pos h2]; simp [Px.opens]
     . rw [if_neg h2]; simp only [Px.opens]; have hw := way (l.drop (skipC false l)); have hi := ih (p + skipC false l + (jAK (l.drop (skipC false l))).2) ((l.drop (skipC false l)).drop (jAK (l.drop (skipC false l))).2); have hd1 := (List.drop_sublist (skipC false l) l).count_le 40; have hl : 0 < (l.drop (skipC false l)).length := by rw [List.length_drop]; omega
       generalize l.drop (skipC false l) = r at *; have hd2 := (List.drop_sublist (jAK r).2 r).count_le 40; by_cases hk : (jAK r).1 = 0
       . rw [if_pos (by exact hk)]; rw [hk] at hw; have h40 := jLV hw h2; cases r with
         | nil => simp at hl
         | cons c r =>
           have hc : c = 40 := by
            have : c.toNat = 40 := h40; exact UInt8.toNat_inj.1 (by rw [this]; rfl)
           subst hc; obtain ⟨j, hj⟩ : ∃ j, (jAK (40 :: r)).2 = j + 1 := ⟨(jAK (40 :: r)).2 - 1, by omega⟩
           rw [hj] at hi ⊢; rw [List.drop_succ_cons] at hi ⊢; have hd3 := (List.drop_sublist j r).count_le 40; rw [List.count_cons_self] at hd1; omega
       . rw [if_neg (by exact hk)]; omega
end Lx
namespace Px
open Lx (Tok tk jBH)
theorem jQB {stop f d : Nat} {us : List Tok} {x : Node × List Tok} (h : node stop f d us = .ok x) : ∃ t ts, us = t :: ts /\ t.kind ≠ 1 := by
 cases f with
 | zero => cases h
 | succ f =>
   cases us with
   | nil => cases h
   | cons t ts =>
     refine ⟨t, ts, rfl, fun hk => ?_⟩; rw [node, if_pos hk] at h; cases h
theorem jK5 {stop f d : Nat} {us ts' ts'' : List Tok} {n : Node} {l : List Node} (h : node stop f d us = .ok (n, ts')) (hr : rest stop f d ts' = .ok (l, ts'')) : rest stop (f + 1) d us = .ok (n :: l, ts'') := by
 obtain ⟨t, ts, rfl, hk⟩ := jQB h; rw [rest, if_neg hk, h]; simp only [hr]
theorem jIR (stop f d p : Nat) (k : Int) (s : List UInt8) (ts : List Tok) (h1 : k ≠ 1) (h0 : k ≠ 0) : node stop (f + 1) d (jBH p k s :: ts) = .ok (.mk (jBH p k s) [] (jBG s), ts) := jH6 stop f d _ ts h1 h0
theorem jO3 (stop f d p : Nat) (s : List UInt8) (ts ts' : List Tok) (l : List Node) (hd : d ≠ 40) (h : rest stop f (d + 1) ts = .ok (l, ts')) : node stop (f + 1) d (jBH p 0 s :: ts) = .ok (.mk (jBH p 0 s) l 0, ts') :=
 jQF stop f d _ ts ts' l rfl hd h
theorem jK6 (stop f d p : Nat) (s : List UInt8) (ts : List Tok) : rest stop (f + 1) d (jBH p 1 s :: ts) = .ok ([], ts) := rest_end stop f d _ ts rfl
theorem Fits.mono : ∀ {k : Nat} {n : Node}, Fits k n -> Fits (k + 1) n := by
 intro k
 induction k with
 | zero => intro n h m hm; rw [show n.list = [] from h] at hm; cases hm
 | succ k ih => intro n h m hm; exact ih (h m hm)
theorem Fits.le {k j : Nat} {n : Node} (h : Fits k n) (hj : k <= j) : Fits j n := by
 induction j with
 | zero => obtain rfl : k = 0 := by omega
           exact h
 | succ j ih =>
   by_cases e : k = j + 1
   . subst e; exact h
   . exact (ih (by omega)).mono
theorem Fits.kid {k : Nat} {n m : Node} (h : Fits k n) (hm : m ∈ n.list) : ∃ j, k = j + 1 /\ Fits j m := by
 cases k with
 | zero => rw [show n.list = [] from h] at hm; cases hm
 | succ k => exact ⟨k, rfl, h m hm⟩
theorem jKD (stop : Nat) : ∀ (f d : Nat) (ts : List Tok),
 (∀ n ts', node stop f d ts = .ok (n, ts') -> Fits (opens ts) n) /\ (∀ l ts', rest stop f d ts = .ok (l, ts') -> ∀ m ∈ l, Fits (opens ts) m) := by
 intro f
 induction f with
 | zero => intro d ts; exact ⟨fun n ts' h => (by cases h), fun l ts' h => (by cases h)⟩
 | succ f ih =>
   intro d ts; cases ts with
   | nil => exact ⟨fun n ts' h => (by cases h), fun l ts' h => (by cases h)⟩
   | cons t ts =>
     constructor
     . intro n ts' h; rw [node] at h; by_cases k1 : t.kind = 1
       . rw [if_pos k1] at h; cases h
       . rw [if_neg k1] at h; by_cases k0 : t.kind = 0
         . rw [if_pos k0] at h; by_cases hd : d = 40
           . rw [if_pos hd] at h; cases h
           . rw [if_neg hd] at h; cases hr : rest stop f (d + 1) ts with
             | error p => rw [hr] at h; cases h
             | ok x =>
               obtain ⟨l, ts1⟩ := x; rw [hr] at h; simp only [Except.ok.injEq, Prod.mk.injEq] at h; obtain ⟨rfl, rfl⟩ := h; have ho : opens (t :: ts) = opens ts + 1 := by rw [opens, if_pos k0]; omega
               rw [ho]; exact (ih (d + 1) ts).2 _ _ hr
         . rw [if_neg k0] at h; simp only [Except.ok.injEq, Prod.mk.injEq] at h; obtain ⟨rfl, rfl⟩ := h; exact Fits.le (k := 0) rfl (Nat.zero_le _)
     . intro l ts' h; rw [rest] at h; by_cases k1 : t.kind = 1
       . rw [if_pos k1] at h; simp only [Except.ok.injEq, Prod.mk.injEq] at h; obtain ⟨rfl, rfl⟩ := h; intro m hm; cases hm
       . rw [if_neg k1] at h; cases hn : node stop f d (t :: ts) with
         | error p => rw [hn] at h; cases h
         | ok x =>
           obtain ⟨n, ts1⟩ := x; rw [hn] at h; simp only at h; have hle := ((jKB stop stop f d (t :: ts)).1 _ _ hn).1; cases hr : rest stop f d ts1 with
           | error p => rw [hr] at h; cases h
           | ok y =>
             obtain ⟨l', ts2⟩ := y; rw [hr] at h; simp only [Except.ok.injEq, Prod.mk.injEq] at h; obtain ⟨rfl, rfl⟩ := h; intro m hm
             rcases List.mem_cons.1 hm with rfl | hm
             . exact (ih d (t :: ts)).1 _ _ hn
             . exact ((ih d ts1).2 _ _ hr m hm).le hle
theorem jA9 {n : Node} {a b : Nat} {l : List Node} (h : nodes n a b = .ok l) : l = n.list /\ a <= l.length := by
 unfold nodes at h; by_cases h1 : jAF n = true
 . rw [if_pos h1] at h; unfold hold at h; by_cases h2 : n.list.length < a
   . rw [if_pos h2] at h; cases h
   . rw [if_neg h2] at h; cases hb : n.list[b]? with
     | some m => rw [hb] at h; cases h
     | none =>
       rw [hb] at h; simp only [Except.ok.injEq] at h; subst h; exact ⟨rfl, by omega⟩
 . rw [if_neg h1] at h; cases h
theorem jAT {l : List Node} {k : Nat} {n : Node} (h : k < l.length) : l.getD k n ∈ l := by
 rw [List.getD_eq_getElem?_getD, List.getElem?_eq_getElem h]; exact List.getElem_mem h
theorem jD3 {l : List Node} {n : Node} (h : 0 < l.length) : l.headD n ∈ l := by
 cases l with
 | nil => simp at h
 | cons a l => simp
theorem jEI {α : Type} {f g : Node -> R α} : ∀ {l : List Node}, (∀ n ∈ l, f n = g n) -> each f l = each g l := by
 intro l
 induction l with
 | nil => intro _; rfl
 | cons a l ih => intro h; rw [each, each, h a (by simp), ih (fun n hn => h n (by simp [hn]))]
theorem pat_fuel : ∀ (k f f' : Nat) (n : Node), Fits k n -> k < f -> k < f' -> pat f n = pat f' n := by
 intro k
 induction k with
 | zero =>
   intro f f' n h hf hf'; obtain ⟨f, rfl⟩ : ∃ g, f = g + 1 := ⟨f - 1, by omega⟩
   obtain ⟨f', rfl⟩ : ∃ g, f' = g + 1 := ⟨f' - 1, by omega⟩
   rw [pat, pat]; cases hn : nodes n 2 9 with
   | error p => rfl
   | ok l =>
     obtain ⟨rfl, h2⟩ := jA9 hn; rw [show n.list = [] from h] at h2; simp at h2
 | succ k ih =>
   intro f f' n h hf hf'; obtain ⟨f, rfl⟩ : ∃ g, f = g + 1 := ⟨f - 1, by omega⟩
   obtain ⟨f', rfl⟩ : ∃ g, f' = g + 1 := ⟨f' - 1, by omega⟩
   rw [pat, pat]; cases hn : nodes n 2 9 with
   | error p => rfl
   | ok l =>
     obtain ⟨rfl, h2⟩ := jA9 hn
     simp only
     rw [jEI (f := pat f) (g := pat f') (fun m hm => ih f f' m (h m (List.mem_of_mem_tail hm)) (by omega) (by omega))]
theorem jQQ : ∀ (k f f' : Nat) (n : Node), Fits k n -> k < f -> k < f' -> expr f n = expr f' n := by
 intro k
 induction k with
 | zero =>
   intro f f' n h hf hf'; obtain ⟨f, rfl⟩ : ∃ g, f = g + 1 := ⟨f - 1, by omega⟩
   obtain ⟨f', rfl⟩ : ∃ g, f' = g + 1 := ⟨f' - 1, by omega⟩
   have he : n.list = [] := h; have hw : word n = [] := by unfold word; rw [he]
   have hp : ∀ ex : Node -> R Expr, jAV ex n = (match nodes n 2 9 with | .error p => .error p | .ok _ => .error n.pos) := by
    intro ex; unfold jAV; cases hn : nodes n 2 9 with
    | error p => rfl
    | ok l =>
      obtain ⟨rfl, h2⟩ := jA9 hn; rw [he] at h2; simp at h2
   have hl : ∀ (g : Nat) (ex : Node -> R Expr), listExpr g ex n = jAV ex n := by
    intro g ex; unfold listExpr; rw [hw, if_neg (by decide), if_neg (by decide), if_neg (by decide)]
   rw [expr, expr, hl, hl, hp, hp]
 | succ k ih =>
   intro f f' n h hf hf'; obtain ⟨f, rfl⟩ : ∃ g, f = g + 1 := ⟨f - 1, by omega⟩
   obtain ⟨f', rfl⟩ : ∃ g, f' = g + 1 := ⟨f' - 1, by omega⟩
   have hk : ∀ m ∈ n.list, expr f m = expr f' m := fun m hm => ih f f' m (h m hm) (by omega) (by omega)
   have hg : ∀ m ∈ n.list, ∀ x ∈ m.list, Fits k x := fun m hm x hx => by
    obtain ⟨j, rfl, hj⟩ := Fits.kid (h m hm) hx; exact hj.mono
   have hke : ∀ m ∈ n.list, ∀ x ∈ m.list, expr f x = expr f' x := fun m hm x hx => ih f f' x (hg m hm x hx) (by omega) (by omega)
   have hkp : ∀ m ∈ n.list, ∀ x ∈ m.list, pat f x = pat f' x := fun m hm x hx => pat_fuel k f f' x (hg m hm x hx) (by omega) (by omega)
   have hfn : jCW (expr f) n = jCW (expr f') n := by
    unfold jCW; cases hn : nodes n 3 3 with
    | error p => rfl
    | ok l =>
      obtain ⟨rfl, h2⟩ := jA9 hn
      simp only
      rw [hk _ (jAT (by omega))]
   have hle : jBW (expr f) n = jBW (expr f') n := by
    unfold jBW; cases hn : nodes n 3 3 with
    | error p => rfl
    | ok l =>
      obtain ⟨rfl, h2⟩ := jA9 hn
      simp only
      rw [hk _ (jAT (by omega))]; cases hp : nodes (n.list.getD 1 n) 1 8 with
      | error p => rfl
      | ok ps =>
        obtain ⟨e, h3⟩ := jA9 hp
        simp only
        rw [jEI (f := pair (expr f)) (g := pair (expr f')) (fun b hb => by
         have hb1 : b ∈ (n.list.getD 1 n).list := by rw [<- e]; exact hb
         unfold pair; cases hq : nodes b 2 2 with
         | error p => rfl
         | ok l2 =>
           obtain ⟨rfl, h4⟩ := jA9 hq
           simp only
           have hb2 : b.list.getD 1 b ∈ b.list := jAT (by omega); obtain ⟨j, hj, hf1⟩ := Fits.kid (hg _ (jAT (by omega)) b hb1) hb2
           rw [ih f f' _ (hf1.le (by omega)) (by omega) (by omega)])]
   have hca : jBL f (expr f) n = jBL f' (expr f') n := by
    unfold jBL; cases hn : nodes n 3 18 with
    | error p => rfl
    | ok l =>
      obtain ⟨rfl, h2⟩ := jA9 hn
      simp only
      rw [hk _ (jAT (by omega))]
      rw [jEI (f := alt f (expr f)) (g := alt f' (expr f')) (fun b hb => by
       have hb1 : b ∈ n.list := List.mem_of_mem_drop hb; unfold alt; cases hq : nodes b 2 2 with
       | error p => rfl
       | ok l2 =>
         obtain ⟨rfl, h4⟩ := jA9 hq
         simp only
         rw [hke b hb1 _ (jAT (by omega)), hkp b hb1 _ (jD3 (by omega))])]
   have hpl : jAV (expr f) n = jAV (expr f') n := by
    unfold jAV; cases hn : nodes n 2 9 with
    | error p => rfl
    | ok l =>
      obtain ⟨rfl, h2⟩ := jA9 hn
      simp only
      rw [jEI (f := expr f) (g := expr f') hk, jEI (f := expr f) (g := expr f') (fun m hm => hk m (List.mem_of_mem_tail hm))]
   rw [expr, expr, listExpr, listExpr, hfn, hle, hca, hpl]
def Expr.kindN : Expr -> Nat | .mk k _ _ _ _ _ _ => k
def Expr.posN : Expr -> Nat | .mk _ p _ _ _ _ _ => p
def Expr.argsL : Expr -> List Expr | .mk _ _ _ _ _ xs _ => xs
theorem SimE.parts {ρ : Nat -> Nat -> Prop} {x y : Expr} (h : SimE ρ x y) : y.kindN = x.kindN /\ ρ x.posN y.posN /\ y.argsL.length = x.argsL.length := by
 cases h with
 | mk k p q nm i ns xs ys al bl h1 h2 h3 h4 => exact ⟨rfl, h1, h2.len⟩
def jJG (t : Tok) : Prop := t.kind = 2 -> Plain t.text
theorem jDM {s : List UInt8} (h : Lx.jA8 (Lx.at0 s 0) = true \/ (Lx.at0 s 0).toNat = 45 /\ Lx.jA8 (Lx.at0 s 1) = true) : Plain s := by
 have key : ∀ s' : List UInt8, s = s' -> ((Lx.jA8 (Lx.at0 s' 0) || ((Lx.at0 s' 0).toNat == 45 && Lx.jA8 (Lx.at0 s' 1))) = true) := by
  intro s' e; subst e
  rcases h with h | ⟨h1, h2⟩
  . simp [h]
  . simp [h1, h2]
 have no : ∀ s' : List UInt8, ((Lx.jA8 (Lx.at0 s' 0) || ((Lx.at0 s' 0).toNat == 45 && Lx.jA8 (Lx.at0 s' 1))) = false) -> s ≠ s' := by
  intro s' h e; rw [key s' e] at h; exact absurd h (by decide)
 refine ⟨?_, no _ (by decide), no _ (by decide), no _ (by decide), no _ (by decide), no _ (by decide), no _ (by decide), no _ (by decide)⟩; unfold jBG; rw [if_neg ?_, if_neg ?_]
 . rintro (e | e)
   . exact no _ (by decide) e
   . exact no _ (by decide) e
 . rintro (e | e | e | e | e | e | e | e | e | e)
   all_goals exact no _ (by decide) e
theorem jEK (l : List UInt8) (n k : Nat) (h : k < n) : Lx.at0 (l.take n) k = Lx.at0 l k := by
 unfold Lx.at0; rw [List.getD_eq_getElem?_getD, List.getD_eq_getElem?_getD, List.getElem?_take, if_pos h]
theorem jK0 {l : List UInt8} {n : Nat} (h : Lx.Way l 2 n) : Plain (l.take n) := by
 generalize hk : (2 : Int) = k at h
 have hcnt : ∀ r : List UInt8, Lx.jA8 (Lx.at0 r 0) = true -> 0 < Lx.cnt Lx.jA8 r := by
  intro r hr; cases r with
  | nil => exact absurd hr (by decide)
  | cons c r => rw [Lx.cnt, if_pos (by exact hr)]; omega
 cases h with
 | arrow => omega
 | neg h1 h2 h3 h4 =>
   have e : Lx.at0 (l.drop 1) 0 = Lx.at0 l 1 := by rw [Lx.at0_drop]
   have := hcnt (l.drop 1) (by rw [e]; exact h2); exact jDM (.inr ⟨by rw [jEK _ _ _ (by omega)]; exact h1, by rw [jEK _ _ _ (by omega)]; exact h2⟩)
 | pos h1 h2 h3 =>
   have := hcnt l h1; exact jDM (.inl (by rw [jEK _ _ _ this]; exact h1))
 | name => omega
 | con => omega
 | one h1 h2 =>
   rcases Lx.jDJ (Lx.at0 l 0) with e | e | e | e <;> omega
 | none => omega
theorem jNQ : ∀ (f p : Nat) (l : List UInt8), ∀ t ∈ (Lx.toks f p l).1, jJG t := by
 intro f
 induction f with
 | zero => intro p l t h; simp [Lx.toks] at h
 | succ f ih =>
   intro p l t h; rw [Lx.jC6] at h; by_cases h1 : l.length <= Lx.skipC false l
   . rw [if_pos h1] at h; simp at h
   . rw [if_neg h1] at h; by_cases h2 : (Lx.jAK (l.drop (Lx.skipC false l))).2 = 0
     . rw [if_pos h2] at h; simp at h
     . rw [if_neg h2] at h
       rcases List.mem_cons.1 h with rfl | h
       . intro hk; have hw := Lx.way (l.drop (Lx.skipC false l)); have hk' : (Lx.jAK (l.drop (Lx.skipC false l))).1 = 2 := hk; rw [hk'] at hw; exact jK0 hw
       . exact ih _ _ t h
theorem jK4 (d : Nat) : ∀ (ts : List Tok), (∀ t ∈ ts, jJG t) -> All2 (TSim (fun p q => q = p + d)) ts (ts.map (Lx.shift d))
 | [], _ => .nil
 | t :: ts, h => .cons ⟨rfl, rfl, rfl, fun hk => ⟨h t (by simp) hk, h t (by simp) hk⟩, fun _ => rfl⟩ (jK4 d ts (fun u hu => h u (by simp [hu])))
theorem jFR (d : Nat) : ∀ ts : List Tok, opens (ts.map (Lx.shift d)) = opens ts
 | [] => rfl
 | t :: ts => by rw [List.map_cons, opens, opens, jFR d ts]; rfl
theorem inside (s : List UInt8) (x : Expr) (h : jF0 s = .done x) (d : Nat) (ho : s.count 40 < 30) :
 (tk 0 s).2 = none /\ ∃ n y, (∀ stop f D T, 2 * (tk 0 s).1.length + 2 <= f -> D <= 10 -> node stop f D ((tk d s).1 ++ T) = .ok (n, T)) /\ (∀ f, 31 <= f -> expr f n = .ok y) /\
   y.kindN = x.kindN /\ y.posN = x.posN + d /\ y.argsL.length = x.argsL.length := by
 unfold jF0 parsed at h; by_cases hl : 4096 < s.length
 . rw [if_pos hl] at h; cases h
 . rw [if_neg hl] at h; have et : Lx.toks (s.length + 1) 0 s = tk 0 s := rfl; rw [et] at h; have hop : opens (tk 0 s).1 <= s.count 40 := Lx.jO _ _ s; have hpl : ∀ t ∈ (tk 0 s).1, jJG t := jNQ _ _ s
   rw [Lx.tk_shift d s]; cases hs : tk 0 s with
   | mk ts o =>
     rw [hs] at h hop hpl; cases o with
     | some q => cases h
     | none =>
       refine ⟨rfl, ?_⟩; simp only at h hop hpl; cases hx : jCY s.length ts with
       | error p => rw [hx] at h; cases h
       | ok x' =>
         rw [hx] at h; simp only [Outcome.done.injEq] at h; subst h; unfold jCY at hx; cases hn : node s.length (2 * ts.length + 2) 0 ts with
         | error p => rw [hn] at hx; cases hx
         | ok r =>
           obtain ⟨n, ts'⟩ := r; rw [hn] at hx; simp only at hx; cases ts' with
           | cons t ts' => cases hx
           | nil =>
             simp only at hx; have hsim := (jJP (ρ := fun p q => q = p + d) s.length (s.length + d) rfl (2 * ts.length + 2) 0 ts _ (jK4 d ts hpl)).1; rw [hn] at hsim; cases hm : node (s.length + d) (2 * ts.length + 2) 0 (ts.map (Lx.shift d)) with
             | error p => rw [hm] at hsim; exact hsim.elim
             | ok r' =>
               obtain ⟨m, us'⟩ := r'; rw [hm] at hsim; have hsn : Sim (fun p q => q = p + d) n m := hsim.1
               have hus : us' = [] := by
                have := hsim.2; cases this; rfl
               subst hus; have hes := jN3 50 n m hsn; rw [hx] at hes; cases hy : expr 50 m with
               | error p => rw [hy] at hes; exact hes.elim
               | ok y =>
                 rw [hy] at hes; have hse : SimE (fun p q => q = p + d) x' y := hes; obtain ⟨a1, a2, a3⟩ := hse.parts; have hfit : Fits 30 m := ((jKD _ _ _ _).1 _ _ hm).le (by rw [jFR]; omega); refine ⟨m, y, fun stop f D T hf hD => ?_, fun f hf => ?_, a1, a2, a3⟩
                 . have := ((jKB (s.length + d) stop (2 * ts.length + 2) 0 (ts.map (Lx.shift d))).1 _ _ hm).2.2.2 f D T hf (.inr (by rw [jFR]; omega)); exact this
                 . rw [jQQ 30 f 50 m hfit (by omega) (by omega)]; exact hy
def head1 : List UInt8 := [40, 100, 101, 102, 32, 109, 97, 105, 110, 32, 40, 41, 32]
def jKM : List UInt8 := head1 ++ [40, 114, 101, 32]
end Px
namespace Px
open Lx (Tok tk jBH)
section
variable {s : List UInt8} {x : Expr} (h : jF0 s = .done x) (ho : s.count 40 < 30) (hl : s.length <= 1500)
include h ho hl
end
end Px
end Go.Proofs.YtnhndamfbeiljaaGreatDoor
namespace Go.Proofs.YtnhndamfbeiljaaGreatDoor
open Go Go.RowKit
open Go.Lib (hid)
open List renaming getElem_toArray → jR, getElem_cons_succ → jR0, getElem_cons_zero → jR1, setIfInBounds_toArray → jR2, set_cons_zero → jR3, set_cons_succ → jR4
theorem jCL {a b : Bool} (h : a = b) : Ending.returned (.bool a) = .returned (.bool b) := by rw [h]
theorem ret_int {k : IntKind} {a b : Int} (h : a = b) : Ending.returned (.int k a) = .returned (.int k b) := by rw [h]
theorem jEW (c : UInt8) (w : World) :
 Calls Tryz.prog 116 #[.int .u8 c.toNat] w fun e w' => e = .returned (.bool (Lx.jCA c)) /\ w = w' := by
 go_enter Tryz.func116, Tryz.ntmps116; go_wp2
 all_goals (go_ret; exact ⟨jCL (by rw [Bool.eq_iff_iff]; simp [Lx.jCA]; omega), rfl⟩)
theorem jBS (c : UInt8) (w : World) :
 Calls Tryz.prog 118 #[.int .u8 c.toNat] w fun e w' => e = .returned (.bool (Lx.jA8 c)) /\ w = w' := by
 go_enter Tryz.func118, Tryz.ntmps118; go_wp2
 all_goals (go_ret; exact ⟨jCL (by rw [Bool.eq_iff_iff]; simp [Lx.jA8]; omega), rfl⟩)
theorem jEU (c : UInt8) (w : World) :
 Calls Tryz.prog 119 #[.int .u8 c.toNat] w fun e w' => e = .returned (.bool (Lx.jCH c)) /\ w = w' := by
 go_enter Tryz.func119, Tryz.ntmps119; go_wp2
 all_goals (go_ret; exact ⟨jCL (by rw [Bool.eq_iff_iff]; simp [Lx.jCH]; omega), rfl⟩)
theorem jFY (c : UInt8) (w : World) :
 Calls Tryz.prog 120 #[.int .u8 c.toNat] w fun e w' => e = .returned (.bool (Lx.jCV c)) /\ w = w' := by
 go_enter Tryz.func120, Tryz.ntmps120; go_wp2
 all_goals (go_ret; exact ⟨jCL (by rw [Bool.eq_iff_iff]; simp [Lx.jCV]; omega), rfl⟩)
theorem jE8 (c : UInt8) (w : World) :
 Calls Tryz.prog 121 #[.int .u8 c.toNat] w fun e w' => e = .returned (.bool (Lx.jBT c)) /\ w = w' := by
 have e1 : Lx.jBT c = (Lx.jCH c || Lx.jCV c || Lx.jA8 c || decide ((c.toNat : Int) = 39)) := by unfold Lx.jBT; congr 1; rw [Bool.eq_iff_iff]; simp; omega
 rw [e1]; clear e1
 go_enter Tryz.func121, Tryz.ntmps121; cases hs : Lx.jCH c <;> cases hg : Lx.jCV c <;> cases hd : Lx.jA8 c
 all_goals
  go_wp2_with (first | (go_at_call 119; refine (jEU _ _).mono ?_; rintro e w' ⟨rfl, rfl⟩) | (go_at_call 120; refine (jFY _ _).mono ?_; rintro e w' ⟨rfl, rfl⟩) | (go_at_call 118; refine (jBS _ _).mono ?_; rintro e w' ⟨rfl, rfl⟩))
 all_goals (go_ret; exact ⟨jCL (by first | rfl | simp | (rw [Bool.eq_iff_iff]; simp)), rfl⟩)
theorem jQV (l : List UInt8) (i : Int) (b off cap : Nat) (w : World) (h0 : 0 <= i) (hi : i < l.length) (_hm : (l.length : Int) <= 9223372036854775807)
 (hc : ∀ j, j < l.length -> w.cell? ⟨b, off + j, none⟩ = some (.int .u8 (Lx.at0 l j).toNat)) :
 Calls Tryz.prog 117 #[.slice (some ⟨b, off, none⟩) l.length cap, .int .i64 i] w fun e w' => e = .returned (.int .u8 (Lx.at0 l i.toNat).toNat) /\ w = w' := by
 obtain ⟨k, rfl⟩ := Int.eq_ofNat_of_zero_le h0; have hk := hc k (by omega); clear hc; rw [Int.toNat_natCast]; go_enter Tryz.func117, Tryz.ntmps117; go_wp2; go_ret; exact ⟨rfl, rfl⟩
theorem jGN (l : List UInt8) (p : Option Addr) (n : Nat) (i : Int) (cap : Nat) (w : World) (hi : n <= i) (hn : n = l.length) (_hm : i <= 9223372036854775807) :
 Calls Tryz.prog 117 #[.slice p n cap, .int .i64 i] w fun e w' => e = .returned (.int .u8 (Lx.at0 l i.toNat).toNat) /\ w = w' := by
 have e0 : (Lx.at0 l i.toNat) = 0 := by unfold Lx.at0; rw [List.getD_eq_getElem?_getD, List.getElem?_eq_none (by omega)]; rfl
 rw [e0]; clear e0 hn
 have h0 : (0 : Int) <= i := by omega
 go_enter Tryz.func117, Tryz.ntmps117; go_wp2; go_ret; exact ⟨rfl, rfl⟩
theorem jB7 (l : List UInt8) (i : Int) (b off cap : Nat) (w : World) (h0 : 0 <= i) (hi : i <= 9223372036854775807) (hm : (l.length : Int) <= 9223372036854775807)
 (hc : ∀ j, j < l.length -> w.cell? ⟨b, off + j, none⟩ = some (.int .u8 (Lx.at0 l j).toNat)) :
 Calls Tryz.prog 117 #[.slice (some ⟨b, off, none⟩) l.length cap, .int .i64 i] w fun e w' => e = .returned (.int .u8 (Lx.at0 l i.toNat).toNat) /\ w = w' := by
 by_cases h : i < l.length
 . exact jQV l i b off cap w h0 h hm hc
 . exact jGN l _ l.length i cap w (by omega) rfl hi
theorem jFQ (c : UInt8) (w : World) :
 Calls Tryz.prog 122 #[.int .u8 c.toNat] w fun e w' => e = .returned (.int .i64 (Lx.single c)) /\ w = w' := by
 go_enter Tryz.func122, Tryz.ntmps122; go_wp2
 all_goals (go_ret; exact ⟨ret_int (by simp only [beq_iff_eq, beq_eq_false_iff_ne, ne_eq] at *; unfold Lx.single; repeat (first | rw [if_pos (by omega)] | rw [if_neg (by omega)])), rfl⟩)
end Go.Proofs.YtnhndamfbeiljaaGreatDoor
namespace Go.Proofs.YtnhndamfbeiljaaGreatDoor
open Go
open Go.Lib (hid)
open List renaming getElem_toArray → jR, getElem_cons_succ → jR0, getElem_cons_zero → jR1, setIfInBounds_toArray → jR2, set_cons_zero → jR3, set_cons_succ → jR4
def Exit.jumps (J : Nat -> Act -> World -> Prop) (Q : Exit -> Act -> World -> Prop) : Exit -> Act -> World -> Prop
 | .goto l, a, w => J l a w
 | e, a, w => Q e a w
section
variable {P : Program} {a : Act} {w : World} {Q : Exit -> Act -> World -> Prop}
theorem jE2 {c : Code} (J : Nat -> Act -> World -> Prop) (μ : Nat -> Act -> World -> Nat)
 (first : c.wp P (Exit.jumps J Q) a w)
 (pass : ∀ l a w, J l a w -> ∃ rest, findLabel c l = some rest /\ rest.wp P (Exit.jumps (fun l' a' w' => J l' a' w' /\ μ l' a' w' < μ l a w) Q) a w) : (Code.scope c).wp P Q a w := by
 intro b k cs; have hg : ∀ l rest, findLabel c l = some rest -> gotoIn l (.inScope c :: k) = some (.code rest :: .inScope c :: k) := fun l rest h => by simp [gotoIn, h]
 have key : ∀ n l a w, μ l a w = n -> J l a w -> ∃ rest, findLabel c l = some rest /\ ∃ e a' w', Q e a' w' /\ Arrives P (lone (b.at a (.code rest :: .inScope c :: k)) cs w) b k cs e a' w' := by
  intro n
  induction n using Nat.strongRecOn with
  | _ n ih =>
    intro l a w hn hJ; obtain ⟨rest, hr, hp⟩ := pass l a w hJ; refine ⟨rest, hr, ?_⟩; obtain ⟨e, a₁, w₁, hq, harr⟩ := hp b (.inScope c :: k) cs; cases e with
    | normal => exact ⟨.normal, a₁, w₁, hq, Steps.trans harr (.one step_inScope)⟩
    | exit id => exact ⟨.exit id, a₁, w₁, hq, fun k' hk => harr k' (by simp [exitTo, hk])⟩
    | goto l' =>
      obtain ⟨hJ', hlt⟩ := hq; obtain ⟨rest', hr', e₂, a₂, w₂, hq₂, harr₂⟩ := ih _ (by omega) l' a₁ w₁ rfl hJ'; exact ⟨e₂, a₂, w₂, hq₂, .of_steps (harr _ (hg l' rest' hr')) harr₂⟩
    | ret => exact ⟨_, a₁, w₁, hq, harr⟩
    | panic ch => exact ⟨_, a₁, w₁, hq, harr⟩
    | outgrown => exact ⟨_, a₁, w₁, hq, harr⟩
 obtain ⟨e, a₁, w₁, hq, harr⟩ := first b (.inScope c :: k) cs
 cases e with
 | normal => exact ⟨.normal, a₁, w₁, hq, .head step_scope (Steps.trans harr (.one step_inScope))⟩
 | exit id => exact ⟨.exit id, a₁, w₁, hq, fun k' hk => .head step_scope (harr k' (by simp [exitTo, hk]))⟩
 | goto l' =>
   obtain ⟨rest', hr', e₂, a₂, w₂, hq₂, harr₂⟩ := key _ l' a₁ w₁ rfl hq; exact ⟨e₂, a₂, w₂, hq₂, .of_steps (.head step_scope (harr _ (hg l' rest' hr'))) harr₂⟩
 | ret => exact ⟨_, a₁, w₁, hq, .of_steps (.one step_scope) harr⟩
 | panic ch => exact ⟨_, a₁, w₁, hq, .of_steps (.one step_scope) harr⟩
 | outgrown => exact ⟨_, a₁, w₁, hq, .of_steps (.one step_scope) harr⟩
theorem Exit.jumps_mono {J J' : Nat -> Act -> World -> Prop} (h : ∀ l a w, J l a w -> J' l a w) {e : Exit} {a : Act} {w : World} (hq : Exit.jumps J Q e a w) : Exit.jumps J' Q e a w := by
 cases e with
 | goto l => exact h l a w hq
 | _ => exact hq
theorem Exit.jumps_ret (J : Nat -> Act -> World -> Prop) : Exit.jumps J Q .ret a w = Q .ret a w := rfl
theorem wp_mono {c : Code} {Q Q' : Exit -> Act -> World -> Prop} (h : ∀ e a w, Q e a w -> Q' e a w) (hc : c.wp P Q a w) : c.wp P Q' a w := fun b k cs =>
 let ⟨e, a', w', hq, harr⟩ := hc b k cs
 ⟨e, a', w', h e a' w' hq, harr⟩
theorem jFO {r : Code} (l0 : Nat) (J : Nat -> Act -> World -> Prop) (μ : Nat -> Act -> World -> Nat) (hJ : J l0 a w)
 (pass0 : ∀ a w, J l0 a w -> r.wp P (Exit.jumps (fun l' a' w' => J l' a' w' /\ μ l' a' w' < μ l0 a w) Q) a w)
 (pass : ∀ l a w, l ≠ l0 -> J l a w -> ∃ rest, findLabel r l = some rest /\ rest.wp P (Exit.jumps (fun l' a' w' => J l' a' w' /\ μ l' a' w' < μ l a w) Q) a w) : (Code.scope (.seq (.label l0) r)).wp P Q a w := by
 refine jE2 J μ ?_ ?_
 . refine wp_seq (wp_label ?_); exact wp_mono (fun e a' w' hq => Exit.jumps_mono (fun _ _ _ h => h.1) hq) (pass0 a w hJ)
 . intro l a w hl; by_cases h : l = l0
   . subst h; exact ⟨_, by simp [findLabel], wp_seq (wp_skip (pass0 a w hl))⟩
   . obtain ⟨rest, hr, hp⟩ := pass l a w h hl; exact ⟨rest, by simp [findLabel, hr, Ne.symm h], hp⟩
theorem jJI {c r : Code} (l0 : Nat) (hf : findLabel c l0 = some (.seq .skip r)) (J : Nat -> Act -> World -> Prop) (μ : Nat -> Act -> World -> Nat)
 (pass0 : ∀ a w, J l0 a w -> r.wp P (Exit.jumps (fun l' a' w' => J l' a' w' /\ μ l' a' w' < μ l0 a w) Q) a w)
 (pass : ∀ l a w, l ≠ l0 -> J l a w -> ∃ rest, findLabel c l = some rest /\ rest.wp P (Exit.jumps (fun l' a' w' => J l' a' w' /\ μ l' a' w' < μ l a w) Q) a w)
 (first : (∀ a w, J l0 a w -> r.wp P (Exit.jumps J Q) a w) -> c.wp P (Exit.jumps J Q) a w) : (Code.scope c).wp P Q a w := by
 refine jE2 J μ (first fun a w h => wp_mono (fun e a' w' hq => Exit.jumps_mono (fun _ _ _ h => h.1) hq) (pass0 a w h)) ?_; intro l a w hl; by_cases h : l = l0
 . subst h; exact ⟨_, hf, wp_seq (wp_skip (pass0 a w hl))⟩
 . exact pass l a w h hl
end
end Go.Proofs.YtnhndamfbeiljaaGreatDoor
