/-
  Several texts in one: PSim, PMore, PSumPure.
-/
import Derived.Test.YtgoacbomphlhjaaG01
namespace Go.Proofs.Ytgoacbomphlhjaa
set_option linter.unusedVariables false
set_option linter.unusedSimpArgs false
namespace Px
open Lx (Tok)
/-- A text without a meaning of its own. -/
def Plain (s : List UInt8) : Prop :=
 takesOf s = 0 ∧ s ≠ [100, 97, 116, 97] ∧ s ≠ [100, 101, 102] ∧ s ≠ [102, 110] ∧ s ≠ [108, 101, 116] ∧ s ≠ [99, 97, 115, 101] ∧ s ≠ [45, 62] ∧ s ≠ [95]
structure TSim (ρ : Nat → Nat → Prop) (t u : Tok) : Prop where
 kind : u.kind = t.kind
 pos : ρ t.pos u.pos
 int : u.int = t.int
 num : t.kind = 2 → Plain t.text ∧ Plain u.text
 text : t.kind ≠ 2 → u.text = t.text
inductive All2 {α β : Type} (S : α → β → Prop) : List α → List β → Prop
 | nil : All2 S [] []
 | cons {a : α} {b : β} {l : List α} {m : List β} : S a b → All2 S l m → All2 S (a :: l) (b :: m)
theorem All2.len {α β : Type} {S : α → β → Prop} : ∀ {l : List α} {m : List β}, All2 S l m → m.length = l.length
 | _, _, .nil => rfl
 | _, _, .cons _ h => by rw [List.length_cons, List.length_cons, h.len]
theorem All2.mono {α β : Type} {S S' : α → β → Prop} (hs : ∀ a b, S a b → S' a b) : ∀ {l : List α} {m : List β}, All2 S l m → All2 S' l m
 | _, _, .nil => .nil
 | _, _, .cons h1 h => .cons (hs _ _ h1) (h.mono hs)
theorem All2.eq {α : Type} : ∀ {l m : List α}, All2 (fun a b => b = a) l m → m = l
 | _, _, .nil => rfl
 | _, _, .cons h1 h => by rw [h1, h.eq]
theorem All2.refl {α : Type} {S : α → α → Prop} (h : ∀ a, S a a) : ∀ l : List α, All2 S l l
 | [] => .nil
 | a :: l => .cons (h a) (All2.refl h l)
theorem All2.map {α β γ δ : Type} {S : α → β → Prop} {S' : γ → δ → Prop} (f : α → γ) (g : β → δ) (hs : ∀ a b, S a b → S' (f a) (g b)) : ∀ {l : List α} {m : List β}, All2 S l m → All2 S' (l.map f) (m.map g)
 | _, _, .nil => .nil
 | _, _, .cons h1 h => .cons (hs _ _ h1) (h.map f g hs)
theorem All2.app {α β : Type} {S : α → β → Prop} : ∀ {l : List α} {m : List β} {l' : List α} {m' : List β}, All2 S l m → All2 S l' m' → All2 S (l ++ l') (m ++ m')
 | _, _, _, _, .nil, h => h
 | _, _, _, _, .cons h1 h, h' => .cons h1 (h.app h')
theorem All2.drop {α β : Type} {S : α → β → Prop} : ∀ (k : Nat) {l : List α} {m : List β}, All2 S l m → All2 S (l.drop k) (m.drop k)
 | 0, _, _, h => h
 | _ + 1, _, _, .nil => .nil
 | k + 1, _, _, .cons _ h => All2.drop k h
theorem All2.tail {α β : Type} {S : α → β → Prop} {l : List α} {m : List β} (h : All2 S l m) : All2 S l.tail m.tail := by
 cases h with
 | nil => exact .nil
 | cons _ h => exact h
theorem All2.getD {α β : Type} {S : α → β → Prop} (a : α) (b : β) (hab : S a b) : ∀ (k : Nat) {l : List α} {m : List β}, All2 S l m → S (l.getD k a) (m.getD k b)
 | _, _, _, .nil => by simpa using hab
 | 0, _, _, .cons h _ => by simpa using h
 | k + 1, _, _, .cons _ h => by simpa using All2.getD a b hab k h
theorem All2.headD {α β : Type} {S : α → β → Prop} {a : α} {b : β} (hab : S a b) {l : List α} {m : List β} (h : All2 S l m) : S (l.headD a) (m.headD b) := by
 cases h with
 | nil => exact hab
 | cons h _ => exact h
theorem All2.get {α β : Type} {S : α → β → Prop} : ∀ {l : List α} {m : List β}, All2 S l m → ∀ k : Nat, (l[k]? = none ∧ m[k]? = none) ∨ ∃ a b, l[k]? = some a ∧ m[k]? = some b ∧ S a b
 | _, _, .nil, k => .inl ⟨by simp, by simp⟩
 | _, _, .cons h1 h, 0 => .inr ⟨_, _, rfl, rfl, h1⟩
 | _, _, .cons _ h, k + 1 => by simpa using h.get k
inductive Sim (ρ : Nat → Nat → Prop) : Node → Node → Prop
 | mk (t u : Tok) (l m : List Node) (k : Nat) : TSim ρ t u → (t.kind = 2 → k = 0) → All2 (Sim ρ) l m → Sim ρ (.mk t l k) (.mk u m k)
variable {ρ : Nat → Nat → Prop}
theorem Sim.tok {n m : Node} (h : Sim ρ n m) : TSim ρ n.tok m.tok := by cases h with | mk t u l m k h1 h2 h3 => exact h1
theorem Sim.takes {n m : Node} (h : Sim ρ n m) : m.takes = n.takes := by cases h with | mk t u l m k h1 h2 h3 => rfl
theorem Sim.num {n m : Node} (h : Sim ρ n m) (hk : n.tok.kind = 2) : n.takes = 0 := by cases h with | mk t u l m k h1 h2 h3 => exact h2 hk
theorem Sim.kids {n m : Node} (h : Sim ρ n m) : All2 (Sim ρ) n.list m.list := by cases h with | mk t u l m k h1 h2 h3 => exact h3
theorem Sim.pos {n m : Node} (h : Sim ρ n m) : ρ n.pos m.pos := h.tok.pos
theorem Sim.text {n m : Node} (h : Sim ρ n m) (hk : n.tok.kind ≠ 2) : m.text = n.text := h.tok.text hk
theorem Sim.isList {n m : Node} (h : Sim ρ n m) : isListB m = isListB n := by unfold isListB; rw [h.tok.kind]
theorem Sim.isCon {n m : Node} (h : Sim ρ n m) : isConB m = isConB n := by unfold isConB; rw [h.tok.kind]
theorem Sim.isInt {n m : Node} (h : Sim ρ n m) : isIntB m = isIntB n := by unfold isIntB; rw [h.tok.kind]
theorem Sim.isName {n m : Node} (h : Sim ρ n m) : isNameB m = isNameB n := by
 unfold isNameB
 rw [h.tok.kind, h.takes]
 by_cases hk : n.tok.kind = 2
 · rw [hk]; simp
 · rw [h.text hk]
theorem Sim.word {n m : Node} (h : Sim ρ n m) : word m = word n ∨ Plain (word n) ∧ Plain (word m) := by
 have hk := h.kids
 unfold Px.word
 revert hk
 generalize n.list = l
 generalize m.list = l'
 intro hk
 cases hk with
 | nil => exact .inl rfl
 | @cons a b l l' h1 h2 =>
   simp only []
   rw [h1.isList]
   by_cases hl : isListB a = true
   · rw [if_pos hl, if_pos hl]; exact .inl rfl
   · rw [if_neg hl, if_neg hl]
     by_cases h2 : a.tok.kind = 2
     · exact .inr (h1.tok.num h2)
     · exact .inl (h1.text h2)
theorem word_iff {a b : List UInt8} (h : b = a ∨ Plain a ∧ Plain b) (s : List UInt8) (hs : ∀ x, Plain x → x ≠ s) : (b = s) = (a = s) := by
 rcases h with rfl | ⟨h1, h2⟩
 · rfl
 · exact propext ⟨fun h => absurd h (hs _ h2), fun h => absurd h (hs _ h1)⟩
/-- Results alike. -/
def RR {α β : Type} (ρ : Nat → Nat → Prop) (S : α → β → Prop) : R α → R β → Prop
 | .ok x, .ok y => S x y
 | .error p, .error q => ρ p q
 | _, _ => False
theorem hold_sim {n m : Node} (h : Sim ρ n m) (a b : Nat) : RR ρ (fun _ _ => True) (hold n a b) (hold m a b) := by
 unfold hold
 rw [h.kids.len]
 by_cases h1 : n.list.length < a
 · rw [if_pos h1, if_pos h1]; exact h.pos
 · rw [if_neg h1, if_neg h1]
   rcases h.kids.get b with ⟨e1, e2⟩ | ⟨x, y, e1, e2, e3⟩
   · rw [e1, e2]; trivial
   · rw [e1, e2]; exact e3.pos
theorem nodes_sim {n m : Node} (h : Sim ρ n m) (a b : Nat) : RR ρ (All2 (Sim ρ)) (nodes n a b) (nodes m a b) := by
 unfold nodes
 rw [h.isList]
 by_cases h1 : isListB n = true
 · rw [if_pos h1, if_pos h1]
   have hh := hold_sim h a b
   cases e1 : hold n a b <;> cases e2 : hold m a b <;> rw [e1, e2] at hh <;> first | exact hh | exact hh.elim | exact h.kids
 · rw [if_neg h1, if_neg h1]; exact h.pos
theorem each_sim {α β : Type} {S : α → β → Prop} {f : Node → R α} {g : Node → R β} (hf : ∀ a b, Sim ρ a b → RR ρ S (f a) (g b)) : ∀ {l m : List Node}, All2 (Sim ρ) l m → RR ρ (All2 S) (each f l) (each g m) := by
 intro l
 induction l with
 | nil => intro m h; cases h; exact .nil
 | cons a l ih =>
   intro m h
   cases h with
   | @cons _ b _ m h1 h2 =>
     have hh := hf a b h1
     have hi := ih h2
     simp only [each]
     cases e1 : f a <;> cases e2 : g b <;> rw [e1, e2] at hh <;> try exact hh.elim
     · exact hh
     · simp only []
       cases e3 : each f l <;> cases e4 : each g m <;> rw [e3, e4] at hi <;> try exact hi.elim
       · exact hi
       · exact .cons hh hi
theorem name_sim {n m : Node} (h : Sim ρ n m) : RR ρ (fun a b => b = a) (name n) (name m) := by
 unfold name
 rw [h.isName]
 by_cases h1 : isNameB n = true
 · rw [if_pos h1, if_pos h1]
   refine h.text ?_
   unfold isNameB at h1; simp only [Bool.and_eq_true, beq_iff_eq] at h1
   intro e; rw [e] at h1; exact absurd h1.1.2 (by decide)
 · rw [if_neg h1, if_neg h1]; exact h.pos
theorem conName_sim {n m : Node} (h : Sim ρ n m) : RR ρ (fun a b => b = a) (conName n) (conName m) := by
 unfold conName
 rw [h.isCon]
 by_cases h1 : isConB n = true
 · rw [if_pos h1, if_pos h1]
   refine h.text ?_
   unfold isConB at h1; simp only [beq_iff_eq] at h1
   intro e; rw [e] at h1; exact absurd h1 (by decide)
 · rw [if_neg h1, if_neg h1]; exact h.pos
theorem names_sim {n m : Node} (h : Sim ρ n m) (a : Nat) : RR ρ (fun a b => b = a) (names n a) (names m a) := by
 unfold names
 have hh := nodes_sim h a 8
 cases e1 : nodes n a 8 <;> cases e2 : nodes m a 8 <;> rw [e1, e2] at hh <;> try exact hh.elim
 · exact hh
 · rename_i l l'
   simp only []
   have hn := each_sim (S := fun a b => b = a) (fun a b h => name_sim h) hh
   cases e3 : each name l <;> cases e4 : each name l' <;> rw [e3, e4] at hn <;> try exact hn.elim
   · exact hn
   · exact hn.eq
inductive SimT (ρ : Nat → Nat → Prop) : TypeE → TypeE → Prop
 | mk (p q : Nat) (nm : List UInt8) (l m : List TypeE) : ρ p q → All2 (SimT ρ) l m → SimT ρ (.mk p nm l) (.mk q nm m)
inductive SimP (ρ : Nat → Nat → Prop) : Pat → Pat → Prop
 | mk (k p q : Nat) (nm : List UInt8) (i : Int) (l m : List Pat) : ρ p q → All2 (SimP ρ) l m → SimP ρ (.mk k p nm i l) (.mk k q nm i m)
inductive SimE (ρ : Nat → Nat → Prop) : Expr → Expr → Prop
 | mk (k p q : Nat) (nm : List UInt8) (i : Int) (ns : List (List UInt8)) (xs ys : List Expr) (al bl : List (Pat × Expr)) : ρ p q → All2 (SimE ρ) xs ys →
    All2 (SimP ρ) (al.map (·.1)) (bl.map (·.1)) → All2 (SimE ρ) (al.map (·.2)) (bl.map (·.2)) → SimE ρ (.mk k p nm i ns xs al) (.mk k q nm i ns ys bl)
theorem kind_ne {n : Node} (h : isIntB n = false) : n.tok.kind ≠ 2 := by
 unfold isIntB at h; simpa using h
theorem kind_con {n : Node} (h : isConB n = true) : n.tok.kind ≠ 2 := by
 unfold isConB at h; simp only [beq_iff_eq] at h; intro e; rw [e] at h; exact absurd h (by decide)
theorem kind_name {n : Node} (h : isNameB n = true) : n.tok.kind ≠ 2 := by
 unfold isNameB at h; simp only [Bool.and_eq_true, beq_iff_eq] at h
 intro e; rw [e] at h; exact absurd h.1.2 (by decide)
theorem typeE_sim : ∀ (f : Nat) {n m : Node}, Sim ρ n m → RR ρ (SimT ρ) (typeE f n) (typeE f m) := by
 intro f
 induction f with
 | zero => intro n m h; exact h.pos
 | succ f ih =>
   intro n m h
   rw [typeE, typeE, h.isCon, h.isName]
   by_cases h1 : (isConB n || isNameB n) = true
   · rw [if_pos h1, if_pos h1]
     have ht : m.text = n.text := by
      rw [Bool.or_eq_true] at h1
      rcases h1 with h1 | h1
      · exact h.text (kind_con h1)
      · exact h.text (kind_name h1)
     rw [ht]; exact .mk _ _ _ _ _ h.pos .nil
   · rw [if_neg h1, if_neg h1]
     have hh := nodes_sim h 2 9
     cases e1 : nodes n 2 9 <;> cases e2 : nodes m 2 9 <;> rw [e1, e2] at hh <;> try exact hh.elim
     · exact hh
     · rename_i l l'
       simp only []
       have hw : (word m = [45, 62]) = (word n = [45, 62]) := word_iff h.word _ (fun x hx => hx.2.2.2.2.2.2.1)
       have key : RR ρ (fun a b => b = a) (if word n = [45, 62] then (match hold n 3 3 with | .error p => .error p | .ok _ => .ok ([45, 62] : List UInt8)) else conName (l.headD n)) (if word m = [45, 62] then (match hold m 3 3 with | .error p => .error p | .ok _ => .ok ([45, 62] : List UInt8)) else conName (l'.headD m)) := by
        by_cases hwn : word n = [45, 62]
        · rw [if_pos hwn, if_pos (hw.mpr hwn)]
          have h3 := hold_sim h 3 3
          cases e3 : hold n 3 3 <;> cases e4 : hold m 3 3 <;> rw [e3, e4] at h3 <;> try exact h3.elim
          · exact h3
          · exact rfl
        · rw [if_neg hwn, if_neg (fun e => hwn (hw.mp e))]
          exact conName_sim (All2.headD h hh)
       revert key
       generalize (if word n = [45, 62] then (match hold n 3 3 with | .error p => .error p | .ok _ => .ok ([45, 62] : List UInt8)) else conName (l.headD n)) = A
       generalize (if word m = [45, 62] then (match hold m 3 3 with | .error p => .error p | .ok _ => .ok ([45, 62] : List UInt8)) else conName (l'.headD m)) = B
       intro key
       cases A <;> cases B <;> try exact key.elim
       · exact key
       · obtain rfl := key
         simp only []
         have hn := each_sim (S := SimT ρ) (fun a b h => ih h) hh.tail
         cases e3 : each (typeE f) l.tail <;> cases e4 : each (typeE f) l'.tail <;> rw [e3, e4] at hn <;> try exact hn.elim
         · exact hn
         · exact .mk _ _ _ _ _ h.pos hn
theorem pat_sim : ∀ (f : Nat) {n m : Node}, Sim ρ n m → RR ρ (SimP ρ) (pat f n) (pat f m) := by
 intro f
 induction f with
 | zero => intro n m h; exact h.pos
 | succ f ih =>
   intro n m h
   rw [pat, pat, h.isList, h.isInt, h.isCon, h.isName, h.tok.int]
   by_cases h1 : isListB n = true
   · rw [if_pos h1, if_pos h1]
     have hh := nodes_sim h 2 9
     cases e1 : nodes n 2 9 <;> cases e2 : nodes m 2 9 <;> rw [e1, e2] at hh <;> try exact hh.elim
     · exact hh
     · rename_i l l'
       simp only []
       have key := conName_sim (All2.headD h hh)
       cases eA : conName (l.headD n) <;> cases eB : conName (l'.headD m) <;> rw [eA, eB] at key <;> try exact key.elim
       · exact key
       · obtain rfl := key
         simp only []
         have hn := each_sim (S := SimP ρ) (fun a b h => ih h) hh.tail
         cases e3 : each (pat f) l.tail <;> cases e4 : each (pat f) l'.tail <;> rw [e3, e4] at hn <;> try exact hn.elim
         · exact hn
         · exact .mk _ _ _ _ _ _ _ h.pos hn
   · rw [if_neg h1, if_neg h1]
     by_cases h2 : isIntB n = true
     · rw [if_pos h2, if_pos h2]; exact .mk _ _ _ _ _ _ _ h.pos .nil
     · rw [if_neg h2, if_neg h2, h.text (kind_ne (by simpa using h2))]
       by_cases h3 : isConB n = true
       · rw [if_pos h3, if_pos h3]; exact .mk _ _ _ _ _ _ _ h.pos .nil
       · rw [if_neg h3, if_neg h3]
         by_cases h4 : isNameB n = true
         · rw [if_pos h4, if_pos h4]; exact .mk _ _ _ _ _ _ _ h.pos .nil
         · rw [if_neg h4, if_neg h4]
           by_cases h5 : n.text = [95]
           · rw [if_pos h5, if_pos h5]; exact .mk _ _ _ _ _ _ _ h.pos .nil
           · rw [if_neg h5, if_neg h5]; exact h.pos
def PairS (ρ : Nat → Nat → Prop) (a b : List UInt8 × Expr) : Prop := b.1 = a.1 ∧ SimE ρ a.2 b.2
def AltS (ρ : Nat → Nat → Prop) (a b : Pat × Expr) : Prop := SimP ρ a.1 b.1 ∧ SimE ρ a.2 b.2
section
variable {ex : Node → R Expr} (hex : ∀ a b, Sim ρ a b → RR ρ (SimE ρ) (ex a) (ex b))
include hex
theorem pair_sim {n m : Node} (h : Sim ρ n m) : RR ρ (PairS ρ) (pair ex n) (pair ex m) := by
 unfold pair
 have hh := nodes_sim h 2 2
 cases e1 : nodes n 2 2 <;> cases e2 : nodes m 2 2 <;> rw [e1, e2] at hh <;> try exact hh.elim
 · exact hh
 · rename_i l l'
   simp only []
   have key := name_sim (All2.headD h hh)
   cases eA : name (l.headD n) <;> cases eB : name (l'.headD m) <;> rw [eA, eB] at key <;> try exact key.elim
   · exact key
   · obtain rfl := key
     simp only []
     have k2 := hex _ _ (All2.getD n m h 1 hh)
     cases eC : ex (l.getD 1 n) <;> cases eD : ex (l'.getD 1 m) <;> rw [eC, eD] at k2 <;> try exact k2.elim
     · exact k2
     · exact ⟨rfl, k2⟩
theorem alt_sim (f : Nat) {n m : Node} (h : Sim ρ n m) : RR ρ (AltS ρ) (alt f ex n) (alt f ex m) := by
 unfold alt
 have hh := nodes_sim h 2 2
 cases e1 : nodes n 2 2 <;> cases e2 : nodes m 2 2 <;> rw [e1, e2] at hh <;> try exact hh.elim
 · exact hh
 · rename_i l l'
   simp only []
   have key := pat_sim f (All2.headD h hh)
   cases eA : pat f (l.headD n) <;> cases eB : pat f (l'.headD m) <;> rw [eA, eB] at key <;> try exact key.elim
   · exact key
   · simp only []
     have k2 := hex _ _ (All2.getD n m h 1 hh)
     cases eC : ex (l.getD 1 n) <;> cases eD : ex (l'.getD 1 m) <;> rw [eC, eD] at k2 <;> try exact k2.elim
     · exact k2
     · exact ⟨key, k2⟩
theorem fn_sim {n m : Node} (h : Sim ρ n m) : RR ρ (SimE ρ) (fnExpr ex n) (fnExpr ex m) := by
 unfold fnExpr
 have hh := nodes_sim h 3 3
 cases e1 : nodes n 3 3 <;> cases e2 : nodes m 3 3 <;> rw [e1, e2] at hh <;> try exact hh.elim
 · exact hh
 · rename_i l l'
   simp only []
   have key := names_sim (All2.getD n m h 1 hh) 1
   cases eA : names (l.getD 1 n) 1 <;> cases eB : names (l'.getD 1 m) 1 <;> rw [eA, eB] at key <;> try exact key.elim
   · exact key
   · obtain rfl := key
     simp only []
     have k2 := hex _ _ (All2.getD n m h 2 hh)
     cases eC : ex (l.getD 2 n) <;> cases eD : ex (l'.getD 2 m) <;> rw [eC, eD] at k2 <;> try exact k2.elim
     · exact k2
     · exact .mk _ _ _ _ _ _ _ _ _ _ h.pos (.cons k2 .nil) .nil .nil
theorem let_sim {n m : Node} (h : Sim ρ n m) : RR ρ (SimE ρ) (letExpr ex n) (letExpr ex m) := by
 unfold letExpr
 have hh := nodes_sim h 3 3
 cases e1 : nodes n 3 3 <;> cases e2 : nodes m 3 3 <;> rw [e1, e2] at hh <;> try exact hh.elim
 · exact hh
 · rename_i l l'
   simp only []
   have key := nodes_sim (All2.getD n m h 1 hh) 1 8
   cases eA : nodes (l.getD 1 n) 1 8 <;> cases eB : nodes (l'.getD 1 m) 1 8 <;> rw [eA, eB] at key <;> try exact key.elim
   · exact key
   · rename_i ps ps'
     simp only []
     have hb := each_sim (S := PairS ρ) (fun a b h => pair_sim hex h) key
     cases eE : each (pair ex) ps <;> cases eF : each (pair ex) ps' <;> rw [eE, eF] at hb <;> try exact hb.elim
     · exact hb
     · rename_i bs bs'
       simp only []
       have k2 := hex _ _ (All2.getD n m h 2 hh)
       cases eC : ex (l.getD 2 n) <;> cases eD : ex (l'.getD 2 m) <;> rw [eC, eD] at k2 <;> try exact k2.elim
       · exact k2
       · have e : bs'.map (·.1) = bs.map (·.1) := (hb.map (S' := fun a b => b = a) (·.1) (·.1) (fun a b h => h.1)).eq
         have e2 : All2 (SimE ρ) (bs.map (·.2)) (bs'.map (·.2)) := hb.map (·.2) (·.2) (fun a b h => h.2)
         have e3 : All2 (SimE ρ) [_] [_] := .cons k2 .nil
         simp only [RR]
         rw [e]
         exact .mk _ _ _ _ _ _ _ _ _ _ h.pos (e2.app e3) .nil .nil
theorem case_sim (f : Nat) {n m : Node} (h : Sim ρ n m) : RR ρ (SimE ρ) (caseExpr f ex n) (caseExpr f ex m) := by
 unfold caseExpr
 have hh := nodes_sim h 3 18
 cases e1 : nodes n 3 18 <;> cases e2 : nodes m 3 18 <;> rw [e1, e2] at hh <;> try exact hh.elim
 · exact hh
 · rename_i l l'
   simp only []
   have k2 := hex _ _ (All2.getD n m h 1 hh)
   cases eC : ex (l.getD 1 n) <;> cases eD : ex (l'.getD 1 m) <;> rw [eC, eD] at k2 <;> try exact k2.elim
   · exact k2
   · simp only []
     have hb := each_sim (S := AltS ρ) (fun a b h => alt_sim hex f h) (hh.drop 2)
     cases eE : each (alt f ex) (l.drop 2) <;> cases eF : each (alt f ex) (l'.drop 2) <;> rw [eE, eF] at hb <;> try exact hb.elim
     · exact hb
     · exact .mk _ _ _ _ _ _ _ _ _ _ h.pos (.cons k2 .nil) (hb.map _ _ (fun a b h => h.1)) (hb.map _ _ (fun a b h => h.2))
theorem plain_sim {n m : Node} (h : Sim ρ n m) : RR ρ (SimE ρ) (plainExpr ex n) (plainExpr ex m) := by
 unfold plainExpr
 have hh := nodes_sim h 2 9
 cases e1 : nodes n 2 9 <;> cases e2 : nodes m 2 9 <;> rw [e1, e2] at hh <;> try exact hh.elim
 · exact hh
 · rename_i l l'
   have hf := All2.headD h hh
   simp only []
   generalize l.headD n = x at hf ⊢
   generalize l'.headD m = y at hf ⊢
   rw [hf.takes, hf.isCon]
   by_cases h1 : 0 < x.takes
   · rw [if_pos h1, if_pos h1, hf.text (fun e => by have := hf.num e; omega)]
     have h3 := hold_sim h (1 + x.takes) (1 + x.takes)
     cases e3 : hold n (1 + x.takes) (1 + x.takes) <;> cases e4 : hold m (1 + x.takes) (1 + x.takes) <;> rw [e3, e4] at h3 <;> try exact h3.elim
     · exact h3
     · simp only []
       have hb := each_sim (S := SimE ρ) hex hh.tail
       cases eE : each ex l.tail <;> cases eF : each ex l'.tail <;> rw [eE, eF] at hb <;> try exact hb.elim
       · exact hb
       · exact .mk _ _ _ _ _ _ _ _ _ _ h.pos hb .nil .nil
   · rw [if_neg h1, if_neg h1]
     by_cases h2 : isConB x = true
     · rw [if_pos h2, if_pos h2, hf.text (kind_con h2)]
       have hb := each_sim (S := SimE ρ) hex hh.tail
       cases eE : each ex l.tail <;> cases eF : each ex l'.tail <;> rw [eE, eF] at hb <;> try exact hb.elim
       · exact hb
       · exact .mk _ _ _ _ _ _ _ _ _ _ h.pos hb .nil .nil
     · rw [if_neg h2, if_neg h2]
       have hb := each_sim (S := SimE ρ) hex hh
       cases eE : each ex l <;> cases eF : each ex l' <;> rw [eE, eF] at hb <;> try exact hb.elim
       · exact hb
       · exact .mk _ _ _ _ _ _ _ _ _ _ h.pos hb .nil .nil
theorem list_sim (f : Nat) {n m : Node} (h : Sim ρ n m) : RR ρ (SimE ρ) (listExpr f ex n) (listExpr f ex m) := by
 unfold listExpr
 have w1 : (word m = [102, 110]) = (word n = [102, 110]) := word_iff h.word _ (fun x hx => hx.2.2.2.1)
 have w2 : (word m = [108, 101, 116]) = (word n = [108, 101, 116]) := word_iff h.word _ (fun x hx => hx.2.2.2.2.1)
 have w3 : (word m = [99, 97, 115, 101]) = (word n = [99, 97, 115, 101]) := word_iff h.word _ (fun x hx => hx.2.2.2.2.2.1)
 simp only [w1, w2, w3]
 by_cases h1 : word n = [102, 110]
 · rw [if_pos h1, if_pos h1]; exact fn_sim hex h
 · rw [if_neg h1, if_neg h1]
   by_cases h2 : word n = [108, 101, 116]
   · rw [if_pos h2, if_pos h2]; exact let_sim hex h
   · rw [if_neg h2, if_neg h2]
     by_cases h3 : word n = [99, 97, 115, 101]
     · rw [if_pos h3, if_pos h3]; exact case_sim hex f h
     · rw [if_neg h3, if_neg h3]; exact plain_sim hex h
end
theorem expr_sim : ∀ (f : Nat) (n m : Node), Sim ρ n m → RR ρ (SimE ρ) (expr f n) (expr f m) := by
 intro f
 induction f with
 | zero => intro n m h; exact h.pos
 | succ f ih =>
   intro n m h
   rw [expr, expr, h.isList, h.isInt, h.isCon, h.isName, h.tok.int]
   by_cases h1 : isListB n = true
   · rw [if_pos h1, if_pos h1]; exact list_sim ih f h
   · rw [if_neg h1, if_neg h1]
     by_cases h2 : isIntB n = true
     · rw [if_pos h2, if_pos h2]; exact .mk _ _ _ _ _ _ _ _ _ _ h.pos .nil .nil .nil
     · rw [if_neg h2, if_neg h2, h.text (kind_ne (by simpa using h2))]
       by_cases h3 : isConB n = true
       · rw [if_pos h3, if_pos h3]; exact .mk _ _ _ _ _ _ _ _ _ _ h.pos .nil .nil .nil
       · rw [if_neg h3, if_neg h3]
         by_cases h4 : isNameB n = true
         · rw [if_pos h4, if_pos h4]; exact .mk _ _ _ _ _ _ _ _ _ _ h.pos .nil .nil .nil
         · rw [if_neg h4, if_neg h4]; exact h.pos
structure SimCon (ρ : Nat → Nat → Prop) (a b : Con) : Prop where
 pos : ρ a.pos b.pos
 name : b.name = a.name
 fields : All2 (SimT ρ) a.fields b.fields
structure SimData (ρ : Nat → Nat → Prop) (a b : Data) : Prop where
 pos : ρ a.pos b.pos
 name : b.name = a.name
 params : b.params = a.params
 cons : All2 (SimCon ρ) a.cons b.cons
structure SimDef (ρ : Nat → Nat → Prop) (a b : Def) : Prop where
 pos : ρ a.pos b.pos
 name : b.name = a.name
 params : b.params = a.params
 body : SimE ρ a.body b.body
structure SimProg (ρ : Nat → Nat → Prop) (a b : Prog) : Prop where
 datas : All2 (SimData ρ) a.datas b.datas
 defs : All2 (SimDef ρ) a.defs b.defs
theorem con_sim (f : Nat) {n m : Node} (h : Sim ρ n m) : RR ρ (SimCon ρ) (con f n) (con f m) := by
 unfold con
 have hh := nodes_sim h 1 9
 cases e1 : nodes n 1 9 <;> cases e2 : nodes m 1 9 <;> rw [e1, e2] at hh <;> try exact hh.elim
 · exact hh
 · rename_i l l'
   simp only []
   have key := conName_sim (All2.headD h hh)
   cases eA : conName (l.headD n) <;> cases eB : conName (l'.headD m) <;> rw [eA, eB] at key <;> try exact key.elim
   · exact key
   · obtain rfl := key
     simp only []
     have hb := each_sim (S := SimT ρ) (fun a b h => typeE_sim f h) hh.tail
     cases eE : each (typeE f) l.tail <;> cases eF : each (typeE f) l'.tail <;> rw [eE, eF] at hb <;> try exact hb.elim
     · exact hb
     · exact ⟨h.pos, rfl, hb⟩
theorem data_sim (f : Nat) {n m : Node} (h : Sim ρ n m) : RR ρ (SimData ρ) (data f n) (data f m) := by
 unfold data
 have hh := nodes_sim h 4 103
 cases e1 : nodes n 4 103 <;> cases e2 : nodes m 4 103 <;> rw [e1, e2] at hh <;> try exact hh.elim
 · exact hh
 · rename_i l l'
   simp only []
   have key := conName_sim (All2.getD n m h 1 hh)
   cases eA : conName (l.getD 1 n) <;> cases eB : conName (l'.getD 1 m) <;> rw [eA, eB] at key <;> try exact key.elim
   · exact key
   · obtain rfl := key
     simp only []
     have kn := names_sim (All2.getD n m h 2 hh) 0
     cases eG : names (l.getD 2 n) 0 <;> cases eH : names (l'.getD 2 m) 0 <;> rw [eG, eH] at kn <;> try exact kn.elim
     · exact kn
     · obtain rfl := kn
       simp only []
       have hb := each_sim (S := SimCon ρ) (fun a b h => con_sim f h) (hh.drop 3)
       cases eE : each (con f) (l.drop 3) <;> cases eF : each (con f) (l'.drop 3) <;> rw [eE, eF] at hb <;> try exact hb.elim
       · exact hb
       · exact ⟨h.pos, rfl, rfl, hb⟩
theorem defn_sim (f : Nat) {n m : Node} (h : Sim ρ n m) : RR ρ (SimDef ρ) (defn f n) (defn f m) := by
 unfold defn
 have hh := nodes_sim h 4 4
 cases e1 : nodes n 4 4 <;> cases e2 : nodes m 4 4 <;> rw [e1, e2] at hh <;> try exact hh.elim
 · exact hh
 · rename_i l l'
   simp only []
   have key := name_sim (All2.getD n m h 1 hh)
   cases eA : name (l.getD 1 n) <;> cases eB : name (l'.getD 1 m) <;> rw [eA, eB] at key <;> try exact key.elim
   · exact key
   · obtain rfl := key
     simp only []
     have kn := names_sim (All2.getD n m h 2 hh) 0
     cases eG : names (l.getD 2 n) 0 <;> cases eH : names (l'.getD 2 m) 0 <;> rw [eG, eH] at kn <;> try exact kn.elim
     · exact kn
     · obtain rfl := kn
       simp only []
       have hb := expr_sim f _ _ (All2.getD n m h 3 hh)
       cases eE : expr f (l.getD 3 n) <;> cases eF : expr f (l'.getD 3 m) <;> rw [eE, eF] at hb <;> try exact hb.elim
       · exact hb
       · exact ⟨h.pos, rfl, rfl, hb⟩
def NodeS (ρ : Nat → Nat → Prop) (a b : Node × List Tok) : Prop := Sim ρ a.1 b.1 ∧ All2 (TSim ρ) a.2 b.2
def RestS (ρ : Nat → Nat → Prop) (a b : List Node × List Tok) : Prop := All2 (Sim ρ) a.1 b.1 ∧ All2 (TSim ρ) a.2 b.2
theorem takes_sim {t u : Tok} (h : TSim ρ t u) : takesOf u.text = takesOf t.text ∧ (t.kind = 2 → takesOf t.text = 0) := by
 by_cases hk : t.kind = 2
 · obtain ⟨h1, h2⟩ := h.num hk
   exact ⟨by rw [h1.1, h2.1], fun _ => h1.1⟩
 · exact ⟨by rw [h.text hk], fun e => absurd e hk⟩
theorem node_rest_sim (stop stop' : Nat) (hs : ρ stop stop') : ∀ (f d : Nat) (ts us : List Tok), All2 (TSim ρ) ts us →
 RR ρ (NodeS ρ) (node stop f d ts) (node stop' f d us) ∧ RR ρ (RestS ρ) (rest stop f d ts) (rest stop' f d us) := by
 intro f
 induction f with
 | zero => intro d ts us h; exact ⟨hs, hs⟩
 | succ f ih =>
   intro d ts us h
   cases h with
   | nil => exact ⟨hs, hs⟩
   | @cons t u ts us h1 h2 =>
     constructor
     · rw [node, node, h1.kind]
       by_cases k1 : t.kind = 1
       · rw [if_pos k1, if_pos k1]; exact h1.pos
       · rw [if_neg k1, if_neg k1]
         by_cases k0 : t.kind = 0
         · rw [if_pos k0, if_pos k0]
           by_cases hd : d = 40
           · rw [if_pos hd, if_pos hd]; exact h1.pos
           · rw [if_neg hd, if_neg hd]
             have hr := (ih (d + 1) ts us h2).2
             cases e1 : rest stop f (d + 1) ts <;> cases e2 : rest stop' f (d + 1) us <;> rw [e1, e2] at hr <;> try exact hr.elim
             · exact hr
             · exact ⟨.mk _ _ _ _ _ h1 (fun _ => rfl) hr.1, hr.2⟩
         · rw [if_neg k0, if_neg k0]
           obtain ⟨t1, t2⟩ := takes_sim h1
           rw [t1]
           exact ⟨.mk _ _ _ _ _ h1 t2 .nil, h2⟩
     · rw [rest, rest, h1.kind]
       by_cases k1 : t.kind = 1
       · rw [if_pos k1, if_pos k1]; exact ⟨.nil, h2⟩
       · rw [if_neg k1, if_neg k1]
         have hn := (ih d (t :: ts) (u :: us) (.cons h1 h2)).1
         cases e1 : node stop f d (t :: ts) <;> cases e2 : node stop' f d (u :: us) <;> rw [e1, e2] at hn <;> try exact hn.elim
         · exact hn
         · rename_i x y
           obtain ⟨n, ts'⟩ := x
           obtain ⟨m, us'⟩ := y
           simp only []
           have hr := (ih d ts' us' hn.2).2
           cases e3 : rest stop f d ts' <;> cases e4 : rest stop' f d us' <;> rw [e3, e4] at hr <;> try exact hr.elim
           · exact hr
           · exact ⟨.cons hn.1 hr.1, hr.2⟩
theorem prog_sim (stop stop' : Nat) (hs : ρ stop stop') : ∀ (f c : Nat) (ts us : List Tok), All2 (TSim ρ) ts us → RR ρ (SimProg ρ) (prog stop f c ts) (prog stop' f c us) := by
 intro f
 induction f with
 | zero => intro c ts us h; exact ⟨.nil, .nil⟩
 | succ f ih =>
   intro c ts us h
   have hlen := h.len
   cases h with
   | nil => exact ⟨.nil, .nil⟩
   | @cons t u ts us h1 h2 =>
     rw [prog, prog, hlen]
     · have hn := (node_rest_sim stop stop' hs (2 * (t :: ts).length + 2) 0 (t :: ts) (u :: us) (.cons h1 h2)).1
       cases e1 : node stop (2 * (t :: ts).length + 2) 0 (t :: ts) <;> cases e2 : node stop' (2 * (t :: ts).length + 2) 0 (u :: us) <;> rw [e1, e2] at hn <;> try exact hn.elim
       · exact hn
       · rename_i x y
         obtain ⟨n, ts'⟩ := x
         obtain ⟨m, us'⟩ := y
         have hn1 : Sim ρ n m := hn.1
         have w1 : (word m = [100, 97, 116, 97]) = (word n = [100, 97, 116, 97]) := word_iff hn1.word _ (fun x hx => hx.2.1)
         have w2 : (word m = [100, 101, 102]) = (word n = [100, 101, 102]) := word_iff hn1.word _ (fun x hx => hx.2.2.1)
         simp only [w1, w2]
         have hr := ih (c + 1) ts' us' hn.2
         by_cases hc : c = 100
         · rw [if_pos hc, if_pos hc]; exact hn1.pos
         · rw [if_neg hc, if_neg hc]
           by_cases k1 : word n = [100, 97, 116, 97]
           · rw [if_pos k1, if_pos k1]
             have hd := data_sim 50 hn1
             cases e3 : data 50 n <;> cases e4 : data 50 m <;> rw [e3, e4] at hd <;> try exact hd.elim
             · exact hd
             · simp only []
               cases e5 : prog stop f (c + 1) ts' <;> cases e6 : prog stop' f (c + 1) us' <;> rw [e5, e6] at hr <;> try exact hr.elim
               · exact hr
               · exact ⟨.cons hd hr.datas, hr.defs⟩
           · rw [if_neg k1, if_neg k1]
             by_cases k2 : word n = [100, 101, 102]
             · rw [if_pos k2, if_pos k2]
               have hd := defn_sim 50 hn1
               cases e3 : defn 50 n <;> cases e4 : defn 50 m <;> rw [e3, e4] at hd <;> try exact hd.elim
               · exact hd
               · simp only []
                 cases e5 : prog stop f (c + 1) ts' <;> cases e6 : prog stop' f (c + 1) us' <;> rw [e5, e6] at hr <;> try exact hr.elim
                 · exact hr
                 · exact ⟨hr.datas, .cons hd hr.defs⟩
             · rw [if_neg k2, if_neg k2]; exact hn1.pos
     all_goals simp
end Px
end Go.Proofs.Ytgoacbomphlhjaa
namespace Go.Proofs.Ytgoacbomphlhjaa
set_option linter.unusedVariables false
set_option linter.unusedSimpArgs false
namespace Px
open Lx (Tok)
def opens : List Tok → Nat
 | [] => 0
 | t :: ts => (if t.kind = 0 then 1 else 0) + opens ts
theorem opens_app : ∀ (a b : List Tok), opens (a ++ b) = opens a + opens b
 | [], b => by simp [opens]
 | t :: a, b => by rw [List.cons_append, opens, opens, opens_app a b]; omega
/-- What is read of a text's tokens is read where more stand behind, and further in, if there is room. -/
theorem node_more (stop stop' : Nat) : ∀ (f d : Nat) (ts : List Tok),
 (∀ n ts', node stop f d ts = .ok (n, ts') → opens ts' ≤ opens ts ∧ (n.list ≠ [] → opens ts' < opens ts) ∧ ts'.length < ts.length ∧
   ∀ f' d' more, f ≤ f' → (d' = d ∨ d' + opens ts ≤ 40) → node stop' f' d' (ts ++ more) = .ok (n, ts' ++ more)) ∧
 (∀ l ts', rest stop f d ts = .ok (l, ts') → opens ts' ≤ opens ts ∧ ts'.length < ts.length ∧
   ∀ f' d' more, f ≤ f' → (d' = d ∨ d' + opens ts ≤ 40) → rest stop' f' d' (ts ++ more) = .ok (l, ts' ++ more)) := by
 intro f
 induction f with
 | zero => intro d ts; exact ⟨fun n ts' h => (by cases h), fun l ts' h => (by cases h)⟩
 | succ f ih =>
   intro d ts
   cases ts with
   | nil => exact ⟨fun n ts' h => (by cases h), fun l ts' h => (by cases h)⟩
   | cons t ts =>
     constructor
     · intro n ts' h
       rw [node] at h
       by_cases k1 : t.kind = 1
       · rw [if_pos k1] at h; cases h
       · rw [if_neg k1] at h
         by_cases k0 : t.kind = 0
         · rw [if_pos k0] at h
           by_cases hd : d = 40
           · rw [if_pos hd] at h; cases h
           · rw [if_neg hd] at h
             have hi := (ih (d + 1) ts).2
             cases hr : rest stop f (d + 1) ts with
             | error p => rw [hr] at h; cases h
             | ok x =>
               obtain ⟨l, ts1⟩ := x
               rw [hr] at h
               simp only [Except.ok.injEq, Prod.mk.injEq] at h
               obtain ⟨rfl, rfl⟩ := h
               obtain ⟨h1, h2, h3⟩ := hi _ _ hr
               have ho : opens (t :: ts) = opens ts + 1 := by rw [opens, if_pos k0]; omega
               refine ⟨by omega, fun _ => by omega, by rw [List.length_cons]; omega, fun f' d' more hf hdd => ?_⟩
               obtain ⟨f', rfl⟩ : ∃ g, f' = g + 1 := ⟨f' - 1, by omega⟩
               rw [List.cons_append, node, if_neg k1, if_pos k0, if_neg (by omega), h3 f' (d' + 1) more (by omega) (by omega)]
         · rw [if_neg k0] at h
           simp only [Except.ok.injEq, Prod.mk.injEq] at h
           obtain ⟨rfl, rfl⟩ := h
           have ho : opens (t :: ts) = opens ts := by rw [opens, if_neg k0]; omega
           refine ⟨by omega, fun e => absurd rfl e, by rw [List.length_cons]; omega, fun f' d' more hf hdd => ?_⟩
           obtain ⟨f', rfl⟩ : ∃ g, f' = g + 1 := ⟨f' - 1, by omega⟩
           rw [List.cons_append, node, if_neg k1, if_neg k0]
     · intro l ts' h
       rw [rest] at h
       by_cases k1 : t.kind = 1
       · rw [if_pos k1] at h
         simp only [Except.ok.injEq, Prod.mk.injEq] at h
         obtain ⟨rfl, rfl⟩ := h
         have ho : opens (t :: ts) = opens ts := by rw [opens, if_neg (by omega)]; omega
         refine ⟨by omega, by rw [List.length_cons]; omega, fun f' d' more hf hdd => ?_⟩
         obtain ⟨f', rfl⟩ : ∃ g, f' = g + 1 := ⟨f' - 1, by omega⟩
         rw [List.cons_append, rest, if_pos k1]
       · rw [if_neg k1] at h
         have hi := (ih d (t :: ts)).1
         cases hn : node stop f d (t :: ts) with
         | error p => rw [hn] at h; cases h
         | ok x =>
           obtain ⟨n, ts1⟩ := x
           rw [hn] at h
           simp only at h
           obtain ⟨h1, _, h2, h3⟩ := hi _ _ hn
           have hj := (ih d ts1).2
           cases hr : rest stop f d ts1 with
           | error p => rw [hr] at h; cases h
           | ok y =>
             obtain ⟨l', ts2⟩ := y
             rw [hr] at h
             simp only [Except.ok.injEq, Prod.mk.injEq] at h
             obtain ⟨rfl, rfl⟩ := h
             obtain ⟨g1, g2, g3⟩ := hj _ _ hr
             refine ⟨by omega, by omega, fun f' d' more hf hdd => ?_⟩
             obtain ⟨f', rfl⟩ : ∃ g, f' = g + 1 := ⟨f' - 1, by omega⟩
             have a1 := h3 f' d' more (by omega) hdd
             have a2 := g3 f' d' more (by omega) (by omega)
             rw [List.cons_append] at a1 ⊢
             rw [rest, if_neg k1, a1]
             simp only [a2]
/-- What is wrong ahead of the text's end is wrong where more stand behind. -/
theorem node_bad (stop stop' : Nat) : ∀ (f d : Nat) (ts : List Tok),
 (∀ p, node stop f d ts = .error p → p ≠ stop → ∀ f' more, f ≤ f' → node stop' f' d (ts ++ more) = .error p) ∧
 (∀ p, rest stop f d ts = .error p → p ≠ stop → ∀ f' more, f ≤ f' → rest stop' f' d (ts ++ more) = .error p) := by
 intro f
 induction f with
 | zero => intro d ts; exact ⟨fun p h hp => by cases h; exact absurd rfl hp, fun p h hp => by cases h; exact absurd rfl hp⟩
 | succ f ih =>
   intro d ts
   cases ts with
   | nil => exact ⟨fun p h hp => by cases h; exact absurd rfl hp, fun p h hp => by cases h; exact absurd rfl hp⟩
   | cons t ts =>
     constructor
     · intro p h hp f' more hf
       obtain ⟨f', rfl⟩ : ∃ g, f' = g + 1 := ⟨f' - 1, by omega⟩
       rw [node] at h
       rw [List.cons_append, node]
       by_cases k1 : t.kind = 1
       · rw [if_pos k1] at h ⊢; exact h
       · rw [if_neg k1] at h ⊢
         by_cases k0 : t.kind = 0
         · rw [if_pos k0] at h ⊢
           by_cases hd : d = 40
           · rw [if_pos hd] at h ⊢; exact h
           · rw [if_neg hd] at h ⊢
             have hi := (ih (d + 1) ts).2
             cases hr : rest stop f (d + 1) ts with
             | error q =>
               rw [hr] at h
               simp only [Except.error.injEq] at h
               subst h
               rw [hi _ hr hp f' more (by omega)]
             | ok x => rw [hr] at h; cases h
         · rw [if_neg k0] at h; cases h
     · intro p h hp f' more hf
       obtain ⟨f', rfl⟩ : ∃ g, f' = g + 1 := ⟨f' - 1, by omega⟩
       rw [rest] at h
       rw [List.cons_append, rest]
       by_cases k1 : t.kind = 1
       · rw [if_pos k1] at h; cases h
       · rw [if_neg k1] at h ⊢
         cases hn : node stop f d (t :: ts) with
         | error q =>
           rw [hn] at h
           simp only [Except.error.injEq] at h
           subst h
           have := (ih d (t :: ts)).1 _ hn hp f' more (by omega)
           rw [List.cons_append] at this
           rw [this]
         | ok x =>
           obtain ⟨n, ts1⟩ := x
           rw [hn] at h
           simp only at h
           have a1 := ((node_more stop stop' f d (t :: ts)).1 _ _ hn).2.2.2 f' d more (by omega) (.inl rfl)
           rw [List.cons_append] at a1
           rw [a1]
           cases hr : rest stop f d ts1 with
           | error q =>
             rw [hr] at h
             simp only [Except.error.injEq] at h
             subst h
             have a2 := (ih d ts1).2 _ hr hp f' more (by omega)
             simp only [a2]
           | ok y => rw [hr] at h; cases h
theorem prog_nil (stop f c : Nat) : prog stop f c [] = .ok ⟨[], []⟩ := by cases f <;> rfl
theorem prog_cons (stop f c : Nat) (t : Tok) (ts : List Tok) : prog stop (f + 1) c (t :: ts) =
 match node stop (2 * (t :: ts).length + 2) 0 (t :: ts) with
 | .error p => .error p
 | .ok (n, ts') =>
   if c = 100 then .error n.pos
   else if word n = [100, 97, 116, 97] then
    match data 50 n with
    | .error p => .error p
    | .ok d => match prog stop f (c + 1) ts' with
      | .error p => .error p
      | .ok q => .ok ⟨d :: q.datas, q.defs⟩
   else if word n = [100, 101, 102] then
    match defn 50 n with
    | .error p => .error p
    | .ok d => match prog stop f (c + 1) ts' with
      | .error p => .error p
      | .ok q => .ok ⟨q.datas, d :: q.defs⟩
   else .error n.pos := by
 rw [prog]
 all_goals first | rfl | simp
/-- How many parts. -/
def Prog.size (p : Prog) : Nat := p.datas.length + p.defs.length
def Prog.add (p q : Prog) : Prog := ⟨p.datas ++ q.datas, p.defs ++ q.defs⟩
theorem prog_size (stop : Nat) : ∀ (f c : Nat) (ts : List Tok) (q : Prog), c ≤ 100 → prog stop f c ts = .ok q → c + q.size ≤ 100 := by
 intro f
 induction f with
 | zero => intro c ts q hc h; cases h; simpa [Prog.size] using hc
 | succ f ih =>
   intro c ts q hc h
   cases ts with
   | nil => rw [prog_nil] at h; cases h; simpa [Prog.size] using hc
   | cons t ts =>
     rw [prog_cons] at h
     cases hn : node stop (2 * (t :: ts).length + 2) 0 (t :: ts) with
     | error p => rw [hn] at h; cases h
     | ok x =>
       obtain ⟨n, ts1⟩ := x
       rw [hn] at h
       simp only at h
       by_cases h100 : c = 100
       · rw [if_pos h100] at h; cases h
       · rw [if_neg h100] at h
         by_cases k1 : word n = [100, 97, 116, 97]
         · rw [if_pos k1] at h
           cases hd : data 50 n with
           | error p => rw [hd] at h; cases h
           | ok d =>
             rw [hd] at h
             simp only at h
             cases hp : prog stop f (c + 1) ts1 with
             | error p => rw [hp] at h; cases h
             | ok q' =>
               rw [hp] at h
               simp only [Except.ok.injEq] at h
               subst h
               have := ih _ _ _ (by omega) hp
               simp only [Prog.size, List.length_cons] at this ⊢; omega
         · rw [if_neg k1] at h
           by_cases k2 : word n = [100, 101, 102]
           · rw [if_pos k2] at h
             cases hd : defn 50 n with
             | error p => rw [hd] at h; cases h
             | ok d =>
               rw [hd] at h
               simp only at h
               cases hp : prog stop f (c + 1) ts1 with
               | error p => rw [hp] at h; cases h
               | ok q' =>
                 rw [hp] at h
                 simp only [Except.ok.injEq] at h
                 subst h
                 have := ih _ _ _ (by omega) hp
                 simp only [Prog.size, List.length_cons] at this ⊢; omega
           · rw [if_neg k2] at h; cases h
/-- Tokens behind those of a program. -/
theorem prog_app (stop stop' : Nat) (us : List Tok) : ∀ (f c : Nat) (ts : List Tok) (q : Prog), ts.length < f → prog stop f c ts = .ok q → ∀ g, us.length < g →
 ∃ g', us.length < g' ∧ prog stop' (ts.length + g) c (ts ++ us) = match prog stop' g' (c + q.size) us with
  | .error p => .error p
  | .ok q' => .ok (q.add q') := by
 intro f
 induction f with
 | zero => intro c ts q hl; omega
 | succ f ih =>
   intro c ts q hl h g hg
   cases ts with
   | nil =>
     rw [prog_nil] at h; cases h
     refine ⟨g, hg, ?_⟩
     simp only [List.length_nil, Nat.zero_add, List.nil_append, Prog.size, Nat.add_zero]
     cases prog stop' g c us <;> rfl
   | cons t ts =>
     rw [prog_cons] at h
     have hgt : (t :: ts).length + g = (ts.length + g) + 1 := by rw [List.length_cons]; omega
     rw [hgt, List.cons_append, prog_cons]
     cases hn : node stop (2 * (t :: ts).length + 2) 0 (t :: ts) with
     | error p => rw [hn] at h; cases h
     | ok x =>
       obtain ⟨n, ts1⟩ := x
       rw [hn] at h
       simp only at h
       obtain ⟨_, _, hlen, hm⟩ := (node_more stop stop' _ 0 (t :: ts)).1 _ _ hn
       have hm' := hm (2 * (t :: (ts ++ us)).length + 2) 0 us (by simp only [List.length_cons, List.length_append]; omega) (.inl rfl)
       rw [List.cons_append] at hm'
       rw [hm']
       rw [List.length_cons] at hlen hl
       simp only
       by_cases h100 : c = 100
       · rw [if_pos h100] at h; cases h
       · rw [if_neg h100] at h ⊢
         by_cases k1 : word n = [100, 97, 116, 97]
         · rw [if_pos k1] at h ⊢
           cases hd : data 50 n with
           | error p => rw [hd] at h; cases h
           | ok d =>
             rw [hd] at h
             simp only at h ⊢
             cases hp : prog stop f (c + 1) ts1 with
             | error p => rw [hp] at h; cases h
             | ok q' =>
               rw [hp] at h
               simp only [Except.ok.injEq] at h
               subst h
               obtain ⟨g', hg', he⟩ := ih (c + 1) ts1 q' (by omega) hp (ts.length + g - ts1.length) (by omega)
               have e : ts1.length + (ts.length + g - ts1.length) = ts.length + g := by omega
               rw [e] at he
               refine ⟨g', hg', ?_⟩
               rw [he]
               have ec : c + 1 + q'.size = c + (Prog.mk (d :: q'.datas) q'.defs).size := by simp only [Prog.size, List.length_cons]; omega
               rw [ec]
               cases prog stop' g' _ us <;> rfl
         · rw [if_neg k1] at h ⊢
           by_cases k2 : word n = [100, 101, 102]
           · rw [if_pos k2] at h ⊢
             cases hd : defn 50 n with
             | error p => rw [hd] at h; cases h
             | ok d =>
               rw [hd] at h
               simp only at h ⊢
               cases hp : prog stop f (c + 1) ts1 with
               | error p => rw [hp] at h; cases h
               | ok q' =>
                 rw [hp] at h
                 simp only [Except.ok.injEq] at h
                 subst h
                 obtain ⟨g', hg', he⟩ := ih (c + 1) ts1 q' (by omega) hp (ts.length + g - ts1.length) (by omega)
                 have e : ts1.length + (ts.length + g - ts1.length) = ts.length + g := by omega
                 rw [e] at he
                 refine ⟨g', hg', ?_⟩
                 rw [he]
                 have ec : c + 1 + q'.size = c + (Prog.mk q'.datas (d :: q'.defs)).size := by simp only [Prog.size, List.length_cons]; omega
                 rw [ec]
                 cases prog stop' g' _ us <;> rfl
           · rw [if_neg k2] at h; cases h
/-- What is wrong in a program is wrong where more stand behind. -/
theorem prog_bad (stop stop' : Nat) (us : List Tok) : ∀ (f c : Nat) (ts : List Tok) (p : Nat), ts.length < f → prog stop f c ts = .error p → p ≠ stop → ∀ g, us.length < g →
 prog stop' (ts.length + g) c (ts ++ us) = .error p := by
 intro f
 induction f with
 | zero => intro c ts q hl; omega
 | succ f ih =>
   intro c ts p hl h hp g hg
   cases ts with
   | nil => rw [prog_nil] at h; cases h
   | cons t ts =>
     rw [prog_cons] at h
     have hgt : (t :: ts).length + g = (ts.length + g) + 1 := by rw [List.length_cons]; omega
     rw [hgt, List.cons_append, prog_cons]
     cases hn : node stop (2 * (t :: ts).length + 2) 0 (t :: ts) with
     | error q =>
       rw [hn] at h
       simp only [Except.error.injEq] at h
       subst h
       have := (node_bad stop stop' _ 0 (t :: ts)).1 _ hn hp (2 * (t :: (ts ++ us)).length + 2) us (by simp only [List.length_cons, List.length_append]; omega)
       rw [List.cons_append] at this
       rw [this]
     | ok x =>
       obtain ⟨n, ts1⟩ := x
       rw [hn] at h
       simp only at h
       obtain ⟨_, _, hlen, hm⟩ := (node_more stop stop' _ 0 (t :: ts)).1 _ _ hn
       have hm' := hm (2 * (t :: (ts ++ us)).length + 2) 0 us (by simp only [List.length_cons, List.length_append]; omega) (.inl rfl)
       rw [List.cons_append] at hm'
       rw [hm']
       rw [List.length_cons] at hlen hl
       simp only
       by_cases h100 : c = 100
       · rw [if_pos h100] at h ⊢; exact h
       · rw [if_neg h100] at h ⊢
         have e : ts1.length + (ts.length + g - ts1.length) = ts.length + g := by omega
         by_cases k1 : word n = [100, 97, 116, 97]
         · rw [if_pos k1] at h ⊢
           cases hd : data 50 n with
           | error q => rw [hd] at h; exact h
           | ok d =>
             rw [hd] at h
             simp only at h ⊢
             cases hr : prog stop f (c + 1) ts1 with
             | error q =>
               rw [hr] at h
               simp only [Except.error.injEq] at h
               subst h
               have he := ih (c + 1) ts1 q (by omega) hr hp (ts.length + g - ts1.length) (by omega)
               rw [e] at he
               rw [he]
             | ok q => rw [hr] at h; cases h
         · rw [if_neg k1] at h ⊢
           by_cases k2 : word n = [100, 101, 102]
           · rw [if_pos k2] at h ⊢
             cases hd : defn 50 n with
             | error q => rw [hd] at h; exact h
             | ok d =>
               rw [hd] at h
               simp only at h ⊢
               cases hr : prog stop f (c + 1) ts1 with
               | error q =>
                 rw [hr] at h
                 simp only [Except.error.injEq] at h
                 subst h
                 have he := ih (c + 1) ts1 q (by omega) hr hp (ts.length + g - ts1.length) (by omega)
                 rw [e] at he
                 rw [he]
               | ok q => rw [hr] at h; cases h
           · rw [if_neg k2] at h ⊢; exact h
theorem word_list {n : Node} {s : List UInt8} (h : word n = s) (hs : s ≠ []) : n.list ≠ [] := by
 intro e; unfold word at h; rw [e] at h; exact hs h.symm
/-- Fuel, and how many lists came ahead, don't matter where there is room. -/
theorem prog_count (stop : Nat) : ∀ (f f' c c' : Nat) (ts : List Tok), ts.length < f → ts.length < f' → c + opens ts ≤ 100 → c' + opens ts ≤ 100 → prog stop f c ts = prog stop f' c' ts := by
 intro f
 induction f with
 | zero => intro f' c c' ts hl; omega
 | succ f ih =>
   intro f' c c' ts hl hl' hc hc'
   cases ts with
   | nil => rw [prog_nil, prog_nil]
   | cons t ts =>
     obtain ⟨f', rfl⟩ : ∃ g, f' = g + 1 := ⟨f' - 1, by omega⟩
     rw [prog_cons, prog_cons]
     cases hn : node stop (2 * (t :: ts).length + 2) 0 (t :: ts) with
     | error p => rfl
     | ok x =>
       obtain ⟨n, ts1⟩ := x
       obtain ⟨h1, h2, h3, _⟩ := (node_more stop stop _ 0 (t :: ts)).1 _ _ hn
       rw [List.length_cons] at h3 hl hl'
       simp only
       by_cases k1 : word n = [100, 97, 116, 97]
       · have h4 := h2 (word_list k1 (by simp))
         have n1 : c ≠ 100 := by omega
         have n2 : c' ≠ 100 := by omega
         rw [if_neg n1, if_neg n2, if_pos k1, if_pos k1, ih f' (c + 1) (c' + 1) ts1 (by omega) (by omega) (by omega) (by omega)]
       · by_cases k2 : word n = [100, 101, 102]
         · have h4 := h2 (word_list k2 (by simp))
           have n1 : c ≠ 100 := by omega
           have n2 : c' ≠ 100 := by omega
           rw [if_neg n1, if_neg n2, if_neg k1, if_neg k1, if_pos k2, if_pos k2, ih f' (c + 1) (c' + 1) ts1 (by omega) (by omega) (by omega) (by omega)]
         · rw [if_neg k1, if_neg k1, if_neg k2, if_neg k2]
           by_cases e1 : c = 100
           · rw [if_pos e1]
             by_cases e2 : c' = 100
             · rw [if_pos e2]
             · rw [if_neg e2]
           · rw [if_neg e1]
             by_cases e2 : c' = 100
             · rw [if_pos e2]
             · rw [if_neg e2]
/-- Fuel alone. -/
theorem prog_fuel (stop : Nat) : ∀ (f f' c : Nat) (ts : List Tok), ts.length < f → ts.length < f' → prog stop f c ts = prog stop f' c ts := by
 intro f
 induction f with
 | zero => intro f' c ts hl; omega
 | succ f ih =>
   intro f' c ts hl hl'
   cases ts with
   | nil => rw [prog_nil, prog_nil]
   | cons t ts =>
     obtain ⟨f', rfl⟩ : ∃ g, f' = g + 1 := ⟨f' - 1, by omega⟩
     rw [prog_cons, prog_cons]
     cases hn : node stop (2 * (t :: ts).length + 2) 0 (t :: ts) with
     | error p => rfl
     | ok x =>
       obtain ⟨n, ts1⟩ := x
       obtain ⟨h1, h2, h3, _⟩ := (node_more stop stop _ 0 (t :: ts)).1 _ _ hn
       rw [List.length_cons] at h3 hl hl'
       simp only
       rw [ih f' (c + 1) ts1 (by omega) (by omega)]
end Px
end Go.Proofs.Ytgoacbomphlhjaa
namespace Go.Proofs.Ytgoacbomphlhjaa
set_option linter.unusedVariables false
set_option linter.unusedSimpArgs false
namespace Px
open Lx (Tok tk mkTok)
def Small (n : Int) : Prop := -1000000000000000000 < n ∧ n < 1000000000000000000
/-- The text ahead of the last number. -/
def sumPre (ns : List Int) : List UInt8 := ns.flatMap fun n => [40, 43, 32] ++ Lib.itoa n ++ [32]
def closes (p : Nat) : Nat → List Tok
 | 0 => []
 | k + 1 => mkTok p 1 [41] :: closes (p + 1) k
def sumToks (m : Int) (k : Nat) : Nat → List Int → List Tok
 | p, [] => mkTok p 2 (Lib.itoa m) :: closes (p + (Lib.itoa m).length) k
 | p, n :: ns => mkTok p 0 [40] :: mkTok (p + 1) 5 [43] :: mkTok (p + 3) 2 (Lib.itoa n) :: sumToks m k (p + 4 + (Lib.itoa n).length) ns
def sumNode (m : Int) : Nat → List Int → Node
 | p, [] => .mk (mkTok p 2 (Lib.itoa m)) [] (takesOf (Lib.itoa m))
 | p, n :: ns => .mk (mkTok p 0 [40]) [.mk (mkTok (p + 1) 5 [43]) [] 2, .mk (mkTok (p + 3) 2 (Lib.itoa n)) [] (takesOf (Lib.itoa n)), sumNode m (p + 4 + (Lib.itoa n).length) ns] 0
def sumExpr (m : Int) : Nat → List Int → Expr
 | p, [] => .mk 0 p [] m [] [] []
 | p, n :: ns => .mk 7 p [43] 0 [] [.mk 0 (p + 3) [] n [] [] [], sumExpr m (p + 4 + (Lib.itoa n).length) ns] []
theorem ends_closes (k : Nat) : Lx.Ends (List.replicate k 41) := by
 cases k with
 | zero => exact Lx.ends_nil
 | succ k => rw [List.replicate_succ]; exact Lx.ends_41 _
theorem tk_closes : ∀ (k p : Nat), tk p (List.replicate k 41) = (closes p k, none) := by
 intro k
 induction k with
 | zero => intro p; rfl
 | succ k ih => intro p; rw [List.replicate_succ, Lx.tk_close, ih]; rfl
theorem tk_sum (m : Int) (k : Nat) (hm : Small m) : ∀ (ns : List Int) (p : Nat), (∀ n ∈ ns, Small n) → tk p (sumPre ns ++ (Lib.itoa m ++ List.replicate k 41)) = (sumToks m k p ns, none) := by
 intro ns
 induction ns with
 | nil =>
   intro p _
   show tk p (Lib.itoa m ++ List.replicate k 41) = _
   rw [Lx.tk_word p (Lx.isTok_itoa m hm.1 hm.2) (ends_closes k), tk_closes]; rfl
 | cons n ns ih =>
   intro p h
   have hn := h n (by simp)
   have e : sumPre (n :: ns) ++ (Lib.itoa m ++ List.replicate k 41) = 40 :: ([43] ++ 32 :: (Lib.itoa n ++ 32 :: (sumPre ns ++ (Lib.itoa m ++ List.replicate k 41)))) := by simp [sumPre]
   rw [e, Lx.tk_open, Lx.tk_word (p + 1) Lx.isTok_plus (Lx.ends_32 _)]
   simp only [List.length_singleton]
   rw [Lx.tk_32, Lx.tk_word _ (Lx.isTok_itoa n hn.1 hn.2) (Lx.ends_32 _), Lx.tk_32]
   have e3 : p + 1 + 1 + 1 = p + 3 := rfl
   have e4 : p + 1 + 1 + 1 + (Lib.itoa n).length + 1 = p + 4 + (Lib.itoa n).length := by omega
   rw [e4, e3, ih _ (fun x hx => h x (by simp [hx]))]; rfl
theorem takes_plus : takesOf [43] = 2 := by decide
theorem node_leaf (stop f d : Nat) (t : Tok) (ts : List Tok) (h1 : t.kind ≠ 1) (h0 : t.kind ≠ 0) : node stop (f + 1) d (t :: ts) = .ok (.mk t [] (takesOf t.text), ts) := by
 rw [node, if_neg h1, if_neg h0]
theorem node_list (stop f d : Nat) (t : Tok) (ts ts' : List Tok) (l : List Node) (h0 : t.kind = 0) (hd : d ≠ 40) (h : rest stop f (d + 1) ts = .ok (l, ts')) : node stop (f + 1) d (t :: ts) = .ok (.mk t l 0, ts') := by
 rw [node, if_neg (by omega), if_pos h0, if_neg hd, h]
theorem rest_cons (stop f d : Nat) (t : Tok) (ts ts' ts'' : List Tok) (n : Node) (l : List Node) (h1 : t.kind ≠ 1) (h : node stop f d (t :: ts) = .ok (n, ts')) (hr : rest stop f d ts' = .ok (l, ts'')) : rest stop (f + 1) d (t :: ts) = .ok (n :: l, ts'') := by
 rw [rest, if_neg h1, h]
 simp only [hr]
theorem rest_end (stop f d : Nat) (t : Tok) (ts : List Tok) (h1 : t.kind = 1) : rest stop (f + 1) d (t :: ts) = .ok ([], ts) := by
 rw [rest, if_pos h1]
theorem sum_head (m : Int) (k p : Nat) (ns : List Int) : ∃ t ts, sumToks m k p ns = t :: ts ∧ t.kind ≠ 1 := by
 cases ns with
 | nil => exact ⟨_, _, rfl, by show (2 : Int) ≠ 1; decide⟩
 | cons n ns => exact ⟨_, _, rfl, by show (0 : Int) ≠ 1; decide⟩
theorem node_sum (stop : Nat) (m : Int) (k : Nat) : ∀ (ns : List Int) (p d f : Nat), d + ns.length ≤ 40 → 4 * ns.length + 1 ≤ f → ns.length ≤ k →
 ∃ p', node stop f d (sumToks m k p ns) = .ok (sumNode m p ns, closes p' (k - ns.length)) := by
 intro ns
 induction ns with
 | nil =>
   intro p d f _ hf _
   obtain ⟨f, rfl⟩ : ∃ g, f = g + 1 := ⟨f - 1, by simp at hf; omega⟩
   exact ⟨_, node_leaf stop f d _ _ (by show (2 : Int) ≠ 1; decide) (by show (2 : Int) ≠ 0; decide)⟩
 | cons n ns ih =>
   intro p d f hd hf hk
   rw [List.length_cons] at hd hf hk
   obtain ⟨f, rfl⟩ : ∃ g, f = g + 4 := ⟨f - 4, by omega⟩
   obtain ⟨p', hn⟩ := ih (p + 4 + (Lib.itoa n).length) (d + 1) f (by omega) (by omega) (by omega)
   obtain ⟨t, ts, hts, hk1⟩ := sum_head m k (p + 4 + (Lib.itoa n).length) ns
   obtain ⟨j, hj⟩ : ∃ j, k - ns.length = j + 1 := ⟨k - ns.length - 1, by omega⟩
   obtain ⟨f, rfl⟩ : ∃ g, f = g + 1 := ⟨f - 1, by omega⟩
   refine ⟨p' + 1, ?_⟩
   have ej : k - (n :: ns).length = j := by rw [List.length_cons]; omega
   rw [ej]
   rw [hj] at hn
   rw [hts] at hn
   refine node_list stop _ d _ _ _ _ rfl (by omega) ?_
   refine rest_cons stop _ (d + 1) _ _ _ _ _ _ (by show (5 : Int) ≠ 1; decide) (node_leaf stop _ _ _ _ (by show (5 : Int) ≠ 1; decide) (by show (5 : Int) ≠ 0; decide)) ?_
   refine rest_cons stop _ (d + 1) _ _ _ _ _ _ (by show (2 : Int) ≠ 1; decide) (node_leaf stop _ _ _ _ (by show (2 : Int) ≠ 1; decide) (by show (2 : Int) ≠ 0; decide)) ?_
   rw [hts]
   exact rest_cons stop _ (d + 1) _ _ _ _ _ _ hk1 hn (rest_end stop f _ _ _ rfl)
theorem expr_sum (m : Int) : ∀ (ns : List Int) (p f : Nat), ns.length < f → expr f (sumNode m p ns) = .ok (sumExpr m p ns) := by
 intro ns
 induction ns with
 | nil =>
   intro p f hf
   obtain ⟨f, rfl⟩ : ∃ g, f = g + 1 := ⟨f - 1, by simp at hf; omega⟩
   have h := Lx.mkTok_itoa p m
   simp only [sumNode, h, expr, isListB, isIntB, Node.tok, Node.pos, sumExpr]
   rfl
 | cons n ns ih =>
   intro p f hf
   rw [List.length_cons] at hf
   obtain ⟨f, rfl⟩ : ∃ g, f = g + 2 := ⟨f - 2, by omega⟩
   have h := Lx.mkTok_itoa (p + 3) n
   have hi := ih (p + 4 + (Lib.itoa n).length) (f + 1) (by omega)
   have hw : word (sumNode m p (n :: ns)) = [43] := rfl
   rw [expr, if_pos (by rfl), listExpr, hw, if_neg (by decide), if_neg (by decide), if_neg (by decide), plainExpr]
   have hnodes : nodes (sumNode m p (n :: ns)) 2 9 = .ok (sumNode m p (n :: ns)).list := rfl
   have hhold : hold (sumNode m p (n :: ns)) (1 + 2) (1 + 2) = .ok () := rfl
   rw [hnodes]
   have htk : ((sumNode m p (n :: ns)).list.headD (sumNode m p (n :: ns))).takes = 2 := rfl
   simp only [htk]
   rw [if_pos (by decide), hhold]
   have htail : (sumNode m p (n :: ns)).list.tail = [.mk (mkTok (p + 3) 2 (Lib.itoa n)) [] (takesOf (Lib.itoa n)), sumNode m (p + 4 + (Lib.itoa n).length) ns] := rfl
   rw [htail]
   have e1 : expr (f + 1) (.mk (mkTok (p + 3) 2 (Lib.itoa n)) [] (takesOf (Lib.itoa n))) = .ok (.mk 0 (p + 3) [] n [] [] []) := by
    rw [h]; rfl
   simp only [each, e1, hi, sumExpr]
   rfl
theorem closes_len (p : Nat) : ∀ k q, (closes q k).length = k := by
 intro k
 induction k with
 | zero => intro q; rfl
 | succ k ih => intro q; rw [closes, List.length_cons, ih]
theorem sumToks_len (m : Int) (k : Nat) : ∀ (ns : List Int) (p : Nat), (sumToks m k p ns).length = 3 * ns.length + 1 + k := by
 intro ns
 induction ns with
 | nil => intro p; rw [sumToks, List.length_cons, closes_len 0]; simp; omega
 | cons n ns ih => intro p; simp only [sumToks, List.length_cons, ih]; omega
theorem itoa_len (n : Int) (h : Small n) : (Lib.itoa n).length ≤ 19 := by
 have hl := Lx.dec_len_lt 17 n.natAbs (by have := h.1; have := h.2; omega)
 rw [Lx.itoa_split]; split
 · rw [List.length_cons]; omega
 · omega
theorem sumPre_len : ∀ (ns : List Int), (∀ n ∈ ns, Small n) → (sumPre ns).length ≤ 23 * ns.length := by
 intro ns
 induction ns with
 | nil => intro _; simp [sumPre]
 | cons n ns ih =>
   intro h
   have e : sumPre (n :: ns) = [40, 43, 32] ++ Lib.itoa n ++ [32] ++ sumPre ns := rfl
   have h1 := itoa_len n (h n (by simp))
   have h2 := ih (fun x hx => h x (by simp [hx]))
   rw [e]; simp only [List.length_append, List.length_cons, List.length_nil]; omega
theorem exprOf_sum (m : Int) (ns : List Int) (hm : Small m) (hns : ∀ n ∈ ns, Small n) (hl : ns.length ≤ 30) :
 exprOf (sumPre ns ++ (Lib.itoa m ++ List.replicate ns.length 41)) = .done (sumExpr m 0 ns) := by
 have h1 := itoa_len m hm
 have h2 := sumPre_len ns hns
 have ht : Lx.toks ((sumPre ns ++ (Lib.itoa m ++ List.replicate ns.length 41)).length + 1) 0 (sumPre ns ++ (Lib.itoa m ++ List.replicate ns.length 41)) = (sumToks m ns.length 0 ns, none) := tk_sum m ns.length hm ns 0 hns
 unfold exprOf parsed
 rw [if_neg (by simp only [List.length_append, List.length_replicate]; omega), ht]
 simp only [onlyExpr]
 obtain ⟨p', hn⟩ := node_sum (sumPre ns ++ (Lib.itoa m ++ List.replicate ns.length 41)).length m ns.length ns 0 0 (2 * (sumToks m ns.length 0 ns).length + 2) (by omega) (by rw [sumToks_len]; omega) (Nat.le_refl _)
 rw [hn, Nat.sub_self]
 simp only [closes]
 rw [expr_sum m ns 0 50 (by omega)]
end Px
end Go.Proofs.Ytgoacbomphlhjaa
