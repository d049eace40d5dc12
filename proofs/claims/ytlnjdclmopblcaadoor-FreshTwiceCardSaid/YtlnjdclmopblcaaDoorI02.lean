import Derived.Test.YtlnjdclmopblcaaDoorI01
set_option linter.unusedVariables false
set_option linter.unusedSimpArgs false
set_option maxHeartbeats 40000000
set_option maxRecDepth 100000
namespace Go.Proofs.YtlnjdclmopblcaaDoor
namespace Lx
def tk (p : Nat) (l : List UInt8) : List Tok × Option Nat := toks (l.length + 1) p l
def Ends (r : List UInt8) : Prop := J8 (Jj r 0) = false /\ (Jj r 0).toNat ≠ 62
theorem Kq : Ends [] := ⟨by decide, by decide⟩
structure kL (k : Int) (t : List UInt8) : Prop where
 ne : t ≠ []
 blank : Qd (Jj t 0) = false
 note : (Jj t 0).toNat ≠ 59
 is : ∀ r, Ends r -> Jp (t ++ r) = (k, t.length)
theorem Ep (p : UInt8 -> Bool) (t r : List UInt8) (h : ∀ c ∈ t, p c = true) (hr : p (Jj r 0) = false) : cnt p (t ++ r) = t.length := by
 induction t with
 | nil =>
   cases r with
   | nil => rfl
   | cons c r => 
     have : p c = false := hr; rw [J6, Ws, if_neg (by simp [this])]; rfl
 | cons c t ih =>
   rw [JQ, Ws, if_pos (h c (by simp)), ih (fun d hd => h d (by simp [hd])), JG]
theorem dP {c : UInt8} (h : J8 c = false) : jQ c = false := by
 unfold J8 at h; simp only [Bool.or_eq_false_iff] at h; exact h.1.2
theorem Gf (c : UInt8) (hb : Qd c = false) (hs : c.toNat ≠ 59) (hd : jQ c = false) (hsm : ql c = false) (hg : QP c = false) (h : ¬ single c < 0) : kL (single c) [c] := by
 refine ⟨by simp, hb, hs, fun r hr => ?_⟩; have e0 : Jj ([c] ++ r) 0 = c := rfl; have e1 : Jj ([c] ++ r) 1 = Jj r 0 := rfl; have ho : one c = (single c, 1) := by unfold one; rw [if_neg h]
 unfold Jp; simp only []; rw [e0, e1]; by_cases h45 : c.toNat = 45
 . rw [if_pos h45, if_neg hr.2, if_neg (by rw [dP hr.1]; decide), ho]; rfl
 . rw [if_neg h45, if_neg (by simp [hd]), if_neg (by simp [hsm]), if_neg (by simp [hg]), ho]; rfl
theorem Wt (c : UInt8) (t : List UInt8) (hc : ql c = true) (h : ∀ d ∈ t, J8 d = true) : kL 3 (c :: t) := by
 have hb : 97 <= c.toNat /\ c.toNat <= 122 := by simpa [ql] using hc
 refine ⟨by simp, ?_, ?_, fun r hr => ?_⟩
 . show Qd c = false; unfold Qd; simp; omega
 . show c.toNat ≠ 59; omega
 . have e0 : Jj (c :: t ++ r) 0 = c := rfl; have ed : (c :: t ++ r).drop 1 = t ++ r := rfl; have hdg : jQ c = false := by unfold jQ; simp; omega
   unfold Jp; simp only []; rw [e0, ed, if_neg (by omega), if_neg (by simp [hdg]), if_pos hc, Ep J8 t r h hr.1]; rfl
theorem Wu (c : UInt8) (t : List UInt8) (hc : QP c = true) (h : ∀ d ∈ t, J8 d = true) : kL 4 (c :: t) := by
 have hb : 65 <= c.toNat /\ c.toNat <= 90 := by simpa [QP] using hc
 refine ⟨by simp, ?_, ?_, fun r hr => ?_⟩
 . show Qd c = false; unfold Qd; simp; omega
 . show c.toNat ≠ 59; omega
 . have e0 : Jj (c :: t ++ r) 0 = c := rfl; have ed : (c :: t ++ r).drop 1 = t ++ r := rfl; have hdg : jQ c = false := by unfold jQ; simp; omega
   have hsm : ql c = false := by unfold ql; simp; omega
   unfold Jp; simp only []; rw [e0, ed, if_neg (by omega), if_neg (by simp [hdg]), if_neg (by simp [hsm]), if_pos hc, Ep J8 t r h hr.1]; rfl
end Lx
namespace Px
open Lx (Tok)
def Plain (s : List UInt8) : Prop :=
 qQ s = 0 /\ s ≠ [100, 97, 116, 97] /\ s ≠ [100, 101, 102] /\ s ≠ [102, 110] /\ s ≠ [108, 101, 116] /\ s ≠ [99, 97, 115, 101] /\ s ≠ [45, 62] /\ s ≠ [95]
structure dQ (ρ : Nat -> Nat -> Prop) (t u : Tok) : Prop where
 kind : u.kind = t.kind
 pos : ρ t.pos u.pos
 int : u.int = t.int
 num : t.kind = 2 -> Plain t.text /\ Plain u.text
 text : t.kind ≠ 2 -> u.text = t.text
inductive qG {α β : Type} (S : α -> β -> Prop) : List α -> List β -> Prop
 | nil : qG S [] []
 | cons {a : α} {b : β} {l : List α} {m : List β} : S a b -> qG S l m -> qG S (a :: l) (b :: m)
theorem qG.len {α β : Type} {S : α -> β -> Prop} : ∀ {l : List α} {m : List β}, qG S l m -> m.length = l.length
 | _, _, .nil => rfl
 | _, _, .cons _ h => by rw [JG, JG, h.len]
theorem qG.mono {α β : Type} {S S' : α -> β -> Prop} (hs : ∀ a b, S a b -> S' a b) : ∀ {l : List α} {m : List β}, qG S l m -> qG S' l m
 | _, _, .nil => .nil
 | _, _, .cons h1 h => .cons (hs _ _ h1) (h.mono hs)
theorem qG.eq {α : Type} : ∀ {l m : List α}, qG (fun a b => b = a) l m -> m = l
 | _, _, .nil => rfl
 | _, _, .cons h1 h => by rw [h1, h.eq]
theorem qG.refl {α : Type} {S : α -> α -> Prop} (h : ∀ a, S a a) : ∀ l : List α, qG S l l
 | [] => .nil
 | a :: l => .cons (h a) (qG.refl h l)
theorem qG.map {α β γ δ : Type} {S : α -> β -> Prop} {S' : γ -> δ -> Prop} (f : α -> γ) (g : β -> δ) (hs : ∀ a b, S a b -> S' (f a) (g b)) : ∀ {l : List α} {m : List β}, qG S l m -> qG S' (l.map f) (m.map g)
 | _, _, .nil => .nil
 | _, _, .cons h1 h => .cons (hs _ _ h1) (h.map f g hs)
theorem qG.app {α β : Type} {S : α -> β -> Prop} : ∀ {l : List α} {m : List β} {l' : List α} {m' : List β}, qG S l m -> qG S l' m' -> qG S (l ++ l') (m ++ m')
 | _, _, _, _, .nil, h => h
 | _, _, _, _, .cons h1 h, h' => .cons h1 (h.app h')
theorem qG.drop {α β : Type} {S : α -> β -> Prop} : ∀ (k : Nat) {l : List α} {m : List β}, qG S l m -> qG S (l.drop k) (m.drop k)
 | 0, _, _, h => h
 | _ + 1, _, _, .nil => .nil
 | k + 1, _, _, .cons _ h => qG.drop k h
theorem qG.tail {α β : Type} {S : α -> β -> Prop} {l : List α} {m : List β} (h : qG S l m) : qG S l.tail m.tail := by
 cases h with
 | nil => exact .nil
 | cons _ h => exact h
theorem qG.getD {α β : Type} {S : α -> β -> Prop} (a : α) (b : β) (hab : S a b) : ∀ (k : Nat) {l : List α} {m : List β}, qG S l m -> S (l.getD k a) (m.getD k b)
 | _, _, _, .nil => by simpa using hab
 | 0, _, _, .cons h _ => by simpa using h
 | k + 1, _, _, .cons _ h => by simpa using qG.getD a b hab k h
theorem qG.headD {α β : Type} {S : α -> β -> Prop} {a : α} {b : β} (hab : S a b) {l : List α} {m : List β} (h : qG S l m) : S (l.headD a) (m.headD b) := by
 cases h with
 | nil => exact hab
 | cons h _ => exact h
theorem qG.get {α β : Type} {S : α -> β -> Prop} : ∀ {l : List α} {m : List β}, qG S l m -> ∀ k : Nat, (l[k]? = none /\ m[k]? = none) \/ ∃ a b, l[k]? = some a /\ m[k]? = some b /\ S a b
 | _, _, .nil, k => .inl ⟨by simp, by simp⟩
 | _, _, .cons h1 h, 0 => .inr ⟨_, _, rfl, rfl, h1⟩
 | _, _, .cons _ h, k + 1 => by simpa using h.get k
inductive YU (ρ : Nat -> Nat -> Prop) : Node -> Node -> Prop
 | mk (t u : Tok) (l m : List Node) (k : Nat) : dQ ρ t u -> (t.kind = 2 -> k = 0) -> qG (YU ρ) l m -> YU ρ (.mk t l k) (.mk u m k)
variable {ρ : Nat -> Nat -> Prop}
theorem YU.tok {n m : Node} (h : YU ρ n m) : dQ ρ n.tok m.tok := by cases h with | mk t u l m k h1 h2 h3 => exact h1
theorem YU.takes {n m : Node} (h : YU ρ n m) : m.takes = n.takes := by cases h with | mk t u l m k h1 h2 h3 => rfl
theorem YU.num {n m : Node} (h : YU ρ n m) (hk : n.tok.kind = 2) : n.takes = 0 := by cases h with | mk t u l m k h1 h2 h3 => exact h2 hk
theorem YU.kids {n m : Node} (h : YU ρ n m) : qG (YU ρ) n.list m.list := by cases h with | mk t u l m k h1 h2 h3 => exact h3
theorem YU.pos {n m : Node} (h : YU ρ n m) : ρ n.pos m.pos := h.tok.pos
theorem YU.text {n m : Node} (h : YU ρ n m) (hk : n.tok.kind ≠ 2) : m.text = n.text := h.tok.text hk
theorem YU.isList {n m : Node} (h : YU ρ n m) : jR m = jR n := by unfold jR; rw [h.tok.kind]
theorem YU.Er {n m : Node} (h : YU ρ n m) : qY m = qY n := by unfold qY; rw [h.tok.kind]
theorem YU.isInt {n m : Node} (h : YU ρ n m) : yB m = yB n := by unfold yB; rw [h.tok.kind]
theorem YU.dR {n m : Node} (h : YU ρ n m) : qR m = qR n := by
 unfold qR; rw [h.tok.kind, h.takes]; by_cases hk : n.tok.kind = 2
 . rw [hk]; simp
 . rw [h.text hk]
theorem YU.word {n m : Node} (h : YU ρ n m) : word m = word n \/ Plain (word n) /\ Plain (word m) := by
 have hk := h.kids; unfold Px.word
 revert hk
 generalize n.list = l; generalize m.list = l'; intro hk; cases hk with
 | nil => exact .inl rfl
 | @cons a b l l' h1 h2 =>
   simp only []; rw [h1.isList]; by_cases hl : jR a = true
   . rw [if_pos hl, if_pos hl]; exact .inl rfl
   . rw [if_neg hl, if_neg hl]; by_cases h2 : a.tok.kind = 2
     . exact .inr (h1.tok.num h2)
     . exact .inl (h1.text h2)
theorem Kr {a b : List UInt8} (h : b = a \/ Plain a /\ Plain b) (s : List UInt8) (hs : ∀ x, Plain x -> x ≠ s) : (b = s) = (a = s) := by
 rcases h with rfl | ⟨h1, h2⟩
 . rfl
 . exact propext ⟨fun h => absurd h (hs _ h2), fun h => absurd h (hs _ h1)⟩
def RR {α β : Type} (ρ : Nat -> Nat -> Prop) (S : α -> β -> Prop) : R α -> R β -> Prop
 | .ok x, .ok y => S x y
 | .error p, .error q => ρ p q
 | _, _ => False
theorem Wv {n m : Node} (h : YU ρ n m) (a b : Nat) : RR ρ (fun _ _ => True) (hold n a b) (hold m a b) := by
 unfold hold; rw [h.kids.len]; by_cases h1 : n.list.length < a
 . rw [if_pos h1, if_pos h1]; exact h.pos
 . rw [if_neg h1, if_neg h1]
   rcases h.kids.get b with ⟨e1, e2⟩ | ⟨x, y, e1, e2, e3⟩
   . rw [e1, e2]; trivial
   . rw [e1, e2]; exact e3.pos
theorem ZR {n m : Node} (h : YU ρ n m) (a b : Nat) : RR ρ (qG (YU ρ)) (nodes n a b) (nodes m a b) := by
 unfold nodes; rw [h.isList]; by_cases h1 : jR n = true
 . rw [if_pos h1, if_pos h1]; have hh := Wv h a b; cases e1 : hold n a b <;> cases e2 : hold m a b <;> rw [e1, e2] at hh <;> first | exact hh | exact hh.elim | exact h.kids
 . rw [if_neg h1, if_neg h1]; exact h.pos
theorem YG {α β : Type} {S : α -> β -> Prop} {f : Node -> R α} {g : Node -> R β} (hf : ∀ a b, YU ρ a b -> RR ρ S (f a) (g b)) : ∀ {l m : List Node}, qG (YU ρ) l m -> RR ρ (qG S) (each f l) (each g m) := by
 intro l
 induction l with
 | nil => intro m h; cases h; exact .nil
 | cons a l ih =>
   intro m h; cases h with
   | @cons _ b _ m h1 h2 =>
     have hh := hf a b h1; have hi := ih h2; simp only [each]; cases e1 : f a <;> cases e2 : g b <;> rw [e1, e2] at hh <;> try exact hh.elim
     . exact hh
     . simp only []; cases e3 : each f l <;> cases e4 : each g m <;> rw [e3, e4] at hi <;> try exact hi.elim
       . exact hi
       . exact .cons hh hi
theorem Ww {n m : Node} (h : YU ρ n m) : RR ρ (fun a b => b = a) (name n) (name m) := by
 unfold name; rw [h.dR]; by_cases h1 : qR n = true
 . rw [if_pos h1, if_pos h1]; refine h.text ?_; unfold qR at h1; simp only [Ji, qd] at h1
   intro e; rw [e] at h1; exact absurd h1.1.2 (by decide)
 . rw [if_neg h1, if_neg h1]; exact h.pos
theorem Wx {n m : Node} (h : YU ρ n m) : RR ρ (fun a b => b = a) (qD n) (qD m) := by
 unfold qD; rw [h.Er]; by_cases h1 : qY n = true
 . rw [if_pos h1, if_pos h1]; refine h.text ?_; unfold qY at h1; simp only [qd] at h1
   intro e; rw [e] at h1; exact absurd h1 (by decide)
 . rw [if_neg h1, if_neg h1]; exact h.pos
theorem FU {n m : Node} (h : YU ρ n m) (a : Nat) : RR ρ (fun a b => b = a) (names n a) (names m a) := by
 unfold names; have hh := ZR h a 8; cases e1 : nodes n a 8 <;> cases e2 : nodes m a 8 <;> rw [e1, e2] at hh <;> try exact hh.elim
 . exact hh
 . rename_i l l'; simp only []; have hn := YG (S := fun a b => b = a) (fun a b h => Ww h) hh; cases e3 : each name l <;> cases e4 : each name l' <;> rw [e3, e4] at hn <;> try exact hn.elim
   . exact hn
   . exact hn.eq
inductive SL (ρ : Nat -> Nat -> Prop) : zR -> zR -> Prop
 | mk (p q : Nat) (nm : List UInt8) (l m : List zR) : ρ p q -> qG (SL ρ) l m -> SL ρ (.mk p nm l) (.mk q nm m)
inductive FV (ρ : Nat -> Nat -> Prop) : QJ -> QJ -> Prop
 | mk (k p q : Nat) (nm : List UInt8) (i : Int) (l m : List QJ) : ρ p q -> qG (FV ρ) l m -> FV ρ (.mk k p nm i l) (.mk k q nm i m)
inductive Yi (ρ : Nat -> Nat -> Prop) : Expr -> Expr -> Prop
 | mk (k p q : Nat) (nm : List UInt8) (i : Int) (ns : List (List UInt8)) (xs ys : List Expr) (al bl : List (QJ × Expr)) : ρ p q -> qG (Yi ρ) xs ys ->
    qG (FV ρ) (al.map (·.1)) (bl.map (·.1)) -> qG (Yi ρ) (al.map (·.2)) (bl.map (·.2)) -> Yi ρ (.mk k p nm i ns xs al) (.mk k q nm i ns ys bl)
theorem Es {n : Node} (h : yB n = false) : n.tok.kind ≠ 2 := by
 unfold yB at h; simpa using h
theorem mr {n : Node} (h : qY n = true) : n.tok.kind ≠ 2 := by
 unfold qY at h; simp only [qd] at h; intro e; rw [e] at h; exact absurd h (by decide)
theorem Pv : ∀ (f : Nat) {n m : Node}, YU ρ n m -> RR ρ (FV ρ) (pat f n) (pat f m) := by
 intro f
 induction f with
 | zero => intro n m h; exact h.pos
 | succ f ih =>
   intro n m h; rw [pat, pat, h.isList, h.isInt, h.Er, h.dR, h.tok.int]; by_cases h1 : jR n = true
   . rw [if_pos h1, if_pos h1]; have hh := ZR h 2 9; cases e1 : nodes n 2 9 <;> cases e2 : nodes m 2 9 <;> rw [e1, e2] at hh <;> try exact hh.elim
     . exact hh
     . rename_i l l'; simp only []; have key := Wx (qG.headD h hh); cases eA : qD (l.headD n) <;> cases eB : qD (l'.headD m) <;> rw [eA, eB] at key <;> try exact key.elim
       . exact key
       . obtain rfl := key; simp only []; have hn := YG (S := FV ρ) (fun a b h => ih h) hh.tail; cases e3 : each (pat f) l.tail <;> cases e4 : each (pat f) l'.tail <;> rw [e3, e4] at hn <;> try exact hn.elim
         . exact hn
         . exact .mk _ _ _ _ _ _ _ h.pos hn
   . rw [if_neg h1, if_neg h1]; by_cases h2 : yB n = true
     . rw [if_pos h2, if_pos h2]; exact .mk _ _ _ _ _ _ _ h.pos .nil
     . rw [if_neg h2, if_neg h2, h.text (Es (by simpa using h2))]; by_cases h3 : qY n = true
       . rw [if_pos h3, if_pos h3]; exact .mk _ _ _ _ _ _ _ h.pos .nil
       . rw [if_neg h3, if_neg h3]; by_cases h4 : qR n = true
         . rw [if_pos h4, if_pos h4]; exact .mk _ _ _ _ _ _ _ h.pos .nil
         . rw [if_neg h4, if_neg h4]; by_cases h5 : n.text = [95]
           . rw [if_pos h5, if_pos h5]; exact .mk _ _ _ _ _ _ _ h.pos .nil
           . rw [if_neg h5, if_neg h5]; exact h.pos
def R4 (ρ : Nat -> Nat -> Prop) (a b : List UInt8 × Expr) : Prop := b.1 = a.1 /\ Yi ρ a.2 b.2
def C8 (ρ : Nat -> Nat -> Prop) (a b : QJ × Expr) : Prop := FV ρ a.1 b.1 /\ Yi ρ a.2 b.2
section
variable {ex : Node -> R Expr} (hex : ∀ a b, YU ρ a b -> RR ρ (Yi ρ) (ex a) (ex b))
include hex
theorem MB {n m : Node} (h : YU ρ n m) : RR ρ (R4 ρ) (pair ex n) (pair ex m) := by
 unfold pair; have hh := ZR h 2 2; cases e1 : nodes n 2 2 <;> cases e2 : nodes m 2 2 <;> rw [e1, e2] at hh <;> try exact hh.elim
 . exact hh
 . rename_i l l'; simp only []; have key := Ww (qG.headD h hh); cases eA : name (l.headD n) <;> cases eB : name (l'.headD m) <;> rw [eA, eB] at key <;> try exact key.elim
   . exact key
   . obtain rfl := key; simp only []; have k2 := hex _ _ (qG.getD n m h 1 hh); cases eC : ex (l.getD 1 n) <;> cases eD : ex (l'.getD 1 m) <;> rw [eC, eD] at k2 <;> try exact k2.elim
     . exact k2
     . exact ⟨rfl, k2⟩
theorem Pw (f : Nat) {n m : Node} (h : YU ρ n m) : RR ρ (C8 ρ) (alt f ex n) (alt f ex m) := by
 unfold alt; have hh := ZR h 2 2; cases e1 : nodes n 2 2 <;> cases e2 : nodes m 2 2 <;> rw [e1, e2] at hh <;> try exact hh.elim
 . exact hh
 . rename_i l l'; simp only []; have key := Pv f (qG.headD h hh); cases eA : pat f (l.headD n) <;> cases eB : pat f (l'.headD m) <;> rw [eA, eB] at key <;> try exact key.elim
   . exact key
   . simp only []; have k2 := hex _ _ (qG.getD n m h 1 hh); cases eC : ex (l.getD 1 n) <;> cases eD : ex (l'.getD 1 m) <;> rw [eC, eD] at k2 <;> try exact k2.elim
     . exact k2
     . exact ⟨key, k2⟩
theorem SN {n m : Node} (h : YU ρ n m) : RR ρ (Yi ρ) (zU ex n) (zU ex m) := by
 unfold zU; have hh := ZR h 3 3; cases e1 : nodes n 3 3 <;> cases e2 : nodes m 3 3 <;> rw [e1, e2] at hh <;> try exact hh.elim
 . exact hh
 . rename_i l l'; simp only []; have key := FU (qG.getD n m h 1 hh) 1; cases eA : names (l.getD 1 n) 1 <;> cases eB : names (l'.getD 1 m) 1 <;> rw [eA, eB] at key <;> try exact key.elim
   . exact key
   . obtain rfl := key; simp only []; have k2 := hex _ _ (qG.getD n m h 2 hh); cases eC : ex (l.getD 2 n) <;> cases eD : ex (l'.getD 2 m) <;> rw [eC, eD] at k2 <;> try exact k2.elim
     . exact k2
     . exact .mk _ _ _ _ _ _ _ _ _ _ h.pos (.cons k2 .nil) .nil .nil
theorem Py {n m : Node} (h : YU ρ n m) : RR ρ (Yi ρ) (letExpr ex n) (letExpr ex m) := by
 unfold letExpr; have hh := ZR h 3 3; cases e1 : nodes n 3 3 <;> cases e2 : nodes m 3 3 <;> rw [e1, e2] at hh <;> try exact hh.elim
 . exact hh
 . rename_i l l'; simp only []; have key := ZR (qG.getD n m h 1 hh) 1 8; cases eA : nodes (l.getD 1 n) 1 8 <;> cases eB : nodes (l'.getD 1 m) 1 8 <;> rw [eA, eB] at key <;> try exact key.elim
   . exact key
   . rename_i ps ps'; simp only []; have hb := YG (S := R4 ρ) (fun a b h => MB hex h) key; cases eE : each (pair ex) ps <;> cases eF : each (pair ex) ps' <;> rw [eE, eF] at hb <;> try exact hb.elim
     . exact hb
     . rename_i bs bs'; simp only []; have k2 := hex _ _ (qG.getD n m h 2 hh); cases eC : ex (l.getD 2 n) <;> cases eD : ex (l'.getD 2 m) <;> rw [eC, eD] at k2 <;> try exact k2.elim
       . exact k2
       . have e : bs'.map (·.1) = bs.map (·.1) := (hb.map (S' := fun a b => b = a) (·.1) (·.1) (fun a b h => h.1)).eq; have e2 : qG (Yi ρ) (bs.map (·.2)) (bs'.map (·.2)) := hb.map (·.2) (·.2) (fun a b h => h.2); have e3 : qG (Yi ρ) [_] [_] := .cons k2 .nil; simp only [RR]; rw [e]; exact .mk _ _ _ _ _ _ _ _ _ _ h.pos (e2.app e3) .nil .nil
theorem MC (f : Nat) {n m : Node} (h : YU ρ n m) : RR ρ (Yi ρ) (qm f ex n) (qm f ex m) := by
 unfold qm; have hh := ZR h 3 18; cases e1 : nodes n 3 18 <;> cases e2 : nodes m 3 18 <;> rw [e1, e2] at hh <;> try exact hh.elim
 . exact hh
 . rename_i l l'; simp only []; have k2 := hex _ _ (qG.getD n m h 1 hh); cases eC : ex (l.getD 1 n) <;> cases eD : ex (l'.getD 1 m) <;> rw [eC, eD] at k2 <;> try exact k2.elim
   . exact k2
   . simp only []; have hb := YG (S := C8 ρ) (fun a b h => Pw hex f h) (hh.drop 2); cases eE : each (alt f ex) (l.drop 2) <;> cases eF : each (alt f ex) (l'.drop 2) <;> rw [eE, eF] at hb <;> try exact hb.elim
     . exact hb
     . exact .mk _ _ _ _ _ _ _ _ _ _ h.pos (.cons k2 .nil) (hb.map _ _ (fun a b h => h.1)) (hb.map _ _ (fun a b h => h.2))
theorem FW {n m : Node} (h : YU ρ n m) : RR ρ (Yi ρ) (J2 ex n) (J2 ex m) := by
 unfold J2; have hh := ZR h 2 9; cases e1 : nodes n 2 9 <;> cases e2 : nodes m 2 9 <;> rw [e1, e2] at hh <;> try exact hh.elim
 . exact hh
 . rename_i l l'; have hf := qG.headD h hh; simp only []; generalize l.headD n = x at hf ⊢; generalize l'.headD m = y at hf ⊢; rw [hf.takes, hf.Er]; by_cases h1 : 0 < x.takes
   . rw [if_pos h1, if_pos h1, hf.text (fun e => by have := hf.num e; omega)]; have h3 := Wv h (1 + x.takes) (1 + x.takes); cases e3 : hold n (1 + x.takes) (1 + x.takes) <;> cases e4 : hold m (1 + x.takes) (1 + x.takes) <;> rw [e3, e4] at h3 <;> try exact h3.elim
     . exact h3
     . simp only []; have hb := YG (S := Yi ρ) hex hh.tail; cases eE : each ex l.tail <;> cases eF : each ex l'.tail <;> rw [eE, eF] at hb <;> try exact hb.elim
       . exact hb
       . exact .mk _ _ _ _ _ _ _ _ _ _ h.pos hb .nil .nil
   . rw [if_neg h1, if_neg h1]; by_cases h2 : qY x = true
     . rw [if_pos h2, if_pos h2, hf.text (mr h2)]; have hb := YG (S := Yi ρ) hex hh.tail; cases eE : each ex l.tail <;> cases eF : each ex l'.tail <;> rw [eE, eF] at hb <;> try exact hb.elim
       . exact hb
       . exact .mk _ _ _ _ _ _ _ _ _ _ h.pos hb .nil .nil
     . rw [if_neg h2, if_neg h2]; have hb := YG (S := Yi ρ) hex hh; cases eE : each ex l <;> cases eF : each ex l' <;> rw [eE, eF] at hb <;> try exact hb.elim
       . exact hb
       . exact .mk _ _ _ _ _ _ _ _ _ _ h.pos hb .nil .nil
theorem ME (f : Nat) {n m : Node} (h : YU ρ n m) : RR ρ (Yi ρ) (listExpr f ex n) (listExpr f ex m) := by
 unfold listExpr; have w1 : (word m = [102, 110]) = (word n = [102, 110]) := Kr h.word _ (fun x hx => hx.2.2.2.1); have w2 : (word m = [108, 101, 116]) = (word n = [108, 101, 116]) := Kr h.word _ (fun x hx => hx.2.2.2.2.1); have w3 : (word m = [99, 97, 115, 101]) = (word n = [99, 97, 115, 101]) := Kr h.word _ (fun x hx => hx.2.2.2.2.2.1); simp only [w1, w2, w3]; by_cases h1 : word n = [102, 110]
 . rw [if_pos h1, if_pos h1]; exact SN hex h
 . rw [if_neg h1, if_neg h1]; by_cases h2 : word n = [108, 101, 116]
   . rw [if_pos h2, if_pos h2]; exact Py hex h
   . rw [if_neg h2, if_neg h2]; by_cases h3 : word n = [99, 97, 115, 101]
     . rw [if_pos h3, if_pos h3]; exact MC hex f h
     . rw [if_neg h3, if_neg h3]; exact FW hex h
end
theorem MF : ∀ (f : Nat) (n m : Node), YU ρ n m -> RR ρ (Yi ρ) (expr f n) (expr f m) := by
 intro f
 induction f with
 | zero => intro n m h; exact h.pos
 | succ f ih =>
   intro n m h; rw [expr, expr, h.isList, h.isInt, h.Er, h.dR, h.tok.int]; by_cases h1 : jR n = true
   . rw [if_pos h1, if_pos h1]; exact ME ih f h
   . rw [if_neg h1, if_neg h1]; by_cases h2 : yB n = true
     . rw [if_pos h2, if_pos h2]; exact .mk _ _ _ _ _ _ _ _ _ _ h.pos .nil .nil .nil
     . rw [if_neg h2, if_neg h2, h.text (Es (by simpa using h2))]; by_cases h3 : qY n = true
       . rw [if_pos h3, if_pos h3]; exact .mk _ _ _ _ _ _ _ _ _ _ h.pos .nil .nil .nil
       . rw [if_neg h3, if_neg h3]; by_cases h4 : qR n = true
         . rw [if_pos h4, if_pos h4]; exact .mk _ _ _ _ _ _ _ _ _ _ h.pos .nil .nil .nil
         . rw [if_neg h4, if_neg h4]; exact h.pos
structure SQ (ρ : Nat -> Nat -> Prop) (a b : dJ) : Prop where
 pos : ρ a.pos b.pos
 name : b.name = a.name
 fields : qG (SL ρ) a.fields b.fields
structure Pz (ρ : Nat -> Nat -> Prop) (a b : Data) : Prop where
 pos : ρ a.pos b.pos
 name : b.name = a.name
 params : b.params = a.params
 cons : qG (SQ ρ) a.cons b.cons
structure SS (ρ : Nat -> Nat -> Prop) (a b : Def) : Prop where
 pos : ρ a.pos b.pos
 name : b.name = a.name
 params : b.params = a.params
 body : Yi ρ a.body b.body
structure o8 (ρ : Nat -> Nat -> Prop) (a b : Prog) : Prop where
 jF : qG (Pz ρ) a.jF b.jF
 defs : qG (SS ρ) a.defs b.defs
def C9 (ρ : Nat -> Nat -> Prop) (a b : Node × List Tok) : Prop := YU ρ a.1 b.1 /\ qG (dQ ρ) a.2 b.2
def iA (ρ : Nat -> Nat -> Prop) (a b : List Node × List Tok) : Prop := qG (YU ρ) a.1 b.1 /\ qG (dQ ρ) a.2 b.2
theorem FX {t u : Tok} (h : dQ ρ t u) : qQ u.text = qQ t.text /\ (t.kind = 2 -> qQ t.text = 0) := by
 by_cases hk : t.kind = 2
 . obtain ⟨h1, h2⟩ := h.num hk; exact ⟨by rw [h1.1, h2.1], fun _ => h1.1⟩
 . exact ⟨by rw [h.text hk], fun e => absurd e hk⟩
theorem Xm (stop uk : Nat) (hs : ρ stop uk) : ∀ (f d : Nat) (ts us : List Tok), qG (dQ ρ) ts us ->
 RR ρ (C9 ρ) (node stop f d ts) (node uk f d us) /\ RR ρ (iA ρ) (rest stop f d ts) (rest uk f d us) := by
 intro f
 induction f with
 | zero => intro d ts us h; exact ⟨hs, hs⟩
 | succ f ih =>
   intro d ts us h; cases h with
   | nil => exact ⟨hs, hs⟩
   | @cons t u ts us h1 h2 =>
     constructor
     . rw [node, node, h1.kind]; by_cases k1 : t.kind = 1
       . rw [if_pos k1, if_pos k1]; exact h1.pos
       . rw [if_neg k1, if_neg k1]; by_cases k0 : t.kind = 0
         . rw [if_pos k0, if_pos k0]; by_cases hd : d = 40
           . rw [if_pos hd, if_pos hd]; exact h1.pos
           . rw [if_neg hd, if_neg hd]; have hr := (ih (d + 1) ts us h2).2; cases e1 : rest stop f (d + 1) ts <;> cases e2 : rest uk f (d + 1) us <;> rw [e1, e2] at hr <;> try exact hr.elim
             . exact hr
             . exact ⟨.mk _ _ _ _ _ h1 (fun _ => rfl) hr.1, hr.2⟩
         . rw [if_neg k0, if_neg k0]; obtain ⟨t1, t2⟩ := FX h1; rw [t1]; exact ⟨.mk _ _ _ _ _ h1 t2 .nil, h2⟩
     . rw [rest, rest, h1.kind]; by_cases k1 : t.kind = 1
       . rw [if_pos k1, if_pos k1]; exact ⟨.nil, h2⟩
       . rw [if_neg k1, if_neg k1]; have hn := (ih d (t :: ts) (u :: us) (.cons h1 h2)).1; cases e1 : node stop f d (t :: ts) <;> cases e2 : node uk f d (u :: us) <;> rw [e1, e2] at hn <;> try exact hn.elim
         . exact hn
         . rename_i x y; obtain ⟨n, ts'⟩ := x; obtain ⟨m, o9⟩ := y; simp only []; have hr := (ih d ts' o9 hn.2).2; cases e3 : rest stop f d ts' <;> cases e4 : rest uk f d o9 <;> rw [e3, e4] at hr <;> try exact hr.elim
           . exact hr
           . exact ⟨.cons hn.1 hr.1, hr.2⟩
end Px
namespace Px
open Lx (Tok)
def opens : List Tok -> Nat
 | [] => 0
 | t :: ts => (if t.kind = 0 then 1 else 0) + opens ts
theorem Vh (stop uk : Nat) : ∀ (f d : Nat) (ts : List Tok),
 (∀ n ts', node stop f d ts = .ok (n, ts') -> opens ts' <= opens ts /\ (n.list ≠ [] -> opens ts' < opens ts) /\ ts'.length < ts.length /\
   ∀ f' d' more, f <= f' -> (d' = d \/ d' + opens ts <= 40) -> node uk f' d' (ts ++ more) = .ok (n, ts' ++ more)) /\
 (∀ l ts', rest stop f d ts = .ok (l, ts') -> opens ts' <= opens ts /\ ts'.length < ts.length /\
   ∀ f' d' more, f <= f' -> (d' = d \/ d' + opens ts <= 40) -> rest uk f' d' (ts ++ more) = .ok (l, ts' ++ more)) := by
 intro f
 induction f with
 | zero => intro d ts; exact ⟨fun n ts' h => (by cases h), fun l ts' h => (by cases h)⟩
 | succ f ih =>
   intro d ts; cases ts with
   | nil => exact ⟨fun n ts' h => (by cases h), fun l ts' h => (by cases h)⟩
   | cons t ts =>
     constructor
     . intro n ts' h; rw [node] at h; by_cases k1 : t.kind = 1
       . rw [if_pos k1] at h; cases h
       . rw [if_neg k1] at h; by_cases k0 : t.kind = 0
         . rw [if_pos k0] at h; by_cases hd : d = 40
           . rw [if_pos hd] at h; cases h
           . rw [if_neg hd] at h; have hi := (ih (d + 1) ts).2; cases hr : rest stop f (d + 1) ts with
             | error p => rw [hr] at h; cases h
             | ok x =>
               obtain ⟨l, dS⟩ := x; rw [hr] at h; simp only [jJ, Jr] at h; obtain ⟨rfl, rfl⟩ := h; obtain ⟨h1, h2, h3⟩ := hi _ _ hr; have ho : opens (t :: ts) = opens ts + 1 := by rw [opens, if_pos k0]; omega
               refine ⟨by omega, fun _ => by omega, by rw [JG]; omega, fun f' d' more hf hdd => ?_⟩; obtain ⟨f', rfl⟩ : ∃ g, f' = g + 1 := ⟨f' - 1, by omega⟩
               rw [JQ, node, if_neg k1, if_pos k0, if_neg (by omega), h3 f' (d' + 1) more (by omega) (by omega)]
         . rw [if_neg k0] at h; simp only [jJ, Jr] at h; obtain ⟨rfl, rfl⟩ := h; have ho : opens (t :: ts) = opens ts := by rw [opens, if_neg k0]; omega
           refine ⟨by omega, fun e => absurd rfl e, by rw [JG]; omega, fun f' d' more hf hdd => ?_⟩; obtain ⟨f', rfl⟩ : ∃ g, f' = g + 1 := ⟨f' - 1, by omega⟩
           rw [JQ, node, if_neg k1, if_neg k0]
     . intro l ts' h; rw [rest] at h; by_cases k1 : t.kind = 1
       . rw [if_pos k1] at h; simp only [jJ, Jr] at h; obtain ⟨rfl, rfl⟩ := h; have ho : opens (t :: ts) = opens ts := by rw [opens, if_neg (by omega)]; omega
         refine ⟨by omega, by rw [JG]; omega, fun f' d' more hf hdd => ?_⟩; obtain ⟨f', rfl⟩ : ∃ g, f' = g + 1 := ⟨f' - 1, by omega⟩
         rw [JQ, rest, if_pos k1]
       . rw [if_neg k1] at h; have hi := (ih d (t :: ts)).1; cases hn : node stop f d (t :: ts) with
         | error p => rw [hn] at h; cases h
         | ok x =>
           obtain ⟨n, dS⟩ := x; rw [hn] at h; simp only at h; obtain ⟨h1, _, h2, h3⟩ := hi _ _ hn; have hj := (ih d dS).2; cases hr : rest stop f d dS with
           | error p => rw [hr] at h; cases h
           | ok y =>
             obtain ⟨l', iB⟩ := y; rw [hr] at h; simp only [jJ, Jr] at h; obtain ⟨rfl, rfl⟩ := h; obtain ⟨g1, g2, g3⟩ := hj _ _ hr; refine ⟨by omega, by omega, fun f' d' more hf hdd => ?_⟩; obtain ⟨f', rfl⟩ : ∃ g, f' = g + 1 := ⟨f' - 1, by omega⟩
             have a1 := h3 f' d' more (by omega) hdd; have a2 := g3 f' d' more (by omega) (by omega); rw [JQ] at a1 ⊢; rw [rest, if_neg k1, a1]; simp only [a2]
theorem MG (stop f c : Nat) : prog stop f c [] = .ok ⟨[], []⟩ := by cases f <;> rfl
theorem gI (stop f c : Nat) (t : Tok) (ts : List Tok) : prog stop (f + 1) c (t :: ts) =
 match node stop (2 * (t :: ts).length + 2) 0 (t :: ts) with
 | .error p => .error p
 | .ok (n, ts') =>
   if c = 100 then .error n.pos
   else if word n = [100, 97, 116, 97] then
    match data 50 n with
    | .error p => .error p
    | .ok d => match prog stop f (c + 1) ts' with
      | .error p => .error p
      | .ok q => .ok ⟨d :: q.jF, q.defs⟩
   else if word n = [100, 101, 102] then
    match defn 50 n with
    | .error p => .error p
    | .ok d => match prog stop f (c + 1) ts' with
      | .error p => .error p
      | .ok q => .ok ⟨q.jF, d :: q.defs⟩
   else .error n.pos := by
 rw [prog]
 all_goals first | rfl | simp
def Prog.size (p : Prog) : Nat := p.jF.length + p.defs.length
def Prog.add (p q : Prog) : Prog := ⟨p.jF ++ q.jF, p.defs ++ q.defs⟩
end Px
namespace Px
open Lx (Tok tk yo)
theorem rest_end (stop f d : Nat) (t : Tok) (ts : List Tok) (h1 : t.kind = 1) : rest stop (f + 1) d (t :: ts) = .ok ([], ts) := by
 rw [rest, if_pos h1]
end Px
namespace Lx
theorem MH (d : Nat) (l : List UInt8) : tk d l = ((tk 0 l).1.map (shift d), (tk 0 l).2.map (· + d)) := by
 have := dO d (l.length + 1) 0 l; rw [JN] at this; exact this
theorem Wy {l : List UInt8} {n : Nat} (h : Way l 0 n) (hn : n ≠ 0) : (Jj l 0).toNat = 40 := by
 generalize hk : (0 : Int) = k at h; cases h with
 | arrow => omega
 | neg => omega
 | pos => omega
 | name => omega
 | KJ => omega
 | one h1 h2 =>
   by_cases e : (Jj l 0).toNat = 40
   . exact e
   . unfold single at hk; rw [if_neg e] at hk
     repeat' split at hk
     all_goals omega
 | none => omega
theorem dU : ∀ (f p : Nat) (l : List UInt8), Px.opens (toks f p l).1 <= l.count 40 := by
 intro f
 induction f with
 | zero => intro p l; simp [toks, Px.opens]
 | succ f ih =>
   intro p l; rw [yC]; by_cases h1 : l.length <= JD false l
   . rw [if_pos h1]; simp [Px.opens]
   . rw [if_neg h1]; by_cases h2 : (Jp (l.drop (JD false l))).2 = 0
     . rw [if_pos h2]; simp [Px.opens]
     . rw [if_neg h2]; simp only [Px.opens]; have hw := way (l.drop (JD false l)); have hi := ih (p + JD false l + (Jp (l.drop (JD false l))).2) ((l.drop (JD false l)).drop (Jp (l.drop (JD false l))).2); have hd1 := (List.drop_sublist (JD false l) l).count_le 40; have hl : 0 < (l.drop (JD false l)).length := by rw [ja]; omega
       generalize l.drop (JD false l) = r at *; have hd2 := (List.drop_sublist (Jp r).2 r).count_le 40; by_cases hk : (Jp r).1 = 0
       . rw [if_pos (by exact hk)]; rw [hk] at hw; have Et := Wy hw h2; cases r with
         | nil => simp at hl
         | cons c r =>
           have hc : c = 40 := by
            have : c.toNat = 40 := Et; exact UInt8.toNat_inj.1 (by rw [this]; rfl)
           subst hc; obtain ⟨j, hj⟩ : ∃ j, (Jp (40 :: r)).2 = j + 1 := ⟨(Jp (40 :: r)).2 - 1, by omega⟩
           rw [hj] at hi ⊢; rw [List.drop_succ_cons] at hi ⊢; have hd3 := (List.drop_sublist j r).count_le 40; rw [List.count_cons_self] at hd1; omega
       . rw [if_neg (by exact hk)]; omega
end Lx
namespace Px
open Lx (Tok tk yo)
theorem Fits.mono : ∀ {k : Nat} {n : Node}, Fits k n -> Fits (k + 1) n := by
 intro k
 induction k with
 | zero => intro n h m hm; rw [show n.list = [] from h] at hm; cases hm
 | succ k ih => intro n h m hm; exact ih (h m hm)
theorem Fits.le {k j : Nat} {n : Node} (h : Fits k n) (hj : k <= j) : Fits j n := by
 induction j with
 | zero => obtain rfl : k = 0 := by omega
           exact h
 | succ j ih =>
   by_cases e : k = j + 1
   . subst e; exact h
   . exact (ih (by omega)).mono
theorem Fits.kid {k : Nat} {n m : Node} (h : Fits k n) (hm : m ∈ n.list) : ∃ j, k = j + 1 /\ Fits j m := by
 cases k with
 | zero => rw [show n.list = [] from h] at hm; cases hm
 | succ k => exact ⟨k, rfl, h m hm⟩
theorem FY (stop : Nat) : ∀ (f d : Nat) (ts : List Tok),
 (∀ n ts', node stop f d ts = .ok (n, ts') -> Fits (opens ts) n) /\ (∀ l ts', rest stop f d ts = .ok (l, ts') -> ∀ m ∈ l, Fits (opens ts) m) := by
 intro f
 induction f with
 | zero => intro d ts; exact ⟨fun n ts' h => (by cases h), fun l ts' h => (by cases h)⟩
 | succ f ih =>
   intro d ts; cases ts with
   | nil => exact ⟨fun n ts' h => (by cases h), fun l ts' h => (by cases h)⟩
   | cons t ts =>
     constructor
     . intro n ts' h; rw [node] at h; by_cases k1 : t.kind = 1
       . rw [if_pos k1] at h; cases h
       . rw [if_neg k1] at h; by_cases k0 : t.kind = 0
         . rw [if_pos k0] at h; by_cases hd : d = 40
           . rw [if_pos hd] at h; cases h
           . rw [if_neg hd] at h; cases hr : rest stop f (d + 1) ts with
             | error p => rw [hr] at h; cases h
             | ok x =>
               obtain ⟨l, dS⟩ := x; rw [hr] at h; simp only [jJ, Jr] at h; obtain ⟨rfl, rfl⟩ := h; have ho : opens (t :: ts) = opens ts + 1 := by rw [opens, if_pos k0]; omega
               rw [ho]; exact (ih (d + 1) ts).2 _ _ hr
         . rw [if_neg k0] at h; simp only [jJ, Jr] at h; obtain ⟨rfl, rfl⟩ := h; exact Fits.le (k := 0) rfl (jh _)
     . intro l ts' h; rw [rest] at h; by_cases k1 : t.kind = 1
       . rw [if_pos k1] at h; simp only [jJ, Jr] at h; obtain ⟨rfl, rfl⟩ := h; intro m hm; cases hm
       . rw [if_neg k1] at h; cases hn : node stop f d (t :: ts) with
         | error p => rw [hn] at h; cases h
         | ok x =>
           obtain ⟨n, dS⟩ := x; rw [hn] at h; simp only at h; have hle := ((Vh stop stop f d (t :: ts)).1 _ _ hn).1; cases hr : rest stop f d dS with
           | error p => rw [hr] at h; cases h
           | ok y =>
             obtain ⟨l', iB⟩ := y; rw [hr] at h; simp only [jJ, Jr] at h; obtain ⟨rfl, rfl⟩ := h; intro m hm
             rcases jf.1 hm with rfl | hm
             . exact (ih d (t :: ts)).1 _ _ hn
             . exact ((ih d dS).2 _ _ hr m hm).le hle
theorem JJ {n : Node} {a b : Nat} {l : List Node} (h : nodes n a b = .ok l) : l = n.list /\ a <= l.length := by
 unfold nodes at h; by_cases h1 : jR n = true
 . rw [if_pos h1] at h; unfold hold at h; by_cases h2 : n.list.length < a
   . rw [if_pos h2] at h; cases h
   . rw [if_neg h2] at h; cases hb : n.list[b]? with
     | some m => rw [hb] at h; cases h
     | none =>
       rw [hb] at h; simp only [jJ] at h; subst h; exact ⟨rfl, by omega⟩
 . rw [if_neg h1] at h; cases h
theorem Yq {l : List Node} {k : Nat} {n : Node} (h : k < l.length) : l.getD k n ∈ l := by
 rw [jL, jA h]; exact dG h
theorem FZ {l : List Node} {n : Node} (h : 0 < l.length) : l.headD n ∈ l := by
 cases l with
 | nil => simp at h
 | cons a l => simp
theorem YH {α : Type} {f g : Node -> R α} : ∀ {l : List Node}, (∀ n ∈ l, f n = g n) -> each f l = each g l := by
 intro l
 induction l with
 | nil => intro _; rfl
 | cons a l ih => intro h; rw [each, each, h a (by simp), ih (fun n hn => h n (by simp [hn]))]
theorem MI : ∀ (k f f' : Nat) (n : Node), Fits k n -> k < f -> k < f' -> pat f n = pat f' n := by
 intro k
 induction k with
 | zero =>
   intro f f' n h hf hf'; obtain ⟨f, rfl⟩ : ∃ g, f = g + 1 := ⟨f - 1, by omega⟩
   obtain ⟨f', rfl⟩ : ∃ g, f' = g + 1 := ⟨f' - 1, by omega⟩
   rw [pat, pat]; cases hn : nodes n 2 9 with
   | error p => rfl
   | ok l =>
     obtain ⟨rfl, h2⟩ := JJ hn; rw [show n.list = [] from h] at h2; simp at h2
 | succ k ih =>
   intro f f' n h hf hf'; obtain ⟨f, rfl⟩ : ∃ g, f = g + 1 := ⟨f - 1, by omega⟩
   obtain ⟨f', rfl⟩ : ∃ g, f' = g + 1 := ⟨f' - 1, by omega⟩
   rw [pat, pat]; cases hn : nodes n 2 9 with
   | error p => rfl
   | ok l =>
     obtain ⟨rfl, h2⟩ := JJ hn
     simp only
     rw [YH (f := pat f) (g := pat f') (fun m hm => ih f f' m (h m (Ql hm)) (by omega) (by omega))]
theorem Fb : ∀ (k f f' : Nat) (n : Node), Fits k n -> k < f -> k < f' -> expr f n = expr f' n := by
 intro k
 induction k with
 | zero =>
   intro f f' n h hf hf'; obtain ⟨f, rfl⟩ : ∃ g, f = g + 1 := ⟨f - 1, by omega⟩
   obtain ⟨f', rfl⟩ : ∃ g, f' = g + 1 := ⟨f' - 1, by omega⟩
   have he : n.list = [] := h; have hw : word n = [] := by unfold word; rw [he]
   have hp : ∀ ex : Node -> R Expr, J2 ex n = (match nodes n 2 9 with | .error p => .error p | .ok _ => .error n.pos) := by
    intro ex; unfold J2; cases hn : nodes n 2 9 with
    | error p => rfl
    | ok l =>
      obtain ⟨rfl, h2⟩ := JJ hn; rw [he] at h2; simp at h2
   have hl : ∀ (g : Nat) (ex : Node -> R Expr), listExpr g ex n = J2 ex n := by
    intro g ex; unfold listExpr; rw [hw, if_neg (by decide), if_neg (by decide), if_neg (by decide)]
   rw [expr, expr, hl, hl, hp, hp]
 | succ k ih =>
   intro f f' n h hf hf'; obtain ⟨f, rfl⟩ : ∃ g, f = g + 1 := ⟨f - 1, by omega⟩
   obtain ⟨f', rfl⟩ : ∃ g, f' = g + 1 := ⟨f' - 1, by omega⟩
   have hk : ∀ m ∈ n.list, expr f m = expr f' m := fun m hm => ih f f' m (h m hm) (by omega) (by omega)
   have hg : ∀ m ∈ n.list, ∀ x ∈ m.list, Fits k x := fun m hm x hx => by
    obtain ⟨j, rfl, hj⟩ := Fits.kid (h m hm) hx; exact hj.mono
   have hke : ∀ m ∈ n.list, ∀ x ∈ m.list, expr f x = expr f' x := fun m hm x hx => ih f f' x (hg m hm x hx) (by omega) (by omega)
   have hkp : ∀ m ∈ n.list, ∀ x ∈ m.list, pat f x = pat f' x := fun m hm x hx => MI k f f' x (hg m hm x hx) (by omega) (by omega)
   have hfn : zU (expr f) n = zU (expr f') n := by
    unfold zU; cases hn : nodes n 3 3 with
    | error p => rfl
    | ok l =>
      obtain ⟨rfl, h2⟩ := JJ hn
      simp only
      rw [hk _ (Yq (by omega))]
   have hle : letExpr (expr f) n = letExpr (expr f') n := by
    unfold letExpr; cases hn : nodes n 3 3 with
    | error p => rfl
    | ok l =>
      obtain ⟨rfl, h2⟩ := JJ hn
      simp only
      rw [hk _ (Yq (by omega))]; cases hp : nodes (n.list.getD 1 n) 1 8 with
      | error p => rfl
      | ok ps =>
        obtain ⟨e, h3⟩ := JJ hp
        simp only
        rw [YH (f := pair (expr f)) (g := pair (expr f')) (fun b hb => by
         have hb1 : b ∈ (n.list.getD 1 n).list := by rw [<- e]; exact hb
         unfold pair; cases hq : nodes b 2 2 with
         | error p => rfl
         | ok l2 =>
           obtain ⟨rfl, h4⟩ := JJ hq
           simp only
           have hb2 : b.list.getD 1 b ∈ b.list := Yq (by omega); obtain ⟨j, hj, hf1⟩ := Fits.kid (hg _ (Yq (by omega)) b hb1) hb2
           rw [ih f f' _ (hf1.le (by omega)) (by omega) (by omega)])]
   have jDN : qm f (expr f) n = qm f' (expr f') n := by
    unfold qm; cases hn : nodes n 3 18 with
    | error p => rfl
    | ok l =>
      obtain ⟨rfl, h2⟩ := JJ hn
      simp only
      rw [hk _ (Yq (by omega))]
      rw [YH (f := alt f (expr f)) (g := alt f' (expr f')) (fun b hb => by
       have hb1 : b ∈ n.list := UY hb; unfold alt; cases hq : nodes b 2 2 with
       | error p => rfl
       | ok l2 =>
         obtain ⟨rfl, h4⟩ := JJ hq
         simp only
         rw [hke b hb1 _ (Yq (by omega)), hkp b hb1 _ (FZ (by omega))])]
   have hpl : J2 (expr f) n = J2 (expr f') n := by
    unfold J2; cases hn : nodes n 2 9 with
    | error p => rfl
    | ok l =>
      obtain ⟨rfl, h2⟩ := JJ hn
      simp only
      rw [YH (f := expr f) (g := expr f') hk, YH (f := expr f) (g := expr f') (fun m hm => hk m (Ql hm))]
   rw [expr, expr, listExpr, listExpr, hfn, hle, jDN, hpl]
def Expr.Eu : Expr -> Nat | .mk k _ _ _ _ _ _ => k
def Expr.P5 : Expr -> Nat | .mk _ p _ _ _ _ _ => p
def Expr.Ev : Expr -> List Expr | .mk _ _ _ _ _ xs _ => xs
theorem Yi.parts {ρ : Nat -> Nat -> Prop} {x y : Expr} (h : Yi ρ x y) : y.Eu = x.Eu /\ ρ x.P5 y.P5 /\ y.Ev.length = x.Ev.length := by
 cases h with
 | mk k p q nm i ns xs ys al bl h1 h2 h3 h4 => exact ⟨rfl, h1, h2.len⟩
def Kt (t : Tok) : Prop := t.kind = 2 -> Plain t.text
theorem vv {s : List UInt8} (h : Lx.jQ (Lx.Jj s 0) = true \/ (Lx.Jj s 0).toNat = 45 /\ Lx.jQ (Lx.Jj s 1) = true) : Plain s := by
 have key : ∀ s' : List UInt8, s = s' -> ((Lx.jQ (Lx.Jj s' 0) || ((Lx.Jj s' 0).toNat == 45 && Lx.jQ (Lx.Jj s' 1))) = true) := by
  intro s' e; subst e
  rcases h with h | ⟨h1, h2⟩
  . simp [h]
  . simp [h1, h2]
 have no : ∀ s' : List UInt8, ((Lx.jQ (Lx.Jj s' 0) || ((Lx.Jj s' 0).toNat == 45 && Lx.jQ (Lx.Jj s' 1))) = false) -> s ≠ s' := by
  intro s' h e; rw [key s' e] at h; exact absurd h (by decide)
 refine ⟨?_, no _ (by decide), no _ (by decide), no _ (by decide), no _ (by decide), no _ (by decide), no _ (by decide), no _ (by decide)⟩; unfold qQ; rw [if_neg ?_, if_neg ?_]
 . rintro (e | e)
   . exact no _ (by decide) e
   . exact no _ (by decide) e
 . rintro (e | e | e | e | e | e | e | e | e | e)
   all_goals exact no _ (by decide) e
theorem vw (l : List UInt8) (n k : Nat) (h : k < n) : Lx.Jj (l.take n) k = Lx.Jj l k := by
 unfold Lx.Jj; rw [jL, jL, List.getElem?_take, if_pos h]
theorem gJ {l : List UInt8} {n : Nat} (h : Lx.Way l 2 n) : Plain (l.take n) := by
 generalize hk : (2 : Int) = k at h
 have hcnt : ∀ r : List UInt8, Lx.jQ (Lx.Jj r 0) = true -> 0 < Lx.cnt Lx.jQ r := by
  intro r hr; cases r with
  | nil => exact absurd hr (by decide)
  | cons c r => rw [Lx.cnt, if_pos (by exact hr)]; omega
 cases h with
 | arrow => omega
 | neg h1 h2 h3 h4 =>
   have e : Lx.Jj (l.drop 1) 0 = Lx.Jj l 1 := by rw [Lx.zP]
   have := hcnt (l.drop 1) (by rw [e]; exact h2); exact vv (.inr ⟨by rw [vw _ _ _ (by omega)]; exact h1, by rw [vw _ _ _ (by omega)]; exact h2⟩)
 | pos h1 h2 h3 =>
   have := hcnt l h1; exact vv (.inl (by rw [vw _ _ _ this]; exact h1))
 | name => omega
 | KJ => omega
 | one h1 h2 =>
   rcases Lx.Y8 (Lx.Jj l 0) with e | e | e | e <;> omega
 | none => omega
theorem dV : ∀ (f p : Nat) (l : List UInt8), ∀ t ∈ (Lx.toks f p l).1, Kt t := by
 intro f
 induction f with
 | zero => intro p l t h; simp [Lx.toks] at h
 | succ f ih =>
   intro p l t h; rw [Lx.yC] at h; by_cases h1 : l.length <= Lx.JD false l
   . rw [if_pos h1] at h; simp at h
   . rw [if_neg h1] at h; by_cases h2 : (Lx.Jp (l.drop (Lx.JD false l))).2 = 0
     . rw [if_pos h2] at h; simp at h
     . rw [if_neg h2] at h
       rcases jf.1 h with rfl | h
       . intro hk; have hw := Lx.way (l.drop (Lx.JD false l)); have hk' : (Lx.Jp (l.drop (Lx.JD false l))).1 = 2 := hk; rw [hk'] at hw; exact gJ hw
       . exact ih _ _ t h
theorem gK (d : Nat) : ∀ (ts : List Tok), (∀ t ∈ ts, Kt t) -> qG (dQ (fun p q => q = p + d)) ts (ts.map (Lx.shift d))
 | [], _ => .nil
 | t :: ts, h => .cons ⟨rfl, rfl, rfl, fun hk => ⟨h t (by simp) hk, h t (by simp) hk⟩, fun _ => rfl⟩ (gK d ts (fun u hu => h u (by simp [hu])))
theorem vz (d : Nat) : ∀ ts : List Tok, opens (ts.map (Lx.shift d)) = opens ts
 | [] => rfl
 | t :: ts => by rw [je, opens, opens, vz d ts]; rfl
theorem inside (s : List UInt8) (x : Expr) (h : mZ s = .done x) (d : Nat) (ho : s.count 40 < 30) :
 (tk 0 s).2 = none /\ ∃ n y, (∀ stop f D T, 2 * (tk 0 s).1.length + 2 <= f -> D <= 10 -> node stop f D ((tk d s).1 ++ T) = .ok (n, T)) /\ (∀ f, 31 <= f -> expr f n = .ok y) /\
   y.Eu = x.Eu /\ y.P5 = x.P5 + d /\ y.Ev.length = x.Ev.length := by
 unfold mZ parsed at h; by_cases hl : 4096 < s.length
 . rw [if_pos hl] at h; cases h
 . rw [if_neg hl] at h; have et : Lx.toks (s.length + 1) 0 s = tk 0 s := rfl; rw [et] at h; have hop : opens (tk 0 s).1 <= s.count 40 := Lx.dU _ _ s; have hpl : ∀ t ∈ (tk 0 s).1, Kt t := dV _ _ s
   rw [Lx.MH d s]; cases hs : tk 0 s with
   | mk ts o =>
     rw [hs] at h hop hpl; cases o with
     | some q => cases h
     | none =>
       refine ⟨rfl, ?_⟩; simp only at h hop hpl; cases hx : Ko s.length ts with
       | error p => rw [hx] at h; cases h
       | ok x' =>
         rw [hx] at h; simp only [Outcome.done.injEq] at h; subst h; unfold Ko at hx; cases hn : node s.length (2 * ts.length + 2) 0 ts with
         | error p => rw [hn] at hx; cases hx
         | ok r =>
           obtain ⟨n, ts'⟩ := r; rw [hn] at hx; simp only at hx; cases ts' with
           | cons t ts' => cases hx
           | nil =>
             simp only at hx; have Fe := (Xm (ρ := fun p q => q = p + d) s.length (s.length + d) rfl (2 * ts.length + 2) 0 ts _ (gK d ts hpl)).1; rw [hn] at Fe; cases hm : node (s.length + d) (2 * ts.length + 2) 0 (ts.map (Lx.shift d)) with
             | error p => rw [hm] at Fe; exact Fe.elim
             | ok r' =>
               obtain ⟨m, o9⟩ := r'; rw [hm] at Fe; have hsn : YU (fun p q => q = p + d) n m := Fe.1
               have R5 : o9 = [] := by
                have := Fe.2; cases this; rfl
               subst R5; have hes := MF 50 n m hsn; rw [hx] at hes; cases hy : expr 50 m with
               | error p => rw [hy] at hes; exact hes.elim
               | ok y =>
                 rw [hy] at hes; have hse : Yi (fun p q => q = p + d) x' y := hes; obtain ⟨a1, a2, a3⟩ := hse.parts; have hfit : Fits 30 m := ((FY _ _ _ _).1 _ _ hm).le (by rw [vz]; omega); refine ⟨m, y, fun stop f D T hf hD => ?_, fun f hf => ?_, a1, a2, a3⟩
                 . have := ((Vh (s.length + d) stop (2 * ts.length + 2) 0 (ts.map (Lx.shift d))).1 _ _ hm).2.2.2 f D T hf (.inr (by rw [vz]; omega)); exact this
                 . rw [Fb 30 f 50 m hfit (by omega) (by omega)]; exact hy
def iC : List UInt8 := [40, 100, 101, 102, 32, 109, 97, 105, 110, 32, 40, 41, 32]
def gL : List UInt8 := iC ++ [40, 114, 101, 32]
end Px
namespace Px
open Lx (tk yo)
theorem vB (D : List UInt8) (hd : ∀ c ∈ D, Lx.jQ c = true) (hl : D.length <= 18) : Lx.Qn D 0 < 1000000000000000000 := by
 have h := Lx.uM D 0 1 hd (by omega); have h2 : (10 : Nat) ^ D.length <= 10 ^ 18 := Nat.pow_le_pow_right (by omega) hl; omega
structure MJ (t : Lx.Tok) : Prop where
 opn : t.kind = 0 -> t.text = [40]
 num : t.kind = 2 -> (-1000000000000000000 < t.int /\ t.int < 1000000000000000000) /\ Plain t.text
 word : t.kind ≠ 0 -> t.kind ≠ 1 -> t.kind ≠ 2 -> Lx.kL t.kind t.text
 zero : t.kind ≠ 2 -> t.int = 0
theorem Wz : Lx.kL 5 [45, 62] := by
 refine ⟨by simp, by decide, by decide, fun r hr => ?_⟩; rfl
theorem vS {c : UInt8} {k : Nat} (h : c.toNat = k) (hk : k < 256) : c = UInt8.ofNat k := by
 apply UInt8.toNat_inj.1
 rw [h, UInt8.toNat_ofNat']; omega
theorem rA (c : UInt8) (h : Lx.single c = 5) : Lx.kL 5 [c] := by
 have hc : c.toNat = 95 \/ c.toNat = 43 \/ c.toNat = 45 \/ c.toNat = 42 \/ c.toNat = 47 \/ c.toNat = 37 \/ c.toNat = 61 \/ c.toNat = 60 := by
  unfold Lx.single at h
  split at h
  . omega
  . split at h
    . omega
    . split at h
      . assumption
      . omega
 have key : ∀ k : Nat, k < 256 -> c.toNat = k -> (Lx.Qd (UInt8.ofNat k) = false /\ (UInt8.ofNat k).toNat ≠ 59 /\ Lx.jQ (UInt8.ofNat k) = false /\ Lx.ql (UInt8.ofNat k) = false /\ Lx.QP (UInt8.ofNat k) = false /\ ¬ Lx.single (UInt8.ofNat k) < 0) -> Lx.kL 5 [c] := by
  intro k hk hck ⟨h1, h2, h3, h4, h5, h6⟩; have e := vS hck hk; rw [<- e] at h1 h2 h3 h4 h5 h6; have := Lx.Gf c h1 h2 h3 h4 h5 h6; rw [h] at this; exact this
 rcases hc with e | e | e | e | e | e | e | e
 . exact key 95 (by omega) e (by decide)
 . exact key 43 (by omega) e (by decide)
 . exact key 45 (by omega) e (by decide)
 . exact key 42 (by omega) e (by decide)
 . exact key 47 (by omega) e (by decide)
 . exact key 37 (by omega) e (by decide)
 . exact key 61 (by omega) e (by decide)
 . exact key 60 (by omega) e (by decide)
theorem Gg {l : List UInt8} (h : 0 < l.length) : l = Lx.Jj l 0 :: l.drop 1 := by
 cases l with
 | nil => simp at h
 | cons c r => rfl
theorem SV {l : List UInt8} {k : Int} {n : Nat} (h : Lx.Way l k n) (hn : n ≠ 0) (p : Nat) : MJ (yo p k (l.take n)) := by
 have hint : k = 2 -> Lx.Way l 2 n := fun e => by rw [e] at h; exact h
 have Og : k = 2 -> (-1000000000000000000 < (yo p k (l.take n)).int /\ (yo p k (l.take n)).int < 1000000000000000000) := by
  intro e; subst e; have hw := h; show -1000000000000000000 < (if (2 : Int) = 2 then Lx.Gd (l.take n) else 0) /\ (if (2 : Int) = 2 then Lx.Gd (l.take n) else 0) < 1000000000000000000; rw [if_pos rfl]; generalize hk : (2 : Int) = k' at hw
  have key : ∀ D : List UInt8, (∀ c ∈ D, Lx.jQ c = true) -> D.length <= 18 -> (-1000000000000000000 < (Lx.Qn D 0 : Int) /\ (Lx.Qn D 0 : Int) < 1000000000000000000) /\ (-1000000000000000000 < -(Lx.Qn D 0 : Int) /\ -(Lx.Qn D 0 : Int) < 1000000000000000000) := by
   intro D h1 h2; have := vB D h1 h2; exact ⟨⟨by omega, by omega⟩, ⟨by omega, by omega⟩⟩
  cases hw with
  | arrow => omega
  | neg h1 h2 h3 h4 =>
    have e0 : Lx.Jj (l.take (1 + Lx.cnt Lx.jQ (l.drop 1))) 0 = Lx.Jj l 0 := vw _ _ _ (by omega); unfold Lx.Gd; rw [e0, if_pos h1]; have hdr : (l.take (1 + Lx.cnt Lx.jQ (l.drop 1))).drop 1 = (l.drop 1).take (Lx.cnt Lx.jQ (l.drop 1)) := by rw [List.drop_take]; congr 1; omega
    rw [hdr]; exact (key _ (Lx.yN Lx.jQ (l.drop 1)) (by rw [Jh]; omega)).2
  | pos h1 h2 h3 =>
    have hpos : 0 < Lx.cnt Lx.jQ l := by omega
    have e0 : Lx.Jj (l.take (Lx.cnt Lx.jQ l)) 0 = Lx.Jj l 0 := vw _ _ _ hpos; unfold Lx.Gd; rw [e0, if_neg (Lx.KM _ h1).2.2.1]; exact (key _ (Lx.yN Lx.jQ l) (by rw [Jh]; omega)).1
  | name => omega
  | KJ => omega
  | one h1 h2 => rcases Lx.Y8 (Lx.Jj l 0) with e | e | e | e <;> omega
  | none => omega
 refine ⟨fun e => ?_, fun e => ⟨Og e, gJ (hint e)⟩, fun e0 e1 e2 => ?_, fun e => if_neg e⟩
 . have e' : k = 0 := e; subst e'; have Et := Lx.Wy h hn
   have hl : 0 < l.length := by
    cases l with
    | nil => exact absurd Et (by decide)
    | cons c r => simp
   have hn1 : n = 1 := by
    generalize hk : (0 : Int) = k' at h; cases h with
    | arrow => omega
    | neg => omega
    | pos => omega
    | name => omega
    | KJ => omega
    | one => rfl
    | none => omega
   subst hn1; show l.take 1 = [40]; rw [Gg hl, Zo, List.take_zero]
   congr 1
   exact vS (k := 40) Et (by omega)
 . have jHG : k ≠ 0 := e0; have jHH : k ≠ 1 := e1; have e2' : k ≠ 2 := e2; show Lx.kL k (l.take n); have hw := h; cases hw with
   | arrow h1 h2 =>
     have hl : 1 < l.length := Lx.yA l 1 (fun c => c.toNat == 62) (by decide) (by simp [h2])
     have : l.take 2 = [45, 62] := by
      cases l with
      | nil => simp at hl
      | cons c r =>
        cases r with
        | nil => simp at hl
        | cons d r =>
          have hc : c = 45 := vS (k := 45) h1 (by omega); have hd : d = 62 := vS (k := 62) h2 (by omega); subst hc; subst hd; rfl
     rw [this]; exact Wz
   | neg => omega
   | pos => omega
   | name hs =>
     have hl : 0 < l.length := Lx.yA l 0 Lx.ql (by decide) hs; rw [Gg hl, Zo]; exact Lx.Wt _ _ hs (Lx.yN Lx.J8 (l.drop 1))
   | KJ hs =>
     have hl : 0 < l.length := Lx.yA l 0 Lx.QP (by decide) hs; rw [Gg hl, Zo]; exact Lx.Wu _ _ hs (Lx.yN Lx.J8 (l.drop 1))
   | one hs _ =>
     have h5 : Lx.single (Lx.Jj l 0) = 5 := by rcases Lx.Y8 (Lx.Jj l 0) with e | e | e | e <;> omega
     have hl : 0 < l.length := Lx.yA l 0 (fun c => decide (Lx.single c = 5)) (by decide) (by simp [h5])
     have : l.take 1 = [Lx.Jj l 0] := by
      cases l with
      | nil => simp at hl
      | cons c r => rfl
     rw [this, h5]; exact rA _ h5
   | none => omega
theorem Gh : ∀ (f p : Nat) (l : List UInt8), ∀ t ∈ (Lx.toks f p l).1, MJ t := by
 intro f
 induction f with
 | zero => intro p l t h; simp [Lx.toks] at h
 | succ f ih =>
   intro p l t h; rw [Lx.yC] at h; by_cases h1 : l.length <= Lx.JD false l
   . rw [if_pos h1] at h; simp at h
   . rw [if_neg h1] at h; by_cases h2 : (Lx.Jp (l.drop (Lx.JD false l))).2 = 0
     . rw [if_pos h2] at h; simp at h
     . rw [if_neg h2] at h
       rcases jf.1 h with rfl | h
       . exact SV (Lx.way _) h2 _
       . exact ih _ _ t h
inductive jq : Node -> Prop
 | leaf (t : Lx.Tok) : MJ t -> t.kind ≠ 0 -> t.kind ≠ 1 -> jq (.mk t [] (qQ t.text))
 | list (t : Lx.Tok) (l : List Node) : MJ t -> t.kind = 0 -> (∀ m ∈ l, jq m) -> jq (.mk t l 0)
theorem jq.kid {n m : Node} (h : jq n) (hm : m ∈ n.list) : jq m := by
 cases h with
 | leaf t h1 h2 h3 => cases hm
 | list t l h1 h2 h3 => exact h3 m hm
theorem Uc (stop : Nat) : ∀ (f d : Nat) (ts : List Lx.Tok), (∀ t ∈ ts, MJ t) ->
 (∀ n ts', node stop f d ts = .ok (n, ts') -> jq n /\ ∀ t ∈ ts', MJ t) /\ (∀ l ts', rest stop f d ts = .ok (l, ts') -> (∀ m ∈ l, jq m) /\ ∀ t ∈ ts', MJ t) := by
 intro f
 induction f with
 | zero => intro d ts _; exact ⟨fun n ts' h => (by cases h), fun l ts' h => (by cases h)⟩
 | succ f ih =>
   intro d ts hp; cases ts with
   | nil => exact ⟨fun n ts' h => (by cases h), fun l ts' h => (by cases h)⟩
   | cons t ts =>
     have hpt := hp t (by simp); have hps : ∀ u ∈ ts, MJ u := fun u hu => hp u (by simp [hu])
     constructor
     . intro n ts' h; rw [node] at h; by_cases k1 : t.kind = 1
       . rw [if_pos k1] at h; cases h
       . rw [if_neg k1] at h; by_cases k0 : t.kind = 0
         . rw [if_pos k0] at h; by_cases hd : d = 40
           . rw [if_pos hd] at h; cases h
           . rw [if_neg hd] at h; cases hr : rest stop f (d + 1) ts with
             | error p => rw [hr] at h; cases h
             | ok x =>
               obtain ⟨l, dS⟩ := x; rw [hr] at h; simp only [jJ, Jr] at h; obtain ⟨rfl, rfl⟩ := h; obtain ⟨h1, h2⟩ := (ih (d + 1) ts hps).2 _ _ hr; exact ⟨.list _ _ hpt k0 h1, h2⟩
         . rw [if_neg k0] at h; simp only [jJ, Jr] at h; obtain ⟨rfl, rfl⟩ := h; exact ⟨.leaf _ hpt k0 k1, hps⟩
     . intro l ts' h; rw [rest] at h; by_cases k1 : t.kind = 1
       . rw [if_pos k1] at h; simp only [jJ, Jr] at h; obtain ⟨rfl, rfl⟩ := h; exact ⟨fun m hm => (by cases hm), hps⟩
       . rw [if_neg k1] at h; cases hn : node stop f d (t :: ts) with
         | error p => rw [hn] at h; cases h
         | ok x =>
           obtain ⟨n, dS⟩ := x; rw [hn] at h; simp only at h; obtain ⟨h1, h2⟩ := (ih d (t :: ts) hp).1 _ _ hn; cases hr : rest stop f d dS with
           | error p => rw [hr] at h; cases h
           | ok y =>
             obtain ⟨l', iB⟩ := y; rw [hr] at h; simp only [jJ, Jr] at h; obtain ⟨rfl, rfl⟩ := h; obtain ⟨h3, h4⟩ := (ih d dS h2).2 _ _ hr; exact ⟨fun m hm => (jf.1 hm).elim (fun e => e ▸ h1) (h3 m), h4⟩
end Px
end Go.Proofs.YtlnjdclmopblcaaDoor
namespace Go.Proofs.YtlnjdclmopblcaaDoor
open Go Go.RowKit
open Go.Lib (hid)
theorem Lx.MK (l : List UInt8) (k : Nat) (h : k < l.length) : Lx.Jj l k ∈ l := by
 unfold Lx.Jj; rw [jL, jA h]; exact dG h
def Q3 (c : UInt8) (l : List UInt8) : Bool := l.any fun x => x.toNat == c.toNat
theorem rC (c : UInt8) (l : List UInt8) (j : Nat) (hj : j < l.length) (h : (Lx.Jj l j).toNat = c.toNat) : Q3 c l = true := by
 rw [Q3, List.any_eq_true]; exact ⟨Lx.Jj l j, Lx.MK l j hj, by simp [h]⟩
theorem Ff (c : UInt8) (l : List UInt8) (h : ∀ j, j < l.length -> (Lx.Jj l j).toNat ≠ c.toNat) : Q3 c l = false := by
 rw [Q3, List.any_eq_false]; intro x hx; obtain ⟨j, hj, rfl⟩ := List.getElem_of_mem hx; have := h j hj; simp [Lx.Jj, jL, jA hj] at this
 simpa using this
theorem Jw (l : List UInt8) (k : Nat) (h : k < (ByteArray.mk l.toArray).size) : (ByteArray.mk l.toArray)[k]'h = Lx.Jj l k := by
 have h' : k < l.length := by simpa [ByteArray.size] using h
 unfold Lx.Jj; rw [jL, jA h']; rfl
theorem jk (l : List UInt8) (k : Nat) (h : k < l.length) : k < (ByteArray.mk l.toArray).size := by simpa [ByteArray.size] using h
theorem YI (c : UInt8) (l : List UInt8) (w : World) (hm : l.length <= 1000000) :
 Calls Tryd.prog 58 #[.int .u8 c.toNat, .string ⟨l.toArray⟩] w fun e w' => e = .returned (.bool (Q3 c l)) /\ w = w' := by
 go_enter Tryd.func58, Tryd.ntmps58; go_wp2_with fail
 go_loop [5] (fun i => ∃ k : Nat, k <= l.length /\ i = .int .i64 k /\ Hid (∀ j, j < k -> (Lx.Jj l j).toNat ≠ c.toNat)) (fun i => l.length - (intOf i).toNat)
 case atStart => exact ⟨0, by omega, rfl, fun j h => absurd h (by omega)⟩
 case round =>
  obtain ⟨k, hk, rfl, hno⟩ := hrel; by_cases hlt : k < l.length
  . have e := Jw l k (jk l k hlt); by_cases h : (Lx.Jj l k).toNat = c.toNat
    . have h1 : ((((ByteArray.mk l.toArray)[k]'(jk l k hlt)).toNat : Int) == (c.toNat : Int)) = true := by rw [e]; simp [h]
      have HM := hid (rC c l k hlt h); clear e h; go_wp2; go_ret; exact ⟨Wm HM.out.symm, rfl⟩
    . have h1 : ((((ByteArray.mk l.toArray)[k]'(jk l k hlt)).toNat : Int) == (c.toNat : Int)) = false := by rw [e]; simp; omega
      have HN : Hid (∀ j, j < k + 1 -> (Lx.Jj l j).toNat ≠ c.toNat) := fun j hj => by
       by_cases hjk : j = k
       . subst hjk; exact h
       . exact hno.out j (by omega)
      clear e h; go_wp2
      go_round
      case rel => exact ⟨k + 1, by omega, by go_num, HN⟩
      case measure => simp [intOf]; omega
  . obtain rfl : k = l.length := by omega
    have HM := hid (Ff c l hno); clear hno; go_wp2; go_ret; exact ⟨Wm HM.out.symm, rfl⟩
def Zf : List UInt8 := [48, 49, 50, 51, 52, 53, 54, 55, 56, 57]
def Ku : List UInt8 := [97, 98, 99, 100, 101, 102, 103, 104, 105, 106, 107, 108, 109, 110, 111, 112, 113, 114, 115, 116, 117, 118, 119, 120, 121, 122]
def Kv : List UInt8 := [65, 66, 67, 68, 69, 70, 71, 72, 73, 74, 75, 76, 77, 78, 79, 80, 81, 82, 83, 84, 85, 86, 87, 88, 89, 90]
def yJ : List UInt8 := [97, 98, 99, 100, 101, 102, 103, 104, 105, 106, 107, 108, 109, 110, 111, 112, 113, 114, 115, 116, 117, 118, 119, 120, 121, 122, 65, 66, 67, 68, 69, 70, 71, 72, 73, 74, 75, 76, 77, 78, 79, 80, 81, 82, 83, 84, 85, 86, 87, 88, 89, 90, 48, 49, 50, 51, 52, 53, 54, 55, 56, 57, 39]
def dW : List UInt8 := [32, 10, 9, 13]
def W9 : List UInt8 := [95, 43, 45, 42, 47, 37, 61, 60]
theorem yD (c : UInt8) : Q3 c Zf = Lx.jQ c := by rw [Y7]; simp [Q3, Zf, Lx.jQ]; omega
theorem gM (c : UInt8) : Q3 c Ku = Lx.ql c := by rw [Y7]; simp [Q3, Ku, Lx.ql]; omega
theorem gN (c : UInt8) : Q3 c Kv = Lx.QP c := by rw [Y7]; simp [Q3, Kv, Lx.QP]; omega
theorem Fg (c : UInt8) : Q3 c dW = Lx.Qd c := by rw [Y7]; simp [Q3, dW, Lx.Qd]; omega
theorem yE (c : UInt8) : Q3 c yJ = Lx.J8 c := by
 have e : yJ = Ku ++ (Kv ++ (Zf ++ [39])) := rfl; have jDO : Q3 c [39] = (c.toNat == 39) := by rw [Y7]; simp [Q3]; omega
 have ha : ∀ a b : List UInt8, Q3 c (a ++ b) = (Q3 c a || Q3 c b) := fun a b => by simp [Q3]
 rw [e, ha, ha, ha, gM, gN, yD, jDO]; unfold Lx.J8; cases Lx.ql c <;> cases Lx.QP c <;> cases Lx.jQ c <;> simp
theorem Qq (c : UInt8) (w : World) : Calls Tryd.prog 58 #[.int .u8 c.toNat, .string ⟨#[48, 49, 50, 51, 52, 53, 54, 55, 56, 57]⟩] w fun e w' => e = .returned (.bool (Lx.jQ c)) /\ w = w' := by
 rw [<- yD]; exact YI c Zf w (by decide)
theorem Yr (c : UInt8) (w : World) : Calls Tryd.prog 58 #[.int .u8 c.toNat, .string ⟨Ku.toArray⟩] w fun e w' => e = .returned (.bool (Lx.ql c)) /\ w = w' := by
 rw [<- gM]; exact YI c Ku w (by decide)
theorem VA (c : UInt8) (w : World) : Calls Tryd.prog 58 #[.int .u8 c.toNat, .string ⟨Kv.toArray⟩] w fun e w' => e = .returned (.bool (Lx.QP c)) /\ w = w' := by
 rw [<- gN]; exact YI c Kv w (by decide)
theorem Kw (c : UInt8) (w : World) : Calls Tryd.prog 58 #[.int .u8 c.toNat, .string ⟨#[32, 10, 9, 13]⟩] w fun e w' => e = .returned (.bool (Lx.Qd c)) /\ w = w' := by
 rw [<- Fg]; exact YI c dW w (by decide)
theorem Gi (c : UInt8) (w : World) : Calls Tryd.prog 58 #[.int .u8 c.toNat, .string ⟨W9.toArray⟩] w fun e w' => e = .returned (.bool (Q3 c W9)) /\ w = w' :=
 YI c W9 w (by decide)
theorem VB (l L : List UInt8) (a : Nat) (w : World) (ha : a <= l.length) (hm : l.length <= 1000000) (hL : L.length <= 1000000) (h0 : Q3 0 L = false) :
 Calls Tryd.prog 60 #[.string ⟨l.toArray⟩, .int .i64 a, .string ⟨L.toArray⟩] w fun e w' => e = .returned (.int .i64 (Lx.cnt (fun c => Q3 c L) (l.drop a))) /\ w = w' := by
 go_enter Tryd.func60, Tryd.ntmps60; go_wp2_with fail
 go_loop [7] (fun i => ∃ k : Nat, a + k <= l.length /\ i = .int .i64 k /\ Hid (k + Lx.cnt (fun c => Q3 c L) (l.drop (a + k)) = Lx.cnt (fun c => Q3 c L) (l.drop a))) (fun i => l.length - (intOf i).toNat)
 case atStart => exact ⟨0, by omega, rfl, by show 0 + _ = _; rw [JN, jZ]⟩
 case round =>
  obtain ⟨k, hk, rfl, hc⟩ := hrel; cases hb : Q3 (Lx.Jj l (a + k)) L
  . have hs := Lx.mX (fun c => Q3 c L) l (a + k) hb; have Hc : Hid (Lx.cnt (fun c => Q3 c L) (l.drop a) = k) := by have := hc.out; rw [hs] at this; exact hid (by omega)
    clear hs hc; rw [Hc.out]; have Hb := hid hb; clear hb
    by_cases hlt : a + k < l.length
    . go_wp2_with fail; refine (YI _ L _ hL).mono ?_; rintro e w1 ⟨rfl, rfl⟩
      rw [Jw l (a + k) (jk l (a + k) hlt), Hb.out]; go_wp2_with fail; go_ret; exact ⟨by rw [Hc.out]; rfl, rfl⟩
    . go_wp2_with fail; go_ret; exact ⟨by rw [Hc.out]; rfl, rfl⟩
  . obtain ⟨hlt, hs⟩ := Lx.uj (fun c => Q3 c L) l (a + k) h0 hb; have Hc : Hid ((k + 1) + Lx.cnt (fun c => Q3 c L) (l.drop (a + (k + 1))) = Lx.cnt (fun c => Q3 c L) (l.drop a)) := by have := hc.out; rw [hs] at this; rw [<- Nat.add_assoc a]; exact hid (by omega)
    clear hs hc; generalize Lx.cnt (fun c => Q3 c L) (l.drop a) = T at *; have Hb := hid hb; clear hb
    go_wp2_with fail; refine (YI _ L _ hL).mono ?_; rintro e w1 ⟨rfl, rfl⟩
    rw [Jw l (a + k) (jk l (a + k) hlt), Hb.out]; go_wp2_with fail
    go_round
    case rel => exact ⟨k + 1, by omega, by go_num, Hc⟩
    case measure => simp [intOf]; omega
theorem Ha (l : List UInt8) (a : Nat) (w : World) (ha : a <= l.length) (hm : l.length <= 1000000) :
 Calls Tryd.prog 39 #[.string ⟨l.toArray⟩, .int .i64 a] w fun e w' => e = .returned (.int .i64 ((a + Lx.JD false (l.drop a) : Nat) : Int)) /\ w = w' := by
 generalize hT : a + Lx.JD false (l.drop a) = T; have HT := hid hT; clear hT
 go_enter Tryd.func39, Tryd.ntmps39; go_wp2_with fail
 go_loop [1] (fun i => ∃ k : Nat, k <= l.length /\ i = .int .i64 k /\ Hid (k + Lx.JD false (l.drop k) = T)) (fun i => l.length - (intOf i).toNat)
 case atStart => exact ⟨a, ha, rfl, HT⟩
 case round =>
  clear HT ha a; obtain ⟨k, hk, rfl, hc⟩ := hrel; by_cases hlt : k < l.length
  . have e := Jw l k (jk l k hlt); have He := hid e; clear e
    cases hb : Lx.Qd (Lx.Jj l k)
    . by_cases hs : (Lx.Jj l k).toNat = 59
      . obtain ⟨_, h2⟩ := Lx.FP l k hs; have h3 := Lx.gG l k hlt (by omega); have Hc : Hid (k + Lx.JD true (l.drop k) = T) := by have := hc.out; exact hid (by omega)
        have h1 : ((((ByteArray.mk l.toArray)[k]'(jk l k hlt)).toNat : Int) != 59) = false := by rw [He.out]; simp [hs]
        have Hb := hid hb; have Hs := hid hs
        clear hb hs h2 h3 hc; go_wp2_with fail; refine (Kw _ _).mono ?_; rintro e w1 ⟨rfl, rfl⟩
        have hbl : Lx.Qd ((ByteArray.mk l.toArray)[k]'(jk l k hlt)) = false := by rw [He.out, Hb.out]
        rw [hbl]; clear hbl; go_wp2_with fail; clear h1
        go_loop [1] (fun i => ∃ j : Nat, k <= j /\ j <= l.length /\ i = .int .i64 j /\ Hid (j + Lx.JD true (l.drop j) = T)) (fun i => l.length - (intOf i).toNat)
        case atStart => exact ⟨k, by omega, by omega, rfl, Hc⟩
        case round =>
         clear Hc; obtain ⟨j, hkj, hj, rfl, hd⟩ := hrel; by_cases hjl : j < l.length
         . have e := Jw l j (jk l j hjl); by_cases h10 : (Lx.Jj l j).toNat = 10
           . have h1 : ((((ByteArray.mk l.toArray)[j]'(jk l j hjl)).toNat : Int) != 10) = false := by rw [e]; simp [h10]
             have h4 := Lx.gH l j (fun _ => h10); have Hd : Hid (j + Lx.JD false (l.drop j) = T) := by have := hd.out; rw [h4] at this; exact hid this
             have hjk : k < j := by
              rcases ZA k j with h | h
              . exact h
              . obtain rfl : k = j := by omega
                have := Hs.out; omega
             clear h4 hd e h10; go_wp2
             go_round
             case rel => exact ⟨j, by omega, rfl, Hd⟩
             case measure => simp [intOf]; omega
           . have h1 : ((((ByteArray.mk l.toArray)[j]'(jk l j hjl)).toNat : Int) != 10) = true := by rw [e]; simp; omega
             have h4 := Lx.gG l j hjl h10; have Hd : Hid ((j + 1) + Lx.JD true (l.drop (j + 1)) = T) := by have := hd.out; exact hid (by omega)
             clear h4 hd e h10; go_wp2
             go_round
             case rel => exact ⟨j + 1, by omega, by omega, by go_num, Hd⟩
             case measure => simp [intOf]; omega
         . have h4 := Lx.gH l j (fun h => absurd h hjl); have Hd : Hid (j + Lx.JD false (l.drop j) = T) := by have := hd.out; rw [h4] at this; exact hid this
           clear h4 hd; go_wp2
           go_round
           case rel => exact ⟨j, by omega, rfl, Hd⟩
           case measure => simp [intOf]; omega
      . have h2 := Lx.mW l k hb hs; have Hc : Hid (T = k) := by have := hc.out; exact hid (by omega)
        have h1 : ((((ByteArray.mk l.toArray)[k]'(jk l k hlt)).toNat : Int) != 59) = true := by rw [He.out]; simp; omega
        have Hb := hid hb; clear hb hs h2 hc; go_wp2_with fail; refine (Kw _ _).mono ?_; rintro e w1 ⟨rfl, rfl⟩
        have hbl : Lx.Qd ((ByteArray.mk l.toArray)[k]'(jk l k hlt)) = false := by rw [He.out, Hb.out]
        rw [hbl]; clear hbl; go_wp2_with fail; go_ret; exact ⟨by rw [Hc.out]; rfl, rfl⟩
    . obtain ⟨_, h2⟩ := Lx.dN l k hb; have Hc : Hid ((k + 1) + Lx.JD false (l.drop (k + 1)) = T) := by have := hc.out; exact hid (by omega)
      have Hb := hid hb; clear hb h2 hc; go_wp2_with fail; refine (Kw _ _).mono ?_; rintro e w1 ⟨rfl, rfl⟩
      have hbl : Lx.Qd ((ByteArray.mk l.toArray)[k]'(jk l k hlt)) = true := by rw [He.out, Hb.out]
      rw [hbl]; clear hbl; go_wp2_with fail
      go_round
      case rel => exact ⟨k + 1, by omega, by go_num, Hc⟩
      case measure => simp [intOf]; omega
  . have h2 : Lx.JD false (l.drop k) = 0 := by rw [qg (by omega)]; rfl
    have Hc : Hid (T = k) := by have := hc.out; exact hid (by omega)
    clear h2 hc; go_wp2_with fail; go_ret; exact ⟨by rw [Hc.out]; rfl, rfl⟩
end Go.Proofs.YtlnjdclmopblcaaDoor
