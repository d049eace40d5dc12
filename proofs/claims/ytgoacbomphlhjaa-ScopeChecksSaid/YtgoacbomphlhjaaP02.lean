/-
  Several texts in one: REnt, NumPure, JoinPure, PTk, PSim, PMore, PSumPure, PWrapPure.
-/
import Derived.Test.YtgoacbomphlhjaaP00
import Derived.Test.YtgoacbomphlhjaaP01
import Derived.Lib.ItoaNum
set_option linter.unusedVariables false
set_option linter.unusedSimpArgs false
namespace Go.Proofs.Ytgoacbomphlhjaa
open Go.Lib (hid)
open List renaming getElem_toArray → jX, getElem_cons_succ → jY, getElem_cons_zero → jZ, setIfInBounds_toArray → JA, set_cons_zero → JB, set_cons_succ → JC
open Go Go.RowKit
theorem ent_set3 {w : World} {g : Nat} {T : TypeId} {z0 z1 z2 : Value} (h : w.heap[g]? = some (.cells #[z0, z1, z2] T (0, 0))) (v0 v1 v2 : Value) :
 (((w.setCell ⟨g, 0, none⟩ v0).setCell ⟨g, 1, none⟩ v1).setCell ⟨g, 2, none⟩ v2).heap[g]? = some (.cells #[v0, v1, v2] T (0, 0)) := by
 have h0 : (w.setCell ⟨g, 0, none⟩ v0).heap[g]? = some (.cells #[v0, z1, z2] T (0, 0)) := by have := ent_set h 0 v0; simpa using this
 have h1 : ((w.setCell ⟨g, 0, none⟩ v0).setCell ⟨g, 1, none⟩ v1).heap[g]? = some (.cells #[v0, v1, z2] T (0, 0)) := by have := ent_set h0 1 v1; simpa using this
 have h2 : (((w.setCell ⟨g, 0, none⟩ v0).setCell ⟨g, 1, none⟩ v1).setCell ⟨g, 2, none⟩ v2).heap[g]? = some (.cells #[v0, v1, v2] T (0, 0)) := by have := ent_set h1 2 v2; simpa using this
 exact h2
theorem ent_set5 {w : World} {g : Nat} {T : TypeId} {z0 z1 z2 z3 z4 : Value} (h : w.heap[g]? = some (.cells #[z0, z1, z2, z3, z4] T (0, 0))) (v0 v1 v2 v3 v4 : Value) :
 (((((w.setCell ⟨g, 0, none⟩ v0).setCell ⟨g, 1, none⟩ v1).setCell ⟨g, 2, none⟩ v2).setCell ⟨g, 3, none⟩ v3).setCell ⟨g, 4, none⟩ v4).heap[g]? = some (.cells #[v0, v1, v2, v3, v4] T (0, 0)) := by
 have h0 : (w.setCell ⟨g, 0, none⟩ v0).heap[g]? = some (.cells #[v0, z1, z2, z3, z4] T (0, 0)) := by have := ent_set h 0 v0; simpa using this
 have h1 : ((w.setCell ⟨g, 0, none⟩ v0).setCell ⟨g, 1, none⟩ v1).heap[g]? = some (.cells #[v0, v1, z2, z3, z4] T (0, 0)) := by have := ent_set h0 1 v1; simpa using this
 have h2 : (((w.setCell ⟨g, 0, none⟩ v0).setCell ⟨g, 1, none⟩ v1).setCell ⟨g, 2, none⟩ v2).heap[g]? = some (.cells #[v0, v1, v2, z3, z4] T (0, 0)) := by have := ent_set h1 2 v2; simpa using this
 have h3 : ((((w.setCell ⟨g, 0, none⟩ v0).setCell ⟨g, 1, none⟩ v1).setCell ⟨g, 2, none⟩ v2).setCell ⟨g, 3, none⟩ v3).heap[g]? = some (.cells #[v0, v1, v2, v3, z4] T (0, 0)) := by have := ent_set h2 3 v3; simpa using this
 have h4 : (((((w.setCell ⟨g, 0, none⟩ v0).setCell ⟨g, 1, none⟩ v1).setCell ⟨g, 2, none⟩ v2).setCell ⟨g, 3, none⟩ v3).setCell ⟨g, 4, none⟩ v4).heap[g]? = some (.cells #[v0, v1, v2, v3, v4] T (0, 0)) := by have := ent_set h3 4 v4; simpa using this
 exact h4
theorem ent_set6 {w : World} {g : Nat} {T : TypeId} {z0 z1 z2 z3 z4 z5 : Value} (h : w.heap[g]? = some (.cells #[z0, z1, z2, z3, z4, z5] T (0, 0))) (v0 v1 v2 v3 v4 v5 : Value) :
 ((((((w.setCell ⟨g, 0, none⟩ v0).setCell ⟨g, 1, none⟩ v1).setCell ⟨g, 2, none⟩ v2).setCell ⟨g, 3, none⟩ v3).setCell ⟨g, 4, none⟩ v4).setCell ⟨g, 5, none⟩ v5).heap[g]? = some (.cells #[v0, v1, v2, v3, v4, v5] T (0, 0)) := by
 have h0 : (w.setCell ⟨g, 0, none⟩ v0).heap[g]? = some (.cells #[v0, z1, z2, z3, z4, z5] T (0, 0)) := by have := ent_set h 0 v0; simpa using this
 have h1 : ((w.setCell ⟨g, 0, none⟩ v0).setCell ⟨g, 1, none⟩ v1).heap[g]? = some (.cells #[v0, v1, z2, z3, z4, z5] T (0, 0)) := by have := ent_set h0 1 v1; simpa using this
 have h2 : (((w.setCell ⟨g, 0, none⟩ v0).setCell ⟨g, 1, none⟩ v1).setCell ⟨g, 2, none⟩ v2).heap[g]? = some (.cells #[v0, v1, v2, z3, z4, z5] T (0, 0)) := by have := ent_set h1 2 v2; simpa using this
 have h3 : ((((w.setCell ⟨g, 0, none⟩ v0).setCell ⟨g, 1, none⟩ v1).setCell ⟨g, 2, none⟩ v2).setCell ⟨g, 3, none⟩ v3).heap[g]? = some (.cells #[v0, v1, v2, v3, z4, z5] T (0, 0)) := by have := ent_set h2 3 v3; simpa using this
 have h4 : (((((w.setCell ⟨g, 0, none⟩ v0).setCell ⟨g, 1, none⟩ v1).setCell ⟨g, 2, none⟩ v2).setCell ⟨g, 3, none⟩ v3).setCell ⟨g, 4, none⟩ v4).heap[g]? = some (.cells #[v0, v1, v2, v3, v4, z5] T (0, 0)) := by have := ent_set h3 4 v4; simpa using this
 have h5 : ((((((w.setCell ⟨g, 0, none⟩ v0).setCell ⟨g, 1, none⟩ v1).setCell ⟨g, 2, none⟩ v2).setCell ⟨g, 3, none⟩ v3).setCell ⟨g, 4, none⟩ v4).setCell ⟨g, 5, none⟩ v5).heap[g]? = some (.cells #[v0, v1, v2, v3, v4, v5] T (0, 0)) := by have := ent_set h4 5 v5; simpa using this
 exact h5
theorem jU {w : World} {g : Nat} {T : TypeId} {z0 z1 z2 z3 z4 z5 z6 : Value} (h : w.heap[g]? = some (.cells #[z0, z1, z2, z3, z4, z5, z6] T (0, 0))) (v0 v1 v2 v3 v4 v5 v6 : Value) :
 (((((((w.setCell ⟨g, 0, none⟩ v0).setCell ⟨g, 1, none⟩ v1).setCell ⟨g, 2, none⟩ v2).setCell ⟨g, 3, none⟩ v3).setCell ⟨g, 4, none⟩ v4).setCell ⟨g, 5, none⟩ v5).setCell ⟨g, 6, none⟩ v6).heap[g]? = some (.cells #[v0, v1, v2, v3, v4, v5, v6] T (0, 0)) := by
 have h0 : (w.setCell ⟨g, 0, none⟩ v0).heap[g]? = some (.cells #[v0, z1, z2, z3, z4, z5, z6] T (0, 0)) := by have := ent_set h 0 v0; simpa using this
 have h1 : ((w.setCell ⟨g, 0, none⟩ v0).setCell ⟨g, 1, none⟩ v1).heap[g]? = some (.cells #[v0, v1, z2, z3, z4, z5, z6] T (0, 0)) := by have := ent_set h0 1 v1; simpa using this
 have h2 : (((w.setCell ⟨g, 0, none⟩ v0).setCell ⟨g, 1, none⟩ v1).setCell ⟨g, 2, none⟩ v2).heap[g]? = some (.cells #[v0, v1, v2, z3, z4, z5, z6] T (0, 0)) := by have := ent_set h1 2 v2; simpa using this
 have h3 : ((((w.setCell ⟨g, 0, none⟩ v0).setCell ⟨g, 1, none⟩ v1).setCell ⟨g, 2, none⟩ v2).setCell ⟨g, 3, none⟩ v3).heap[g]? = some (.cells #[v0, v1, v2, v3, z4, z5, z6] T (0, 0)) := by have := ent_set h2 3 v3; simpa using this
 have h4 : (((((w.setCell ⟨g, 0, none⟩ v0).setCell ⟨g, 1, none⟩ v1).setCell ⟨g, 2, none⟩ v2).setCell ⟨g, 3, none⟩ v3).setCell ⟨g, 4, none⟩ v4).heap[g]? = some (.cells #[v0, v1, v2, v3, v4, z5, z6] T (0, 0)) := by have := ent_set h3 4 v4; simpa using this
 have h5 : ((((((w.setCell ⟨g, 0, none⟩ v0).setCell ⟨g, 1, none⟩ v1).setCell ⟨g, 2, none⟩ v2).setCell ⟨g, 3, none⟩ v3).setCell ⟨g, 4, none⟩ v4).setCell ⟨g, 5, none⟩ v5).heap[g]? = some (.cells #[v0, v1, v2, v3, v4, v5, z6] T (0, 0)) := by have := ent_set h4 5 v5; simpa using this
 have h6 : (((((((w.setCell ⟨g, 0, none⟩ v0).setCell ⟨g, 1, none⟩ v1).setCell ⟨g, 2, none⟩ v2).setCell ⟨g, 3, none⟩ v3).setCell ⟨g, 4, none⟩ v4).setCell ⟨g, 5, none⟩ v5).setCell ⟨g, 6, none⟩ v6).heap[g]? = some (.cells #[v0, v1, v2, v3, v4, v5, v6] T (0, 0)) := by have := ent_set h5 6 v6; simpa using this
 exact h6
theorem jG {w : World} {g : Nat} {cs : Array Value} {T : TypeId} (cs' : Array Value) (h : w.heap[g]? = some (.cells cs T (0, 0))) (j : Nat) (v : Value) (hc : cs.setIfInBounds j v = cs') :
 (w.setCell ⟨g, j, none⟩ v).heap[g]? = some (.cells cs' T (0, 0)) := by rw [← hc]; exact ent_set h j v
end Go.Proofs.Ytgoacbomphlhjaa

namespace Go.Proofs.Ytgoacbomphlhjaa
open Go.Lib (hid)
open List renaming getElem_toArray → jX, getElem_cons_succ → jY, getElem_cons_zero → jZ, setIfInBounds_toArray → JA, set_cons_zero → JB, set_cons_succ → JC
namespace Lx
theorem digit_not_blank (c : UInt8) (h : jT c = true) : blankB c = false ∧ c.toNat ≠ 59 ∧ c.toNat ≠ 45 ∧ c.toNat ≠ 62 := by
 have h' := digit_bd c h
 refine ⟨?_, by omega, by omega, by omega⟩
 unfold blankB
 simp; omega
theorem natV_append (a b : List UInt8) : ∀ acc, natV (a ++ b) acc = natV b (natV a acc) := by
 induction a with
 | nil => intro acc; rfl
 | cons c r ih => intro acc; rw [List.cons_append, natV_cons, natV_cons, ih]
end Lx
end Go.Proofs.Ytgoacbomphlhjaa

namespace Go.Proofs.Ytgoacbomphlhjaa
open Go.Lib (hid)
open List renaming getElem_toArray → jX, getElem_cons_succ → jY, getElem_cons_zero → jZ, setIfInBounds_toArray → JA, set_cons_zero → JB, set_cons_succ → JC
namespace Lx
theorem toks_step (f p : Nat) (l : List UInt8) : toks (f + 1) p l =
 if l.length ≤ skipC false l then ([], none) else
  if (tokAt (l.drop (skipC false l))).2 = 0 then ([], some (p + skipC false l)) else
   (mkTok (p + skipC false l) (tokAt (l.drop (skipC false l))).1 ((l.drop (skipC false l)).take (tokAt (l.drop (skipC false l))).2) ::
     (toks f (p + skipC false l + (tokAt (l.drop (skipC false l))).2) ((l.drop (skipC false l)).drop (tokAt (l.drop (skipC false l))).2)).1,
    (toks f (p + skipC false l + (tokAt (l.drop (skipC false l))).2) ((l.drop (skipC false l)).drop (tokAt (l.drop (skipC false l))).2)).2) := rfl
def shift (d : Nat) (t : Tok) : Tok := { t with pos := t.pos + d }
theorem toks_shift (d : Nat) : ∀ (f p : Nat) (l : List UInt8), toks f (p + d) l = ((toks f p l).1.map (shift d), (toks f p l).2.map (· + d)) := by
 intro f
 induction f with
 | zero => intro p l; rfl
 | succ f ih =>
   intro p l
   rw [toks_step, toks_step]
   by_cases h1 : l.length ≤ skipC false l
   · rw [if_pos h1, if_pos h1]; rfl
   · rw [if_neg h1, if_neg h1]
     by_cases h2 : (tokAt (l.drop (skipC false l))).2 = 0
     · rw [if_pos h2, if_pos h2]; simp; omega
     · rw [if_neg h2, if_neg h2]
       have e : p + d + skipC false l + (tokAt (l.drop (skipC false l))).2 = p + skipC false l + (tokAt (l.drop (skipC false l))).2 + d := by omega
       rw [e, ih]
       have e2 : p + d + skipC false l = p + skipC false l + d := by omega
       rw [e2]
       rfl
theorem cnt_cons (p : UInt8 → Bool) (c : UInt8) (r : List UInt8) : cnt p (c :: r) = if p c then cnt p r + 1 else 0 := rfl
theorem toks_len : ∀ (f p : Nat) (l : List UInt8), (toks f p l).1.length ≤ l.length := by
 intro f
 induction f with
 | zero => intro p l; simp [toks]
 | succ f ih =>
   intro p l
   rw [toks_step]
   by_cases h1 : l.length ≤ skipC false l
   · rw [if_pos h1]; simp
   · rw [if_neg h1]
     by_cases h2 : (tokAt (l.drop (skipC false l))).2 = 0
     · rw [if_pos h2]; simp
     · rw [if_neg h2]
       have := ih (p + skipC false l + (tokAt (l.drop (skipC false l))).2) ((l.drop (skipC false l)).drop (tokAt (l.drop (skipC false l))).2)
       rw [List.length_drop, List.length_drop] at this
       rw [List.length_cons]; omega
end Lx
end Go.Proofs.Ytgoacbomphlhjaa

namespace Go.Proofs.Ytgoacbomphlhjaa
open Go.Lib (hid)
open List renaming getElem_toArray → jX, getElem_cons_succ → jY, getElem_cons_zero → jZ, setIfInBounds_toArray → JA, set_cons_zero → JB, set_cons_succ → JC
namespace Lx
/-- The tokens of a text that stands at a place. -/
def tk (p : Nat) (l : List UInt8) : List Tok × Option Nat := toks (l.length + 1) p l
/-- A text that is a token of a kind, whatever stands behind it that goes on with no word. -/
def Ends (r : List UInt8) : Prop := wordB (at0 r 0) = false ∧ (at0 r 0).toNat ≠ 62
theorem ends_nil : Ends [] := ⟨by decide, by decide⟩
structure IsTok (k : Int) (t : List UInt8) : Prop where
 ne : t ≠ []
 blank : blankB (at0 t 0) = false
 note : (at0 t 0).toNat ≠ 59
 is : ∀ r, Ends r → tokAt (t ++ r) = (k, t.length)
theorem cnt_app (p : UInt8 → Bool) (t r : List UInt8) (h : ∀ c ∈ t, p c = true) (hr : p (at0 r 0) = false) : cnt p (t ++ r) = t.length := by
 induction t with
 | nil =>
   cases r with
   | nil => rfl
   | cons c r => 
     have : p c = false := hr
     rw [List.nil_append, cnt_cons, if_neg (by simp [this])]; rfl
 | cons c t ih =>
   rw [List.cons_append, cnt_cons, if_pos (h c (by simp)), ih (fun d hd => h d (by simp [hd])), List.length_cons]
theorem word_digit {c : UInt8} (h : wordB c = false) : jT c = false := by
 unfold wordB at h; simp only [Bool.or_eq_false_iff] at h; exact h.1.2
/-- A symbol that is a token alone. -/
theorem isTok_single (c : UInt8) (hb : blankB c = false) (hs : c.toNat ≠ 59) (hd : jT c = false) (hsm : smallB c = false) (hg : greatB c = false) (h : ¬ single c < 0) : IsTok (single c) [c] := by
 refine ⟨by simp, hb, hs, fun r hr => ?_⟩
 have e0 : at0 ([c] ++ r) 0 = c := rfl
 have e1 : at0 ([c] ++ r) 1 = at0 r 0 := rfl
 have ho : one c = (single c, 1) := by unfold one; rw [if_neg h]
 unfold tokAt
 simp only []
 rw [e0, e1]
 by_cases h45 : c.toNat = 45
 · rw [if_pos h45, if_neg hr.2, if_neg (by rw [word_digit hr.1]; decide), ho]; rfl
 · rw [if_neg h45, if_neg (by simp [hd]), if_neg (by simp [hsm]), if_neg (by simp [hg]), ho]; rfl
/-- A word, by its first letter. -/
theorem isTok_small (c : UInt8) (t : List UInt8) (hc : smallB c = true) (h : ∀ d ∈ t, wordB d = true) : IsTok 3 (c :: t) := by
 have hb : 97 ≤ c.toNat ∧ c.toNat ≤ 122 := by simpa [smallB] using hc
 refine ⟨by simp, ?_, ?_, fun r hr => ?_⟩
 · show blankB c = false; unfold blankB; simp; omega
 · show c.toNat ≠ 59; omega
 · have e0 : at0 (c :: t ++ r) 0 = c := rfl
   have ed : (c :: t ++ r).drop 1 = t ++ r := rfl
   have hdg : jT c = false := by unfold jT; simp; omega
   unfold tokAt
   simp only []
   rw [e0, ed, if_neg (by omega), if_neg (by simp [hdg]), if_pos hc, cnt_app wordB t r h hr.1]; rfl
theorem isTok_great (c : UInt8) (t : List UInt8) (hc : greatB c = true) (h : ∀ d ∈ t, wordB d = true) : IsTok 4 (c :: t) := by
 have hb : 65 ≤ c.toNat ∧ c.toNat ≤ 90 := by simpa [greatB] using hc
 refine ⟨by simp, ?_, ?_, fun r hr => ?_⟩
 · show blankB c = false; unfold blankB; simp; omega
 · show c.toNat ≠ 59; omega
 · have e0 : at0 (c :: t ++ r) 0 = c := rfl
   have ed : (c :: t ++ r).drop 1 = t ++ r := rfl
   have hdg : jT c = false := by unfold jT; simp; omega
   have hsm : smallB c = false := by unfold smallB; simp; omega
   unfold tokAt
   simp only []
   rw [e0, ed, if_neg (by omega), if_neg (by simp [hdg]), if_neg (by simp [hsm]), if_pos hc, cnt_app wordB t r h hr.1]; rfl
end Lx
end Go.Proofs.Ytgoacbomphlhjaa

namespace Go.Proofs.Ytgoacbomphlhjaa
open Go.Lib (hid)
open List renaming getElem_toArray → jX, getElem_cons_succ → jY, getElem_cons_zero → jZ, setIfInBounds_toArray → JA, set_cons_zero → JB, set_cons_succ → JC
namespace Px
open Lx (Tok)
/-- A text without a meaning of its own. -/
def Plain (s : List UInt8) : Prop :=
 takesOf s = 0 ∧ s ≠ [100, 97, 116, 97] ∧ s ≠ [100, 101, 102] ∧ s ≠ [102, 110] ∧ s ≠ [108, 101, 116] ∧ s ≠ [99, 97, 115, 101] ∧ s ≠ [45, 62] ∧ s ≠ [95]
structure TSim (ρ : Nat → Nat → Prop) (t u : Tok) : Prop where
 kind : u.kind = t.kind
 pos : ρ t.pos u.pos
 int : u.int = t.int
 num : t.kind = 2 → Plain t.text ∧ Plain u.text
 text : t.kind ≠ 2 → u.text = t.text
inductive All2 {α β : Type} (S : α → β → Prop) : List α → List β → Prop
 | nil : All2 S [] []
 | cons {a : α} {b : β} {l : List α} {m : List β} : S a b → All2 S l m → All2 S (a :: l) (b :: m)
theorem All2.len {α β : Type} {S : α → β → Prop} : ∀ {l : List α} {m : List β}, All2 S l m → m.length = l.length
 | _, _, .nil => rfl
 | _, _, .cons _ h => by rw [List.length_cons, List.length_cons, h.len]
theorem All2.mono {α β : Type} {S S' : α → β → Prop} (hs : ∀ a b, S a b → S' a b) : ∀ {l : List α} {m : List β}, All2 S l m → All2 S' l m
 | _, _, .nil => .nil
 | _, _, .cons h1 h => .cons (hs _ _ h1) (h.mono hs)
theorem All2.eq {α : Type} : ∀ {l m : List α}, All2 (fun a b => b = a) l m → m = l
 | _, _, .nil => rfl
 | _, _, .cons h1 h => by rw [h1, h.eq]
theorem All2.refl {α : Type} {S : α → α → Prop} (h : ∀ a, S a a) : ∀ l : List α, All2 S l l
 | [] => .nil
 | a :: l => .cons (h a) (All2.refl h l)
theorem All2.map {α β γ δ : Type} {S : α → β → Prop} {S' : γ → δ → Prop} (f : α → γ) (g : β → δ) (hs : ∀ a b, S a b → S' (f a) (g b)) : ∀ {l : List α} {m : List β}, All2 S l m → All2 S' (l.map f) (m.map g)
 | _, _, .nil => .nil
 | _, _, .cons h1 h => .cons (hs _ _ h1) (h.map f g hs)
theorem All2.app {α β : Type} {S : α → β → Prop} : ∀ {l : List α} {m : List β} {l' : List α} {m' : List β}, All2 S l m → All2 S l' m' → All2 S (l ++ l') (m ++ m')
 | _, _, _, _, .nil, h => h
 | _, _, _, _, .cons h1 h, h' => .cons h1 (h.app h')
theorem All2.drop {α β : Type} {S : α → β → Prop} : ∀ (k : Nat) {l : List α} {m : List β}, All2 S l m → All2 S (l.drop k) (m.drop k)
 | 0, _, _, h => h
 | _ + 1, _, _, .nil => .nil
 | k + 1, _, _, .cons _ h => All2.drop k h
theorem All2.tail {α β : Type} {S : α → β → Prop} {l : List α} {m : List β} (h : All2 S l m) : All2 S l.tail m.tail := by
 cases h with
 | nil => exact .nil
 | cons _ h => exact h
theorem All2.getD {α β : Type} {S : α → β → Prop} (a : α) (b : β) (hab : S a b) : ∀ (k : Nat) {l : List α} {m : List β}, All2 S l m → S (l.getD k a) (m.getD k b)
 | _, _, _, .nil => by simpa using hab
 | 0, _, _, .cons h _ => by simpa using h
 | k + 1, _, _, .cons _ h => by simpa using All2.getD a b hab k h
theorem All2.headD {α β : Type} {S : α → β → Prop} {a : α} {b : β} (hab : S a b) {l : List α} {m : List β} (h : All2 S l m) : S (l.headD a) (m.headD b) := by
 cases h with
 | nil => exact hab
 | cons h _ => exact h
theorem All2.get {α β : Type} {S : α → β → Prop} : ∀ {l : List α} {m : List β}, All2 S l m → ∀ k : Nat, (l[k]? = none ∧ m[k]? = none) ∨ ∃ a b, l[k]? = some a ∧ m[k]? = some b ∧ S a b
 | _, _, .nil, k => .inl ⟨by simp, by simp⟩
 | _, _, .cons h1 h, 0 => .inr ⟨_, _, rfl, rfl, h1⟩
 | _, _, .cons _ h, k + 1 => by simpa using h.get k
inductive Sim (ρ : Nat → Nat → Prop) : Node → Node → Prop
 | mk (t u : Tok) (l m : List Node) (k : Nat) : TSim ρ t u → (t.kind = 2 → k = 0) → All2 (Sim ρ) l m → Sim ρ (.mk t l k) (.mk u m k)
variable {ρ : Nat → Nat → Prop}
theorem Sim.tok {n m : Node} (h : Sim ρ n m) : TSim ρ n.tok m.tok := by cases h with | mk t u l m k h1 h2 h3 => exact h1
theorem Sim.takes {n m : Node} (h : Sim ρ n m) : m.takes = n.takes := by cases h with | mk t u l m k h1 h2 h3 => rfl
theorem Sim.num {n m : Node} (h : Sim ρ n m) (hk : n.tok.kind = 2) : n.takes = 0 := by cases h with | mk t u l m k h1 h2 h3 => exact h2 hk
theorem Sim.kids {n m : Node} (h : Sim ρ n m) : All2 (Sim ρ) n.list m.list := by cases h with | mk t u l m k h1 h2 h3 => exact h3
theorem Sim.pos {n m : Node} (h : Sim ρ n m) : ρ n.pos m.pos := h.tok.pos
theorem Sim.text {n m : Node} (h : Sim ρ n m) (hk : n.tok.kind ≠ 2) : m.text = n.text := h.tok.text hk
theorem Sim.isList {n m : Node} (h : Sim ρ n m) : jS m = jS n := by unfold jS; rw [h.tok.kind]
theorem Sim.isCon {n m : Node} (h : Sim ρ n m) : isConB m = isConB n := by unfold isConB; rw [h.tok.kind]
theorem Sim.isInt {n m : Node} (h : Sim ρ n m) : isIntB m = isIntB n := by unfold isIntB; rw [h.tok.kind]
theorem Sim.isName {n m : Node} (h : Sim ρ n m) : isNameB m = isNameB n := by
 unfold isNameB
 rw [h.tok.kind, h.takes]
 by_cases hk : n.tok.kind = 2
 · rw [hk]; simp
 · rw [h.text hk]
theorem Sim.word {n m : Node} (h : Sim ρ n m) : word m = word n ∨ Plain (word n) ∧ Plain (word m) := by
 have hk := h.kids
 unfold Px.word
 revert hk
 generalize n.list = l
 generalize m.list = l'
 intro hk
 cases hk with
 | nil => exact .inl rfl
 | @cons a b l l' h1 h2 =>
   simp only []
   rw [h1.isList]
   by_cases hl : jS a = true
   · rw [if_pos hl, if_pos hl]; exact .inl rfl
   · rw [if_neg hl, if_neg hl]
     by_cases h2 : a.tok.kind = 2
     · exact .inr (h1.tok.num h2)
     · exact .inl (h1.text h2)
theorem word_iff {a b : List UInt8} (h : b = a ∨ Plain a ∧ Plain b) (s : List UInt8) (hs : ∀ x, Plain x → x ≠ s) : (b = s) = (a = s) := by
 rcases h with rfl | ⟨h1, h2⟩
 · rfl
 · exact propext ⟨fun h => absurd h (hs _ h2), fun h => absurd h (hs _ h1)⟩
/-- Results alike. -/
def RR {α β : Type} (ρ : Nat → Nat → Prop) (S : α → β → Prop) : R α → R β → Prop
 | .ok x, .ok y => S x y
 | .error p, .error q => ρ p q
 | _, _ => False
theorem hold_sim {n m : Node} (h : Sim ρ n m) (a b : Nat) : RR ρ (fun _ _ => True) (hold n a b) (hold m a b) := by
 unfold hold
 rw [h.kids.len]
 by_cases h1 : n.list.length < a
 · rw [if_pos h1, if_pos h1]; exact h.pos
 · rw [if_neg h1, if_neg h1]
   rcases h.kids.get b with ⟨e1, e2⟩ | ⟨x, y, e1, e2, e3⟩
   · rw [e1, e2]; trivial
   · rw [e1, e2]; exact e3.pos
theorem nodes_sim {n m : Node} (h : Sim ρ n m) (a b : Nat) : RR ρ (All2 (Sim ρ)) (nodes n a b) (nodes m a b) := by
 unfold nodes
 rw [h.isList]
 by_cases h1 : jS n = true
 · rw [if_pos h1, if_pos h1]
   have hh := hold_sim h a b
   cases e1 : hold n a b <;> cases e2 : hold m a b <;> rw [e1, e2] at hh <;> first | exact hh | exact hh.elim | exact h.kids
 · rw [if_neg h1, if_neg h1]; exact h.pos
theorem each_sim {α β : Type} {S : α → β → Prop} {f : Node → R α} {g : Node → R β} (hf : ∀ a b, Sim ρ a b → RR ρ S (f a) (g b)) : ∀ {l m : List Node}, All2 (Sim ρ) l m → RR ρ (All2 S) (each f l) (each g m) := by
 intro l
 induction l with
 | nil => intro m h; cases h; exact .nil
 | cons a l ih =>
   intro m h
   cases h with
   | @cons _ b _ m h1 h2 =>
     have hh := hf a b h1
     have hi := ih h2
     simp only [each]
     cases e1 : f a <;> cases e2 : g b <;> rw [e1, e2] at hh <;> try exact hh.elim
     · exact hh
     · simp only []
       cases e3 : each f l <;> cases e4 : each g m <;> rw [e3, e4] at hi <;> try exact hi.elim
       · exact hi
       · exact .cons hh hi
theorem name_sim {n m : Node} (h : Sim ρ n m) : RR ρ (fun a b => b = a) (name n) (name m) := by
 unfold name
 rw [h.isName]
 by_cases h1 : isNameB n = true
 · rw [if_pos h1, if_pos h1]
   refine h.text ?_
   unfold isNameB at h1; simp only [Bool.and_eq_true, beq_iff_eq] at h1
   intro e; rw [e] at h1; exact absurd h1.1.2 (by decide)
 · rw [if_neg h1, if_neg h1]; exact h.pos
theorem conName_sim {n m : Node} (h : Sim ρ n m) : RR ρ (fun a b => b = a) (conName n) (conName m) := by
 unfold conName
 rw [h.isCon]
 by_cases h1 : isConB n = true
 · rw [if_pos h1, if_pos h1]
   refine h.text ?_
   unfold isConB at h1; simp only [beq_iff_eq] at h1
   intro e; rw [e] at h1; exact absurd h1 (by decide)
 · rw [if_neg h1, if_neg h1]; exact h.pos
theorem names_sim {n m : Node} (h : Sim ρ n m) (a : Nat) : RR ρ (fun a b => b = a) (names n a) (names m a) := by
 unfold names
 have hh := nodes_sim h a 8
 cases e1 : nodes n a 8 <;> cases e2 : nodes m a 8 <;> rw [e1, e2] at hh <;> try exact hh.elim
 · exact hh
 · rename_i l l'
   simp only []
   have hn := each_sim (S := fun a b => b = a) (fun a b h => name_sim h) hh
   cases e3 : each name l <;> cases e4 : each name l' <;> rw [e3, e4] at hn <;> try exact hn.elim
   · exact hn
   · exact hn.eq
inductive SimT (ρ : Nat → Nat → Prop) : TypeE → TypeE → Prop
 | mk (p q : Nat) (nm : List UInt8) (l m : List TypeE) : ρ p q → All2 (SimT ρ) l m → SimT ρ (.mk p nm l) (.mk q nm m)
inductive SimP (ρ : Nat → Nat → Prop) : Pat → Pat → Prop
 | mk (k p q : Nat) (nm : List UInt8) (i : Int) (l m : List Pat) : ρ p q → All2 (SimP ρ) l m → SimP ρ (.mk k p nm i l) (.mk k q nm i m)
inductive SimE (ρ : Nat → Nat → Prop) : Expr → Expr → Prop
 | mk (k p q : Nat) (nm : List UInt8) (i : Int) (ns : List (List UInt8)) (xs ys : List Expr) (al bl : List (Pat × Expr)) : ρ p q → All2 (SimE ρ) xs ys →
    All2 (SimP ρ) (al.map (·.1)) (bl.map (·.1)) → All2 (SimE ρ) (al.map (·.2)) (bl.map (·.2)) → SimE ρ (.mk k p nm i ns xs al) (.mk k q nm i ns ys bl)
theorem kind_ne {n : Node} (h : isIntB n = false) : n.tok.kind ≠ 2 := by
 unfold isIntB at h; simpa using h
theorem kind_con {n : Node} (h : isConB n = true) : n.tok.kind ≠ 2 := by
 unfold isConB at h; simp only [beq_iff_eq] at h; intro e; rw [e] at h; exact absurd h (by decide)
theorem pat_sim : ∀ (f : Nat) {n m : Node}, Sim ρ n m → RR ρ (SimP ρ) (pat f n) (pat f m) := by
 intro f
 induction f with
 | zero => intro n m h; exact h.pos
 | succ f ih =>
   intro n m h
   rw [pat, pat, h.isList, h.isInt, h.isCon, h.isName, h.tok.int]
   by_cases h1 : jS n = true
   · rw [if_pos h1, if_pos h1]
     have hh := nodes_sim h 2 9
     cases e1 : nodes n 2 9 <;> cases e2 : nodes m 2 9 <;> rw [e1, e2] at hh <;> try exact hh.elim
     · exact hh
     · rename_i l l'
       simp only []
       have key := conName_sim (All2.headD h hh)
       cases eA : conName (l.headD n) <;> cases eB : conName (l'.headD m) <;> rw [eA, eB] at key <;> try exact key.elim
       · exact key
       · obtain rfl := key
         simp only []
         have hn := each_sim (S := SimP ρ) (fun a b h => ih h) hh.tail
         cases e3 : each (pat f) l.tail <;> cases e4 : each (pat f) l'.tail <;> rw [e3, e4] at hn <;> try exact hn.elim
         · exact hn
         · exact .mk _ _ _ _ _ _ _ h.pos hn
   · rw [if_neg h1, if_neg h1]
     by_cases h2 : isIntB n = true
     · rw [if_pos h2, if_pos h2]; exact .mk _ _ _ _ _ _ _ h.pos .nil
     · rw [if_neg h2, if_neg h2, h.text (kind_ne (by simpa using h2))]
       by_cases h3 : isConB n = true
       · rw [if_pos h3, if_pos h3]; exact .mk _ _ _ _ _ _ _ h.pos .nil
       · rw [if_neg h3, if_neg h3]
         by_cases h4 : isNameB n = true
         · rw [if_pos h4, if_pos h4]; exact .mk _ _ _ _ _ _ _ h.pos .nil
         · rw [if_neg h4, if_neg h4]
           by_cases h5 : n.text = [95]
           · rw [if_pos h5, if_pos h5]; exact .mk _ _ _ _ _ _ _ h.pos .nil
           · rw [if_neg h5, if_neg h5]; exact h.pos
def PairS (ρ : Nat → Nat → Prop) (a b : List UInt8 × Expr) : Prop := b.1 = a.1 ∧ SimE ρ a.2 b.2
def AltS (ρ : Nat → Nat → Prop) (a b : Pat × Expr) : Prop := SimP ρ a.1 b.1 ∧ SimE ρ a.2 b.2
section
variable {ex : Node → R Expr} (hex : ∀ a b, Sim ρ a b → RR ρ (SimE ρ) (ex a) (ex b))
include hex
theorem pair_sim {n m : Node} (h : Sim ρ n m) : RR ρ (PairS ρ) (pair ex n) (pair ex m) := by
 unfold pair
 have hh := nodes_sim h 2 2
 cases e1 : nodes n 2 2 <;> cases e2 : nodes m 2 2 <;> rw [e1, e2] at hh <;> try exact hh.elim
 · exact hh
 · rename_i l l'
   simp only []
   have key := name_sim (All2.headD h hh)
   cases eA : name (l.headD n) <;> cases eB : name (l'.headD m) <;> rw [eA, eB] at key <;> try exact key.elim
   · exact key
   · obtain rfl := key
     simp only []
     have k2 := hex _ _ (All2.getD n m h 1 hh)
     cases eC : ex (l.getD 1 n) <;> cases eD : ex (l'.getD 1 m) <;> rw [eC, eD] at k2 <;> try exact k2.elim
     · exact k2
     · exact ⟨rfl, k2⟩
theorem alt_sim (f : Nat) {n m : Node} (h : Sim ρ n m) : RR ρ (AltS ρ) (alt f ex n) (alt f ex m) := by
 unfold alt
 have hh := nodes_sim h 2 2
 cases e1 : nodes n 2 2 <;> cases e2 : nodes m 2 2 <;> rw [e1, e2] at hh <;> try exact hh.elim
 · exact hh
 · rename_i l l'
   simp only []
   have key := pat_sim f (All2.headD h hh)
   cases eA : pat f (l.headD n) <;> cases eB : pat f (l'.headD m) <;> rw [eA, eB] at key <;> try exact key.elim
   · exact key
   · simp only []
     have k2 := hex _ _ (All2.getD n m h 1 hh)
     cases eC : ex (l.getD 1 n) <;> cases eD : ex (l'.getD 1 m) <;> rw [eC, eD] at k2 <;> try exact k2.elim
     · exact k2
     · exact ⟨key, k2⟩
theorem fn_sim {n m : Node} (h : Sim ρ n m) : RR ρ (SimE ρ) (fnExpr ex n) (fnExpr ex m) := by
 unfold fnExpr
 have hh := nodes_sim h 3 3
 cases e1 : nodes n 3 3 <;> cases e2 : nodes m 3 3 <;> rw [e1, e2] at hh <;> try exact hh.elim
 · exact hh
 · rename_i l l'
   simp only []
   have key := names_sim (All2.getD n m h 1 hh) 1
   cases eA : names (l.getD 1 n) 1 <;> cases eB : names (l'.getD 1 m) 1 <;> rw [eA, eB] at key <;> try exact key.elim
   · exact key
   · obtain rfl := key
     simp only []
     have k2 := hex _ _ (All2.getD n m h 2 hh)
     cases eC : ex (l.getD 2 n) <;> cases eD : ex (l'.getD 2 m) <;> rw [eC, eD] at k2 <;> try exact k2.elim
     · exact k2
     · exact .mk _ _ _ _ _ _ _ _ _ _ h.pos (.cons k2 .nil) .nil .nil
theorem let_sim {n m : Node} (h : Sim ρ n m) : RR ρ (SimE ρ) (letExpr ex n) (letExpr ex m) := by
 unfold letExpr
 have hh := nodes_sim h 3 3
 cases e1 : nodes n 3 3 <;> cases e2 : nodes m 3 3 <;> rw [e1, e2] at hh <;> try exact hh.elim
 · exact hh
 · rename_i l l'
   simp only []
   have key := nodes_sim (All2.getD n m h 1 hh) 1 8
   cases eA : nodes (l.getD 1 n) 1 8 <;> cases eB : nodes (l'.getD 1 m) 1 8 <;> rw [eA, eB] at key <;> try exact key.elim
   · exact key
   · rename_i ps ps'
     simp only []
     have hb := each_sim (S := PairS ρ) (fun a b h => pair_sim hex h) key
     cases eE : each (pair ex) ps <;> cases eF : each (pair ex) ps' <;> rw [eE, eF] at hb <;> try exact hb.elim
     · exact hb
     · rename_i bs bs'
       simp only []
       have k2 := hex _ _ (All2.getD n m h 2 hh)
       cases eC : ex (l.getD 2 n) <;> cases eD : ex (l'.getD 2 m) <;> rw [eC, eD] at k2 <;> try exact k2.elim
       · exact k2
       · have e : bs'.map (·.1) = bs.map (·.1) := (hb.map (S' := fun a b => b = a) (·.1) (·.1) (fun a b h => h.1)).eq
         have e2 : All2 (SimE ρ) (bs.map (·.2)) (bs'.map (·.2)) := hb.map (·.2) (·.2) (fun a b h => h.2)
         have e3 : All2 (SimE ρ) [_] [_] := .cons k2 .nil
         simp only [RR]
         rw [e]
         exact .mk _ _ _ _ _ _ _ _ _ _ h.pos (e2.app e3) .nil .nil
theorem case_sim (f : Nat) {n m : Node} (h : Sim ρ n m) : RR ρ (SimE ρ) (caseExpr f ex n) (caseExpr f ex m) := by
 unfold caseExpr
 have hh := nodes_sim h 3 18
 cases e1 : nodes n 3 18 <;> cases e2 : nodes m 3 18 <;> rw [e1, e2] at hh <;> try exact hh.elim
 · exact hh
 · rename_i l l'
   simp only []
   have k2 := hex _ _ (All2.getD n m h 1 hh)
   cases eC : ex (l.getD 1 n) <;> cases eD : ex (l'.getD 1 m) <;> rw [eC, eD] at k2 <;> try exact k2.elim
   · exact k2
   · simp only []
     have hb := each_sim (S := AltS ρ) (fun a b h => alt_sim hex f h) (hh.drop 2)
     cases eE : each (alt f ex) (l.drop 2) <;> cases eF : each (alt f ex) (l'.drop 2) <;> rw [eE, eF] at hb <;> try exact hb.elim
     · exact hb
     · exact .mk _ _ _ _ _ _ _ _ _ _ h.pos (.cons k2 .nil) (hb.map _ _ (fun a b h => h.1)) (hb.map _ _ (fun a b h => h.2))
theorem plain_sim {n m : Node} (h : Sim ρ n m) : RR ρ (SimE ρ) (plainExpr ex n) (plainExpr ex m) := by
 unfold plainExpr
 have hh := nodes_sim h 2 9
 cases e1 : nodes n 2 9 <;> cases e2 : nodes m 2 9 <;> rw [e1, e2] at hh <;> try exact hh.elim
 · exact hh
 · rename_i l l'
   have hf := All2.headD h hh
   simp only []
   generalize l.headD n = x at hf ⊢
   generalize l'.headD m = y at hf ⊢
   rw [hf.takes, hf.isCon]
   by_cases h1 : 0 < x.takes
   · rw [if_pos h1, if_pos h1, hf.text (fun e => by have := hf.num e; omega)]
     have h3 := hold_sim h (1 + x.takes) (1 + x.takes)
     cases e3 : hold n (1 + x.takes) (1 + x.takes) <;> cases e4 : hold m (1 + x.takes) (1 + x.takes) <;> rw [e3, e4] at h3 <;> try exact h3.elim
     · exact h3
     · simp only []
       have hb := each_sim (S := SimE ρ) hex hh.tail
       cases eE : each ex l.tail <;> cases eF : each ex l'.tail <;> rw [eE, eF] at hb <;> try exact hb.elim
       · exact hb
       · exact .mk _ _ _ _ _ _ _ _ _ _ h.pos hb .nil .nil
   · rw [if_neg h1, if_neg h1]
     by_cases h2 : isConB x = true
     · rw [if_pos h2, if_pos h2, hf.text (kind_con h2)]
       have hb := each_sim (S := SimE ρ) hex hh.tail
       cases eE : each ex l.tail <;> cases eF : each ex l'.tail <;> rw [eE, eF] at hb <;> try exact hb.elim
       · exact hb
       · exact .mk _ _ _ _ _ _ _ _ _ _ h.pos hb .nil .nil
     · rw [if_neg h2, if_neg h2]
       have hb := each_sim (S := SimE ρ) hex hh
       cases eE : each ex l <;> cases eF : each ex l' <;> rw [eE, eF] at hb <;> try exact hb.elim
       · exact hb
       · exact .mk _ _ _ _ _ _ _ _ _ _ h.pos hb .nil .nil
theorem list_sim (f : Nat) {n m : Node} (h : Sim ρ n m) : RR ρ (SimE ρ) (listExpr f ex n) (listExpr f ex m) := by
 unfold listExpr
 have w1 : (word m = [102, 110]) = (word n = [102, 110]) := word_iff h.word _ (fun x hx => hx.2.2.2.1)
 have w2 : (word m = [108, 101, 116]) = (word n = [108, 101, 116]) := word_iff h.word _ (fun x hx => hx.2.2.2.2.1)
 have w3 : (word m = [99, 97, 115, 101]) = (word n = [99, 97, 115, 101]) := word_iff h.word _ (fun x hx => hx.2.2.2.2.2.1)
 simp only [w1, w2, w3]
 by_cases h1 : word n = [102, 110]
 · rw [if_pos h1, if_pos h1]; exact fn_sim hex h
 · rw [if_neg h1, if_neg h1]
   by_cases h2 : word n = [108, 101, 116]
   · rw [if_pos h2, if_pos h2]; exact let_sim hex h
   · rw [if_neg h2, if_neg h2]
     by_cases h3 : word n = [99, 97, 115, 101]
     · rw [if_pos h3, if_pos h3]; exact case_sim hex f h
     · rw [if_neg h3, if_neg h3]; exact plain_sim hex h
end
theorem expr_sim : ∀ (f : Nat) (n m : Node), Sim ρ n m → RR ρ (SimE ρ) (expr f n) (expr f m) := by
 intro f
 induction f with
 | zero => intro n m h; exact h.pos
 | succ f ih =>
   intro n m h
   rw [expr, expr, h.isList, h.isInt, h.isCon, h.isName, h.tok.int]
   by_cases h1 : jS n = true
   · rw [if_pos h1, if_pos h1]; exact list_sim ih f h
   · rw [if_neg h1, if_neg h1]
     by_cases h2 : isIntB n = true
     · rw [if_pos h2, if_pos h2]; exact .mk _ _ _ _ _ _ _ _ _ _ h.pos .nil .nil .nil
     · rw [if_neg h2, if_neg h2, h.text (kind_ne (by simpa using h2))]
       by_cases h3 : isConB n = true
       · rw [if_pos h3, if_pos h3]; exact .mk _ _ _ _ _ _ _ _ _ _ h.pos .nil .nil .nil
       · rw [if_neg h3, if_neg h3]
         by_cases h4 : isNameB n = true
         · rw [if_pos h4, if_pos h4]; exact .mk _ _ _ _ _ _ _ _ _ _ h.pos .nil .nil .nil
         · rw [if_neg h4, if_neg h4]; exact h.pos
structure SimCon (ρ : Nat → Nat → Prop) (a b : Con) : Prop where
 pos : ρ a.pos b.pos
 name : b.name = a.name
 fields : All2 (SimT ρ) a.fields b.fields
structure SimData (ρ : Nat → Nat → Prop) (a b : Data) : Prop where
 pos : ρ a.pos b.pos
 name : b.name = a.name
 params : b.params = a.params
 cons : All2 (SimCon ρ) a.cons b.cons
structure SimDef (ρ : Nat → Nat → Prop) (a b : Def) : Prop where
 pos : ρ a.pos b.pos
 name : b.name = a.name
 params : b.params = a.params
 body : SimE ρ a.body b.body
structure SimProg (ρ : Nat → Nat → Prop) (a b : Prog) : Prop where
 datas : All2 (SimData ρ) a.datas b.datas
 defs : All2 (SimDef ρ) a.defs b.defs
def NodeS (ρ : Nat → Nat → Prop) (a b : Node × List Tok) : Prop := Sim ρ a.1 b.1 ∧ All2 (TSim ρ) a.2 b.2
def RestS (ρ : Nat → Nat → Prop) (a b : List Node × List Tok) : Prop := All2 (Sim ρ) a.1 b.1 ∧ All2 (TSim ρ) a.2 b.2
theorem takes_sim {t u : Tok} (h : TSim ρ t u) : takesOf u.text = takesOf t.text ∧ (t.kind = 2 → takesOf t.text = 0) := by
 by_cases hk : t.kind = 2
 · obtain ⟨h1, h2⟩ := h.num hk
   exact ⟨by rw [h1.1, h2.1], fun _ => h1.1⟩
 · exact ⟨by rw [h.text hk], fun e => absurd e hk⟩
theorem node_rest_sim (stop stop' : Nat) (hs : ρ stop stop') : ∀ (f d : Nat) (ts us : List Tok), All2 (TSim ρ) ts us →
 RR ρ (NodeS ρ) (node stop f d ts) (node stop' f d us) ∧ RR ρ (RestS ρ) (rest stop f d ts) (rest stop' f d us) := by
 intro f
 induction f with
 | zero => intro d ts us h; exact ⟨hs, hs⟩
 | succ f ih =>
   intro d ts us h
   cases h with
   | nil => exact ⟨hs, hs⟩
   | @cons t u ts us h1 h2 =>
     constructor
     · rw [node, node, h1.kind]
       by_cases k1 : t.kind = 1
       · rw [if_pos k1, if_pos k1]; exact h1.pos
       · rw [if_neg k1, if_neg k1]
         by_cases k0 : t.kind = 0
         · rw [if_pos k0, if_pos k0]
           by_cases hd : d = 40
           · rw [if_pos hd, if_pos hd]; exact h1.pos
           · rw [if_neg hd, if_neg hd]
             have hr := (ih (d + 1) ts us h2).2
             cases e1 : rest stop f (d + 1) ts <;> cases e2 : rest stop' f (d + 1) us <;> rw [e1, e2] at hr <;> try exact hr.elim
             · exact hr
             · exact ⟨.mk _ _ _ _ _ h1 (fun _ => rfl) hr.1, hr.2⟩
         · rw [if_neg k0, if_neg k0]
           obtain ⟨t1, t2⟩ := takes_sim h1
           rw [t1]
           exact ⟨.mk _ _ _ _ _ h1 t2 .nil, h2⟩
     · rw [rest, rest, h1.kind]
       by_cases k1 : t.kind = 1
       · rw [if_pos k1, if_pos k1]; exact ⟨.nil, h2⟩
       · rw [if_neg k1, if_neg k1]
         have hn := (ih d (t :: ts) (u :: us) (.cons h1 h2)).1
         cases e1 : node stop f d (t :: ts) <;> cases e2 : node stop' f d (u :: us) <;> rw [e1, e2] at hn <;> try exact hn.elim
         · exact hn
         · rename_i x y
           obtain ⟨n, ts'⟩ := x
           obtain ⟨m, us'⟩ := y
           simp only []
           have hr := (ih d ts' us' hn.2).2
           cases e3 : rest stop f d ts' <;> cases e4 : rest stop' f d us' <;> rw [e3, e4] at hr <;> try exact hr.elim
           · exact hr
           · exact ⟨.cons hn.1 hr.1, hr.2⟩
end Px
end Go.Proofs.Ytgoacbomphlhjaa

namespace Go.Proofs.Ytgoacbomphlhjaa
open Go.Lib (hid)
open List renaming getElem_toArray → jX, getElem_cons_succ → jY, getElem_cons_zero → jZ, setIfInBounds_toArray → JA, set_cons_zero → JB, set_cons_succ → JC
namespace Px
open Lx (Tok)
def opens : List Tok → Nat
 | [] => 0
 | t :: ts => (if t.kind = 0 then 1 else 0) + opens ts
/-- What is read of a text's tokens is read where more stand behind, and further in, if there is room. -/
theorem node_more (stop stop' : Nat) : ∀ (f d : Nat) (ts : List Tok),
 (∀ n ts', node stop f d ts = .ok (n, ts') → opens ts' ≤ opens ts ∧ (n.list ≠ [] → opens ts' < opens ts) ∧ ts'.length < ts.length ∧
   ∀ f' d' more, f ≤ f' → (d' = d ∨ d' + opens ts ≤ 40) → node stop' f' d' (ts ++ more) = .ok (n, ts' ++ more)) ∧
 (∀ l ts', rest stop f d ts = .ok (l, ts') → opens ts' ≤ opens ts ∧ ts'.length < ts.length ∧
   ∀ f' d' more, f ≤ f' → (d' = d ∨ d' + opens ts ≤ 40) → rest stop' f' d' (ts ++ more) = .ok (l, ts' ++ more)) := by
 intro f
 induction f with
 | zero => intro d ts; exact ⟨fun n ts' h => (by cases h), fun l ts' h => (by cases h)⟩
 | succ f ih =>
   intro d ts
   cases ts with
   | nil => exact ⟨fun n ts' h => (by cases h), fun l ts' h => (by cases h)⟩
   | cons t ts =>
     constructor
     · intro n ts' h
       rw [node] at h
       by_cases k1 : t.kind = 1
       · rw [if_pos k1] at h; cases h
       · rw [if_neg k1] at h
         by_cases k0 : t.kind = 0
         · rw [if_pos k0] at h
           by_cases hd : d = 40
           · rw [if_pos hd] at h; cases h
           · rw [if_neg hd] at h
             have hi := (ih (d + 1) ts).2
             cases hr : rest stop f (d + 1) ts with
             | error p => rw [hr] at h; cases h
             | ok x =>
               obtain ⟨l, ts1⟩ := x
               rw [hr] at h
               simp only [Except.ok.injEq, Prod.mk.injEq] at h
               obtain ⟨rfl, rfl⟩ := h
               obtain ⟨h1, h2, h3⟩ := hi _ _ hr
               have ho : opens (t :: ts) = opens ts + 1 := by rw [opens, if_pos k0]; omega
               refine ⟨by omega, fun _ => by omega, by rw [List.length_cons]; omega, fun f' d' more hf hdd => ?_⟩
               obtain ⟨f', rfl⟩ : ∃ g, f' = g + 1 := ⟨f' - 1, by omega⟩
               rw [List.cons_append, node, if_neg k1, if_pos k0, if_neg (by omega), h3 f' (d' + 1) more (by omega) (by omega)]
         · rw [if_neg k0] at h
           simp only [Except.ok.injEq, Prod.mk.injEq] at h
           obtain ⟨rfl, rfl⟩ := h
           have ho : opens (t :: ts) = opens ts := by rw [opens, if_neg k0]; omega
           refine ⟨by omega, fun e => absurd rfl e, by rw [List.length_cons]; omega, fun f' d' more hf hdd => ?_⟩
           obtain ⟨f', rfl⟩ : ∃ g, f' = g + 1 := ⟨f' - 1, by omega⟩
           rw [List.cons_append, node, if_neg k1, if_neg k0]
     · intro l ts' h
       rw [rest] at h
       by_cases k1 : t.kind = 1
       · rw [if_pos k1] at h
         simp only [Except.ok.injEq, Prod.mk.injEq] at h
         obtain ⟨rfl, rfl⟩ := h
         have ho : opens (t :: ts) = opens ts := by rw [opens, if_neg (by omega)]; omega
         refine ⟨by omega, by rw [List.length_cons]; omega, fun f' d' more hf hdd => ?_⟩
         obtain ⟨f', rfl⟩ : ∃ g, f' = g + 1 := ⟨f' - 1, by omega⟩
         rw [List.cons_append, rest, if_pos k1]
       · rw [if_neg k1] at h
         have hi := (ih d (t :: ts)).1
         cases hn : node stop f d (t :: ts) with
         | error p => rw [hn] at h; cases h
         | ok x =>
           obtain ⟨n, ts1⟩ := x
           rw [hn] at h
           simp only at h
           obtain ⟨h1, _, h2, h3⟩ := hi _ _ hn
           have hj := (ih d ts1).2
           cases hr : rest stop f d ts1 with
           | error p => rw [hr] at h; cases h
           | ok y =>
             obtain ⟨l', ts2⟩ := y
             rw [hr] at h
             simp only [Except.ok.injEq, Prod.mk.injEq] at h
             obtain ⟨rfl, rfl⟩ := h
             obtain ⟨g1, g2, g3⟩ := hj _ _ hr
             refine ⟨by omega, by omega, fun f' d' more hf hdd => ?_⟩
             obtain ⟨f', rfl⟩ : ∃ g, f' = g + 1 := ⟨f' - 1, by omega⟩
             have a1 := h3 f' d' more (by omega) hdd
             have a2 := g3 f' d' more (by omega) (by omega)
             rw [List.cons_append] at a1 ⊢
             rw [rest, if_neg k1, a1]
             simp only [a2]
theorem prog_nil (stop f c : Nat) : prog stop f c [] = .ok ⟨[], []⟩ := by cases f <;> rfl
theorem prog_cons (stop f c : Nat) (t : Tok) (ts : List Tok) : prog stop (f + 1) c (t :: ts) =
 match node stop (2 * (t :: ts).length + 2) 0 (t :: ts) with
 | .error p => .error p
 | .ok (n, ts') =>
   if c = 100 then .error n.pos
   else if word n = [100, 97, 116, 97] then
    match data 50 n with
    | .error p => .error p
    | .ok d => match prog stop f (c + 1) ts' with
      | .error p => .error p
      | .ok q => .ok ⟨d :: q.datas, q.defs⟩
   else if word n = [100, 101, 102] then
    match defn 50 n with
    | .error p => .error p
    | .ok d => match prog stop f (c + 1) ts' with
      | .error p => .error p
      | .ok q => .ok ⟨q.datas, d :: q.defs⟩
   else .error n.pos := by
 rw [prog]
 all_goals first | rfl | simp
/-- How many parts. -/
def Prog.size (p : Prog) : Nat := p.datas.length + p.defs.length
def Prog.add (p q : Prog) : Prog := ⟨p.datas ++ q.datas, p.defs ++ q.defs⟩
end Px
end Go.Proofs.Ytgoacbomphlhjaa

namespace Go.Proofs.Ytgoacbomphlhjaa
open Go.Lib (hid)
open List renaming getElem_toArray → jX, getElem_cons_succ → jY, getElem_cons_zero → jZ, setIfInBounds_toArray → JA, set_cons_zero → JB, set_cons_succ → JC
namespace Px
open Lx (Tok tk mkTok)
def Small (n : Int) : Prop := -1000000000000000000 < n ∧ n < 1000000000000000000
theorem rest_end (stop f d : Nat) (t : Tok) (ts : List Tok) (h1 : t.kind = 1) : rest stop (f + 1) d (t :: ts) = .ok ([], ts) := by
 rw [rest, if_pos h1]
end Px
end Go.Proofs.Ytgoacbomphlhjaa

namespace Go.Proofs.Ytgoacbomphlhjaa
open Go.Lib (hid)
open List renaming getElem_toArray → jX, getElem_cons_succ → jY, getElem_cons_zero → jZ, setIfInBounds_toArray → JA, set_cons_zero → JB, set_cons_succ → JC
namespace Lx
theorem tk_shift (d : Nat) (l : List UInt8) : tk d l = ((tk 0 l).1.map (shift d), (tk 0 l).2.map (· + d)) := by
 have := toks_shift d (l.length + 1) 0 l
 rw [Nat.zero_add] at this; exact this
theorem way_open {l : List UInt8} {n : Nat} (h : Way l 0 n) (hn : n ≠ 0) : (at0 l 0).toNat = 40 := by
 generalize hk : (0 : Int) = k at h
 cases h with
 | arrow => omega
 | neg => omega
 | pos => omega
 | name => omega
 | con => omega
 | one h1 h2 =>
   by_cases e : (at0 l 0).toNat = 40
   · exact e
   · unfold single at hk
     rw [if_neg e] at hk
     repeat' split at hk
     all_goals omega
 | none => omega
theorem opens_toks : ∀ (f p : Nat) (l : List UInt8), Px.opens (toks f p l).1 ≤ l.count 40 := by
 intro f
 induction f with
 | zero => intro p l; simp [toks, Px.opens]
 | succ f ih =>
   intro p l
   rw [toks_step]
   by_cases h1 : l.length ≤ skipC false l
   · rw [if_pos h1]; simp [Px.opens]
   · rw [if_neg h1]
     by_cases h2 : (tokAt (l.drop (skipC false l))).2 = 0
     · rw [if_pos h2]; simp [Px.opens]
     · rw [if_neg h2]
       simp only [Px.opens]
       have hw := way (l.drop (skipC false l))
       have hi := ih (p + skipC false l + (tokAt (l.drop (skipC false l))).2) ((l.drop (skipC false l)).drop (tokAt (l.drop (skipC false l))).2)
       have hd1 := (List.drop_sublist (skipC false l) l).count_le 40
       have hl : 0 < (l.drop (skipC false l)).length := by rw [List.length_drop]; omega
       generalize l.drop (skipC false l) = r at *
       have hd2 := (List.drop_sublist (tokAt r).2 r).count_le 40
       by_cases hk : (tokAt r).1 = 0
       · rw [if_pos (by exact hk)]
         rw [hk] at hw
         have h40 := way_open hw h2
         cases r with
         | nil => simp at hl
         | cons c r =>
           have hc : c = 40 := by
            have : c.toNat = 40 := h40
            exact UInt8.toNat_inj.1 (by rw [this]; rfl)
           subst hc
           obtain ⟨j, hj⟩ : ∃ j, (tokAt (40 :: r)).2 = j + 1 := ⟨(tokAt (40 :: r)).2 - 1, by omega⟩
           rw [hj] at hi ⊢
           rw [List.drop_succ_cons] at hi ⊢
           have hd3 := (List.drop_sublist j r).count_le 40
           rw [List.count_cons_self] at hd1
           omega
       · rw [if_neg (by exact hk)]
         omega
end Lx
namespace Px
open Lx (Tok tk mkTok)
theorem Fits.mono : ∀ {k : Nat} {n : Node}, Fits k n → Fits (k + 1) n := by
 intro k
 induction k with
 | zero => intro n h m hm; rw [show n.list = [] from h] at hm; cases hm
 | succ k ih => intro n h m hm; exact ih (h m hm)
theorem Fits.le {k j : Nat} {n : Node} (h : Fits k n) (hj : k ≤ j) : Fits j n := by
 induction j with
 | zero => obtain rfl : k = 0 := by omega
           exact h
 | succ j ih =>
   by_cases e : k = j + 1
   · subst e; exact h
   · exact (ih (by omega)).mono
theorem Fits.kid {k : Nat} {n m : Node} (h : Fits k n) (hm : m ∈ n.list) : ∃ j, k = j + 1 ∧ Fits j m := by
 cases k with
 | zero => rw [show n.list = [] from h] at hm; cases hm
 | succ k => exact ⟨k, rfl, h m hm⟩
theorem node_fits (stop : Nat) : ∀ (f d : Nat) (ts : List Tok),
 (∀ n ts', node stop f d ts = .ok (n, ts') → Fits (opens ts) n) ∧ (∀ l ts', rest stop f d ts = .ok (l, ts') → ∀ m ∈ l, Fits (opens ts) m) := by
 intro f
 induction f with
 | zero => intro d ts; exact ⟨fun n ts' h => (by cases h), fun l ts' h => (by cases h)⟩
 | succ f ih =>
   intro d ts
   cases ts with
   | nil => exact ⟨fun n ts' h => (by cases h), fun l ts' h => (by cases h)⟩
   | cons t ts =>
     constructor
     · intro n ts' h
       rw [node] at h
       by_cases k1 : t.kind = 1
       · rw [if_pos k1] at h; cases h
       · rw [if_neg k1] at h
         by_cases k0 : t.kind = 0
         · rw [if_pos k0] at h
           by_cases hd : d = 40
           · rw [if_pos hd] at h; cases h
           · rw [if_neg hd] at h
             cases hr : rest stop f (d + 1) ts with
             | error p => rw [hr] at h; cases h
             | ok x =>
               obtain ⟨l, ts1⟩ := x
               rw [hr] at h
               simp only [Except.ok.injEq, Prod.mk.injEq] at h
               obtain ⟨rfl, rfl⟩ := h
               have ho : opens (t :: ts) = opens ts + 1 := by rw [opens, if_pos k0]; omega
               rw [ho]
               exact (ih (d + 1) ts).2 _ _ hr
         · rw [if_neg k0] at h
           simp only [Except.ok.injEq, Prod.mk.injEq] at h
           obtain ⟨rfl, rfl⟩ := h
           exact Fits.le (k := 0) rfl (Nat.zero_le _)
     · intro l ts' h
       rw [rest] at h
       by_cases k1 : t.kind = 1
       · rw [if_pos k1] at h
         simp only [Except.ok.injEq, Prod.mk.injEq] at h
         obtain ⟨rfl, rfl⟩ := h
         intro m hm; cases hm
       · rw [if_neg k1] at h
         cases hn : node stop f d (t :: ts) with
         | error p => rw [hn] at h; cases h
         | ok x =>
           obtain ⟨n, ts1⟩ := x
           rw [hn] at h
           simp only at h
           have hle := ((node_more stop stop f d (t :: ts)).1 _ _ hn).1
           cases hr : rest stop f d ts1 with
           | error p => rw [hr] at h; cases h
           | ok y =>
             obtain ⟨l', ts2⟩ := y
             rw [hr] at h
             simp only [Except.ok.injEq, Prod.mk.injEq] at h
             obtain ⟨rfl, rfl⟩ := h
             intro m hm
             rcases List.mem_cons.1 hm with rfl | hm
             · exact (ih d (t :: ts)).1 _ _ hn
             · exact ((ih d ts1).2 _ _ hr m hm).le hle
theorem jW {n : Node} {a b : Nat} {l : List Node} (h : nodes n a b = .ok l) : l = n.list ∧ a ≤ l.length := by
 unfold nodes at h
 by_cases h1 : jS n = true
 · rw [if_pos h1] at h
   unfold hold at h
   by_cases h2 : n.list.length < a
   · rw [if_pos h2] at h; cases h
   · rw [if_neg h2] at h
     cases hb : n.list[b]? with
     | some m => rw [hb] at h; cases h
     | none =>
       rw [hb] at h
       simp only [Except.ok.injEq] at h
       subst h
       exact ⟨rfl, by omega⟩
 · rw [if_neg h1] at h; cases h
theorem getD_mem {l : List Node} {k : Nat} {n : Node} (h : k < l.length) : l.getD k n ∈ l := by
 rw [List.getD_eq_getElem?_getD, List.getElem?_eq_getElem h]; exact List.getElem_mem h
theorem headD_mem {l : List Node} {n : Node} (h : 0 < l.length) : l.headD n ∈ l := by
 cases l with
 | nil => simp at h
 | cons a l => simp
theorem each_congr {α : Type} {f g : Node → R α} : ∀ {l : List Node}, (∀ n ∈ l, f n = g n) → each f l = each g l := by
 intro l
 induction l with
 | nil => intro _; rfl
 | cons a l ih => intro h; rw [each, each, h a (by simp), ih (fun n hn => h n (by simp [hn]))]
theorem pat_fuel : ∀ (k f f' : Nat) (n : Node), Fits k n → k < f → k < f' → pat f n = pat f' n := by
 intro k
 induction k with
 | zero =>
   intro f f' n h hf hf'
   obtain ⟨f, rfl⟩ : ∃ g, f = g + 1 := ⟨f - 1, by omega⟩
   obtain ⟨f', rfl⟩ : ∃ g, f' = g + 1 := ⟨f' - 1, by omega⟩
   rw [pat, pat]
   cases hn : nodes n 2 9 with
   | error p => rfl
   | ok l =>
     obtain ⟨rfl, h2⟩ := jW hn
     rw [show n.list = [] from h] at h2; simp at h2
 | succ k ih =>
   intro f f' n h hf hf'
   obtain ⟨f, rfl⟩ : ∃ g, f = g + 1 := ⟨f - 1, by omega⟩
   obtain ⟨f', rfl⟩ : ∃ g, f' = g + 1 := ⟨f' - 1, by omega⟩
   rw [pat, pat]
   cases hn : nodes n 2 9 with
   | error p => rfl
   | ok l =>
     obtain ⟨rfl, h2⟩ := jW hn
     simp only
     rw [each_congr (f := pat f) (g := pat f') (fun m hm => ih f f' m (h m (List.mem_of_mem_tail hm)) (by omega) (by omega))]
theorem expr_fuel : ∀ (k f f' : Nat) (n : Node), Fits k n → k < f → k < f' → expr f n = expr f' n := by
 intro k
 induction k with
 | zero =>
   intro f f' n h hf hf'
   obtain ⟨f, rfl⟩ : ∃ g, f = g + 1 := ⟨f - 1, by omega⟩
   obtain ⟨f', rfl⟩ : ∃ g, f' = g + 1 := ⟨f' - 1, by omega⟩
   have he : n.list = [] := h
   have hw : word n = [] := by unfold word; rw [he]
   have hp : ∀ ex : Node → R Expr, plainExpr ex n = (match nodes n 2 9 with | .error p => .error p | .ok _ => .error n.pos) := by
    intro ex
    unfold plainExpr
    cases hn : nodes n 2 9 with
    | error p => rfl
    | ok l =>
      obtain ⟨rfl, h2⟩ := jW hn
      rw [he] at h2; simp at h2
   have hl : ∀ (g : Nat) (ex : Node → R Expr), listExpr g ex n = plainExpr ex n := by
    intro g ex
    unfold listExpr
    rw [hw, if_neg (by decide), if_neg (by decide), if_neg (by decide)]
   rw [expr, expr, hl, hl, hp, hp]
 | succ k ih =>
   intro f f' n h hf hf'
   obtain ⟨f, rfl⟩ : ∃ g, f = g + 1 := ⟨f - 1, by omega⟩
   obtain ⟨f', rfl⟩ : ∃ g, f' = g + 1 := ⟨f' - 1, by omega⟩
   have hk : ∀ m ∈ n.list, expr f m = expr f' m := fun m hm => ih f f' m (h m hm) (by omega) (by omega)
   have hg : ∀ m ∈ n.list, ∀ x ∈ m.list, Fits k x := fun m hm x hx => by
    obtain ⟨j, rfl, hj⟩ := Fits.kid (h m hm) hx
    exact hj.mono
   have hke : ∀ m ∈ n.list, ∀ x ∈ m.list, expr f x = expr f' x := fun m hm x hx => ih f f' x (hg m hm x hx) (by omega) (by omega)
   have hkp : ∀ m ∈ n.list, ∀ x ∈ m.list, pat f x = pat f' x := fun m hm x hx => pat_fuel k f f' x (hg m hm x hx) (by omega) (by omega)
   have hfn : fnExpr (expr f) n = fnExpr (expr f') n := by
    unfold fnExpr
    cases hn : nodes n 3 3 with
    | error p => rfl
    | ok l =>
      obtain ⟨rfl, h2⟩ := jW hn
      simp only
      rw [hk _ (getD_mem (by omega))]
   have hle : letExpr (expr f) n = letExpr (expr f') n := by
    unfold letExpr
    cases hn : nodes n 3 3 with
    | error p => rfl
    | ok l =>
      obtain ⟨rfl, h2⟩ := jW hn
      simp only
      rw [hk _ (getD_mem (by omega))]
      cases hp : nodes (n.list.getD 1 n) 1 8 with
      | error p => rfl
      | ok ps =>
        obtain ⟨e, h3⟩ := jW hp
        simp only
        rw [each_congr (f := pair (expr f)) (g := pair (expr f')) (fun b hb => by
         have hb1 : b ∈ (n.list.getD 1 n).list := by rw [← e]; exact hb
         unfold pair
         cases hq : nodes b 2 2 with
         | error p => rfl
         | ok l2 =>
           obtain ⟨rfl, h4⟩ := jW hq
           simp only
           have hb2 : b.list.getD 1 b ∈ b.list := getD_mem (by omega)
           obtain ⟨j, hj, hf1⟩ := Fits.kid (hg _ (getD_mem (by omega)) b hb1) hb2
           rw [ih f f' _ (hf1.le (by omega)) (by omega) (by omega)])]
   have hca : caseExpr f (expr f) n = caseExpr f' (expr f') n := by
    unfold caseExpr
    cases hn : nodes n 3 18 with
    | error p => rfl
    | ok l =>
      obtain ⟨rfl, h2⟩ := jW hn
      simp only
      rw [hk _ (getD_mem (by omega))]
      rw [each_congr (f := alt f (expr f)) (g := alt f' (expr f')) (fun b hb => by
       have hb1 : b ∈ n.list := List.mem_of_mem_drop hb
       unfold alt
       cases hq : nodes b 2 2 with
       | error p => rfl
       | ok l2 =>
         obtain ⟨rfl, h4⟩ := jW hq
         simp only
         rw [hke b hb1 _ (getD_mem (by omega)), hkp b hb1 _ (headD_mem (by omega))])]
   have hpl : plainExpr (expr f) n = plainExpr (expr f') n := by
    unfold plainExpr
    cases hn : nodes n 2 9 with
    | error p => rfl
    | ok l =>
      obtain ⟨rfl, h2⟩ := jW hn
      simp only
      rw [each_congr (f := expr f) (g := expr f') hk, each_congr (f := expr f) (g := expr f') (fun m hm => hk m (List.mem_of_mem_tail hm))]
   rw [expr, expr, listExpr, listExpr, hfn, hle, hca, hpl]
def Expr.kindN : Expr → Nat | .mk k _ _ _ _ _ _ => k
def Expr.posN : Expr → Nat | .mk _ p _ _ _ _ _ => p
def Expr.argsL : Expr → List Expr | .mk _ _ _ _ _ xs _ => xs
theorem SimE.parts {ρ : Nat → Nat → Prop} {x y : Expr} (h : SimE ρ x y) : y.kindN = x.kindN ∧ ρ x.posN y.posN ∧ y.argsL.length = x.argsL.length := by
 cases h with
 | mk k p q nm i ns xs ys al bl h1 h2 h3 h4 => exact ⟨rfl, h1, h2.len⟩
/-- Tokens as they come of a text: a number's text has no meaning of its own. -/
def NumPlain (t : Tok) : Prop := t.kind = 2 → Plain t.text
theorem plain_of_digit {s : List UInt8} (h : Lx.jT (Lx.at0 s 0) = true ∨ (Lx.at0 s 0).toNat = 45 ∧ Lx.jT (Lx.at0 s 1) = true) : Plain s := by
 have key : ∀ s' : List UInt8, s = s' → ((Lx.jT (Lx.at0 s' 0) || ((Lx.at0 s' 0).toNat == 45 && Lx.jT (Lx.at0 s' 1))) = true) := by
  intro s' e; subst e
  rcases h with h | ⟨h1, h2⟩
  · simp [h]
  · simp [h1, h2]
 have no : ∀ s' : List UInt8, ((Lx.jT (Lx.at0 s' 0) || ((Lx.at0 s' 0).toNat == 45 && Lx.jT (Lx.at0 s' 1))) = false) → s ≠ s' := by
  intro s' h e
  rw [key s' e] at h; exact absurd h (by decide)
 refine ⟨?_, no _ (by decide), no _ (by decide), no _ (by decide), no _ (by decide), no _ (by decide), no _ (by decide), no _ (by decide)⟩
 unfold takesOf
 rw [if_neg ?_, if_neg ?_]
 · rintro (e | e)
   · exact no _ (by decide) e
   · exact no _ (by decide) e
 · rintro (e | e | e | e | e | e | e | e | e | e)
   all_goals exact no _ (by decide) e
theorem at0_take (l : List UInt8) (n k : Nat) (h : k < n) : Lx.at0 (l.take n) k = Lx.at0 l k := by
 unfold Lx.at0; rw [List.getD_eq_getElem?_getD, List.getD_eq_getElem?_getD, List.getElem?_take, if_pos h]
theorem way_plain {l : List UInt8} {n : Nat} (h : Lx.Way l 2 n) : Plain (l.take n) := by
 generalize hk : (2 : Int) = k at h
 have hcnt : ∀ r : List UInt8, Lx.jT (Lx.at0 r 0) = true → 0 < Lx.cnt Lx.jT r := by
  intro r hr
  cases r with
  | nil => exact absurd hr (by decide)
  | cons c r => rw [Lx.cnt, if_pos (by exact hr)]; omega
 cases h with
 | arrow => omega
 | neg h1 h2 h3 h4 =>
   have e : Lx.at0 (l.drop 1) 0 = Lx.at0 l 1 := by rw [Lx.at0_drop]
   have := hcnt (l.drop 1) (by rw [e]; exact h2)
   exact plain_of_digit (.inr ⟨by rw [at0_take _ _ _ (by omega)]; exact h1, by rw [at0_take _ _ _ (by omega)]; exact h2⟩)
 | pos h1 h2 h3 =>
   have := hcnt l h1
   exact plain_of_digit (.inl (by rw [at0_take _ _ _ this]; exact h1))
 | name => omega
 | con => omega
 | one h1 h2 =>
   rcases Lx.single_cases (Lx.at0 l 0) with e | e | e | e <;> omega
 | none => omega
theorem toks_plain : ∀ (f p : Nat) (l : List UInt8), ∀ t ∈ (Lx.toks f p l).1, NumPlain t := by
 intro f
 induction f with
 | zero => intro p l t h; simp [Lx.toks] at h
 | succ f ih =>
   intro p l t h
   rw [Lx.toks_step] at h
   by_cases h1 : l.length ≤ Lx.skipC false l
   · rw [if_pos h1] at h; simp at h
   · rw [if_neg h1] at h
     by_cases h2 : (Lx.tokAt (l.drop (Lx.skipC false l))).2 = 0
     · rw [if_pos h2] at h; simp at h
     · rw [if_neg h2] at h
       rcases List.mem_cons.1 h with rfl | h
       · intro hk
         have hw := Lx.way (l.drop (Lx.skipC false l))
         have hk' : (Lx.tokAt (l.drop (Lx.skipC false l))).1 = 2 := hk
         rw [hk'] at hw
         exact way_plain hw
       · exact ih _ _ t h
theorem shift_sim (d : Nat) : ∀ (ts : List Tok), (∀ t ∈ ts, NumPlain t) → All2 (TSim (fun p q => q = p + d)) ts (ts.map (Lx.shift d))
 | [], _ => .nil
 | t :: ts, h => .cons ⟨rfl, rfl, rfl, fun hk => ⟨h t (by simp) hk, h t (by simp) hk⟩, fun _ => rfl⟩ (shift_sim d ts (fun u hu => h u (by simp [hu])))
theorem shift_opens (d : Nat) : ∀ ts : List Tok, opens (ts.map (Lx.shift d)) = opens ts
 | [] => rfl
 | t :: ts => by rw [List.map_cons, opens, opens, shift_opens d ts]; rfl
/-- What is parsed as an expression is read, and an expression, inside another text. -/
theorem inside (s : List UInt8) (x : Expr) (h : exprOf s = .done x) (d : Nat) (ho : s.count 40 < 30) :
 (tk 0 s).2 = none ∧ ∃ n y, (∀ stop f D T, 2 * (tk 0 s).1.length + 2 ≤ f → D ≤ 10 → node stop f D ((tk d s).1 ++ T) = .ok (n, T)) ∧ (∀ f, 31 ≤ f → expr f n = .ok y) ∧
   y.kindN = x.kindN ∧ y.posN = x.posN + d ∧ y.argsL.length = x.argsL.length := by
 unfold exprOf parsed at h
 by_cases hl : 4096 < s.length
 · rw [if_pos hl] at h; cases h
 · rw [if_neg hl] at h
   have et : Lx.toks (s.length + 1) 0 s = tk 0 s := rfl
   rw [et] at h
   have hop : opens (tk 0 s).1 ≤ s.count 40 := Lx.opens_toks _ _ s
   have hpl : ∀ t ∈ (tk 0 s).1, NumPlain t := toks_plain _ _ s
   rw [Lx.tk_shift d s]
   cases hs : tk 0 s with
   | mk ts o =>
     rw [hs] at h hop hpl
     cases o with
     | some q => cases h
     | none =>
       refine ⟨rfl, ?_⟩
       simp only at h hop hpl
       cases hx : onlyExpr s.length ts with
       | error p => rw [hx] at h; cases h
       | ok x' =>
         rw [hx] at h
         simp only [Outcome.done.injEq] at h
         subst h
         unfold onlyExpr at hx
         cases hn : node s.length (2 * ts.length + 2) 0 ts with
         | error p => rw [hn] at hx; cases hx
         | ok r =>
           obtain ⟨n, ts'⟩ := r
           rw [hn] at hx
           simp only at hx
           cases ts' with
           | cons t ts' => cases hx
           | nil =>
             simp only at hx
             have hsim := (node_rest_sim (ρ := fun p q => q = p + d) s.length (s.length + d) rfl (2 * ts.length + 2) 0 ts _ (shift_sim d ts hpl)).1
             rw [hn] at hsim
             cases hm : node (s.length + d) (2 * ts.length + 2) 0 (ts.map (Lx.shift d)) with
             | error p => rw [hm] at hsim; exact hsim.elim
             | ok r' =>
               obtain ⟨m, us'⟩ := r'
               rw [hm] at hsim
               have hsn : Sim (fun p q => q = p + d) n m := hsim.1
               have hus : us' = [] := by
                have := hsim.2
                cases this
                rfl
               subst hus
               have hes := expr_sim 50 n m hsn
               rw [hx] at hes
               cases hy : expr 50 m with
               | error p => rw [hy] at hes; exact hes.elim
               | ok y =>
                 rw [hy] at hes
                 have hse : SimE (fun p q => q = p + d) x' y := hes
                 obtain ⟨a1, a2, a3⟩ := hse.parts
                 have hfit : Fits 30 m := ((node_fits _ _ _ _).1 _ _ hm).le (by rw [shift_opens]; omega)
                 refine ⟨m, y, fun stop f D T hf hD => ?_, fun f hf => ?_, a1, a2, a3⟩
                 · have := ((node_more (s.length + d) stop (2 * ts.length + 2) 0 (ts.map (Lx.shift d))).1 _ _ hm).2.2.2 f D T hf (.inr (by rw [shift_opens]; omega))
                   exact this
                 · rw [expr_fuel 30 f 50 m hfit (by omega) (by omega)]; exact hy
def head1 : List UInt8 := [40, 100, 101, 102, 32, 109, 97, 105, 110, 32, 40, 41, 32]
def head2 : List UInt8 := head1 ++ [40, 114, 101, 32]
end Px
end Go.Proofs.Ytgoacbomphlhjaa
