/-
 Several texts in one: PTk, PSim, PMore, PSumPure, PWrapPure, PWrap.
-/
import Derived.Test.YtpkecbijhckllaaDoorGPure
namespace Go.Proofs.YtpkecbijhckllaaDoor
set_option linter.unusedVariables false
set_option linter.unusedSimpArgs false
namespace Lx
/-- The tokens of a text that stands at a place. -/
def tk (p : Nat) (l : List UInt8) : List Tok × Option Nat := toks (l.length + 1) p l
theorem tk_nil (p : Nat) : tk p [] = ([], none) := rfl
theorem toks_blankstep (f p : Nat) (c : UInt8) (l : List UInt8) (h : blankB c = true) : toks (f + 1) p (c :: l) = toks (f + 1) (p + 1) l := by
 rw [toks_step, toks_step]
 have e : skipC false (c :: l) = skipC false l + 1 := by rw [skipC, if_pos h]
 rw [e, List.length_cons, List.drop_succ_cons]
 have e2 : p + (skipC false l + 1) = p + 1 + skipC false l := by omega
 rw [e2]
 by_cases h1 : l.length ≤ skipC false l
 · rw [if_pos h1, if_pos (by omega)]
 · rw [if_neg h1, if_neg (by omega)]
theorem tk_blank (p : Nat) (c : UInt8) (l : List UInt8) (h : blankB c = true) : tk p (c :: l) = tk (p + 1) l := by
 unfold tk
 rw [List.length_cons, toks_blankstep _ _ _ _ h]
 exact toks_fuel _ _ _ _ (by omega) (by omega)
theorem tk_32 (p : Nat) (l : List UInt8) : tk p (32 :: l) = tk (p + 1) l := tk_blank p 32 l (by decide)
theorem tk_10 (p : Nat) (l : List UInt8) : tk p (10 :: l) = tk (p + 1) l := tk_blank p 10 l (by decide)
/-- One token, told. -/
theorem tk_tok (p : Nat) (t r : List UInt8) (k : Int) (hne : t ≠ []) (hb : blankB (at0 t 0) = false) (hs : (at0 t 0).toNat ≠ 59) (h : tokAt (t ++ r) = (k, t.length)) :
 tk p (t ++ r) = (mkTok p k t :: (tk (p + t.length) r).1, (tk (p + t.length) r).2) := by
 have hl : 0 < t.length := List.length_pos_iff.2 hne
 have e0 : at0 (t ++ r) 0 = at0 t 0 := by unfold at0; rw [List.getD_eq_getElem?_getD, List.getD_eq_getElem?_getD, List.getElem?_append_left hl]
 have hsk : skipC false (t ++ r) = 0 := skip_zero _ (by rw [e0]; exact hb) (by rw [e0]; exact hs)
 unfold tk
 rw [toks_step, hsk, List.drop_zero, h]
 have hz : ¬ (t ++ r).length ≤ 0 := by rw [List.length_append]; omega
 rw [if_neg hz, if_neg (by show ¬ t.length = 0; omega), List.take_left, List.drop_left]
 simp only [Nat.add_zero]
 rw [toks_fuel (t ++ r).length (r.length + 1) (p + t.length) r (by rw [List.length_append]; omega) (by omega)]
/-- A text that is a token of a kind, whatever stands behind it that goes on with no word. -/
def Ends (r : List UInt8) : Prop := wordB (at0 r 0) = false ∧ (at0 r 0).toNat ≠ 62
theorem ends_nil : Ends [] := ⟨by decide, by decide⟩
theorem ends_32 (r : List UInt8) : Ends (32 :: r) := ⟨by rfl, by show (32 : UInt8).toNat ≠ 62; decide⟩
theorem ends_41 (r : List UInt8) : Ends (41 :: r) := ⟨by rfl, by show (41 : UInt8).toNat ≠ 62; decide⟩
theorem ends_10 (r : List UInt8) : Ends (10 :: r) := ⟨by rfl, by show (10 : UInt8).toNat ≠ 62; decide⟩
structure IsTok (k : Int) (t : List UInt8) : Prop where
 ne : t ≠ []
 blank : blankB (at0 t 0) = false
 note : (at0 t 0).toNat ≠ 59
 is : ∀ r, Ends r → tokAt (t ++ r) = (k, t.length)
theorem tk_word (p : Nat) {k : Int} {t r : List UInt8} (h : IsTok k t) (hr : Ends r) : tk p (t ++ r) = (mkTok p k t :: (tk (p + t.length) r).1, (tk (p + t.length) r).2) :=
 tk_tok p t r k h.ne h.blank h.note (h.is r hr)
theorem tk_open (p : Nat) (r : List UInt8) : tk p (40 :: r) = (mkTok p 0 [40] :: (tk (p + 1) r).1, (tk (p + 1) r).2) :=
 tk_tok p [40] r 0 (by simp) (by decide) (by decide) rfl
theorem tk_close (p : Nat) (r : List UInt8) : tk p (41 :: r) = (mkTok p 1 [41] :: (tk (p + 1) r).1, (tk (p + 1) r).2) :=
 tk_tok p [41] r 1 (by simp) (by decide) (by decide) rfl
theorem at0_app (t r : List UInt8) (j : Nat) (h : j < t.length) : at0 (t ++ r) j = at0 t j := by
 unfold at0; rw [List.getD_eq_getElem?_getD, List.getD_eq_getElem?_getD, List.getElem?_append_left h]
theorem at0_app_end (t r : List UInt8) : at0 (t ++ r) t.length = at0 r 0 := by
 unfold at0; rw [List.getD_eq_getElem?_getD, List.getD_eq_getElem?_getD, List.getElem?_append_right (Nat.le_refl _), Nat.sub_self]
theorem cnt_app (p : UInt8 → Bool) (t r : List UInt8) (h : ∀ c ∈ t, p c = true) (hr : p (at0 r 0) = false) : cnt p (t ++ r) = t.length := by
 induction t with
 | nil =>
  cases r with
  | nil => rfl
  | cons c r => 
   have : p c = false := hr
   rw [List.nil_append, cnt_cons, if_neg (by simp [this])]; rfl
 | cons c t ih =>
  rw [List.cons_append, cnt_cons, if_pos (h c (by simp)), ih (fun d hd => h d (by simp [hd])), List.length_cons]
theorem word_digit {c : UInt8} (h : wordB c = false) : digitB c = false := by
 unfold wordB at h; simp only [Bool.or_eq_false_iff] at h; exact h.1.2
/-- A number's text is one token. -/
theorem isTok_digits (D : List UInt8) (hd : ∀ c ∈ D, digitB c = true) (hne : D ≠ []) (h18 : D.length ≤ 18) : IsTok 2 D := by
 have hl : 0 < D.length := List.length_pos_iff.2 hne
 have h0 := hd _ (at0_mem D 0 hl)
 obtain ⟨hb, hs, h45, _⟩ := digit_not_blank _ h0
 refine ⟨hne, hb, hs, fun r hr => ?_⟩
 have hc := cnt_app digitB D r hd (word_digit hr.1)
 unfold tokAt num
 simp only []
 rw [at0_app D r 0 hl, if_neg h45, if_pos h0, hc, Nat.zero_add, at0_app_end, hr.1, if_neg (by simp; omega)]
theorem isTok_neg (D : List UInt8) (hd : ∀ c ∈ D, digitB c = true) (hne : D ≠ []) (h18 : D.length ≤ 18) : IsTok 2 (45 :: D) := by
 have hl : 0 < D.length := List.length_pos_iff.2 hne
 have h0 := hd _ (at0_mem D 0 hl)
 obtain ⟨_, _, _, h62⟩ := digit_not_blank _ h0
 refine ⟨by simp, by show blankB 45 = false; decide, by show (45 : UInt8).toNat ≠ 59; decide, fun r hr => ?_⟩
 have hc := cnt_app digitB D r hd (word_digit hr.1)
 have e1 : at0 (45 :: D ++ r) 1 = at0 D 0 := by rw [List.cons_append]; show at0 (D ++ r) 0 = _; exact at0_app D r 0 hl
 have ed : (45 :: D ++ r).drop 1 = D ++ r := rfl
 have ee : at0 (45 :: D ++ r) (1 + D.length) = at0 r 0 := by have := at0_app_end (45 :: D) r; rwa [List.length_cons, Nat.add_comm] at this
 have e0 : (at0 (45 :: D ++ r) 0).toNat = 45 := rfl
 unfold tokAt num
 simp only []
 rw [if_pos e0, e1, if_neg h62, if_pos h0, ed, hc, ee, hr.1, if_neg (by simp; omega), List.length_cons, Nat.add_comm]
theorem dec_len_lt (k : Nat) : ∀ u, u < 10 ^ (k + 1) → (Lib.decDigits u).length ≤ k + 1 := by
 induction k with
 | zero => intro u h; rw [Lib.decDigits, dif_pos (by omega)]; simp
 | succ k ih =>
  intro u h
  rw [Lib.decDigits]
  split
  · simp
  · rw [List.length_append, List.length_singleton]
    have := ih (u / 10) (by rw [Nat.pow_succ] at h; omega)
    omega
theorem itoa_split (n : Int) : Lib.itoa n = if n < 0 then 45 :: Lib.decDigits n.natAbs else Lib.decDigits n.natAbs := by
 unfold Lib.itoa
 by_cases h : n < 0
 · rw [if_pos h, if_pos h]
 · rw [if_neg h, if_neg h]; congr 1; omega
theorem isTok_itoa (n : Int) (h0 : -1000000000000000000 < n) (h1 : n < 1000000000000000000) : IsTok 2 (Lib.itoa n) := by
 have hl := dec_len_lt 17 n.natAbs (by omega)
 rw [itoa_split]
 split
 · exact isTok_neg _ (dec_digits _) (dec_ne _) hl
 · exact isTok_digits _ (dec_digits _) (dec_ne _) hl
theorem numV_itoa (n : Int) : numV (Lib.itoa n) = n := by
 rw [itoa_split]
 unfold numV
 split
 · rw [if_pos (by rfl)]
   show -(natV (Lib.decDigits n.natAbs) 0 : Int) = n
   rw [dec_natV]; omega
 · have hd := dec_digits n.natAbs _ (at0_mem _ 0 (List.length_pos_iff.2 (dec_ne n.natAbs)))
   rw [if_neg (digit_not_blank _ hd).2.2.1, dec_natV]; omega
theorem mkTok_itoa (p : Nat) (n : Int) : mkTok p 2 (Lib.itoa n) = ⟨2, p, Lib.itoa n, n⟩ := by
 unfold mkTok; rw [if_pos rfl, numV_itoa]
/-- A symbol that is a token alone. -/
theorem isTok_single (c : UInt8) (hb : blankB c = false) (hs : c.toNat ≠ 59) (hd : digitB c = false) (hsm : smallB c = false) (hg : greatB c = false) (h : ¬ single c < 0) : IsTok (single c) [c] := by
 refine ⟨by simp, hb, hs, fun r hr => ?_⟩
 have e0 : at0 ([c] ++ r) 0 = c := rfl
 have e1 : at0 ([c] ++ r) 1 = at0 r 0 := rfl
 have ho : one c = (single c, 1) := by unfold one; rw [if_neg h]
 unfold tokAt
 simp only []
 rw [e0, e1]
 by_cases h45 : c.toNat = 45
 · rw [if_pos h45, if_neg hr.2, if_neg (by rw [word_digit hr.1]; decide), ho]; rfl
 · rw [if_neg h45, if_neg (by simp [hd]), if_neg (by simp [hsm]), if_neg (by simp [hg]), ho]; rfl
/-- A word, by its first letter. -/
theorem isTok_small (c : UInt8) (t : List UInt8) (hc : smallB c = true) (h : ∀ d ∈ t, wordB d = true) : IsTok 3 (c :: t) := by
 have hb : 97 ≤ c.toNat ∧ c.toNat ≤ 122 := by simpa [smallB] using hc
 refine ⟨by simp, ?_, ?_, fun r hr => ?_⟩
 · show blankB c = false; unfold blankB; simp; omega
 · show c.toNat ≠ 59; omega
 · have e0 : at0 (c :: t ++ r) 0 = c := rfl
   have ed : (c :: t ++ r).drop 1 = t ++ r := rfl
   have hdg : digitB c = false := by unfold digitB; simp; omega
   unfold tokAt
   simp only []
   rw [e0, ed, if_neg (by omega), if_neg (by simp [hdg]), if_pos hc, cnt_app wordB t r h hr.1]; rfl
theorem isTok_great (c : UInt8) (t : List UInt8) (hc : greatB c = true) (h : ∀ d ∈ t, wordB d = true) : IsTok 4 (c :: t) := by
 have hb : 65 ≤ c.toNat ∧ c.toNat ≤ 90 := by simpa [greatB] using hc
 refine ⟨by simp, ?_, ?_, fun r hr => ?_⟩
 · show blankB c = false; unfold blankB; simp; omega
 · show c.toNat ≠ 59; omega
 · have e0 : at0 (c :: t ++ r) 0 = c := rfl
   have ed : (c :: t ++ r).drop 1 = t ++ r := rfl
   have hdg : digitB c = false := by unfold digitB; simp; omega
   have hsm : smallB c = false := by unfold smallB; simp; omega
   unfold tokAt
   simp only []
   rw [e0, ed, if_neg (by omega), if_neg (by simp [hdg]), if_neg (by simp [hsm]), if_pos hc, cnt_app wordB t r h hr.1]; rfl
theorem isTok_plus : IsTok 5 [43] := isTok_single 43 (by decide) (by decide) (by decide) (by decide) (by decide) (by decide)
end Lx
end Go.Proofs.YtpkecbijhckllaaDoor
namespace Go.Proofs.YtpkecbijhckllaaDoor
set_option linter.unusedVariables false
set_option linter.unusedSimpArgs false
namespace Px
open Lx (Tok)
/-- A text without a meaning of its own. -/
def Plain (s : List UInt8) : Prop :=
 takesOf s = 0 ∧ s ≠ [100, 97, 116, 97] ∧ s ≠ [100, 101, 102] ∧ s ≠ [102, 110] ∧ s ≠ [108, 101, 116] ∧ s ≠ [99, 97, 115, 101] ∧ s ≠ [45, 62] ∧ s ≠ [95]
structure TSim (ρ : Nat → Nat → Prop) (t u : Tok) : Prop where
 kind : u.kind = t.kind
 pos : ρ t.pos u.pos
 int : u.int = t.int
 num : t.kind = 2 → Plain t.text ∧ Plain u.text
 text : t.kind ≠ 2 → u.text = t.text
inductive All2 {α β : Type} (S : α → β → Prop) : List α → List β → Prop
 | nil : All2 S [] []
 | cons {a : α} {b : β} {l : List α} {m : List β} : S a b → All2 S l m → All2 S (a :: l) (b :: m)
theorem All2.len {α β : Type} {S : α → β → Prop} : ∀ {l : List α} {m : List β}, All2 S l m → m.length = l.length
 | _, _, .nil => rfl
 | _, _, .cons _ h => by rw [List.length_cons, List.length_cons, h.len]
theorem All2.mono {α β : Type} {S S' : α → β → Prop} (hs : ∀ a b, S a b → S' a b) : ∀ {l : List α} {m : List β}, All2 S l m → All2 S' l m
 | _, _, .nil => .nil
 | _, _, .cons h1 h => .cons (hs _ _ h1) (h.mono hs)
theorem All2.eq {α : Type} : ∀ {l m : List α}, All2 (fun a b => b = a) l m → m = l
 | _, _, .nil => rfl
 | _, _, .cons h1 h => by rw [h1, h.eq]
theorem All2.refl {α : Type} {S : α → α → Prop} (h : ∀ a, S a a) : ∀ l : List α, All2 S l l
 | [] => .nil
 | a :: l => .cons (h a) (All2.refl h l)
theorem All2.map {α β γ δ : Type} {S : α → β → Prop} {S' : γ → δ → Prop} (f : α → γ) (g : β → δ) (hs : ∀ a b, S a b → S' (f a) (g b)) : ∀ {l : List α} {m : List β}, All2 S l m → All2 S' (l.map f) (m.map g)
 | _, _, .nil => .nil
 | _, _, .cons h1 h => .cons (hs _ _ h1) (h.map f g hs)
theorem All2.app {α β : Type} {S : α → β → Prop} : ∀ {l : List α} {m : List β} {l' : List α} {m' : List β}, All2 S l m → All2 S l' m' → All2 S (l ++ l') (m ++ m')
 | _, _, _, _, .nil, h => h
 | _, _, _, _, .cons h1 h, h' => .cons h1 (h.app h')
theorem All2.drop {α β : Type} {S : α → β → Prop} : ∀ (k : Nat) {l : List α} {m : List β}, All2 S l m → All2 S (l.drop k) (m.drop k)
 | 0, _, _, h => h
 | _ + 1, _, _, .nil => .nil
 | k + 1, _, _, .cons _ h => All2.drop k h
theorem All2.tail {α β : Type} {S : α → β → Prop} {l : List α} {m : List β} (h : All2 S l m) : All2 S l.tail m.tail := by
 cases h with
 | nil => exact .nil
 | cons _ h => exact h
theorem All2.getD {α β : Type} {S : α → β → Prop} (a : α) (b : β) (hab : S a b) : ∀ (k : Nat) {l : List α} {m : List β}, All2 S l m → S (l.getD k a) (m.getD k b)
 | _, _, _, .nil => by simpa using hab
 | 0, _, _, .cons h _ => by simpa using h
 | k + 1, _, _, .cons _ h => by simpa using All2.getD a b hab k h
theorem All2.headD {α β : Type} {S : α → β → Prop} {a : α} {b : β} (hab : S a b) {l : List α} {m : List β} (h : All2 S l m) : S (l.headD a) (m.headD b) := by
 cases h with
 | nil => exact hab
 | cons h _ => exact h
theorem All2.get {α β : Type} {S : α → β → Prop} : ∀ {l : List α} {m : List β}, All2 S l m → ∀ k : Nat, (l[k]? = none ∧ m[k]? = none) ∨ ∃ a b, l[k]? = some a ∧ m[k]? = some b ∧ S a b
 | _, _, .nil, k => .inl ⟨by simp, by simp⟩
 | _, _, .cons h1 h, 0 => .inr ⟨_, _, rfl, rfl, h1⟩
 | _, _, .cons _ h, k + 1 => by simpa using h.get k
inductive Sim (ρ : Nat → Nat → Prop) : Node → Node → Prop
 | mk (t u : Tok) (l m : List Node) (k : Nat) : TSim ρ t u → (t.kind = 2 → k = 0) → All2 (Sim ρ) l m → Sim ρ (.mk t l k) (.mk u m k)
variable {ρ : Nat → Nat → Prop}
theorem Sim.tok {n m : Node} (h : Sim ρ n m) : TSim ρ n.tok m.tok := by cases h with | mk t u l m k h1 h2 h3 => exact h1
theorem Sim.takes {n m : Node} (h : Sim ρ n m) : m.takes = n.takes := by cases h with | mk t u l m k h1 h2 h3 => rfl
theorem Sim.num {n m : Node} (h : Sim ρ n m) (hk : n.tok.kind = 2) : n.takes = 0 := by cases h with | mk t u l m k h1 h2 h3 => exact h2 hk
theorem Sim.kids {n m : Node} (h : Sim ρ n m) : All2 (Sim ρ) n.list m.list := by cases h with | mk t u l m k h1 h2 h3 => exact h3
theorem Sim.pos {n m : Node} (h : Sim ρ n m) : ρ n.pos m.pos := h.tok.pos
theorem Sim.text {n m : Node} (h : Sim ρ n m) (hk : n.tok.kind ≠ 2) : m.text = n.text := h.tok.text hk
theorem Sim.isList {n m : Node} (h : Sim ρ n m) : isListB m = isListB n := by unfold isListB; rw [h.tok.kind]
theorem Sim.isCon {n m : Node} (h : Sim ρ n m) : isConB m = isConB n := by unfold isConB; rw [h.tok.kind]
theorem Sim.isInt {n m : Node} (h : Sim ρ n m) : isIntB m = isIntB n := by unfold isIntB; rw [h.tok.kind]
theorem Sim.isName {n m : Node} (h : Sim ρ n m) : isNameB m = isNameB n := by
 unfold isNameB
 rw [h.tok.kind, h.takes]
 by_cases hk : n.tok.kind = 2
 · rw [hk]; simp
 · rw [h.text hk]
theorem Sim.word {n m : Node} (h : Sim ρ n m) : word m = word n ∨ Plain (word n) ∧ Plain (word m) := by
 have hk := h.kids
 unfold Px.word
 revert hk
 generalize n.list = l
 generalize m.list = l'
 intro hk
 cases hk with
 | nil => exact .inl rfl
 | @cons a b l l' h1 h2 =>
  simp only []
  rw [h1.isList]
  by_cases hl : isListB a = true
  · rw [if_pos hl, if_pos hl]; exact .inl rfl
  · rw [if_neg hl, if_neg hl]
    by_cases h2 : a.tok.kind = 2
    · exact .inr (h1.tok.num h2)
    · exact .inl (h1.text h2)
theorem word_iff {a b : List UInt8} (h : b = a ∨ Plain a ∧ Plain b) (s : List UInt8) (hs : ∀ x, Plain x → x ≠ s) : (b = s) = (a = s) := by
 rcases h with rfl | ⟨h1, h2⟩
 · rfl
 · exact propext ⟨fun h => absurd h (hs _ h2), fun h => absurd h (hs _ h1)⟩
/-- Results alike. -/
def RR {α β : Type} (ρ : Nat → Nat → Prop) (S : α → β → Prop) : R α → R β → Prop
 | .ok x, .ok y => S x y
 | .error p, .error q => ρ p q
 | _, _ => False
theorem hold_sim {n m : Node} (h : Sim ρ n m) (a b : Nat) : RR ρ (fun _ _ => True) (hold n a b) (hold m a b) := by
 unfold hold
 rw [h.kids.len]
 by_cases h1 : n.list.length < a
 · rw [if_pos h1, if_pos h1]; exact h.pos
 · rw [if_neg h1, if_neg h1]
   rcases h.kids.get b with ⟨e1, e2⟩ | ⟨x, y, e1, e2, e3⟩
   · rw [e1, e2]; trivial
   · rw [e1, e2]; exact e3.pos
theorem nodes_sim {n m : Node} (h : Sim ρ n m) (a b : Nat) : RR ρ (All2 (Sim ρ)) (nodes n a b) (nodes m a b) := by
 unfold nodes
 rw [h.isList]
 by_cases h1 : isListB n = true
 · rw [if_pos h1, if_pos h1]
   have hh := hold_sim h a b
   cases e1 : hold n a b <;> cases e2 : hold m a b <;> rw [e1, e2] at hh <;> first | exact hh | exact hh.elim | exact h.kids
 · rw [if_neg h1, if_neg h1]; exact h.pos
theorem each_sim {α β : Type} {S : α → β → Prop} {f : Node → R α} {g : Node → R β} (hf : ∀ a b, Sim ρ a b → RR ρ S (f a) (g b)) : ∀ {l m : List Node}, All2 (Sim ρ) l m → RR ρ (All2 S) (each f l) (each g m) := by
 intro l
 induction l with
 | nil => intro m h; cases h; exact .nil
 | cons a l ih =>
  intro m h
  cases h with
  | @cons _ b _ m h1 h2 =>
   have hh := hf a b h1
   have hi := ih h2
   simp only [each]
   cases e1 : f a <;> cases e2 : g b <;> rw [e1, e2] at hh <;> try exact hh.elim
   · exact hh
   · simp only []
     cases e3 : each f l <;> cases e4 : each g m <;> rw [e3, e4] at hi <;> try exact hi.elim
     · exact hi
     · exact .cons hh hi
theorem name_sim {n m : Node} (h : Sim ρ n m) : RR ρ (fun a b => b = a) (name n) (name m) := by
 unfold name
 rw [h.isName]
 by_cases h1 : isNameB n = true
 · rw [if_pos h1, if_pos h1]
   refine h.text ?_
   unfold isNameB at h1; simp only [Bool.and_eq_true, beq_iff_eq] at h1
   intro e; rw [e] at h1; exact absurd h1.1.2 (by decide)
 · rw [if_neg h1, if_neg h1]; exact h.pos
theorem conName_sim {n m : Node} (h : Sim ρ n m) : RR ρ (fun a b => b = a) (conName n) (conName m) := by
 unfold conName
 rw [h.isCon]
 by_cases h1 : isConB n = true
 · rw [if_pos h1, if_pos h1]
   refine h.text ?_
   unfold isConB at h1; simp only [beq_iff_eq] at h1
   intro e; rw [e] at h1; exact absurd h1 (by decide)
 · rw [if_neg h1, if_neg h1]; exact h.pos
theorem names_sim {n m : Node} (h : Sim ρ n m) (a : Nat) : RR ρ (fun a b => b = a) (names n a) (names m a) := by
 unfold names
 have hh := nodes_sim h a 8
 cases e1 : nodes n a 8 <;> cases e2 : nodes m a 8 <;> rw [e1, e2] at hh <;> try exact hh.elim
 · exact hh
 · rename_i l l'
   simp only []
   have hn := each_sim (S := fun a b => b = a) (fun a b h => name_sim h) hh
   cases e3 : each name l <;> cases e4 : each name l' <;> rw [e3, e4] at hn <;> try exact hn.elim
   · exact hn
   · exact hn.eq
inductive SimT (ρ : Nat → Nat → Prop) : TypeE → TypeE → Prop
 | mk (p q : Nat) (nm : List UInt8) (l m : List TypeE) : ρ p q → All2 (SimT ρ) l m → SimT ρ (.mk p nm l) (.mk q nm m)
inductive SimP (ρ : Nat → Nat → Prop) : Pat → Pat → Prop
 | mk (k p q : Nat) (nm : List UInt8) (i : Int) (l m : List Pat) : ρ p q → All2 (SimP ρ) l m → SimP ρ (.mk k p nm i l) (.mk k q nm i m)
inductive SimE (ρ : Nat → Nat → Prop) : Expr → Expr → Prop
 | mk (k p q : Nat) (nm : List UInt8) (i : Int) (ns : List (List UInt8)) (xs ys : List Expr) (al bl : List (Pat × Expr)) : ρ p q → All2 (SimE ρ) xs ys →
  All2 (SimP ρ) (al.map (·.1)) (bl.map (·.1)) → All2 (SimE ρ) (al.map (·.2)) (bl.map (·.2)) → SimE ρ (.mk k p nm i ns xs al) (.mk k q nm i ns ys bl)
theorem kind_ne {n : Node} (h : isIntB n = false) : n.tok.kind ≠ 2 := by
 unfold isIntB at h; simpa using h
theorem kind_con {n : Node} (h : isConB n = true) : n.tok.kind ≠ 2 := by
 unfold isConB at h; simp only [beq_iff_eq] at h; intro e; rw [e] at h; exact absurd h (by decide)
theorem kind_name {n : Node} (h : isNameB n = true) : n.tok.kind ≠ 2 := by
 unfold isNameB at h; simp only [Bool.and_eq_true, beq_iff_eq] at h
 intro e; rw [e] at h; exact absurd h.1.2 (by decide)
theorem typeE_sim : ∀ (f : Nat) {n m : Node}, Sim ρ n m → RR ρ (SimT ρ) (typeE f n) (typeE f m) := by
 intro f
 induction f with
 | zero => intro n m h; exact h.pos
 | succ f ih =>
  intro n m h
  rw [typeE, typeE, h.isCon, h.isName]
  by_cases h1 : (isConB n || isNameB n) = true
  · rw [if_pos h1, if_pos h1]
    have ht : m.text = n.text := by
     rw [Bool.or_eq_true] at h1
     rcases h1 with h1 | h1
     · exact h.text (kind_con h1)
     · exact h.text (kind_name h1)
    rw [ht]; exact .mk _ _ _ _ _ h.pos .nil
  · rw [if_neg h1, if_neg h1]
    have hh := nodes_sim h 2 9
    cases e1 : nodes n 2 9 <;> cases e2 : nodes m 2 9 <;> rw [e1, e2] at hh <;> try exact hh.elim
    · exact hh
    · rename_i l l'
      simp only []
      have hw : (word m = [45, 62]) = (word n = [45, 62]) := word_iff h.word _ (fun x hx => hx.2.2.2.2.2.2.1)
      have key : RR ρ (fun a b => b = a) (if word n = [45, 62] then (match hold n 3 3 with | .error p => .error p | .ok _ => .ok ([45, 62] : List UInt8)) else conName (l.headD n)) (if word m = [45, 62] then (match hold m 3 3 with | .error p => .error p | .ok _ => .ok ([45, 62] : List UInt8)) else conName (l'.headD m)) := by
       by_cases hwn : word n = [45, 62]
       · rw [if_pos hwn, if_pos (hw.mpr hwn)]
         have h3 := hold_sim h 3 3
         cases e3 : hold n 3 3 <;> cases e4 : hold m 3 3 <;> rw [e3, e4] at h3 <;> try exact h3.elim
         · exact h3
         · exact rfl
       · rw [if_neg hwn, if_neg (fun e => hwn (hw.mp e))]
         exact conName_sim (All2.headD h hh)
      revert key
      generalize (if word n = [45, 62] then (match hold n 3 3 with | .error p => .error p | .ok _ => .ok ([45, 62] : List UInt8)) else conName (l.headD n)) = A
      generalize (if word m = [45, 62] then (match hold m 3 3 with | .error p => .error p | .ok _ => .ok ([45, 62] : List UInt8)) else conName (l'.headD m)) = B
      intro key
      cases A <;> cases B <;> try exact key.elim
      · exact key
      · obtain rfl := key
        simp only []
        have hn := each_sim (S := SimT ρ) (fun a b h => ih h) hh.tail
        cases e3 : each (typeE f) l.tail <;> cases e4 : each (typeE f) l'.tail <;> rw [e3, e4] at hn <;> try exact hn.elim
        · exact hn
        · exact .mk _ _ _ _ _ h.pos hn
theorem pat_sim : ∀ (f : Nat) {n m : Node}, Sim ρ n m → RR ρ (SimP ρ) (pat f n) (pat f m) := by
 intro f
 induction f with
 | zero => intro n m h; exact h.pos
 | succ f ih =>
  intro n m h
  rw [pat, pat, h.isList, h.isInt, h.isCon, h.isName, h.tok.int]
  by_cases h1 : isListB n = true
  · rw [if_pos h1, if_pos h1]
    have hh := nodes_sim h 2 9
    cases e1 : nodes n 2 9 <;> cases e2 : nodes m 2 9 <;> rw [e1, e2] at hh <;> try exact hh.elim
    · exact hh
    · rename_i l l'
      simp only []
      have key := conName_sim (All2.headD h hh)
      cases eA : conName (l.headD n) <;> cases eB : conName (l'.headD m) <;> rw [eA, eB] at key <;> try exact key.elim
      · exact key
      · obtain rfl := key
        simp only []
        have hn := each_sim (S := SimP ρ) (fun a b h => ih h) hh.tail
        cases e3 : each (pat f) l.tail <;> cases e4 : each (pat f) l'.tail <;> rw [e3, e4] at hn <;> try exact hn.elim
        · exact hn
        · exact .mk _ _ _ _ _ _ _ h.pos hn
  · rw [if_neg h1, if_neg h1]
    by_cases h2 : isIntB n = true
    · rw [if_pos h2, if_pos h2]; exact .mk _ _ _ _ _ _ _ h.pos .nil
    · rw [if_neg h2, if_neg h2, h.text (kind_ne (by simpa using h2))]
      by_cases h3 : isConB n = true
      · rw [if_pos h3, if_pos h3]; exact .mk _ _ _ _ _ _ _ h.pos .nil
      · rw [if_neg h3, if_neg h3]
        by_cases h4 : isNameB n = true
        · rw [if_pos h4, if_pos h4]; exact .mk _ _ _ _ _ _ _ h.pos .nil
        · rw [if_neg h4, if_neg h4]
          by_cases h5 : n.text = [95]
          · rw [if_pos h5, if_pos h5]; exact .mk _ _ _ _ _ _ _ h.pos .nil
          · rw [if_neg h5, if_neg h5]; exact h.pos
def PairS (ρ : Nat → Nat → Prop) (a b : List UInt8 × Expr) : Prop := b.1 = a.1 ∧ SimE ρ a.2 b.2
def AltS (ρ : Nat → Nat → Prop) (a b : Pat × Expr) : Prop := SimP ρ a.1 b.1 ∧ SimE ρ a.2 b.2
section
variable {ex : Node → R Expr} (hex : ∀ a b, Sim ρ a b → RR ρ (SimE ρ) (ex a) (ex b))
include hex
theorem pair_sim {n m : Node} (h : Sim ρ n m) : RR ρ (PairS ρ) (pair ex n) (pair ex m) := by
 unfold pair
 have hh := nodes_sim h 2 2
 cases e1 : nodes n 2 2 <;> cases e2 : nodes m 2 2 <;> rw [e1, e2] at hh <;> try exact hh.elim
 · exact hh
 · rename_i l l'
   simp only []
   have key := name_sim (All2.headD h hh)
   cases eA : name (l.headD n) <;> cases eB : name (l'.headD m) <;> rw [eA, eB] at key <;> try exact key.elim
   · exact key
   · obtain rfl := key
     simp only []
     have k2 := hex _ _ (All2.getD n m h 1 hh)
     cases eC : ex (l.getD 1 n) <;> cases eD : ex (l'.getD 1 m) <;> rw [eC, eD] at k2 <;> try exact k2.elim
     · exact k2
     · exact ⟨rfl, k2⟩
theorem alt_sim (f : Nat) {n m : Node} (h : Sim ρ n m) : RR ρ (AltS ρ) (alt f ex n) (alt f ex m) := by
 unfold alt
 have hh := nodes_sim h 2 2
 cases e1 : nodes n 2 2 <;> cases e2 : nodes m 2 2 <;> rw [e1, e2] at hh <;> try exact hh.elim
 · exact hh
 · rename_i l l'
   simp only []
   have key := pat_sim f (All2.headD h hh)
   cases eA : pat f (l.headD n) <;> cases eB : pat f (l'.headD m) <;> rw [eA, eB] at key <;> try exact key.elim
   · exact key
   · simp only []
     have k2 := hex _ _ (All2.getD n m h 1 hh)
     cases eC : ex (l.getD 1 n) <;> cases eD : ex (l'.getD 1 m) <;> rw [eC, eD] at k2 <;> try exact k2.elim
     · exact k2
     · exact ⟨key, k2⟩
theorem fn_sim {n m : Node} (h : Sim ρ n m) : RR ρ (SimE ρ) (fnExpr ex n) (fnExpr ex m) := by
 unfold fnExpr
 have hh := nodes_sim h 3 3
 cases e1 : nodes n 3 3 <;> cases e2 : nodes m 3 3 <;> rw [e1, e2] at hh <;> try exact hh.elim
 · exact hh
 · rename_i l l'
   simp only []
   have key := names_sim (All2.getD n m h 1 hh) 1
   cases eA : names (l.getD 1 n) 1 <;> cases eB : names (l'.getD 1 m) 1 <;> rw [eA, eB] at key <;> try exact key.elim
   · exact key
   · obtain rfl := key
     simp only []
     have k2 := hex _ _ (All2.getD n m h 2 hh)
     cases eC : ex (l.getD 2 n) <;> cases eD : ex (l'.getD 2 m) <;> rw [eC, eD] at k2 <;> try exact k2.elim
     · exact k2
     · exact .mk _ _ _ _ _ _ _ _ _ _ h.pos (.cons k2 .nil) .nil .nil
theorem let_sim {n m : Node} (h : Sim ρ n m) : RR ρ (SimE ρ) (letExpr ex n) (letExpr ex m) := by
 unfold letExpr
 have hh := nodes_sim h 3 3
 cases e1 : nodes n 3 3 <;> cases e2 : nodes m 3 3 <;> rw [e1, e2] at hh <;> try exact hh.elim
 · exact hh
 · rename_i l l'
   simp only []
   have key := nodes_sim (All2.getD n m h 1 hh) 1 8
   cases eA : nodes (l.getD 1 n) 1 8 <;> cases eB : nodes (l'.getD 1 m) 1 8 <;> rw [eA, eB] at key <;> try exact key.elim
   · exact key
   · rename_i ps ps'
     simp only []
     have hb := each_sim (S := PairS ρ) (fun a b h => pair_sim hex h) key
     cases eE : each (pair ex) ps <;> cases eF : each (pair ex) ps' <;> rw [eE, eF] at hb <;> try exact hb.elim
     · exact hb
     · rename_i bs bs'
       simp only []
       have k2 := hex _ _ (All2.getD n m h 2 hh)
       cases eC : ex (l.getD 2 n) <;> cases eD : ex (l'.getD 2 m) <;> rw [eC, eD] at k2 <;> try exact k2.elim
       · exact k2
       · have e : bs'.map (·.1) = bs.map (·.1) := (hb.map (S' := fun a b => b = a) (·.1) (·.1) (fun a b h => h.1)).eq
         have e2 : All2 (SimE ρ) (bs.map (·.2)) (bs'.map (·.2)) := hb.map (·.2) (·.2) (fun a b h => h.2)
         have e3 : All2 (SimE ρ) [_] [_] := .cons k2 .nil
         simp only [RR]
         rw [e]
         exact .mk _ _ _ _ _ _ _ _ _ _ h.pos (e2.app e3) .nil .nil
theorem case_sim (f : Nat) {n m : Node} (h : Sim ρ n m) : RR ρ (SimE ρ) (caseExpr f ex n) (caseExpr f ex m) := by
 unfold caseExpr
 have hh := nodes_sim h 3 18
 cases e1 : nodes n 3 18 <;> cases e2 : nodes m 3 18 <;> rw [e1, e2] at hh <;> try exact hh.elim
 · exact hh
 · rename_i l l'
   simp only []
   have k2 := hex _ _ (All2.getD n m h 1 hh)
   cases eC : ex (l.getD 1 n) <;> cases eD : ex (l'.getD 1 m) <;> rw [eC, eD] at k2 <;> try exact k2.elim
   · exact k2
   · simp only []
     have hb := each_sim (S := AltS ρ) (fun a b h => alt_sim hex f h) (hh.drop 2)
     cases eE : each (alt f ex) (l.drop 2) <;> cases eF : each (alt f ex) (l'.drop 2) <;> rw [eE, eF] at hb <;> try exact hb.elim
     · exact hb
     · exact .mk _ _ _ _ _ _ _ _ _ _ h.pos (.cons k2 .nil) (hb.map _ _ (fun a b h => h.1)) (hb.map _ _ (fun a b h => h.2))
theorem plain_sim {n m : Node} (h : Sim ρ n m) : RR ρ (SimE ρ) (plainExpr ex n) (plainExpr ex m) := by
 unfold plainExpr
 have hh := nodes_sim h 2 9
 cases e1 : nodes n 2 9 <;> cases e2 : nodes m 2 9 <;> rw [e1, e2] at hh <;> try exact hh.elim
 · exact hh
 · rename_i l l'
   have hf := All2.headD h hh
   simp only []
   generalize l.headD n = x at hf ⊢
   generalize l'.headD m = y at hf ⊢
   rw [hf.takes, hf.isCon]
   by_cases h1 : 0 < x.takes
   · rw [if_pos h1, if_pos h1, hf.text (fun e => by have := hf.num e; omega)]
     have h3 := hold_sim h (1 + x.takes) (1 + x.takes)
     cases e3 : hold n (1 + x.takes) (1 + x.takes) <;> cases e4 : hold m (1 + x.takes) (1 + x.takes) <;> rw [e3, e4] at h3 <;> try exact h3.elim
     · exact h3
     · simp only []
       have hb := each_sim (S := SimE ρ) hex hh.tail
       cases eE : each ex l.tail <;> cases eF : each ex l'.tail <;> rw [eE, eF] at hb <;> try exact hb.elim
       · exact hb
       · exact .mk _ _ _ _ _ _ _ _ _ _ h.pos hb .nil .nil
   · rw [if_neg h1, if_neg h1]
     by_cases h2 : isConB x = true
     · rw [if_pos h2, if_pos h2, hf.text (kind_con h2)]
       have hb := each_sim (S := SimE ρ) hex hh.tail
       cases eE : each ex l.tail <;> cases eF : each ex l'.tail <;> rw [eE, eF] at hb <;> try exact hb.elim
       · exact hb
       · exact .mk _ _ _ _ _ _ _ _ _ _ h.pos hb .nil .nil
     · rw [if_neg h2, if_neg h2]
       have hb := each_sim (S := SimE ρ) hex hh
       cases eE : each ex l <;> cases eF : each ex l' <;> rw [eE, eF] at hb <;> try exact hb.elim
       · exact hb
       · exact .mk _ _ _ _ _ _ _ _ _ _ h.pos hb .nil .nil
theorem list_sim (f : Nat) {n m : Node} (h : Sim ρ n m) : RR ρ (SimE ρ) (listExpr f ex n) (listExpr f ex m) := by
 unfold listExpr
 have w1 : (word m = [102, 110]) = (word n = [102, 110]) := word_iff h.word _ (fun x hx => hx.2.2.2.1)
 have w2 : (word m = [108, 101, 116]) = (word n = [108, 101, 116]) := word_iff h.word _ (fun x hx => hx.2.2.2.2.1)
 have w3 : (word m = [99, 97, 115, 101]) = (word n = [99, 97, 115, 101]) := word_iff h.word _ (fun x hx => hx.2.2.2.2.2.1)
 simp only [w1, w2, w3]
 by_cases h1 : word n = [102, 110]
 · rw [if_pos h1, if_pos h1]; exact fn_sim hex h
 · rw [if_neg h1, if_neg h1]
   by_cases h2 : word n = [108, 101, 116]
   · rw [if_pos h2, if_pos h2]; exact let_sim hex h
   · rw [if_neg h2, if_neg h2]
     by_cases h3 : word n = [99, 97, 115, 101]
     · rw [if_pos h3, if_pos h3]; exact case_sim hex f h
     · rw [if_neg h3, if_neg h3]; exact plain_sim hex h
end
theorem expr_sim : ∀ (f : Nat) (n m : Node), Sim ρ n m → RR ρ (SimE ρ) (expr f n) (expr f m) := by
 intro f
 induction f with
 | zero => intro n m h; exact h.pos
 | succ f ih =>
  intro n m h
  rw [expr, expr, h.isList, h.isInt, h.isCon, h.isName, h.tok.int]
  by_cases h1 : isListB n = true
  · rw [if_pos h1, if_pos h1]; exact list_sim ih f h
  · rw [if_neg h1, if_neg h1]
    by_cases h2 : isIntB n = true
    · rw [if_pos h2, if_pos h2]; exact .mk _ _ _ _ _ _ _ _ _ _ h.pos .nil .nil .nil
    · rw [if_neg h2, if_neg h2, h.text (kind_ne (by simpa using h2))]
      by_cases h3 : isConB n = true
      · rw [if_pos h3, if_pos h3]; exact .mk _ _ _ _ _ _ _ _ _ _ h.pos .nil .nil .nil
      · rw [if_neg h3, if_neg h3]
        by_cases h4 : isNameB n = true
        · rw [if_pos h4, if_pos h4]; exact .mk _ _ _ _ _ _ _ _ _ _ h.pos .nil .nil .nil
        · rw [if_neg h4, if_neg h4]; exact h.pos
structure SimCon (ρ : Nat → Nat → Prop) (a b : Con) : Prop where
 pos : ρ a.pos b.pos
 name : b.name = a.name
 fields : All2 (SimT ρ) a.fields b.fields
structure SimData (ρ : Nat → Nat → Prop) (a b : Data) : Prop where
 pos : ρ a.pos b.pos
 name : b.name = a.name
 params : b.params = a.params
 cons : All2 (SimCon ρ) a.cons b.cons
structure SimDef (ρ : Nat → Nat → Prop) (a b : Def) : Prop where
 pos : ρ a.pos b.pos
 name : b.name = a.name
 params : b.params = a.params
 body : SimE ρ a.body b.body
structure SimProg (ρ : Nat → Nat → Prop) (a b : Prog) : Prop where
 datas : All2 (SimData ρ) a.datas b.datas
 defs : All2 (SimDef ρ) a.defs b.defs
theorem con_sim (f : Nat) {n m : Node} (h : Sim ρ n m) : RR ρ (SimCon ρ) (con f n) (con f m) := by
 unfold con
 have hh := nodes_sim h 1 9
 cases e1 : nodes n 1 9 <;> cases e2 : nodes m 1 9 <;> rw [e1, e2] at hh <;> try exact hh.elim
 · exact hh
 · rename_i l l'
   simp only []
   have key := conName_sim (All2.headD h hh)
   cases eA : conName (l.headD n) <;> cases eB : conName (l'.headD m) <;> rw [eA, eB] at key <;> try exact key.elim
   · exact key
   · obtain rfl := key
     simp only []
     have hb := each_sim (S := SimT ρ) (fun a b h => typeE_sim f h) hh.tail
     cases eE : each (typeE f) l.tail <;> cases eF : each (typeE f) l'.tail <;> rw [eE, eF] at hb <;> try exact hb.elim
     · exact hb
     · exact ⟨h.pos, rfl, hb⟩
theorem data_sim (f : Nat) {n m : Node} (h : Sim ρ n m) : RR ρ (SimData ρ) (data f n) (data f m) := by
 unfold data
 have hh := nodes_sim h 4 103
 cases e1 : nodes n 4 103 <;> cases e2 : nodes m 4 103 <;> rw [e1, e2] at hh <;> try exact hh.elim
 · exact hh
 · rename_i l l'
   simp only []
   have key := conName_sim (All2.getD n m h 1 hh)
   cases eA : conName (l.getD 1 n) <;> cases eB : conName (l'.getD 1 m) <;> rw [eA, eB] at key <;> try exact key.elim
   · exact key
   · obtain rfl := key
     simp only []
     have kn := names_sim (All2.getD n m h 2 hh) 0
     cases eG : names (l.getD 2 n) 0 <;> cases eH : names (l'.getD 2 m) 0 <;> rw [eG, eH] at kn <;> try exact kn.elim
     · exact kn
     · obtain rfl := kn
       simp only []
       have hb := each_sim (S := SimCon ρ) (fun a b h => con_sim f h) (hh.drop 3)
       cases eE : each (con f) (l.drop 3) <;> cases eF : each (con f) (l'.drop 3) <;> rw [eE, eF] at hb <;> try exact hb.elim
       · exact hb
       · exact ⟨h.pos, rfl, rfl, hb⟩
theorem defn_sim (f : Nat) {n m : Node} (h : Sim ρ n m) : RR ρ (SimDef ρ) (defn f n) (defn f m) := by
 unfold defn
 have hh := nodes_sim h 4 4
 cases e1 : nodes n 4 4 <;> cases e2 : nodes m 4 4 <;> rw [e1, e2] at hh <;> try exact hh.elim
 · exact hh
 · rename_i l l'
   simp only []
   have key := name_sim (All2.getD n m h 1 hh)
   cases eA : name (l.getD 1 n) <;> cases eB : name (l'.getD 1 m) <;> rw [eA, eB] at key <;> try exact key.elim
   · exact key
   · obtain rfl := key
     simp only []
     have kn := names_sim (All2.getD n m h 2 hh) 0
     cases eG : names (l.getD 2 n) 0 <;> cases eH : names (l'.getD 2 m) 0 <;> rw [eG, eH] at kn <;> try exact kn.elim
     · exact kn
     · obtain rfl := kn
       simp only []
       have hb := expr_sim f _ _ (All2.getD n m h 3 hh)
       cases eE : expr f (l.getD 3 n) <;> cases eF : expr f (l'.getD 3 m) <;> rw [eE, eF] at hb <;> try exact hb.elim
       · exact hb
       · exact ⟨h.pos, rfl, rfl, hb⟩
def NodeS (ρ : Nat → Nat → Prop) (a b : Node × List Tok) : Prop := Sim ρ a.1 b.1 ∧ All2 (TSim ρ) a.2 b.2
def RestS (ρ : Nat → Nat → Prop) (a b : List Node × List Tok) : Prop := All2 (Sim ρ) a.1 b.1 ∧ All2 (TSim ρ) a.2 b.2
theorem takes_sim {t u : Tok} (h : TSim ρ t u) : takesOf u.text = takesOf t.text ∧ (t.kind = 2 → takesOf t.text = 0) := by
 by_cases hk : t.kind = 2
 · obtain ⟨h1, h2⟩ := h.num hk
   exact ⟨by rw [h1.1, h2.1], fun _ => h1.1⟩
 · exact ⟨by rw [h.text hk], fun e => absurd e hk⟩
theorem node_rest_sim (stop stop' : Nat) (hs : ρ stop stop') : ∀ (f d : Nat) (ts us : List Tok), All2 (TSim ρ) ts us →
 RR ρ (NodeS ρ) (node stop f d ts) (node stop' f d us) ∧ RR ρ (RestS ρ) (rest stop f d ts) (rest stop' f d us) := by
 intro f
 induction f with
 | zero => intro d ts us h; exact ⟨hs, hs⟩
 | succ f ih =>
  intro d ts us h
  cases h with
  | nil => exact ⟨hs, hs⟩
  | @cons t u ts us h1 h2 =>
   constructor
   · rw [node, node, h1.kind]
     by_cases k1 : t.kind = 1
     · rw [if_pos k1, if_pos k1]; exact h1.pos
     · rw [if_neg k1, if_neg k1]
       by_cases k0 : t.kind = 0
       · rw [if_pos k0, if_pos k0]
         by_cases hd : d = 40
         · rw [if_pos hd, if_pos hd]; exact h1.pos
         · rw [if_neg hd, if_neg hd]
           have hr := (ih (d + 1) ts us h2).2
           cases e1 : rest stop f (d + 1) ts <;> cases e2 : rest stop' f (d + 1) us <;> rw [e1, e2] at hr <;> try exact hr.elim
           · exact hr
           · exact ⟨.mk _ _ _ _ _ h1 (fun _ => rfl) hr.1, hr.2⟩
       · rw [if_neg k0, if_neg k0]
         obtain ⟨t1, t2⟩ := takes_sim h1
         rw [t1]
         exact ⟨.mk _ _ _ _ _ h1 t2 .nil, h2⟩
   · rw [rest, rest, h1.kind]
     by_cases k1 : t.kind = 1
     · rw [if_pos k1, if_pos k1]; exact ⟨.nil, h2⟩
     · rw [if_neg k1, if_neg k1]
       have hn := (ih d (t :: ts) (u :: us) (.cons h1 h2)).1
       cases e1 : node stop f d (t :: ts) <;> cases e2 : node stop' f d (u :: us) <;> rw [e1, e2] at hn <;> try exact hn.elim
       · exact hn
       · rename_i x y
         obtain ⟨n, ts'⟩ := x
         obtain ⟨m, us'⟩ := y
         simp only []
         have hr := (ih d ts' us' hn.2).2
         cases e3 : rest stop f d ts' <;> cases e4 : rest stop' f d us' <;> rw [e3, e4] at hr <;> try exact hr.elim
         · exact hr
         · exact ⟨.cons hn.1 hr.1, hr.2⟩
theorem prog_sim (stop stop' : Nat) (hs : ρ stop stop') : ∀ (f c : Nat) (ts us : List Tok), All2 (TSim ρ) ts us → RR ρ (SimProg ρ) (prog stop f c ts) (prog stop' f c us) := by
 intro f
 induction f with
 | zero => intro c ts us h; exact ⟨.nil, .nil⟩
 | succ f ih =>
  intro c ts us h
  have hlen := h.len
  cases h with
  | nil => exact ⟨.nil, .nil⟩
  | @cons t u ts us h1 h2 =>
   rw [prog, prog, hlen]
   · have hn := (node_rest_sim stop stop' hs (2 * (t :: ts).length + 2) 0 (t :: ts) (u :: us) (.cons h1 h2)).1
     cases e1 : node stop (2 * (t :: ts).length + 2) 0 (t :: ts) <;> cases e2 : node stop' (2 * (t :: ts).length + 2) 0 (u :: us) <;> rw [e1, e2] at hn <;> try exact hn.elim
     · exact hn
     · rename_i x y
       obtain ⟨n, ts'⟩ := x
       obtain ⟨m, us'⟩ := y
       have hn1 : Sim ρ n m := hn.1
       have w1 : (word m = [100, 97, 116, 97]) = (word n = [100, 97, 116, 97]) := word_iff hn1.word _ (fun x hx => hx.2.1)
       have w2 : (word m = [100, 101, 102]) = (word n = [100, 101, 102]) := word_iff hn1.word _ (fun x hx => hx.2.2.1)
       simp only [w1, w2]
       have hr := ih (c + 1) ts' us' hn.2
       by_cases hc : c = 100
       · rw [if_pos hc, if_pos hc]; exact hn1.pos
       · rw [if_neg hc, if_neg hc]
         by_cases k1 : word n = [100, 97, 116, 97]
         · rw [if_pos k1, if_pos k1]
           have hd := data_sim 50 hn1
           cases e3 : data 50 n <;> cases e4 : data 50 m <;> rw [e3, e4] at hd <;> try exact hd.elim
           · exact hd
           · simp only []
             cases e5 : prog stop f (c + 1) ts' <;> cases e6 : prog stop' f (c + 1) us' <;> rw [e5, e6] at hr <;> try exact hr.elim
             · exact hr
             · exact ⟨.cons hd hr.datas, hr.defs⟩
         · rw [if_neg k1, if_neg k1]
           by_cases k2 : word n = [100, 101, 102]
           · rw [if_pos k2, if_pos k2]
             have hd := defn_sim 50 hn1
             cases e3 : defn 50 n <;> cases e4 : defn 50 m <;> rw [e3, e4] at hd <;> try exact hd.elim
             · exact hd
             · simp only []
               cases e5 : prog stop f (c + 1) ts' <;> cases e6 : prog stop' f (c + 1) us' <;> rw [e5, e6] at hr <;> try exact hr.elim
               · exact hr
               · exact ⟨hr.datas, .cons hd hr.defs⟩
           · rw [if_neg k2, if_neg k2]; exact hn1.pos
   all_goals simp
end Px
end Go.Proofs.YtpkecbijhckllaaDoor
namespace Go.Proofs.YtpkecbijhckllaaDoor
set_option linter.unusedVariables false
set_option linter.unusedSimpArgs false
namespace Px
open Lx (Tok)
def opens : List Tok → Nat
 | [] => 0
 | t :: ts => (if t.kind = 0 then 1 else 0) + opens ts
theorem opens_app : ∀ (a b : List Tok), opens (a ++ b) = opens a + opens b
 | [], b => by simp [opens]
 | t :: a, b => by rw [List.cons_append, opens, opens, opens_app a b]; omega
/-- What is read of a text's tokens is read where more stand behind, and further in, if there is room. -/
theorem node_more (stop stop' : Nat) : ∀ (f d : Nat) (ts : List Tok),
 (∀ n ts', node stop f d ts = .ok (n, ts') → opens ts' ≤ opens ts ∧ (n.list ≠ [] → opens ts' < opens ts) ∧ ts'.length < ts.length ∧
  ∀ f' d' more, f ≤ f' → (d' = d ∨ d' + opens ts ≤ 40) → node stop' f' d' (ts ++ more) = .ok (n, ts' ++ more)) ∧
 (∀ l ts', rest stop f d ts = .ok (l, ts') → opens ts' ≤ opens ts ∧ ts'.length < ts.length ∧
  ∀ f' d' more, f ≤ f' → (d' = d ∨ d' + opens ts ≤ 40) → rest stop' f' d' (ts ++ more) = .ok (l, ts' ++ more)) := by
 intro f
 induction f with
 | zero => intro d ts; exact ⟨fun n ts' h => (by cases h), fun l ts' h => (by cases h)⟩
 | succ f ih =>
  intro d ts
  cases ts with
  | nil => exact ⟨fun n ts' h => (by cases h), fun l ts' h => (by cases h)⟩
  | cons t ts =>
   constructor
   · intro n ts' h
     rw [node] at h
     by_cases k1 : t.kind = 1
     · rw [if_pos k1] at h; cases h
     · rw [if_neg k1] at h
       by_cases k0 : t.kind = 0
       · rw [if_pos k0] at h
         by_cases hd : d = 40
         · rw [if_pos hd] at h; cases h
         · rw [if_neg hd] at h
           have hi := (ih (d + 1) ts).2
           cases hr : rest stop f (d + 1) ts with
           | error p => rw [hr] at h; cases h
           | ok x =>
            obtain ⟨l, ts1⟩ := x
            rw [hr] at h
            simp only [Except.ok.injEq, Prod.mk.injEq] at h
            obtain ⟨rfl, rfl⟩ := h
            obtain ⟨h1, h2, h3⟩ := hi _ _ hr
            have ho : opens (t :: ts) = opens ts + 1 := by rw [opens, if_pos k0]; omega
            refine ⟨by omega, fun _ => by omega, by rw [List.length_cons]; omega, fun f' d' more hf hdd => ?_⟩
            obtain ⟨f', rfl⟩ : ∃ g, f' = g + 1 := ⟨f' - 1, by omega⟩
            rw [List.cons_append, node, if_neg k1, if_pos k0, if_neg (by omega), h3 f' (d' + 1) more (by omega) (by omega)]
       · rw [if_neg k0] at h
         simp only [Except.ok.injEq, Prod.mk.injEq] at h
         obtain ⟨rfl, rfl⟩ := h
         have ho : opens (t :: ts) = opens ts := by rw [opens, if_neg k0]; omega
         refine ⟨by omega, fun e => absurd rfl e, by rw [List.length_cons]; omega, fun f' d' more hf hdd => ?_⟩
         obtain ⟨f', rfl⟩ : ∃ g, f' = g + 1 := ⟨f' - 1, by omega⟩
         rw [List.cons_append, node, if_neg k1, if_neg k0]
   · intro l ts' h
     rw [rest] at h
     by_cases k1 : t.kind = 1
     · rw [if_pos k1] at h
       simp only [Except.ok.injEq, Prod.mk.injEq] at h
       obtain ⟨rfl, rfl⟩ := h
       have ho : opens (t :: ts) = opens ts := by rw [opens, if_neg (by omega)]; omega
       refine ⟨by omega, by rw [List.length_cons]; omega, fun f' d' more hf hdd => ?_⟩
       obtain ⟨f', rfl⟩ : ∃ g, f' = g + 1 := ⟨f' - 1, by omega⟩
       rw [List.cons_append, rest, if_pos k1]
     · rw [if_neg k1] at h
       have hi := (ih d (t :: ts)).1
       cases hn : node stop f d (t :: ts) with
       | error p => rw [hn] at h; cases h
       | ok x =>
        obtain ⟨n, ts1⟩ := x
        rw [hn] at h
        simp only at h
        obtain ⟨h1, _, h2, h3⟩ := hi _ _ hn
        have hj := (ih d ts1).2
        cases hr : rest stop f d ts1 with
        | error p => rw [hr] at h; cases h
        | ok y =>
         obtain ⟨l', ts2⟩ := y
         rw [hr] at h
         simp only [Except.ok.injEq, Prod.mk.injEq] at h
         obtain ⟨rfl, rfl⟩ := h
         obtain ⟨g1, g2, g3⟩ := hj _ _ hr
         refine ⟨by omega, by omega, fun f' d' more hf hdd => ?_⟩
         obtain ⟨f', rfl⟩ : ∃ g, f' = g + 1 := ⟨f' - 1, by omega⟩
         have a1 := h3 f' d' more (by omega) hdd
         have a2 := g3 f' d' more (by omega) (by omega)
         rw [List.cons_append] at a1 ⊢
         rw [rest, if_neg k1, a1]
         simp only [a2]
/-- What is wrong ahead of the text's end is wrong where more stand behind. -/
theorem node_bad (stop stop' : Nat) : ∀ (f d : Nat) (ts : List Tok),
 (∀ p, node stop f d ts = .error p → p ≠ stop → ∀ f' more, f ≤ f' → node stop' f' d (ts ++ more) = .error p) ∧
 (∀ p, rest stop f d ts = .error p → p ≠ stop → ∀ f' more, f ≤ f' → rest stop' f' d (ts ++ more) = .error p) := by
 intro f
 induction f with
 | zero => intro d ts; exact ⟨fun p h hp => by cases h; exact absurd rfl hp, fun p h hp => by cases h; exact absurd rfl hp⟩
 | succ f ih =>
  intro d ts
  cases ts with
  | nil => exact ⟨fun p h hp => by cases h; exact absurd rfl hp, fun p h hp => by cases h; exact absurd rfl hp⟩
  | cons t ts =>
   constructor
   · intro p h hp f' more hf
     obtain ⟨f', rfl⟩ : ∃ g, f' = g + 1 := ⟨f' - 1, by omega⟩
     rw [node] at h
     rw [List.cons_append, node]
     by_cases k1 : t.kind = 1
     · rw [if_pos k1] at h ⊢; exact h
     · rw [if_neg k1] at h ⊢
       by_cases k0 : t.kind = 0
       · rw [if_pos k0] at h ⊢
         by_cases hd : d = 40
         · rw [if_pos hd] at h ⊢; exact h
         · rw [if_neg hd] at h ⊢
           have hi := (ih (d + 1) ts).2
           cases hr : rest stop f (d + 1) ts with
           | error q =>
            rw [hr] at h
            simp only [Except.error.injEq] at h
            subst h
            rw [hi _ hr hp f' more (by omega)]
           | ok x => rw [hr] at h; cases h
       · rw [if_neg k0] at h; cases h
   · intro p h hp f' more hf
     obtain ⟨f', rfl⟩ : ∃ g, f' = g + 1 := ⟨f' - 1, by omega⟩
     rw [rest] at h
     rw [List.cons_append, rest]
     by_cases k1 : t.kind = 1
     · rw [if_pos k1] at h; cases h
     · rw [if_neg k1] at h ⊢
       cases hn : node stop f d (t :: ts) with
       | error q =>
        rw [hn] at h
        simp only [Except.error.injEq] at h
        subst h
        have := (ih d (t :: ts)).1 _ hn hp f' more (by omega)
        rw [List.cons_append] at this
        rw [this]
       | ok x =>
        obtain ⟨n, ts1⟩ := x
        rw [hn] at h
        simp only at h
        have a1 := ((node_more stop stop' f d (t :: ts)).1 _ _ hn).2.2.2 f' d more (by omega) (.inl rfl)
        rw [List.cons_append] at a1
        rw [a1]
        cases hr : rest stop f d ts1 with
        | error q =>
         rw [hr] at h
         simp only [Except.error.injEq] at h
         subst h
         have a2 := (ih d ts1).2 _ hr hp f' more (by omega)
         simp only [a2]
        | ok y => rw [hr] at h; cases h
theorem prog_nil (stop f c : Nat) : prog stop f c [] = .ok ⟨[], []⟩ := by cases f <;> rfl
theorem prog_cons (stop f c : Nat) (t : Tok) (ts : List Tok) : prog stop (f + 1) c (t :: ts) =
 match node stop (2 * (t :: ts).length + 2) 0 (t :: ts) with
 | .error p => .error p
 | .ok (n, ts') =>
  if c = 100 then .error n.pos
  else if word n = [100, 97, 116, 97] then
   match data 50 n with
   | .error p => .error p
   | .ok d => match prog stop f (c + 1) ts' with
    | .error p => .error p
    | .ok q => .ok ⟨d :: q.datas, q.defs⟩
  else if word n = [100, 101, 102] then
   match defn 50 n with
   | .error p => .error p
   | .ok d => match prog stop f (c + 1) ts' with
    | .error p => .error p
    | .ok q => .ok ⟨q.datas, d :: q.defs⟩
  else .error n.pos := by
 rw [prog]
 all_goals first | rfl | simp
/-- How many parts. -/
def Prog.size (p : Prog) : Nat := p.datas.length + p.defs.length
def Prog.add (p q : Prog) : Prog := ⟨p.datas ++ q.datas, p.defs ++ q.defs⟩
theorem prog_size (stop : Nat) : ∀ (f c : Nat) (ts : List Tok) (q : Prog), c ≤ 100 → prog stop f c ts = .ok q → c + q.size ≤ 100 := by
 intro f
 induction f with
 | zero => intro c ts q hc h; cases h; simpa [Prog.size] using hc
 | succ f ih =>
  intro c ts q hc h
  cases ts with
  | nil => rw [prog_nil] at h; cases h; simpa [Prog.size] using hc
  | cons t ts =>
   rw [prog_cons] at h
   cases hn : node stop (2 * (t :: ts).length + 2) 0 (t :: ts) with
   | error p => rw [hn] at h; cases h
   | ok x =>
    obtain ⟨n, ts1⟩ := x
    rw [hn] at h
    simp only at h
    by_cases h100 : c = 100
    · rw [if_pos h100] at h; cases h
    · rw [if_neg h100] at h
      by_cases k1 : word n = [100, 97, 116, 97]
      · rw [if_pos k1] at h
        cases hd : data 50 n with
        | error p => rw [hd] at h; cases h
        | ok d =>
         rw [hd] at h
         simp only at h
         cases hp : prog stop f (c + 1) ts1 with
         | error p => rw [hp] at h; cases h
         | ok q' =>
          rw [hp] at h
          simp only [Except.ok.injEq] at h
          subst h
          have := ih _ _ _ (by omega) hp
          simp only [Prog.size, List.length_cons] at this ⊢; omega
      · rw [if_neg k1] at h
        by_cases k2 : word n = [100, 101, 102]
        · rw [if_pos k2] at h
          cases hd : defn 50 n with
          | error p => rw [hd] at h; cases h
          | ok d =>
           rw [hd] at h
           simp only at h
           cases hp : prog stop f (c + 1) ts1 with
           | error p => rw [hp] at h; cases h
           | ok q' =>
            rw [hp] at h
            simp only [Except.ok.injEq] at h
            subst h
            have := ih _ _ _ (by omega) hp
            simp only [Prog.size, List.length_cons] at this ⊢; omega
        · rw [if_neg k2] at h; cases h
/-- Tokens behind those of a program. -/
theorem prog_app (stop stop' : Nat) (us : List Tok) : ∀ (f c : Nat) (ts : List Tok) (q : Prog), ts.length < f → prog stop f c ts = .ok q → ∀ g, us.length < g →
 ∃ g', us.length < g' ∧ prog stop' (ts.length + g) c (ts ++ us) = match prog stop' g' (c + q.size) us with
  | .error p => .error p
  | .ok q' => .ok (q.add q') := by
 intro f
 induction f with
 | zero => intro c ts q hl; omega
 | succ f ih =>
  intro c ts q hl h g hg
  cases ts with
  | nil =>
   rw [prog_nil] at h; cases h
   refine ⟨g, hg, ?_⟩
   simp only [List.length_nil, Nat.zero_add, List.nil_append, Prog.size, Nat.add_zero]
   cases prog stop' g c us <;> rfl
  | cons t ts =>
   rw [prog_cons] at h
   have hgt : (t :: ts).length + g = (ts.length + g) + 1 := by rw [List.length_cons]; omega
   rw [hgt, List.cons_append, prog_cons]
   cases hn : node stop (2 * (t :: ts).length + 2) 0 (t :: ts) with
   | error p => rw [hn] at h; cases h
   | ok x =>
    obtain ⟨n, ts1⟩ := x
    rw [hn] at h
    simp only at h
    obtain ⟨_, _, hlen, hm⟩ := (node_more stop stop' _ 0 (t :: ts)).1 _ _ hn
    have hm' := hm (2 * (t :: (ts ++ us)).length + 2) 0 us (by simp only [List.length_cons, List.length_append]; omega) (.inl rfl)
    rw [List.cons_append] at hm'
    rw [hm']
    rw [List.length_cons] at hlen hl
    simp only
    by_cases h100 : c = 100
    · rw [if_pos h100] at h; cases h
    · rw [if_neg h100] at h ⊢
      by_cases k1 : word n = [100, 97, 116, 97]
      · rw [if_pos k1] at h ⊢
        cases hd : data 50 n with
        | error p => rw [hd] at h; cases h
        | ok d =>
         rw [hd] at h
         simp only at h ⊢
         cases hp : prog stop f (c + 1) ts1 with
         | error p => rw [hp] at h; cases h
         | ok q' =>
          rw [hp] at h
          simp only [Except.ok.injEq] at h
          subst h
          obtain ⟨g', hg', he⟩ := ih (c + 1) ts1 q' (by omega) hp (ts.length + g - ts1.length) (by omega)
          have e : ts1.length + (ts.length + g - ts1.length) = ts.length + g := by omega
          rw [e] at he
          refine ⟨g', hg', ?_⟩
          rw [he]
          have ec : c + 1 + q'.size = c + (Prog.mk (d :: q'.datas) q'.defs).size := by simp only [Prog.size, List.length_cons]; omega
          rw [ec]
          cases prog stop' g' _ us <;> rfl
      · rw [if_neg k1] at h ⊢
        by_cases k2 : word n = [100, 101, 102]
        · rw [if_pos k2] at h ⊢
          cases hd : defn 50 n with
          | error p => rw [hd] at h; cases h
          | ok d =>
           rw [hd] at h
           simp only at h ⊢
           cases hp : prog stop f (c + 1) ts1 with
           | error p => rw [hp] at h; cases h
           | ok q' =>
            rw [hp] at h
            simp only [Except.ok.injEq] at h
            subst h
            obtain ⟨g', hg', he⟩ := ih (c + 1) ts1 q' (by omega) hp (ts.length + g - ts1.length) (by omega)
            have e : ts1.length + (ts.length + g - ts1.length) = ts.length + g := by omega
            rw [e] at he
            refine ⟨g', hg', ?_⟩
            rw [he]
            have ec : c + 1 + q'.size = c + (Prog.mk q'.datas (d :: q'.defs)).size := by simp only [Prog.size, List.length_cons]; omega
            rw [ec]
            cases prog stop' g' _ us <;> rfl
        · rw [if_neg k2] at h; cases h
/-- What is wrong in a program is wrong where more stand behind. -/
theorem prog_bad (stop stop' : Nat) (us : List Tok) : ∀ (f c : Nat) (ts : List Tok) (p : Nat), ts.length < f → prog stop f c ts = .error p → p ≠ stop → ∀ g, us.length < g →
 prog stop' (ts.length + g) c (ts ++ us) = .error p := by
 intro f
 induction f with
 | zero => intro c ts q hl; omega
 | succ f ih =>
  intro c ts p hl h hp g hg
  cases ts with
  | nil => rw [prog_nil] at h; cases h
  | cons t ts =>
   rw [prog_cons] at h
   have hgt : (t :: ts).length + g = (ts.length + g) + 1 := by rw [List.length_cons]; omega
   rw [hgt, List.cons_append, prog_cons]
   cases hn : node stop (2 * (t :: ts).length + 2) 0 (t :: ts) with
   | error q =>
    rw [hn] at h
    simp only [Except.error.injEq] at h
    subst h
    have := (node_bad stop stop' _ 0 (t :: ts)).1 _ hn hp (2 * (t :: (ts ++ us)).length + 2) us (by simp only [List.length_cons, List.length_append]; omega)
    rw [List.cons_append] at this
    rw [this]
   | ok x =>
    obtain ⟨n, ts1⟩ := x
    rw [hn] at h
    simp only at h
    obtain ⟨_, _, hlen, hm⟩ := (node_more stop stop' _ 0 (t :: ts)).1 _ _ hn
    have hm' := hm (2 * (t :: (ts ++ us)).length + 2) 0 us (by simp only [List.length_cons, List.length_append]; omega) (.inl rfl)
    rw [List.cons_append] at hm'
    rw [hm']
    rw [List.length_cons] at hlen hl
    simp only
    by_cases h100 : c = 100
    · rw [if_pos h100] at h ⊢; exact h
    · rw [if_neg h100] at h ⊢
      have e : ts1.length + (ts.length + g - ts1.length) = ts.length + g := by omega
      by_cases k1 : word n = [100, 97, 116, 97]
      · rw [if_pos k1] at h ⊢
        cases hd : data 50 n with
        | error q => rw [hd] at h; exact h
        | ok d =>
         rw [hd] at h
         simp only at h ⊢
         cases hr : prog stop f (c + 1) ts1 with
         | error q =>
          rw [hr] at h
          simp only [Except.error.injEq] at h
          subst h
          have he := ih (c + 1) ts1 q (by omega) hr hp (ts.length + g - ts1.length) (by omega)
          rw [e] at he
          rw [he]
         | ok q => rw [hr] at h; cases h
      · rw [if_neg k1] at h ⊢
        by_cases k2 : word n = [100, 101, 102]
        · rw [if_pos k2] at h ⊢
          cases hd : defn 50 n with
          | error q => rw [hd] at h; exact h
          | ok d =>
           rw [hd] at h
           simp only at h ⊢
           cases hr : prog stop f (c + 1) ts1 with
           | error q =>
            rw [hr] at h
            simp only [Except.error.injEq] at h
            subst h
            have he := ih (c + 1) ts1 q (by omega) hr hp (ts.length + g - ts1.length) (by omega)
            rw [e] at he
            rw [he]
           | ok q => rw [hr] at h; cases h
        · rw [if_neg k2] at h ⊢; exact h
theorem word_list {n : Node} {s : List UInt8} (h : word n = s) (hs : s ≠ []) : n.list ≠ [] := by
 intro e; unfold word at h; rw [e] at h; exact hs h.symm
/-- Fuel, and how many lists came ahead, don't matter where there is room. -/
theorem prog_count (stop : Nat) : ∀ (f f' c c' : Nat) (ts : List Tok), ts.length < f → ts.length < f' → c + opens ts ≤ 100 → c' + opens ts ≤ 100 → prog stop f c ts = prog stop f' c' ts := by
 intro f
 induction f with
 | zero => intro f' c c' ts hl; omega
 | succ f ih =>
  intro f' c c' ts hl hl' hc hc'
  cases ts with
  | nil => rw [prog_nil, prog_nil]
  | cons t ts =>
   obtain ⟨f', rfl⟩ : ∃ g, f' = g + 1 := ⟨f' - 1, by omega⟩
   rw [prog_cons, prog_cons]
   cases hn : node stop (2 * (t :: ts).length + 2) 0 (t :: ts) with
   | error p => rfl
   | ok x =>
    obtain ⟨n, ts1⟩ := x
    obtain ⟨h1, h2, h3, _⟩ := (node_more stop stop _ 0 (t :: ts)).1 _ _ hn
    rw [List.length_cons] at h3 hl hl'
    simp only
    by_cases k1 : word n = [100, 97, 116, 97]
    · have h4 := h2 (word_list k1 (by simp))
      have n1 : c ≠ 100 := by omega
      have n2 : c' ≠ 100 := by omega
      rw [if_neg n1, if_neg n2, if_pos k1, if_pos k1, ih f' (c + 1) (c' + 1) ts1 (by omega) (by omega) (by omega) (by omega)]
    · by_cases k2 : word n = [100, 101, 102]
      · have h4 := h2 (word_list k2 (by simp))
        have n1 : c ≠ 100 := by omega
        have n2 : c' ≠ 100 := by omega
        rw [if_neg n1, if_neg n2, if_neg k1, if_neg k1, if_pos k2, if_pos k2, ih f' (c + 1) (c' + 1) ts1 (by omega) (by omega) (by omega) (by omega)]
      · rw [if_neg k1, if_neg k1, if_neg k2, if_neg k2]
        by_cases e1 : c = 100
        · rw [if_pos e1]
          by_cases e2 : c' = 100
          · rw [if_pos e2]
          · rw [if_neg e2]
        · rw [if_neg e1]
          by_cases e2 : c' = 100
          · rw [if_pos e2]
          · rw [if_neg e2]
/-- Fuel alone. -/
theorem prog_fuel (stop : Nat) : ∀ (f f' c : Nat) (ts : List Tok), ts.length < f → ts.length < f' → prog stop f c ts = prog stop f' c ts := by
 intro f
 induction f with
 | zero => intro f' c ts hl; omega
 | succ f ih =>
  intro f' c ts hl hl'
  cases ts with
  | nil => rw [prog_nil, prog_nil]
  | cons t ts =>
   obtain ⟨f', rfl⟩ : ∃ g, f' = g + 1 := ⟨f' - 1, by omega⟩
   rw [prog_cons, prog_cons]
   cases hn : node stop (2 * (t :: ts).length + 2) 0 (t :: ts) with
   | error p => rfl
   | ok x =>
    obtain ⟨n, ts1⟩ := x
    obtain ⟨h1, h2, h3, _⟩ := (node_more stop stop _ 0 (t :: ts)).1 _ _ hn
    rw [List.length_cons] at h3 hl hl'
    simp only
    rw [ih f' (c + 1) ts1 (by omega) (by omega)]
end Px
end Go.Proofs.YtpkecbijhckllaaDoor
namespace Go.Proofs.YtpkecbijhckllaaDoor
set_option linter.unusedVariables false
set_option linter.unusedSimpArgs false
namespace Px
open Lx (Tok tk mkTok)
def Small (n : Int) : Prop := -1000000000000000000 < n ∧ n < 1000000000000000000
/-- The text ahead of the last number. -/
def sumPre (ns : List Int) : List UInt8 := ns.flatMap fun n => [40, 43, 32] ++ Lib.itoa n ++ [32]
def closes (p : Nat) : Nat → List Tok
 | 0 => []
 | k + 1 => mkTok p 1 [41] :: closes (p + 1) k
def sumToks (m : Int) (k : Nat) : Nat → List Int → List Tok
 | p, [] => mkTok p 2 (Lib.itoa m) :: closes (p + (Lib.itoa m).length) k
 | p, n :: ns => mkTok p 0 [40] :: mkTok (p + 1) 5 [43] :: mkTok (p + 3) 2 (Lib.itoa n) :: sumToks m k (p + 4 + (Lib.itoa n).length) ns
def sumNode (m : Int) : Nat → List Int → Node
 | p, [] => .mk (mkTok p 2 (Lib.itoa m)) [] (takesOf (Lib.itoa m))
 | p, n :: ns => .mk (mkTok p 0 [40]) [.mk (mkTok (p + 1) 5 [43]) [] 2, .mk (mkTok (p + 3) 2 (Lib.itoa n)) [] (takesOf (Lib.itoa n)), sumNode m (p + 4 + (Lib.itoa n).length) ns] 0
def sumExpr (m : Int) : Nat → List Int → Expr
 | p, [] => .mk 0 p [] m [] [] []
 | p, n :: ns => .mk 7 p [43] 0 [] [.mk 0 (p + 3) [] n [] [] [], sumExpr m (p + 4 + (Lib.itoa n).length) ns] []
theorem ends_closes (k : Nat) : Lx.Ends (List.replicate k 41) := by
 cases k with
 | zero => exact Lx.ends_nil
 | succ k => rw [List.replicate_succ]; exact Lx.ends_41 _
theorem tk_closes : ∀ (k p : Nat), tk p (List.replicate k 41) = (closes p k, none) := by
 intro k
 induction k with
 | zero => intro p; rfl
 | succ k ih => intro p; rw [List.replicate_succ, Lx.tk_close, ih]; rfl
theorem tk_sum (m : Int) (k : Nat) (hm : Small m) : ∀ (ns : List Int) (p : Nat), (∀ n ∈ ns, Small n) → tk p (sumPre ns ++ (Lib.itoa m ++ List.replicate k 41)) = (sumToks m k p ns, none) := by
 intro ns
 induction ns with
 | nil =>
  intro p _
  show tk p (Lib.itoa m ++ List.replicate k 41) = _
  rw [Lx.tk_word p (Lx.isTok_itoa m hm.1 hm.2) (ends_closes k), tk_closes]; rfl
 | cons n ns ih =>
  intro p h
  have hn := h n (by simp)
  have e : sumPre (n :: ns) ++ (Lib.itoa m ++ List.replicate k 41) = 40 :: ([43] ++ 32 :: (Lib.itoa n ++ 32 :: (sumPre ns ++ (Lib.itoa m ++ List.replicate k 41)))) := by simp [sumPre]
  rw [e, Lx.tk_open, Lx.tk_word (p + 1) Lx.isTok_plus (Lx.ends_32 _)]
  simp only [List.length_singleton]
  rw [Lx.tk_32, Lx.tk_word _ (Lx.isTok_itoa n hn.1 hn.2) (Lx.ends_32 _), Lx.tk_32]
  have e3 : p + 1 + 1 + 1 = p + 3 := rfl
  have e4 : p + 1 + 1 + 1 + (Lib.itoa n).length + 1 = p + 4 + (Lib.itoa n).length := by omega
  rw [e4, e3, ih _ (fun x hx => h x (by simp [hx]))]; rfl
theorem takes_plus : takesOf [43] = 2 := by decide
theorem node_leaf (stop f d : Nat) (t : Tok) (ts : List Tok) (h1 : t.kind ≠ 1) (h0 : t.kind ≠ 0) : node stop (f + 1) d (t :: ts) = .ok (.mk t [] (takesOf t.text), ts) := by
 rw [node, if_neg h1, if_neg h0]
theorem node_list (stop f d : Nat) (t : Tok) (ts ts' : List Tok) (l : List Node) (h0 : t.kind = 0) (hd : d ≠ 40) (h : rest stop f (d + 1) ts = .ok (l, ts')) : node stop (f + 1) d (t :: ts) = .ok (.mk t l 0, ts') := by
 rw [node, if_neg (by omega), if_pos h0, if_neg hd, h]
theorem rest_cons (stop f d : Nat) (t : Tok) (ts ts' ts'' : List Tok) (n : Node) (l : List Node) (h1 : t.kind ≠ 1) (h : node stop f d (t :: ts) = .ok (n, ts')) (hr : rest stop f d ts' = .ok (l, ts'')) : rest stop (f + 1) d (t :: ts) = .ok (n :: l, ts'') := by
 rw [rest, if_neg h1, h]
 simp only [hr]
theorem rest_end (stop f d : Nat) (t : Tok) (ts : List Tok) (h1 : t.kind = 1) : rest stop (f + 1) d (t :: ts) = .ok ([], ts) := by
 rw [rest, if_pos h1]
theorem sum_head (m : Int) (k p : Nat) (ns : List Int) : ∃ t ts, sumToks m k p ns = t :: ts ∧ t.kind ≠ 1 := by
 cases ns with
 | nil => exact ⟨_, _, rfl, by show (2 : Int) ≠ 1; decide⟩
 | cons n ns => exact ⟨_, _, rfl, by show (0 : Int) ≠ 1; decide⟩
theorem node_sum (stop : Nat) (m : Int) (k : Nat) : ∀ (ns : List Int) (p d f : Nat), d + ns.length ≤ 40 → 4 * ns.length + 1 ≤ f → ns.length ≤ k →
 ∃ p', node stop f d (sumToks m k p ns) = .ok (sumNode m p ns, closes p' (k - ns.length)) := by
 intro ns
 induction ns with
 | nil =>
  intro p d f _ hf _
  obtain ⟨f, rfl⟩ : ∃ g, f = g + 1 := ⟨f - 1, by simp at hf; omega⟩
  exact ⟨_, node_leaf stop f d _ _ (by show (2 : Int) ≠ 1; decide) (by show (2 : Int) ≠ 0; decide)⟩
 | cons n ns ih =>
  intro p d f hd hf hk
  rw [List.length_cons] at hd hf hk
  obtain ⟨f, rfl⟩ : ∃ g, f = g + 4 := ⟨f - 4, by omega⟩
  obtain ⟨p', hn⟩ := ih (p + 4 + (Lib.itoa n).length) (d + 1) f (by omega) (by omega) (by omega)
  obtain ⟨t, ts, hts, hk1⟩ := sum_head m k (p + 4 + (Lib.itoa n).length) ns
  obtain ⟨j, hj⟩ : ∃ j, k - ns.length = j + 1 := ⟨k - ns.length - 1, by omega⟩
  obtain ⟨f, rfl⟩ : ∃ g, f = g + 1 := ⟨f - 1, by omega⟩
  refine ⟨p' + 1, ?_⟩
  have ej : k - (n :: ns).length = j := by rw [List.length_cons]; omega
  rw [ej]
  rw [hj] at hn
  rw [hts] at hn
  refine node_list stop _ d _ _ _ _ rfl (by omega) ?_
  refine rest_cons stop _ (d + 1) _ _ _ _ _ _ (by show (5 : Int) ≠ 1; decide) (node_leaf stop _ _ _ _ (by show (5 : Int) ≠ 1; decide) (by show (5 : Int) ≠ 0; decide)) ?_
  refine rest_cons stop _ (d + 1) _ _ _ _ _ _ (by show (2 : Int) ≠ 1; decide) (node_leaf stop _ _ _ _ (by show (2 : Int) ≠ 1; decide) (by show (2 : Int) ≠ 0; decide)) ?_
  rw [hts]
  exact rest_cons stop _ (d + 1) _ _ _ _ _ _ hk1 hn (rest_end stop f _ _ _ rfl)
theorem expr_sum (m : Int) : ∀ (ns : List Int) (p f : Nat), ns.length < f → expr f (sumNode m p ns) = .ok (sumExpr m p ns) := by
 intro ns
 induction ns with
 | nil =>
  intro p f hf
  obtain ⟨f, rfl⟩ : ∃ g, f = g + 1 := ⟨f - 1, by simp at hf; omega⟩
  have h := Lx.mkTok_itoa p m
  simp only [sumNode, h, expr, isListB, isIntB, Node.tok, Node.pos, sumExpr]
  rfl
 | cons n ns ih =>
  intro p f hf
  rw [List.length_cons] at hf
  obtain ⟨f, rfl⟩ : ∃ g, f = g + 2 := ⟨f - 2, by omega⟩
  have h := Lx.mkTok_itoa (p + 3) n
  have hi := ih (p + 4 + (Lib.itoa n).length) (f + 1) (by omega)
  have hw : word (sumNode m p (n :: ns)) = [43] := rfl
  rw [expr, if_pos (by rfl), listExpr, hw, if_neg (by decide), if_neg (by decide), if_neg (by decide), plainExpr]
  have hnodes : nodes (sumNode m p (n :: ns)) 2 9 = .ok (sumNode m p (n :: ns)).list := rfl
  have hhold : hold (sumNode m p (n :: ns)) (1 + 2) (1 + 2) = .ok () := rfl
  rw [hnodes]
  have htk : ((sumNode m p (n :: ns)).list.headD (sumNode m p (n :: ns))).takes = 2 := rfl
  simp only [htk]
  rw [if_pos (by decide), hhold]
  have htail : (sumNode m p (n :: ns)).list.tail = [.mk (mkTok (p + 3) 2 (Lib.itoa n)) [] (takesOf (Lib.itoa n)), sumNode m (p + 4 + (Lib.itoa n).length) ns] := rfl
  rw [htail]
  have e1 : expr (f + 1) (.mk (mkTok (p + 3) 2 (Lib.itoa n)) [] (takesOf (Lib.itoa n))) = .ok (.mk 0 (p + 3) [] n [] [] []) := by
   rw [h]; rfl
  simp only [each, e1, hi, sumExpr]
  rfl
theorem closes_len (p : Nat) : ∀ k q, (closes q k).length = k := by
 intro k
 induction k with
 | zero => intro q; rfl
 | succ k ih => intro q; rw [closes, List.length_cons, ih]
theorem sumToks_len (m : Int) (k : Nat) : ∀ (ns : List Int) (p : Nat), (sumToks m k p ns).length = 3 * ns.length + 1 + k := by
 intro ns
 induction ns with
 | nil => intro p; rw [sumToks, List.length_cons, closes_len 0]; simp; omega
 | cons n ns ih => intro p; simp only [sumToks, List.length_cons, ih]; omega
theorem itoa_len (n : Int) (h : Small n) : (Lib.itoa n).length ≤ 19 := by
 have hl := Lx.dec_len_lt 17 n.natAbs (by have := h.1; have := h.2; omega)
 rw [Lx.itoa_split]; split
 · rw [List.length_cons]; omega
 · omega
theorem sumPre_len : ∀ (ns : List Int), (∀ n ∈ ns, Small n) → (sumPre ns).length ≤ 23 * ns.length := by
 intro ns
 induction ns with
 | nil => intro _; simp [sumPre]
 | cons n ns ih =>
  intro h
  have e : sumPre (n :: ns) = [40, 43, 32] ++ Lib.itoa n ++ [32] ++ sumPre ns := rfl
  have h1 := itoa_len n (h n (by simp))
  have h2 := ih (fun x hx => h x (by simp [hx]))
  rw [e]; simp only [List.length_append, List.length_cons, List.length_nil]; omega
theorem exprOf_sum (m : Int) (ns : List Int) (hm : Small m) (hns : ∀ n ∈ ns, Small n) (hl : ns.length ≤ 30) :
 exprOf (sumPre ns ++ (Lib.itoa m ++ List.replicate ns.length 41)) = .done (sumExpr m 0 ns) := by
 have h1 := itoa_len m hm
 have h2 := sumPre_len ns hns
 have ht : Lx.toks ((sumPre ns ++ (Lib.itoa m ++ List.replicate ns.length 41)).length + 1) 0 (sumPre ns ++ (Lib.itoa m ++ List.replicate ns.length 41)) = (sumToks m ns.length 0 ns, none) := tk_sum m ns.length hm ns 0 hns
 unfold exprOf parsed
 rw [if_neg (by simp only [List.length_append, List.length_replicate]; omega), ht]
 simp only [onlyExpr]
 obtain ⟨p', hn⟩ := node_sum (sumPre ns ++ (Lib.itoa m ++ List.replicate ns.length 41)).length m ns.length ns 0 0 (2 * (sumToks m ns.length 0 ns).length + 2) (by omega) (by rw [sumToks_len]; omega) (Nat.le_refl _)
 rw [hn, Nat.sub_self]
 simp only [closes]
 rw [expr_sum m ns 0 50 (by omega)]
end Px
end Go.Proofs.YtpkecbijhckllaaDoor
namespace Go.Proofs.YtpkecbijhckllaaDoor
set_option linter.unusedVariables false
set_option linter.unusedSimpArgs false
namespace Lx
theorem tk_join (p : Nat) (a b : List UInt8) : tk p (a ++ 10 :: b) = match (tk p a).2 with
 | some q => ((tk p a).1, some q)
 | none => ((tk p a).1 ++ (tk (p + a.length + 1) b).1, (tk (p + a.length + 1) b).2) := by
 have h := toks_join b (a.length + 1) a p (by omega)
 unfold tk
 have e : (a ++ 10 :: b).length + 1 = a.length + 1 + b.length + 1 := by rw [List.length_append, List.length_cons]; omega
 rw [e]; exact h
theorem tk_shift (d : Nat) (l : List UInt8) : tk d l = ((tk 0 l).1.map (shift d), (tk 0 l).2.map (· + d)) := by
 have := toks_shift d (l.length + 1) 0 l
 rw [Nat.zero_add] at this; exact this
theorem way_open {l : List UInt8} {n : Nat} (h : Way l 0 n) (hn : n ≠ 0) : (at0 l 0).toNat = 40 := by
 generalize hk : (0 : Int) = k at h
 cases h with
 | arrow => omega
 | neg => omega
 | pos => omega
 | name => omega
 | con => omega
 | one h1 h2 =>
  by_cases e : (at0 l 0).toNat = 40
  · exact e
  · unfold single at hk
    rw [if_neg e] at hk
    repeat' split at hk
    all_goals omega
 | none => omega
theorem opens_toks : ∀ (f p : Nat) (l : List UInt8), Px.opens (toks f p l).1 ≤ l.count 40 := by
 intro f
 induction f with
 | zero => intro p l; simp [toks, Px.opens]
 | succ f ih =>
  intro p l
  rw [toks_step]
  by_cases h1 : l.length ≤ skipC false l
  · rw [if_pos h1]; simp [Px.opens]
  · rw [if_neg h1]
    by_cases h2 : (tokAt (l.drop (skipC false l))).2 = 0
    · rw [if_pos h2]; simp [Px.opens]
    · rw [if_neg h2]
      simp only [Px.opens]
      have hw := way (l.drop (skipC false l))
      have hi := ih (p + skipC false l + (tokAt (l.drop (skipC false l))).2) ((l.drop (skipC false l)).drop (tokAt (l.drop (skipC false l))).2)
      have hd1 := (List.drop_sublist (skipC false l) l).count_le 40
      have hl : 0 < (l.drop (skipC false l)).length := by rw [List.length_drop]; omega
      generalize l.drop (skipC false l) = r at *
      have hd2 := (List.drop_sublist (tokAt r).2 r).count_le 40
      by_cases hk : (tokAt r).1 = 0
      · rw [if_pos (by exact hk)]
        rw [hk] at hw
        have h40 := way_open hw h2
        cases r with
        | nil => simp at hl
        | cons c r =>
         have hc : c = 40 := by
          have : c.toNat = 40 := h40
          exact UInt8.toNat_inj.1 (by rw [this]; rfl)
         subst hc
         obtain ⟨j, hj⟩ : ∃ j, (tokAt (40 :: r)).2 = j + 1 := ⟨(tokAt (40 :: r)).2 - 1, by omega⟩
         rw [hj] at hi ⊢
         rw [List.drop_succ_cons] at hi ⊢
         have hd3 := (List.drop_sublist j r).count_le 40
         rw [List.count_cons_self] at hd1
         omega
      · rw [if_neg (by exact hk)]
        omega
end Lx
namespace Px
open Lx (Tok tk mkTok)
theorem node_some {stop f d : Nat} {us : List Tok} {x : Node × List Tok} (h : node stop f d us = .ok x) : ∃ t ts, us = t :: ts ∧ t.kind ≠ 1 := by
 cases f with
 | zero => cases h
 | succ f =>
  cases us with
  | nil => cases h
  | cons t ts =>
   refine ⟨t, ts, rfl, fun hk => ?_⟩
   rw [node, if_pos hk] at h; cases h
theorem rest_node {stop f d : Nat} {us ts' ts'' : List Tok} {n : Node} {l : List Node} (h : node stop f d us = .ok (n, ts')) (hr : rest stop f d ts' = .ok (l, ts'')) : rest stop (f + 1) d us = .ok (n :: l, ts'') := by
 obtain ⟨t, ts, rfl, hk⟩ := node_some h
 rw [rest, if_neg hk, h]
 simp only [hr]
theorem node_leaf' (stop f d p : Nat) (k : Int) (s : List UInt8) (ts : List Tok) (h1 : k ≠ 1) (h0 : k ≠ 0) : node stop (f + 1) d (mkTok p k s :: ts) = .ok (.mk (mkTok p k s) [] (takesOf s), ts) := node_leaf stop f d _ ts h1 h0
theorem node_list' (stop f d p : Nat) (s : List UInt8) (ts ts' : List Tok) (l : List Node) (hd : d ≠ 40) (h : rest stop f (d + 1) ts = .ok (l, ts')) : node stop (f + 1) d (mkTok p 0 s :: ts) = .ok (.mk (mkTok p 0 s) l 0, ts') :=
 node_list stop f d _ ts ts' l rfl hd h
theorem rest_end' (stop f d p : Nat) (s : List UInt8) (ts : List Tok) : rest stop (f + 1) d (mkTok p 1 s :: ts) = .ok ([], ts) := rest_end stop f d _ ts rfl
theorem Fits.mono : ∀ {k : Nat} {n : Node}, Fits k n → Fits (k + 1) n := by
 intro k
 induction k with
 | zero => intro n h m hm; rw [show n.list = [] from h] at hm; cases hm
 | succ k ih => intro n h m hm; exact ih (h m hm)
theorem Fits.le {k j : Nat} {n : Node} (h : Fits k n) (hj : k ≤ j) : Fits j n := by
 induction j with
 | zero => obtain rfl : k = 0 := by omega
           exact h
 | succ j ih =>
  by_cases e : k = j + 1
  · subst e; exact h
  · exact (ih (by omega)).mono
theorem Fits.kid {k : Nat} {n m : Node} (h : Fits k n) (hm : m ∈ n.list) : ∃ j, k = j + 1 ∧ Fits j m := by
 cases k with
 | zero => rw [show n.list = [] from h] at hm; cases hm
 | succ k => exact ⟨k, rfl, h m hm⟩
theorem node_fits (stop : Nat) : ∀ (f d : Nat) (ts : List Tok),
 (∀ n ts', node stop f d ts = .ok (n, ts') → Fits (opens ts) n) ∧ (∀ l ts', rest stop f d ts = .ok (l, ts') → ∀ m ∈ l, Fits (opens ts) m) := by
 intro f
 induction f with
 | zero => intro d ts; exact ⟨fun n ts' h => (by cases h), fun l ts' h => (by cases h)⟩
 | succ f ih =>
  intro d ts
  cases ts with
  | nil => exact ⟨fun n ts' h => (by cases h), fun l ts' h => (by cases h)⟩
  | cons t ts =>
   constructor
   · intro n ts' h
     rw [node] at h
     by_cases k1 : t.kind = 1
     · rw [if_pos k1] at h; cases h
     · rw [if_neg k1] at h
       by_cases k0 : t.kind = 0
       · rw [if_pos k0] at h
         by_cases hd : d = 40
         · rw [if_pos hd] at h; cases h
         · rw [if_neg hd] at h
           cases hr : rest stop f (d + 1) ts with
           | error p => rw [hr] at h; cases h
           | ok x =>
            obtain ⟨l, ts1⟩ := x
            rw [hr] at h
            simp only [Except.ok.injEq, Prod.mk.injEq] at h
            obtain ⟨rfl, rfl⟩ := h
            have ho : opens (t :: ts) = opens ts + 1 := by rw [opens, if_pos k0]; omega
            rw [ho]
            exact (ih (d + 1) ts).2 _ _ hr
       · rw [if_neg k0] at h
         simp only [Except.ok.injEq, Prod.mk.injEq] at h
         obtain ⟨rfl, rfl⟩ := h
         exact Fits.le (k := 0) rfl (Nat.zero_le _)
   · intro l ts' h
     rw [rest] at h
     by_cases k1 : t.kind = 1
     · rw [if_pos k1] at h
       simp only [Except.ok.injEq, Prod.mk.injEq] at h
       obtain ⟨rfl, rfl⟩ := h
       intro m hm; cases hm
     · rw [if_neg k1] at h
       cases hn : node stop f d (t :: ts) with
       | error p => rw [hn] at h; cases h
       | ok x =>
        obtain ⟨n, ts1⟩ := x
        rw [hn] at h
        simp only at h
        have hle := ((node_more stop stop f d (t :: ts)).1 _ _ hn).1
        cases hr : rest stop f d ts1 with
        | error p => rw [hr] at h; cases h
        | ok y =>
         obtain ⟨l', ts2⟩ := y
         rw [hr] at h
         simp only [Except.ok.injEq, Prod.mk.injEq] at h
         obtain ⟨rfl, rfl⟩ := h
         intro m hm
         rcases List.mem_cons.1 hm with rfl | hm
         · exact (ih d (t :: ts)).1 _ _ hn
         · exact ((ih d ts1).2 _ _ hr m hm).le hle
theorem nodes_is {n : Node} {a b : Nat} {l : List Node} (h : nodes n a b = .ok l) : l = n.list ∧ a ≤ l.length := by
 unfold nodes at h
 by_cases h1 : isListB n = true
 · rw [if_pos h1] at h
   unfold hold at h
   by_cases h2 : n.list.length < a
   · rw [if_pos h2] at h; cases h
   · rw [if_neg h2] at h
     cases hb : n.list[b]? with
     | some m => rw [hb] at h; cases h
     | none =>
      rw [hb] at h
      simp only [Except.ok.injEq] at h
      subst h
      exact ⟨rfl, by omega⟩
 · rw [if_neg h1] at h; cases h
theorem getD_mem {l : List Node} {k : Nat} {n : Node} (h : k < l.length) : l.getD k n ∈ l := by
 rw [List.getD_eq_getElem?_getD, List.getElem?_eq_getElem h]; exact List.getElem_mem h
theorem headD_mem {l : List Node} {n : Node} (h : 0 < l.length) : l.headD n ∈ l := by
 cases l with
 | nil => simp at h
 | cons a l => simp
theorem each_congr {α : Type} {f g : Node → R α} : ∀ {l : List Node}, (∀ n ∈ l, f n = g n) → each f l = each g l := by
 intro l
 induction l with
 | nil => intro _; rfl
 | cons a l ih => intro h; rw [each, each, h a (by simp), ih (fun n hn => h n (by simp [hn]))]
theorem pat_fuel : ∀ (k f f' : Nat) (n : Node), Fits k n → k < f → k < f' → pat f n = pat f' n := by
 intro k
 induction k with
 | zero =>
  intro f f' n h hf hf'
  obtain ⟨f, rfl⟩ : ∃ g, f = g + 1 := ⟨f - 1, by omega⟩
  obtain ⟨f', rfl⟩ : ∃ g, f' = g + 1 := ⟨f' - 1, by omega⟩
  rw [pat, pat]
  cases hn : nodes n 2 9 with
  | error p => rfl
  | ok l =>
   obtain ⟨rfl, h2⟩ := nodes_is hn
   rw [show n.list = [] from h] at h2; simp at h2
 | succ k ih =>
  intro f f' n h hf hf'
  obtain ⟨f, rfl⟩ : ∃ g, f = g + 1 := ⟨f - 1, by omega⟩
  obtain ⟨f', rfl⟩ : ∃ g, f' = g + 1 := ⟨f' - 1, by omega⟩
  rw [pat, pat]
  cases hn : nodes n 2 9 with
  | error p => rfl
  | ok l =>
   obtain ⟨rfl, h2⟩ := nodes_is hn
   simp only
   rw [each_congr (f := pat f) (g := pat f') (fun m hm => ih f f' m (h m (List.mem_of_mem_tail hm)) (by omega) (by omega))]
theorem expr_fuel : ∀ (k f f' : Nat) (n : Node), Fits k n → k < f → k < f' → expr f n = expr f' n := by
 intro k
 induction k with
 | zero =>
  intro f f' n h hf hf'
  obtain ⟨f, rfl⟩ : ∃ g, f = g + 1 := ⟨f - 1, by omega⟩
  obtain ⟨f', rfl⟩ : ∃ g, f' = g + 1 := ⟨f' - 1, by omega⟩
  have he : n.list = [] := h
  have hw : word n = [] := by unfold word; rw [he]
  have hp : ∀ ex : Node → R Expr, plainExpr ex n = (match nodes n 2 9 with | .error p => .error p | .ok _ => .error n.pos) := by
   intro ex
   unfold plainExpr
   cases hn : nodes n 2 9 with
   | error p => rfl
   | ok l =>
    obtain ⟨rfl, h2⟩ := nodes_is hn
    rw [he] at h2; simp at h2
  have hl : ∀ (g : Nat) (ex : Node → R Expr), listExpr g ex n = plainExpr ex n := by
   intro g ex
   unfold listExpr
   rw [hw, if_neg (by decide), if_neg (by decide), if_neg (by decide)]
  rw [expr, expr, hl, hl, hp, hp]
 | succ k ih =>
  intro f f' n h hf hf'
  obtain ⟨f, rfl⟩ : ∃ g, f = g + 1 := ⟨f - 1, by omega⟩
  obtain ⟨f', rfl⟩ : ∃ g, f' = g + 1 := ⟨f' - 1, by omega⟩
  have hk : ∀ m ∈ n.list, expr f m = expr f' m := fun m hm => ih f f' m (h m hm) (by omega) (by omega)
  have hg : ∀ m ∈ n.list, ∀ x ∈ m.list, Fits k x := fun m hm x hx => by
   obtain ⟨j, rfl, hj⟩ := Fits.kid (h m hm) hx
   exact hj.mono
  have hke : ∀ m ∈ n.list, ∀ x ∈ m.list, expr f x = expr f' x := fun m hm x hx => ih f f' x (hg m hm x hx) (by omega) (by omega)
  have hkp : ∀ m ∈ n.list, ∀ x ∈ m.list, pat f x = pat f' x := fun m hm x hx => pat_fuel k f f' x (hg m hm x hx) (by omega) (by omega)
  have hfn : fnExpr (expr f) n = fnExpr (expr f') n := by
   unfold fnExpr
   cases hn : nodes n 3 3 with
   | error p => rfl
   | ok l =>
    obtain ⟨rfl, h2⟩ := nodes_is hn
    simp only
    rw [hk _ (getD_mem (by omega))]
  have hle : letExpr (expr f) n = letExpr (expr f') n := by
   unfold letExpr
   cases hn : nodes n 3 3 with
   | error p => rfl
   | ok l =>
    obtain ⟨rfl, h2⟩ := nodes_is hn
    simp only
    rw [hk _ (getD_mem (by omega))]
    cases hp : nodes (n.list.getD 1 n) 1 8 with
    | error p => rfl
    | ok ps =>
     obtain ⟨e, h3⟩ := nodes_is hp
     simp only
     rw [each_congr (f := pair (expr f)) (g := pair (expr f')) (fun b hb => by
      have hb1 : b ∈ (n.list.getD 1 n).list := by rw [← e]; exact hb
      unfold pair
      cases hq : nodes b 2 2 with
      | error p => rfl
      | ok l2 =>
       obtain ⟨rfl, h4⟩ := nodes_is hq
       simp only
       have hb2 : b.list.getD 1 b ∈ b.list := getD_mem (by omega)
       obtain ⟨j, hj, hf1⟩ := Fits.kid (hg _ (getD_mem (by omega)) b hb1) hb2
       rw [ih f f' _ (hf1.le (by omega)) (by omega) (by omega)])]
  have hca : caseExpr f (expr f) n = caseExpr f' (expr f') n := by
   unfold caseExpr
   cases hn : nodes n 3 18 with
   | error p => rfl
   | ok l =>
    obtain ⟨rfl, h2⟩ := nodes_is hn
    simp only
    rw [hk _ (getD_mem (by omega))]
    rw [each_congr (f := alt f (expr f)) (g := alt f' (expr f')) (fun b hb => by
     have hb1 : b ∈ n.list := List.mem_of_mem_drop hb
     unfold alt
     cases hq : nodes b 2 2 with
     | error p => rfl
     | ok l2 =>
      obtain ⟨rfl, h4⟩ := nodes_is hq
      simp only
      rw [hke b hb1 _ (getD_mem (by omega)), hkp b hb1 _ (headD_mem (by omega))])]
  have hpl : plainExpr (expr f) n = plainExpr (expr f') n := by
   unfold plainExpr
   cases hn : nodes n 2 9 with
   | error p => rfl
   | ok l =>
    obtain ⟨rfl, h2⟩ := nodes_is hn
    simp only
    rw [each_congr (f := expr f) (g := expr f') hk, each_congr (f := expr f) (g := expr f') (fun m hm => hk m (List.mem_of_mem_tail hm))]
  rw [expr, expr, listExpr, listExpr, hfn, hle, hca, hpl]
def Expr.kindN : Expr → Nat | .mk k _ _ _ _ _ _ => k
def Expr.posN : Expr → Nat | .mk _ p _ _ _ _ _ => p
def Expr.argsL : Expr → List Expr | .mk _ _ _ _ _ xs _ => xs
def Expr.altsL : Expr → List (Pat × Expr) | .mk _ _ _ _ _ _ al => al
theorem SimE.parts {ρ : Nat → Nat → Prop} {x y : Expr} (h : SimE ρ x y) : y.kindN = x.kindN ∧ ρ x.posN y.posN ∧ y.argsL.length = x.argsL.length := by
 cases h with
 | mk k p q nm i ns xs ys al bl h1 h2 h3 h4 => exact ⟨rfl, h1, h2.len⟩
/-- Tokens as they come of a text: a number's text has no meaning of its own. -/
def NumPlain (t : Tok) : Prop := t.kind = 2 → Plain t.text
theorem plain_of_digit {s : List UInt8} (h : Lx.digitB (Lx.at0 s 0) = true ∨ (Lx.at0 s 0).toNat = 45 ∧ Lx.digitB (Lx.at0 s 1) = true) : Plain s := by
 have key : ∀ s' : List UInt8, s = s' → ((Lx.digitB (Lx.at0 s' 0) || ((Lx.at0 s' 0).toNat == 45 && Lx.digitB (Lx.at0 s' 1))) = true) := by
  intro s' e; subst e
  rcases h with h | ⟨h1, h2⟩
  · simp [h]
  · simp [h1, h2]
 have no : ∀ s' : List UInt8, ((Lx.digitB (Lx.at0 s' 0) || ((Lx.at0 s' 0).toNat == 45 && Lx.digitB (Lx.at0 s' 1))) = false) → s ≠ s' := by
  intro s' h e
  rw [key s' e] at h; exact absurd h (by decide)
 refine ⟨?_, no _ (by decide), no _ (by decide), no _ (by decide), no _ (by decide), no _ (by decide), no _ (by decide), no _ (by decide)⟩
 unfold takesOf
 rw [if_neg ?_, if_neg ?_]
 · rintro (e | e)
   · exact no _ (by decide) e
   · exact no _ (by decide) e
 · rintro (e | e | e | e | e | e | e | e | e | e)
   all_goals exact no _ (by decide) e
theorem at0_take (l : List UInt8) (n k : Nat) (h : k < n) : Lx.at0 (l.take n) k = Lx.at0 l k := by
 unfold Lx.at0; rw [List.getD_eq_getElem?_getD, List.getD_eq_getElem?_getD, List.getElem?_take, if_pos h]
theorem way_plain {l : List UInt8} {n : Nat} (h : Lx.Way l 2 n) : Plain (l.take n) := by
 generalize hk : (2 : Int) = k at h
 have hcnt : ∀ r : List UInt8, Lx.digitB (Lx.at0 r 0) = true → 0 < Lx.cnt Lx.digitB r := by
  intro r hr
  cases r with
  | nil => exact absurd hr (by decide)
  | cons c r => rw [Lx.cnt, if_pos (by exact hr)]; omega
 cases h with
 | arrow => omega
 | neg h1 h2 h3 h4 =>
  have e : Lx.at0 (l.drop 1) 0 = Lx.at0 l 1 := by rw [Lx.at0_drop]
  have := hcnt (l.drop 1) (by rw [e]; exact h2)
  exact plain_of_digit (.inr ⟨by rw [at0_take _ _ _ (by omega)]; exact h1, by rw [at0_take _ _ _ (by omega)]; exact h2⟩)
 | pos h1 h2 h3 =>
  have := hcnt l h1
  exact plain_of_digit (.inl (by rw [at0_take _ _ _ this]; exact h1))
 | name => omega
 | con => omega
 | one h1 h2 =>
  rcases Lx.single_cases (Lx.at0 l 0) with e | e | e | e <;> omega
 | none => omega
theorem toks_plain : ∀ (f p : Nat) (l : List UInt8), ∀ t ∈ (Lx.toks f p l).1, NumPlain t := by
 intro f
 induction f with
 | zero => intro p l t h; simp [Lx.toks] at h
 | succ f ih =>
  intro p l t h
  rw [Lx.toks_step] at h
  by_cases h1 : l.length ≤ Lx.skipC false l
  · rw [if_pos h1] at h; simp at h
  · rw [if_neg h1] at h
    by_cases h2 : (Lx.tokAt (l.drop (Lx.skipC false l))).2 = 0
    · rw [if_pos h2] at h; simp at h
    · rw [if_neg h2] at h
      rcases List.mem_cons.1 h with rfl | h
      · intro hk
        have hw := Lx.way (l.drop (Lx.skipC false l))
        have hk' : (Lx.tokAt (l.drop (Lx.skipC false l))).1 = 2 := hk
        rw [hk'] at hw
        exact way_plain hw
      · exact ih _ _ t h
theorem shift_sim (d : Nat) : ∀ (ts : List Tok), (∀ t ∈ ts, NumPlain t) → All2 (TSim (fun p q => q = p + d)) ts (ts.map (Lx.shift d))
 | [], _ => .nil
 | t :: ts, h => .cons ⟨rfl, rfl, rfl, fun hk => ⟨h t (by simp) hk, h t (by simp) hk⟩, fun _ => rfl⟩ (shift_sim d ts (fun u hu => h u (by simp [hu])))
theorem shift_opens (d : Nat) : ∀ ts : List Tok, opens (ts.map (Lx.shift d)) = opens ts
 | [] => rfl
 | t :: ts => by rw [List.map_cons, opens, opens, shift_opens d ts]; rfl
/-- What is parsed as an expression is read, and an expression, inside another text. -/
theorem inside (s : List UInt8) (x : Expr) (h : exprOf s = .done x) (d : Nat) (ho : s.count 40 < 30) :
 (tk 0 s).2 = none ∧ ∃ n y, (∀ stop f D T, 2 * (tk 0 s).1.length + 2 ≤ f → D ≤ 10 → node stop f D ((tk d s).1 ++ T) = .ok (n, T)) ∧ (∀ f, 31 ≤ f → expr f n = .ok y) ∧
  y.kindN = x.kindN ∧ y.posN = x.posN + d ∧ y.argsL.length = x.argsL.length := by
 unfold exprOf parsed at h
 by_cases hl : 4096 < s.length
 · rw [if_pos hl] at h; cases h
 · rw [if_neg hl] at h
   have et : Lx.toks (s.length + 1) 0 s = tk 0 s := rfl
   rw [et] at h
   have hop : opens (tk 0 s).1 ≤ s.count 40 := Lx.opens_toks _ _ s
   have hpl : ∀ t ∈ (tk 0 s).1, NumPlain t := toks_plain _ _ s
   rw [Lx.tk_shift d s]
   cases hs : tk 0 s with
   | mk ts o =>
    rw [hs] at h hop hpl
    cases o with
    | some q => cases h
    | none =>
     refine ⟨rfl, ?_⟩
     simp only at h hop hpl
     cases hx : onlyExpr s.length ts with
     | error p => rw [hx] at h; cases h
     | ok x' =>
      rw [hx] at h
      simp only [Outcome.done.injEq] at h
      subst h
      unfold onlyExpr at hx
      cases hn : node s.length (2 * ts.length + 2) 0 ts with
      | error p => rw [hn] at hx; cases hx
      | ok r =>
       obtain ⟨n, ts'⟩ := r
       rw [hn] at hx
       simp only at hx
       cases ts' with
       | cons t ts' => cases hx
       | nil =>
        simp only at hx
        have hsim := (node_rest_sim (ρ := fun p q => q = p + d) s.length (s.length + d) rfl (2 * ts.length + 2) 0 ts _ (shift_sim d ts hpl)).1
        rw [hn] at hsim
        cases hm : node (s.length + d) (2 * ts.length + 2) 0 (ts.map (Lx.shift d)) with
        | error p => rw [hm] at hsim; exact hsim.elim
        | ok r' =>
         obtain ⟨m, us'⟩ := r'
         rw [hm] at hsim
         have hsn : Sim (fun p q => q = p + d) n m := hsim.1
         have hus : us' = [] := by
          have := hsim.2
          cases this
          rfl
         subst hus
         have hes := expr_sim 50 n m hsn
         rw [hx] at hes
         cases hy : expr 50 m with
         | error p => rw [hy] at hes; exact hes.elim
         | ok y =>
          rw [hy] at hes
          have hse : SimE (fun p q => q = p + d) x' y := hes
          obtain ⟨a1, a2, a3⟩ := hse.parts
          have hfit : Fits 30 m := ((node_fits _ _ _ _).1 _ _ hm).le (by rw [shift_opens]; omega)
          refine ⟨m, y, fun stop f D T hf hD => ?_, fun f hf => ?_, a1, a2, a3⟩
          · have := ((node_more (s.length + d) stop (2 * ts.length + 2) 0 (ts.map (Lx.shift d))).1 _ _ hm).2.2.2 f D T hf (.inr (by rw [shift_opens]; omega))
            exact this
          · rw [expr_fuel 30 f 50 m hfit (by omega) (by omega)]; exact hy
def head1 : List UInt8 := [40, 100, 101, 102, 32, 109, 97, 105, 110, 32, 40, 41, 32]
def head2 : List UInt8 := head1 ++ [40, 114, 101, 32]
def head3 : List UInt8 := head1 ++ [40, 108, 101, 116, 32, 40, 40, 113, 32]
def head4 : List UInt8 := head1 ++ [40, 99, 97, 115, 101, 32, 49, 32, 40, 95, 32]
def tail1 : List UInt8 := [41]
def tail2 : List UInt8 := [41, 41]
def tail3 : List UInt8 := [41, 41, 32, 113, 41, 41]
def tail4 : List UInt8 := [41, 41, 41]
def toks1 : List Tok := [mkTok 0 0 [40], mkTok 1 3 [100, 101, 102], mkTok 5 3 [109, 97, 105, 110], mkTok 10 0 [40], mkTok 11 1 [41]]
theorem small_tok (c : UInt8) (t : List UInt8) (h : (Lx.smallB c && t.all Lx.wordB) = true) : Lx.IsTok 3 (c :: t) := by
 rw [Bool.and_eq_true] at h
 exact Lx.isTok_small c t h.1 (fun d hd => List.all_eq_true.1 h.2 d hd)
theorem tk_head1 (l : List UInt8) : tk 0 (head1 ++ l) = (toks1 ++ (tk 13 l).1, (tk 13 l).2) := by
 have e : head1 ++ l = 40 :: ([100, 101, 102] ++ 32 :: ([109, 97, 105, 110] ++ 32 :: 40 :: 41 :: 32 :: l)) := rfl
 rw [e, Lx.tk_open, Lx.tk_word _ (small_tok 100 [101, 102] (by decide)) (Lx.ends_32 _), Lx.tk_32, Lx.tk_word _ (small_tok 109 [97, 105, 110] (by decide)) (Lx.ends_32 _), Lx.tk_32, Lx.tk_open, Lx.tk_close, Lx.tk_32]
 rfl
def toks2 : List Tok := toks1 ++ [mkTok 13 0 [40], mkTok 14 3 [114, 101]]
theorem tk_head2 (l : List UInt8) : tk 0 (head2 ++ l) = (toks2 ++ (tk 17 l).1, (tk 17 l).2) := by
 have e : head2 ++ l = head1 ++ (40 :: ([114, 101] ++ 32 :: l)) := rfl
 rw [e, tk_head1, Lx.tk_open, Lx.tk_word _ (small_tok 114 [101] (by decide)) (Lx.ends_32 _), Lx.tk_32]
 rfl
def toks3 : List Tok := toks1 ++ [mkTok 13 0 [40], mkTok 14 3 [108, 101, 116], mkTok 18 0 [40], mkTok 19 0 [40], mkTok 20 3 [113]]
theorem tk_head3 (l : List UInt8) : tk 0 (head3 ++ l) = (toks3 ++ (tk 22 l).1, (tk 22 l).2) := by
 have e : head3 ++ l = head1 ++ (40 :: ([108, 101, 116] ++ 32 :: 40 :: 40 :: ([113] ++ 32 :: l))) := rfl
 rw [e, tk_head1, Lx.tk_open, Lx.tk_word _ (small_tok 108 [101, 116] (by decide)) (Lx.ends_32 _), Lx.tk_32, Lx.tk_open, Lx.tk_open, Lx.tk_word _ (small_tok 113 [] (by decide)) (Lx.ends_32 _), Lx.tk_32]
 rfl
def toks4 : List Tok := toks1 ++ [mkTok 13 0 [40], mkTok 14 3 [99, 97, 115, 101], mkTok 19 2 [49], mkTok 21 0 [40], mkTok 22 5 [95]]
theorem tk_head4 (l : List UInt8) : tk 0 (head4 ++ l) = (toks4 ++ (tk 24 l).1, (tk 24 l).2) := by
 have e : head4 ++ l = head1 ++ (40 :: ([99, 97, 115, 101] ++ 32 :: ([49] ++ 32 :: 40 :: ([95] ++ 32 :: l)))) := rfl
 have h95 : Lx.IsTok 5 [95] := Lx.isTok_single 95 (by decide) (by decide) (by decide) (by decide) (by decide) (by decide)
 have h49 : Lx.IsTok 2 [49] := Lx.isTok_digits [49] (by decide) (by simp) (by simp)
 rw [e, tk_head1, Lx.tk_open, Lx.tk_word _ (small_tok 99 [97, 115, 101] (by decide)) (Lx.ends_32 _), Lx.tk_32, Lx.tk_word _ h49 (Lx.ends_32 _), Lx.tk_32, Lx.tk_open, Lx.tk_word _ h95 (Lx.ends_32 _), Lx.tk_32]
 rfl
theorem tk_tail1 (p : Nat) : tk p tail1 = ([mkTok p 1 [41]], none) := by show tk p (41 :: []) = _; rw [Lx.tk_close]; rfl
theorem tk_tail2 (p : Nat) : tk p tail2 = ([mkTok p 1 [41], mkTok (p + 1) 1 [41]], none) := by show tk p (41 :: 41 :: []) = _; rw [Lx.tk_close, Lx.tk_close]; rfl
theorem tk_tail4 (p : Nat) : tk p tail4 = ([mkTok p 1 [41], mkTok (p + 1) 1 [41], mkTok (p + 2) 1 [41]], none) := by show tk p (41 :: 41 :: 41 :: []) = _; rw [Lx.tk_close, Lx.tk_close, Lx.tk_close]; rfl
theorem tk_tail3 (p : Nat) : tk p tail3 = ([mkTok p 1 [41], mkTok (p + 1) 1 [41], mkTok (p + 3) 3 [113], mkTok (p + 4) 1 [41], mkTok (p + 5) 1 [41]], none) := by
 have e : tail3 = 41 :: 41 :: 32 :: ([113] ++ 41 :: 41 :: []) := rfl
 rw [e, Lx.tk_close, Lx.tk_close, Lx.tk_32, Lx.tk_word _ (small_tok 113 [] (by decide)) (Lx.ends_41 _), Lx.tk_close, Lx.tk_close]; rfl
/-- Where no token begins in the text inside, none does in the whole. -/
theorem wrap_lex (head tail s : List UInt8) (d q : Nat) (hd : head.length = d) (ht : ∀ l, ∃ a, tk 0 (head ++ l) = (a ++ (tk d l).1, (tk d l).2)) (hq : (tk 0 s).2 = some q) (hl : (head ++ (s ++ 10 :: tail)).length ≤ 4096) :
 program (head ++ (s ++ 10 :: tail)) = .lex (q + d) := by
 obtain ⟨a, ha⟩ := ht (s ++ 10 :: tail)
 have hj := Lx.tk_join d s tail
 have hs := Lx.tk_shift d s
 rw [hq] at hs
 have h2 : (tk d s).2 = some (q + d) := by rw [hs]; rfl
 rw [h2] at hj
 unfold program parsed
 rw [if_neg (by omega)]
 have et : Lx.toks ((head ++ (s ++ 10 :: tail)).length + 1) 0 (head ++ (s ++ 10 :: tail)) = tk 0 (head ++ (s ++ 10 :: tail)) := rfl
 rw [et, ha, hj]
end Px
end Go.Proofs.YtpkecbijhckllaaDoor
namespace Go.Proofs.YtpkecbijhckllaaDoor
set_option linter.unusedVariables false
set_option linter.unusedSimpArgs false
namespace Px
open Lx (Tok tk mkTok)
/-- A program of one definition without parameters, main, whose body is the node n's expression. -/
theorem defn_main (p q r u : Nat) (n : Node) (y : Expr) (hy : expr 50 n = .ok y) :
 defn 50 (.mk (mkTok p 0 [40]) [.mk (mkTok q 3 [100, 101, 102]) [] (takesOf [100, 101, 102]), .mk (mkTok r 3 [109, 97, 105, 110]) [] (takesOf [109, 97, 105, 110]), .mk (mkTok u 0 [40]) [] 0, n] 0) = .ok ⟨p, [109, 97, 105, 110], [], y⟩ := by
 have e1 : nodes (.mk (mkTok p 0 [40]) [.mk (mkTok q 3 [100, 101, 102]) [] (takesOf [100, 101, 102]), .mk (mkTok r 3 [109, 97, 105, 110]) [] (takesOf [109, 97, 105, 110]), .mk (mkTok u 0 [40]) [] 0, n] 0) 4 4 = .ok [.mk (mkTok q 3 [100, 101, 102]) [] (takesOf [100, 101, 102]), .mk (mkTok r 3 [109, 97, 105, 110]) [] (takesOf [109, 97, 105, 110]), .mk (mkTok u 0 [40]) [] 0, n] := rfl
 have e2 : name (.mk (mkTok r 3 [109, 97, 105, 110]) [] (takesOf [109, 97, 105, 110])) = .ok [109, 97, 105, 110] := rfl
 have e3 : names (.mk (mkTok u 0 [40]) [] 0) 0 = .ok [] := rfl
 unfold defn
 rw [e1]
 simp only [List.getD_cons_succ, List.getD_cons_zero]
 rw [e2]
 simp only
 rw [e3]
 simp only
 rw [hy]
 rfl
theorem prog_main (stop : Nat) (us : List Tok) (n : Node) (y : Expr) (hy : expr 50 n = .ok y)
 (h : ∀ f, 2 * us.length ≤ f → ∃ T, rest stop f 1 us = .ok ([.mk (mkTok 1 3 [100, 101, 102]) [] (takesOf [100, 101, 102]), .mk (mkTok 5 3 [109, 97, 105, 110]) [] (takesOf [109, 97, 105, 110]), .mk (mkTok 10 0 [40]) [] 0, n], T) ∧ T = []) :
 prog stop ((mkTok 0 0 [40] :: us).length + 1) 0 (mkTok 0 0 [40] :: us) = .ok ⟨[], [⟨0, [109, 97, 105, 110], [], y⟩]⟩ := by
 obtain ⟨T, hr, rfl⟩ := h (2 * (mkTok 0 0 [40] :: us).length + 1) (by rw [List.length_cons]; omega)
 rw [prog_cons, node_list' stop _ 0 0 [40] us [] _ (by decide) hr]
 simp only
 rw [if_neg (by decide)]
 have hw : word (.mk (mkTok 0 0 [40]) [.mk (mkTok 1 3 [100, 101, 102]) [] (takesOf [100, 101, 102]), .mk (mkTok 5 3 [109, 97, 105, 110]) [] (takesOf [109, 97, 105, 110]), .mk (mkTok 10 0 [40]) [] 0, n] 0) = [100, 101, 102] := rfl
 rw [hw, if_neg (by decide), if_pos rfl, defn_main 0 1 5 10 n y hy]
 simp only
 rw [prog_nil]
theorem rest_main (stop g : Nat) (us T : List Tok) (n : Node) (h : node stop (g + 1) 1 us = .ok (n, mkTok 0 1 [41] :: T) ∨ ∃ p, node stop (g + 1) 1 us = .ok (n, mkTok p 1 [41] :: T)) :
 rest stop (g + 5) 1 (mkTok 1 3 [100, 101, 102] :: mkTok 5 3 [109, 97, 105, 110] :: mkTok 10 0 [40] :: mkTok 11 1 [41] :: us) = .ok ([.mk (mkTok 1 3 [100, 101, 102]) [] (takesOf [100, 101, 102]), .mk (mkTok 5 3 [109, 97, 105, 110]) [] (takesOf [109, 97, 105, 110]), .mk (mkTok 10 0 [40]) [] 0, n], T) := by
 have h' : ∃ p, node stop (g + 1) 1 us = .ok (n, mkTok p 1 [41] :: T) := h.elim (fun h => ⟨0, h⟩) id
 obtain ⟨p, h'⟩ := h'
 exact rest_node (node_leaf' _ _ _ _ _ _ _ (by decide) (by decide)) (rest_node (node_leaf' _ _ _ _ _ _ _ (by decide) (by decide)) (rest_node (node_list' _ _ _ _ _ _ _ _ (by decide) (rest_end' _ _ _ _ _ _)) (rest_node h' (rest_end' _ _ _ _ _ _))))
theorem expr_re (n : Node) (y : Expr) (p q : Nat) (hy : expr 49 n = .ok y) : expr 50 (.mk (mkTok p 0 [40]) [.mk (mkTok q 3 [114, 101]) [] (takesOf [114, 101]), n] 0) = .ok (.mk 7 p [114, 101] 0 [] [y] []) := by
 have ht : takesOf [114, 101] = 1 := by decide
 rw [ht, expr, if_pos (by rfl), listExpr]
 have hw : word (.mk (mkTok p 0 [40]) [.mk (mkTok q 3 [114, 101]) [] 1, n] 0) = [114, 101] := rfl
 rw [hw, if_neg (by decide), if_neg (by decide), if_neg (by decide), plainExpr]
 have e1 : nodes (.mk (mkTok p 0 [40]) [.mk (mkTok q 3 [114, 101]) [] 1, n] 0) 2 9 = .ok [.mk (mkTok q 3 [114, 101]) [] 1, n] := rfl
 have e2 : hold (.mk (mkTok p 0 [40]) [.mk (mkTok q 3 [114, 101]) [] 1, n] 0) (1 + 1) (1 + 1) = .ok () := rfl
 rw [e1]
 have htk : (([.mk (mkTok q 3 [114, 101]) [] 1, n] : List Node).headD (.mk (mkTok p 0 [40]) [.mk (mkTok q 3 [114, 101]) [] 1, n] 0)).takes = 1 := rfl
 simp only [htk]
 rw [if_pos (by decide), e2]
 simp only [List.tail_cons, each, hy]
 rfl
theorem expr_let (n : Node) (y : Expr) (p q r u v z : Nat) (hy : expr 49 n = .ok y) :
 ∃ b, expr 50 (.mk (mkTok p 0 [40]) [.mk (mkTok q 3 [108, 101, 116]) [] (takesOf [108, 101, 116]), .mk (mkTok r 0 [40]) [.mk (mkTok u 0 [40]) [.mk (mkTok v 3 [113]) [] (takesOf [113]), n] 0] 0, .mk (mkTok z 3 [113]) [] (takesOf [113])] 0) = .ok (.mk 4 p [] 0 [[113]] [y, b] []) := by
 refine ⟨.mk 1 z [113] 0 [] [] [], ?_⟩
 have ht : takesOf [113] = 0 := by decide
 rw [ht, expr, if_pos (by rfl), listExpr]
 have hw : ∀ k, word (.mk (mkTok p 0 [40]) [.mk (mkTok q 3 [108, 101, 116]) [] k, .mk (mkTok r 0 [40]) [.mk (mkTok u 0 [40]) [.mk (mkTok v 3 [113]) [] 0, n] 0] 0, .mk (mkTok z 3 [113]) [] 0] 0) = [108, 101, 116] := fun _ => rfl
 rw [hw, if_neg (by decide), if_pos rfl, letExpr]
 have e1 : ∀ k, nodes (.mk (mkTok p 0 [40]) [.mk (mkTok q 3 [108, 101, 116]) [] k, .mk (mkTok r 0 [40]) [.mk (mkTok u 0 [40]) [.mk (mkTok v 3 [113]) [] 0, n] 0] 0, .mk (mkTok z 3 [113]) [] 0] 0) 3 3 = .ok [.mk (mkTok q 3 [108, 101, 116]) [] k, .mk (mkTok r 0 [40]) [.mk (mkTok u 0 [40]) [.mk (mkTok v 3 [113]) [] 0, n] 0] 0, .mk (mkTok z 3 [113]) [] 0] := fun _ => rfl
 rw [e1]
 simp only [List.getD_cons_succ, List.getD_cons_zero]
 have e2 : nodes (.mk (mkTok r 0 [40]) [.mk (mkTok u 0 [40]) [.mk (mkTok v 3 [113]) [] 0, n] 0] 0) 1 8 = .ok [.mk (mkTok u 0 [40]) [.mk (mkTok v 3 [113]) [] 0, n] 0] := rfl
 rw [e2]
 simp only
 have e3 : pair (expr 49) (.mk (mkTok u 0 [40]) [.mk (mkTok v 3 [113]) [] 0, n] 0) = .ok ([113], y) := by
  unfold pair
  have a1 : nodes (.mk (mkTok u 0 [40]) [.mk (mkTok v 3 [113]) [] 0, n] 0) 2 2 = .ok [.mk (mkTok v 3 [113]) [] 0, n] := rfl
  have a2 : name (.mk (mkTok v 3 [113]) [] 0) = .ok [113] := rfl
  rw [a1]
  simp only [List.headD_cons, List.getD_cons_succ, List.getD_cons_zero]
  rw [a2]
  simp only
  rw [hy]
 have e4 : expr 49 (.mk (mkTok z 3 [113]) [] 0) = .ok (.mk 1 z [113] 0 [] [] []) := rfl
 simp only [each, e3, e4]
 rfl
theorem expr_case (n : Node) (y : Expr) (p q r u v : Nat) (hy : expr 49 n = .ok y) :
 ∃ b c, expr 50 (.mk (mkTok p 0 [40]) [.mk (mkTok q 3 [99, 97, 115, 101]) [] (takesOf [99, 97, 115, 101]), .mk (mkTok r 2 [49]) [] (takesOf [49]), .mk (mkTok u 0 [40]) [.mk (mkTok v 5 [95]) [] (takesOf [95]), n] 0] 0) = .ok (.mk 5 p [] 0 [] [b] [(c, y)]) := by
 refine ⟨.mk 0 r [] 1 [] [] [], .mk 0 v [] 0 [], ?_⟩
 have ht : takesOf [95] = 0 := by decide
 have ht2 : takesOf [49] = 0 := by decide
 rw [ht, ht2, expr, if_pos (by rfl), listExpr]
 have hw : ∀ k, word (.mk (mkTok p 0 [40]) [.mk (mkTok q 3 [99, 97, 115, 101]) [] k, .mk (mkTok r 2 [49]) [] 0, .mk (mkTok u 0 [40]) [.mk (mkTok v 5 [95]) [] 0, n] 0] 0) = [99, 97, 115, 101] := fun _ => rfl
 rw [hw, if_neg (by decide), if_neg (by decide), if_pos rfl, caseExpr]
 have e1 : ∀ k, nodes (.mk (mkTok p 0 [40]) [.mk (mkTok q 3 [99, 97, 115, 101]) [] k, .mk (mkTok r 2 [49]) [] 0, .mk (mkTok u 0 [40]) [.mk (mkTok v 5 [95]) [] 0, n] 0] 0) 3 18 = .ok [.mk (mkTok q 3 [99, 97, 115, 101]) [] k, .mk (mkTok r 2 [49]) [] 0, .mk (mkTok u 0 [40]) [.mk (mkTok v 5 [95]) [] 0, n] 0] := fun _ => rfl
 rw [e1]
 simp only [List.getD_cons_succ, List.getD_cons_zero, List.drop_succ_cons, List.drop_zero]
 have e2 : expr 49 (.mk (mkTok r 2 [49]) [] 0) = .ok (.mk 0 r [] 1 [] [] []) := rfl
 have e3 : alt 49 (expr 49) (.mk (mkTok u 0 [40]) [.mk (mkTok v 5 [95]) [] 0, n] 0) = .ok (.mk 0 v [] 0 [], y) := by
  unfold alt
  have a1 : nodes (.mk (mkTok u 0 [40]) [.mk (mkTok v 5 [95]) [] 0, n] 0) 2 2 = .ok [.mk (mkTok v 5 [95]) [] 0, n] := rfl
  have a2 : pat 49 (.mk (mkTok v 5 [95]) [] 0) = .ok (.mk 0 v [] 0 []) := rfl
  rw [a1]
  simp only [List.headD_cons, List.getD_cons_succ, List.getD_cons_zero]
  rw [a2]
  simp only
  rw [hy]
 simp only [each, e2, e3]
 rfl
/-- What the four laws want of a program's one definition: its body's kind, place, and number of parts, or those of a part of it. -/
def Fine (x : Expr) (d : Nat) (y : Expr) : Prop := y.kindN = x.kindN ∧ y.posN = x.posN + d ∧ y.argsL.length = x.argsL.length
theorem parsed_of {head tail s : List UInt8} {hts tts us : List Tok} {d : Nat} {q : Prog} (ht : ∀ l, tk 0 (head ++ l) = (hts ++ (tk d l).1, (tk d l).2)) (hs : (tk 0 s).2 = none) (htt : tk (d + s.length + 1) tail = (tts, none))
 (hl : (head ++ (s ++ 10 :: tail)).length ≤ 4096) (hus : hts ++ ((tk d s).1 ++ tts) = us) (hp : ∀ L, prog L (us.length + 1) 0 us = .ok q) :
 program (head ++ (s ++ 10 :: tail)) = .done q := by
 have hj := Lx.tk_join d s tail
 have hs2 := Lx.tk_shift d s
 have h2 : (tk d s).2 = none := by rw [hs2, hs]; rfl
 rw [h2, htt] at hj
 simp only at hj
 have et : Lx.toks ((head ++ (s ++ 10 :: tail)).length + 1) 0 (head ++ (s ++ 10 :: tail)) = (us, none) := by
  show tk 0 (head ++ (s ++ 10 :: tail)) = _
  rw [ht, hj]
  simp only
  rw [hus]
 unfold program parsed
 rw [if_neg (by omega), et]
 simp only
 rw [hp]
theorem tkd_len (s : List UInt8) (d : Nat) : (tk d s).1.length = (tk 0 s).1.length := by rw [Lx.tk_shift]; simp
section
variable {s : List UInt8} {x : Expr} (h : exprOf s = .done x) (ho : s.count 40 < 30) (hl : s.length ≤ 1500)
include h ho hl
theorem wrap1 : ∃ y, program (head1 ++ (s ++ 10 :: tail1)) = .done ⟨[], [⟨0, [109, 97, 105, 110], [], y⟩]⟩ ∧ Fine x 13 y := by
 obtain ⟨hs, n, y, hn, he, hf⟩ := inside s x h 13 ho
 refine ⟨y, ?_, hf⟩
 have hlen := tkd_len s 13
 refine parsed_of (d := 13) tk_head1 hs (tk_tail1 _) (by simp only [List.length_append, List.length_cons, head1, tail1, List.length_nil]; omega) rfl (fun L => ?_)
 exact prog_main L (mkTok 1 3 [100, 101, 102] :: mkTok 5 3 [109, 97, 105, 110] :: mkTok 10 0 [40] :: mkTok 11 1 [41] :: ((tk 13 s).1 ++ [mkTok (13 + s.length + 1) 1 [41]])) n y (he 50 (by omega)) (fun f hf => by
  simp only [List.length_cons, List.length_append, List.length_nil, hlen] at hf
  obtain ⟨g, rfl⟩ : ∃ g, f = g + 5 := ⟨f - 5, by omega⟩
  exact ⟨[], rest_main L g _ [] n (.inr ⟨_, hn L (g + 1) 1 [mkTok (13 + s.length + 1) 1 [41]] (by omega) (by omega)⟩), rfl⟩)
theorem wrap2 : ∃ y, program (head2 ++ (s ++ 10 :: tail2)) = .done ⟨[], [⟨0, [109, 97, 105, 110], [], .mk 7 13 [114, 101] 0 [] [y] []⟩]⟩ ∧ Fine x 17 y := by
 obtain ⟨hs, n, y, hn, he, hf⟩ := inside s x h 17 ho
 refine ⟨y, ?_, hf⟩
 have hlen := tkd_len s 17
 refine parsed_of (d := 17) tk_head2 hs (tk_tail2 _) (by simp only [List.length_append, List.length_cons, head2, head1, tail2, List.length_nil]; omega) rfl (fun L => ?_)
 generalize 17 + s.length + 1 = P
 exact prog_main L (mkTok 1 3 [100, 101, 102] :: mkTok 5 3 [109, 97, 105, 110] :: mkTok 10 0 [40] :: mkTok 11 1 [41] :: mkTok 13 0 [40] :: mkTok 14 3 [114, 101] :: ((tk 17 s).1 ++ [mkTok P 1 [41], mkTok (P + 1) 1 [41]])) _ _ (expr_re n y 13 14 (he 49 (by omega))) (fun f hf => by
  simp only [List.length_cons, List.length_append, List.length_nil, hlen] at hf
  obtain ⟨g, rfl⟩ : ∃ g, f = g + 8 := ⟨f - 8, by omega⟩
  exact ⟨[], rest_main L (g + 3) _ [] _ (.inr ⟨_, node_list' L _ 1 13 [40] _ _ _ (by decide) (rest_node (node_leaf' _ _ _ _ _ _ _ (by decide) (by decide)) (rest_node (hn L (g + 1) 2 [mkTok P 1 [41], mkTok (P + 1) 1 [41]] (by omega) (by omega)) (rest_end' _ _ _ _ _ _)))⟩), rfl⟩)
theorem wrap3 : ∃ y b, program (head3 ++ (s ++ 10 :: tail3)) = .done ⟨[], [⟨0, [109, 97, 105, 110], [], .mk 4 13 [] 0 [[113]] [y, b] []⟩]⟩ ∧ Fine x 22 y := by
 obtain ⟨hs, n, y, hn, he, hf⟩ := inside s x h 22 ho
 generalize hP : 22 + s.length + 1 = P
 obtain ⟨b, hb⟩ := expr_let n y 13 14 18 19 20 (P + 3) (he 49 (by omega))
 refine ⟨y, b, ?_, hf⟩
 have hlen := tkd_len s 22
 refine parsed_of (d := 22) tk_head3 hs (tk_tail3 _) (by simp only [List.length_append, List.length_cons, head3, head1, tail3, List.length_nil]; omega) rfl (fun L => ?_)
 rw [hP]
 exact prog_main L (mkTok 1 3 [100, 101, 102] :: mkTok 5 3 [109, 97, 105, 110] :: mkTok 10 0 [40] :: mkTok 11 1 [41] :: mkTok 13 0 [40] :: mkTok 14 3 [108, 101, 116] :: mkTok 18 0 [40] :: mkTok 19 0 [40] :: mkTok 20 3 [113] :: ((tk 22 s).1 ++ [mkTok P 1 [41], mkTok (P + 1) 1 [41], mkTok (P + 3) 3 [113], mkTok (P + 4) 1 [41], mkTok (P + 5) 1 [41]])) _ _ hb (fun f hf => by
  simp only [List.length_cons, List.length_append, List.length_nil, hlen] at hf
  obtain ⟨g, rfl⟩ : ∃ g, f = g + 13 := ⟨f - 13, by omega⟩
  exact ⟨[], rest_main L (g + 8) _ [] _ (.inr ⟨_, node_list' L _ 1 13 [40] _ _ _ (by decide) (rest_node (node_leaf' _ _ _ _ _ _ _ (by decide) (by decide))
   (rest_node (node_list' L _ 2 18 [40] _ _ _ (by decide) (rest_node (node_list' L _ 3 19 [40] _ _ _ (by decide) (rest_node (node_leaf' _ _ _ _ _ _ _ (by decide) (by decide))
    (rest_node (hn L (g + 1) 4 [mkTok P 1 [41], mkTok (P + 1) 1 [41], mkTok (P + 3) 3 [113], mkTok (P + 4) 1 [41], mkTok (P + 5) 1 [41]] (by omega) (by omega)) (rest_end' _ _ _ _ _ _)))) (rest_end' _ _ _ _ _ _)))
    (rest_node (node_leaf' _ _ _ _ _ _ _ (by decide) (by decide)) (rest_end' _ _ _ _ _ _))))⟩), rfl⟩)
theorem wrap4 : ∃ y b c, program (head4 ++ (s ++ 10 :: tail4)) = .done ⟨[], [⟨0, [109, 97, 105, 110], [], .mk 5 13 [] 0 [] [b] [(c, y)]⟩]⟩ ∧ Fine x 24 y := by
 obtain ⟨hs, n, y, hn, he, hf⟩ := inside s x h 24 ho
 generalize hP : 24 + s.length + 1 = P
 obtain ⟨b, c, hb⟩ := expr_case n y 13 14 19 21 22 (he 49 (by omega))
 refine ⟨y, b, c, ?_, hf⟩
 have hlen := tkd_len s 24
 refine parsed_of (d := 24) tk_head4 hs (tk_tail4 _) (by simp only [List.length_append, List.length_cons, head4, head1, tail4, List.length_nil]; omega) rfl (fun L => ?_)
 rw [hP]
 exact prog_main L (mkTok 1 3 [100, 101, 102] :: mkTok 5 3 [109, 97, 105, 110] :: mkTok 10 0 [40] :: mkTok 11 1 [41] :: mkTok 13 0 [40] :: mkTok 14 3 [99, 97, 115, 101] :: mkTok 19 2 [49] :: mkTok 21 0 [40] :: mkTok 22 5 [95] :: ((tk 24 s).1 ++ [mkTok P 1 [41], mkTok (P + 1) 1 [41], mkTok (P + 2) 1 [41]])) _ _ hb (fun f hf => by
  simp only [List.length_cons, List.length_append, List.length_nil, hlen] at hf
  obtain ⟨g, rfl⟩ : ∃ g, f = g + 12 := ⟨f - 12, by omega⟩
  exact ⟨[], rest_main L (g + 7) _ [] _ (.inr ⟨_, node_list' L _ 1 13 [40] _ _ _ (by decide) (rest_node (node_leaf' _ _ _ _ _ _ _ (by decide) (by decide)) (rest_node (node_leaf' _ _ _ _ _ _ _ (by decide) (by decide))
   (rest_node (node_list' L _ 2 21 [40] _ _ _ (by decide) (rest_node (node_leaf' _ _ _ _ _ _ _ (by decide) (by decide))
    (rest_node (hn L (g + 1) 3 [mkTok P 1 [41], mkTok (P + 1) 1 [41], mkTok (P + 2) 1 [41]] (by omega) (by omega)) (rest_end' _ _ _ _ _ _)))) (rest_end' _ _ _ _ _ _))))⟩), rfl⟩)
end
theorem expr_pos : ∀ (f : Nat) (n : Node) (x : Expr), expr f n = .ok x → x.posN = n.pos := by
 intro f n x h
 cases f with
 | zero => cases h
 | succ f =>
  rw [expr] at h
  have fin : ∀ {k : Nat} {nm : List UInt8} {i : Int} {ns : List (List UInt8)} {xs : List Expr} {al : List (Pat × Expr)}, (Except.ok (Expr.mk k n.pos nm i ns xs al) : R Expr) = .ok x → x.posN = n.pos := by
   intro k nm i ns xs al e
   simp only [Except.ok.injEq] at e
   subst e; rfl
  by_cases h1 : isListB n = true
  · rw [if_pos h1] at h
    unfold listExpr at h
    split at h
    · unfold fnExpr at h
      repeat' split at h
      all_goals first | exact fin h | cases h
    · split at h
      · unfold letExpr at h
        repeat' split at h
        all_goals first | exact fin h | cases h
      · split at h
        · unfold caseExpr at h
          repeat' split at h
          all_goals first | exact fin h | cases h
        · unfold plainExpr at h
          simp only at h
          repeat' split at h
          all_goals first | exact fin h | cases h
  · rw [if_neg h1] at h
    repeat' split at h
    all_goals first | exact fin h | cases h
theorem exprOf_pos (l : List UInt8) (x : Expr) (h : exprOf l = .done x) : x.posN ≤ l.length := by
 unfold exprOf parsed at h
 by_cases hl : 4096 < l.length
 · rw [if_pos hl] at h; cases h
 · rw [if_neg hl] at h
   cases ht : Lx.toks (l.length + 1) 0 l with
   | mk ts o =>
    rw [ht] at h
    cases o with
    | some q => cases h
    | none =>
     simp only at h
     cases hx : onlyExpr l.length ts with
     | error p => rw [hx] at h; cases h
     | ok x' =>
      rw [hx] at h
      simp only [Outcome.done.injEq] at h
      subst h
      unfold onlyExpr at hx
      cases hn : node l.length (2 * ts.length + 2) 0 ts with
      | error p => rw [hn] at hx; cases hx
      | ok r =>
       obtain ⟨n, ts'⟩ := r
       rw [hn] at hx
       obtain ⟨t, us, rfl, hk⟩ := node_some hn
       have ht2 : n.tok = t := by
        rw [node, if_neg hk] at hn
        split at hn
        · split at hn
          · cases hn
          · split at hn
            · cases hn
            · simp only [Except.ok.injEq, Prod.mk.injEq] at hn; rw [← hn.1]; rfl
        · simp only [Except.ok.injEq, Prod.mk.injEq] at hn; rw [← hn.1]; rfl
       simp only at hx
       cases ts' with
       | cons t' ts' => cases hx
       | nil =>
        simp only at hx
        rw [expr_pos 50 n x' hx]
        have hm := Lx.toks_mem (l.length + 1) 0 l t (by rw [ht]; simp)
        show n.tok.pos ≤ _
        rw [ht2]; omega
end Px
end Go.Proofs.YtpkecbijhckllaaDoor
