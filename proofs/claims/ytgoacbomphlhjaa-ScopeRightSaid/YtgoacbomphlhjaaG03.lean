/-
  Several texts in one: PWrapPure, Good, RefA, RefB, RefC.
-/
import Derived.Test.YtgoacbomphlhjaaG02
import Derived.Test.YtgoacbomphlhjaaG00
import Derived.Test.YtgoacbomphlhjaaG01
namespace Go.Proofs.Ytgoacbomphlhjaa
set_option linter.unusedVariables false
set_option linter.unusedSimpArgs false
namespace Lx
theorem tk_join (p : Nat) (a b : List UInt8) : tk p (a ++ 10 :: b) = match (tk p a).2 with
 | some q => ((tk p a).1, some q)
 | none => ((tk p a).1 ++ (tk (p + a.length + 1) b).1, (tk (p + a.length + 1) b).2) := by
 have h := toks_join b (a.length + 1) a p (by omega)
 unfold tk
 have e : (a ++ 10 :: b).length + 1 = a.length + 1 + b.length + 1 := by rw [List.length_append, List.length_cons]; omega
 rw [e]; exact h
theorem tk_shift (d : Nat) (l : List UInt8) : tk d l = ((tk 0 l).1.map (shift d), (tk 0 l).2.map (· + d)) := by
 have := toks_shift d (l.length + 1) 0 l
 rw [Nat.zero_add] at this; exact this
theorem way_open {l : List UInt8} {n : Nat} (h : Way l 0 n) (hn : n ≠ 0) : (at0 l 0).toNat = 40 := by
 generalize hk : (0 : Int) = k at h
 cases h with
 | arrow => omega
 | neg => omega
 | pos => omega
 | name => omega
 | con => omega
 | one h1 h2 =>
   by_cases e : (at0 l 0).toNat = 40
   · exact e
   · unfold single at hk
     rw [if_neg e] at hk
     repeat' split at hk
     all_goals omega
 | none => omega
theorem opens_toks : ∀ (f p : Nat) (l : List UInt8), Px.opens (toks f p l).1 ≤ l.count 40 := by
 intro f
 induction f with
 | zero => intro p l; simp [toks, Px.opens]
 | succ f ih =>
   intro p l
   rw [toks_step]
   by_cases h1 : l.length ≤ skipC false l
   · rw [if_pos h1]; simp [Px.opens]
   · rw [if_neg h1]
     by_cases h2 : (tokAt (l.drop (skipC false l))).2 = 0
     · rw [if_pos h2]; simp [Px.opens]
     · rw [if_neg h2]
       simp only [Px.opens]
       have hw := way (l.drop (skipC false l))
       have hi := ih (p + skipC false l + (tokAt (l.drop (skipC false l))).2) ((l.drop (skipC false l)).drop (tokAt (l.drop (skipC false l))).2)
       have hd1 := (List.drop_sublist (skipC false l) l).count_le 40
       have hl : 0 < (l.drop (skipC false l)).length := by rw [List.length_drop]; omega
       generalize l.drop (skipC false l) = r at *
       have hd2 := (List.drop_sublist (tokAt r).2 r).count_le 40
       by_cases hk : (tokAt r).1 = 0
       · rw [if_pos (by exact hk)]
         rw [hk] at hw
         have h40 := way_open hw h2
         cases r with
         | nil => simp at hl
         | cons c r =>
           have hc : c = 40 := by
            have : c.toNat = 40 := h40
            exact UInt8.toNat_inj.1 (by rw [this]; rfl)
           subst hc
           obtain ⟨j, hj⟩ : ∃ j, (tokAt (40 :: r)).2 = j + 1 := ⟨(tokAt (40 :: r)).2 - 1, by omega⟩
           rw [hj] at hi ⊢
           rw [List.drop_succ_cons] at hi ⊢
           have hd3 := (List.drop_sublist j r).count_le 40
           rw [List.count_cons_self] at hd1
           omega
       · rw [if_neg (by exact hk)]
         omega
end Lx
namespace Px
open Lx (Tok tk mkTok)
theorem node_some {stop f d : Nat} {us : List Tok} {x : Node × List Tok} (h : node stop f d us = .ok x) : ∃ t ts, us = t :: ts ∧ t.kind ≠ 1 := by
 cases f with
 | zero => cases h
 | succ f =>
   cases us with
   | nil => cases h
   | cons t ts =>
     refine ⟨t, ts, rfl, fun hk => ?_⟩
     rw [node, if_pos hk] at h; cases h
theorem rest_node {stop f d : Nat} {us ts' ts'' : List Tok} {n : Node} {l : List Node} (h : node stop f d us = .ok (n, ts')) (hr : rest stop f d ts' = .ok (l, ts'')) : rest stop (f + 1) d us = .ok (n :: l, ts'') := by
 obtain ⟨t, ts, rfl, hk⟩ := node_some h
 rw [rest, if_neg hk, h]
 simp only [hr]
theorem node_leaf' (stop f d p : Nat) (k : Int) (s : List UInt8) (ts : List Tok) (h1 : k ≠ 1) (h0 : k ≠ 0) : node stop (f + 1) d (mkTok p k s :: ts) = .ok (.mk (mkTok p k s) [] (takesOf s), ts) := node_leaf stop f d _ ts h1 h0
theorem node_list' (stop f d p : Nat) (s : List UInt8) (ts ts' : List Tok) (l : List Node) (hd : d ≠ 40) (h : rest stop f (d + 1) ts = .ok (l, ts')) : node stop (f + 1) d (mkTok p 0 s :: ts) = .ok (.mk (mkTok p 0 s) l 0, ts') :=
 node_list stop f d _ ts ts' l rfl hd h
theorem rest_end' (stop f d p : Nat) (s : List UInt8) (ts : List Tok) : rest stop (f + 1) d (mkTok p 1 s :: ts) = .ok ([], ts) := rest_end stop f d _ ts rfl
theorem Fits.mono : ∀ {k : Nat} {n : Node}, Fits k n → Fits (k + 1) n := by
 intro k
 induction k with
 | zero => intro n h m hm; rw [show n.list = [] from h] at hm; cases hm
 | succ k ih => intro n h m hm; exact ih (h m hm)
theorem Fits.le {k j : Nat} {n : Node} (h : Fits k n) (hj : k ≤ j) : Fits j n := by
 induction j with
 | zero => obtain rfl : k = 0 := by omega
           exact h
 | succ j ih =>
   by_cases e : k = j + 1
   · subst e; exact h
   · exact (ih (by omega)).mono
theorem Fits.kid {k : Nat} {n m : Node} (h : Fits k n) (hm : m ∈ n.list) : ∃ j, k = j + 1 ∧ Fits j m := by
 cases k with
 | zero => rw [show n.list = [] from h] at hm; cases hm
 | succ k => exact ⟨k, rfl, h m hm⟩
theorem node_fits (stop : Nat) : ∀ (f d : Nat) (ts : List Tok),
 (∀ n ts', node stop f d ts = .ok (n, ts') → Fits (opens ts) n) ∧ (∀ l ts', rest stop f d ts = .ok (l, ts') → ∀ m ∈ l, Fits (opens ts) m) := by
 intro f
 induction f with
 | zero => intro d ts; exact ⟨fun n ts' h => (by cases h), fun l ts' h => (by cases h)⟩
 | succ f ih =>
   intro d ts
   cases ts with
   | nil => exact ⟨fun n ts' h => (by cases h), fun l ts' h => (by cases h)⟩
   | cons t ts =>
     constructor
     · intro n ts' h
       rw [node] at h
       by_cases k1 : t.kind = 1
       · rw [if_pos k1] at h; cases h
       · rw [if_neg k1] at h
         by_cases k0 : t.kind = 0
         · rw [if_pos k0] at h
           by_cases hd : d = 40
           · rw [if_pos hd] at h; cases h
           · rw [if_neg hd] at h
             cases hr : rest stop f (d + 1) ts with
             | error p => rw [hr] at h; cases h
             | ok x =>
               obtain ⟨l, ts1⟩ := x
               rw [hr] at h
               simp only [Except.ok.injEq, Prod.mk.injEq] at h
               obtain ⟨rfl, rfl⟩ := h
               have ho : opens (t :: ts) = opens ts + 1 := by rw [opens, if_pos k0]; omega
               rw [ho]
               exact (ih (d + 1) ts).2 _ _ hr
         · rw [if_neg k0] at h
           simp only [Except.ok.injEq, Prod.mk.injEq] at h
           obtain ⟨rfl, rfl⟩ := h
           exact Fits.le (k := 0) rfl (Nat.zero_le _)
     · intro l ts' h
       rw [rest] at h
       by_cases k1 : t.kind = 1
       · rw [if_pos k1] at h
         simp only [Except.ok.injEq, Prod.mk.injEq] at h
         obtain ⟨rfl, rfl⟩ := h
         intro m hm; cases hm
       · rw [if_neg k1] at h
         cases hn : node stop f d (t :: ts) with
         | error p => rw [hn] at h; cases h
         | ok x =>
           obtain ⟨n, ts1⟩ := x
           rw [hn] at h
           simp only at h
           have hle := ((node_more stop stop f d (t :: ts)).1 _ _ hn).1
           cases hr : rest stop f d ts1 with
           | error p => rw [hr] at h; cases h
           | ok y =>
             obtain ⟨l', ts2⟩ := y
             rw [hr] at h
             simp only [Except.ok.injEq, Prod.mk.injEq] at h
             obtain ⟨rfl, rfl⟩ := h
             intro m hm
             rcases List.mem_cons.1 hm with rfl | hm
             · exact (ih d (t :: ts)).1 _ _ hn
             · exact ((ih d ts1).2 _ _ hr m hm).le hle
theorem nodes_is {n : Node} {a b : Nat} {l : List Node} (h : nodes n a b = .ok l) : l = n.list ∧ a ≤ l.length := by
 unfold nodes at h
 by_cases h1 : isListB n = true
 · rw [if_pos h1] at h
   unfold hold at h
   by_cases h2 : n.list.length < a
   · rw [if_pos h2] at h; cases h
   · rw [if_neg h2] at h
     cases hb : n.list[b]? with
     | some m => rw [hb] at h; cases h
     | none =>
       rw [hb] at h
       simp only [Except.ok.injEq] at h
       subst h
       exact ⟨rfl, by omega⟩
 · rw [if_neg h1] at h; cases h
theorem getD_mem {l : List Node} {k : Nat} {n : Node} (h : k < l.length) : l.getD k n ∈ l := by
 rw [List.getD_eq_getElem?_getD, List.getElem?_eq_getElem h]; exact List.getElem_mem h
theorem headD_mem {l : List Node} {n : Node} (h : 0 < l.length) : l.headD n ∈ l := by
 cases l with
 | nil => simp at h
 | cons a l => simp
theorem each_congr {α : Type} {f g : Node → R α} : ∀ {l : List Node}, (∀ n ∈ l, f n = g n) → each f l = each g l := by
 intro l
 induction l with
 | nil => intro _; rfl
 | cons a l ih => intro h; rw [each, each, h a (by simp), ih (fun n hn => h n (by simp [hn]))]
theorem pat_fuel : ∀ (k f f' : Nat) (n : Node), Fits k n → k < f → k < f' → pat f n = pat f' n := by
 intro k
 induction k with
 | zero =>
   intro f f' n h hf hf'
   obtain ⟨f, rfl⟩ : ∃ g, f = g + 1 := ⟨f - 1, by omega⟩
   obtain ⟨f', rfl⟩ : ∃ g, f' = g + 1 := ⟨f' - 1, by omega⟩
   rw [pat, pat]
   cases hn : nodes n 2 9 with
   | error p => rfl
   | ok l =>
     obtain ⟨rfl, h2⟩ := nodes_is hn
     rw [show n.list = [] from h] at h2; simp at h2
 | succ k ih =>
   intro f f' n h hf hf'
   obtain ⟨f, rfl⟩ : ∃ g, f = g + 1 := ⟨f - 1, by omega⟩
   obtain ⟨f', rfl⟩ : ∃ g, f' = g + 1 := ⟨f' - 1, by omega⟩
   rw [pat, pat]
   cases hn : nodes n 2 9 with
   | error p => rfl
   | ok l =>
     obtain ⟨rfl, h2⟩ := nodes_is hn
     simp only
     rw [each_congr (f := pat f) (g := pat f') (fun m hm => ih f f' m (h m (List.mem_of_mem_tail hm)) (by omega) (by omega))]
theorem expr_fuel : ∀ (k f f' : Nat) (n : Node), Fits k n → k < f → k < f' → expr f n = expr f' n := by
 intro k
 induction k with
 | zero =>
   intro f f' n h hf hf'
   obtain ⟨f, rfl⟩ : ∃ g, f = g + 1 := ⟨f - 1, by omega⟩
   obtain ⟨f', rfl⟩ : ∃ g, f' = g + 1 := ⟨f' - 1, by omega⟩
   have he : n.list = [] := h
   have hw : word n = [] := by unfold word; rw [he]
   have hp : ∀ ex : Node → R Expr, plainExpr ex n = (match nodes n 2 9 with | .error p => .error p | .ok _ => .error n.pos) := by
    intro ex
    unfold plainExpr
    cases hn : nodes n 2 9 with
    | error p => rfl
    | ok l =>
      obtain ⟨rfl, h2⟩ := nodes_is hn
      rw [he] at h2; simp at h2
   have hl : ∀ (g : Nat) (ex : Node → R Expr), listExpr g ex n = plainExpr ex n := by
    intro g ex
    unfold listExpr
    rw [hw, if_neg (by decide), if_neg (by decide), if_neg (by decide)]
   rw [expr, expr, hl, hl, hp, hp]
 | succ k ih =>
   intro f f' n h hf hf'
   obtain ⟨f, rfl⟩ : ∃ g, f = g + 1 := ⟨f - 1, by omega⟩
   obtain ⟨f', rfl⟩ : ∃ g, f' = g + 1 := ⟨f' - 1, by omega⟩
   have hk : ∀ m ∈ n.list, expr f m = expr f' m := fun m hm => ih f f' m (h m hm) (by omega) (by omega)
   have hg : ∀ m ∈ n.list, ∀ x ∈ m.list, Fits k x := fun m hm x hx => by
    obtain ⟨j, rfl, hj⟩ := Fits.kid (h m hm) hx
    exact hj.mono
   have hke : ∀ m ∈ n.list, ∀ x ∈ m.list, expr f x = expr f' x := fun m hm x hx => ih f f' x (hg m hm x hx) (by omega) (by omega)
   have hkp : ∀ m ∈ n.list, ∀ x ∈ m.list, pat f x = pat f' x := fun m hm x hx => pat_fuel k f f' x (hg m hm x hx) (by omega) (by omega)
   have hfn : fnExpr (expr f) n = fnExpr (expr f') n := by
    unfold fnExpr
    cases hn : nodes n 3 3 with
    | error p => rfl
    | ok l =>
      obtain ⟨rfl, h2⟩ := nodes_is hn
      simp only
      rw [hk _ (getD_mem (by omega))]
   have hle : letExpr (expr f) n = letExpr (expr f') n := by
    unfold letExpr
    cases hn : nodes n 3 3 with
    | error p => rfl
    | ok l =>
      obtain ⟨rfl, h2⟩ := nodes_is hn
      simp only
      rw [hk _ (getD_mem (by omega))]
      cases hp : nodes (n.list.getD 1 n) 1 8 with
      | error p => rfl
      | ok ps =>
        obtain ⟨e, h3⟩ := nodes_is hp
        simp only
        rw [each_congr (f := pair (expr f)) (g := pair (expr f')) (fun b hb => by
         have hb1 : b ∈ (n.list.getD 1 n).list := by rw [← e]; exact hb
         unfold pair
         cases hq : nodes b 2 2 with
         | error p => rfl
         | ok l2 =>
           obtain ⟨rfl, h4⟩ := nodes_is hq
           simp only
           have hb2 : b.list.getD 1 b ∈ b.list := getD_mem (by omega)
           obtain ⟨j, hj, hf1⟩ := Fits.kid (hg _ (getD_mem (by omega)) b hb1) hb2
           rw [ih f f' _ (hf1.le (by omega)) (by omega) (by omega)])]
   have hca : caseExpr f (expr f) n = caseExpr f' (expr f') n := by
    unfold caseExpr
    cases hn : nodes n 3 18 with
    | error p => rfl
    | ok l =>
      obtain ⟨rfl, h2⟩ := nodes_is hn
      simp only
      rw [hk _ (getD_mem (by omega))]
      rw [each_congr (f := alt f (expr f)) (g := alt f' (expr f')) (fun b hb => by
       have hb1 : b ∈ n.list := List.mem_of_mem_drop hb
       unfold alt
       cases hq : nodes b 2 2 with
       | error p => rfl
       | ok l2 =>
         obtain ⟨rfl, h4⟩ := nodes_is hq
         simp only
         rw [hke b hb1 _ (getD_mem (by omega)), hkp b hb1 _ (headD_mem (by omega))])]
   have hpl : plainExpr (expr f) n = plainExpr (expr f') n := by
    unfold plainExpr
    cases hn : nodes n 2 9 with
    | error p => rfl
    | ok l =>
      obtain ⟨rfl, h2⟩ := nodes_is hn
      simp only
      rw [each_congr (f := expr f) (g := expr f') hk, each_congr (f := expr f) (g := expr f') (fun m hm => hk m (List.mem_of_mem_tail hm))]
   rw [expr, expr, listExpr, listExpr, hfn, hle, hca, hpl]
def Expr.kindN : Expr → Nat | .mk k _ _ _ _ _ _ => k
def Expr.posN : Expr → Nat | .mk _ p _ _ _ _ _ => p
def Expr.argsL : Expr → List Expr | .mk _ _ _ _ _ xs _ => xs
def Expr.altsL : Expr → List (Pat × Expr) | .mk _ _ _ _ _ _ al => al
theorem SimE.parts {ρ : Nat → Nat → Prop} {x y : Expr} (h : SimE ρ x y) : y.kindN = x.kindN ∧ ρ x.posN y.posN ∧ y.argsL.length = x.argsL.length := by
 cases h with
 | mk k p q nm i ns xs ys al bl h1 h2 h3 h4 => exact ⟨rfl, h1, h2.len⟩
/-- Tokens as they come of a text: a number's text has no meaning of its own. -/
def NumPlain (t : Tok) : Prop := t.kind = 2 → Plain t.text
theorem plain_of_digit {s : List UInt8} (h : Lx.digitB (Lx.at0 s 0) = true ∨ (Lx.at0 s 0).toNat = 45 ∧ Lx.digitB (Lx.at0 s 1) = true) : Plain s := by
 have key : ∀ s' : List UInt8, s = s' → ((Lx.digitB (Lx.at0 s' 0) || ((Lx.at0 s' 0).toNat == 45 && Lx.digitB (Lx.at0 s' 1))) = true) := by
  intro s' e; subst e
  rcases h with h | ⟨h1, h2⟩
  · simp [h]
  · simp [h1, h2]
 have no : ∀ s' : List UInt8, ((Lx.digitB (Lx.at0 s' 0) || ((Lx.at0 s' 0).toNat == 45 && Lx.digitB (Lx.at0 s' 1))) = false) → s ≠ s' := by
  intro s' h e
  rw [key s' e] at h; exact absurd h (by decide)
 refine ⟨?_, no _ (by decide), no _ (by decide), no _ (by decide), no _ (by decide), no _ (by decide), no _ (by decide), no _ (by decide)⟩
 unfold takesOf
 rw [if_neg ?_, if_neg ?_]
 · rintro (e | e)
   · exact no _ (by decide) e
   · exact no _ (by decide) e
 · rintro (e | e | e | e | e | e | e | e | e | e)
   all_goals exact no _ (by decide) e
theorem at0_take (l : List UInt8) (n k : Nat) (h : k < n) : Lx.at0 (l.take n) k = Lx.at0 l k := by
 unfold Lx.at0; rw [List.getD_eq_getElem?_getD, List.getD_eq_getElem?_getD, List.getElem?_take, if_pos h]
theorem way_plain {l : List UInt8} {n : Nat} (h : Lx.Way l 2 n) : Plain (l.take n) := by
 generalize hk : (2 : Int) = k at h
 have hcnt : ∀ r : List UInt8, Lx.digitB (Lx.at0 r 0) = true → 0 < Lx.cnt Lx.digitB r := by
  intro r hr
  cases r with
  | nil => exact absurd hr (by decide)
  | cons c r => rw [Lx.cnt, if_pos (by exact hr)]; omega
 cases h with
 | arrow => omega
 | neg h1 h2 h3 h4 =>
   have e : Lx.at0 (l.drop 1) 0 = Lx.at0 l 1 := by rw [Lx.at0_drop]
   have := hcnt (l.drop 1) (by rw [e]; exact h2)
   exact plain_of_digit (.inr ⟨by rw [at0_take _ _ _ (by omega)]; exact h1, by rw [at0_take _ _ _ (by omega)]; exact h2⟩)
 | pos h1 h2 h3 =>
   have := hcnt l h1
   exact plain_of_digit (.inl (by rw [at0_take _ _ _ this]; exact h1))
 | name => omega
 | con => omega
 | one h1 h2 =>
   rcases Lx.single_cases (Lx.at0 l 0) with e | e | e | e <;> omega
 | none => omega
theorem toks_plain : ∀ (f p : Nat) (l : List UInt8), ∀ t ∈ (Lx.toks f p l).1, NumPlain t := by
 intro f
 induction f with
 | zero => intro p l t h; simp [Lx.toks] at h
 | succ f ih =>
   intro p l t h
   rw [Lx.toks_step] at h
   by_cases h1 : l.length ≤ Lx.skipC false l
   · rw [if_pos h1] at h; simp at h
   · rw [if_neg h1] at h
     by_cases h2 : (Lx.tokAt (l.drop (Lx.skipC false l))).2 = 0
     · rw [if_pos h2] at h; simp at h
     · rw [if_neg h2] at h
       rcases List.mem_cons.1 h with rfl | h
       · intro hk
         have hw := Lx.way (l.drop (Lx.skipC false l))
         have hk' : (Lx.tokAt (l.drop (Lx.skipC false l))).1 = 2 := hk
         rw [hk'] at hw
         exact way_plain hw
       · exact ih _ _ t h
theorem shift_sim (d : Nat) : ∀ (ts : List Tok), (∀ t ∈ ts, NumPlain t) → All2 (TSim (fun p q => q = p + d)) ts (ts.map (Lx.shift d))
 | [], _ => .nil
 | t :: ts, h => .cons ⟨rfl, rfl, rfl, fun hk => ⟨h t (by simp) hk, h t (by simp) hk⟩, fun _ => rfl⟩ (shift_sim d ts (fun u hu => h u (by simp [hu])))
theorem shift_opens (d : Nat) : ∀ ts : List Tok, opens (ts.map (Lx.shift d)) = opens ts
 | [] => rfl
 | t :: ts => by rw [List.map_cons, opens, opens, shift_opens d ts]; rfl
/-- What is parsed as an expression is read, and an expression, inside another text. -/
theorem inside (s : List UInt8) (x : Expr) (h : exprOf s = .done x) (d : Nat) (ho : s.count 40 < 30) :
 (tk 0 s).2 = none ∧ ∃ n y, (∀ stop f D T, 2 * (tk 0 s).1.length + 2 ≤ f → D ≤ 10 → node stop f D ((tk d s).1 ++ T) = .ok (n, T)) ∧ (∀ f, 31 ≤ f → expr f n = .ok y) ∧
   y.kindN = x.kindN ∧ y.posN = x.posN + d ∧ y.argsL.length = x.argsL.length := by
 unfold exprOf parsed at h
 by_cases hl : 4096 < s.length
 · rw [if_pos hl] at h; cases h
 · rw [if_neg hl] at h
   have et : Lx.toks (s.length + 1) 0 s = tk 0 s := rfl
   rw [et] at h
   have hop : opens (tk 0 s).1 ≤ s.count 40 := Lx.opens_toks _ _ s
   have hpl : ∀ t ∈ (tk 0 s).1, NumPlain t := toks_plain _ _ s
   rw [Lx.tk_shift d s]
   cases hs : tk 0 s with
   | mk ts o =>
     rw [hs] at h hop hpl
     cases o with
     | some q => cases h
     | none =>
       refine ⟨rfl, ?_⟩
       simp only at h hop hpl
       cases hx : onlyExpr s.length ts with
       | error p => rw [hx] at h; cases h
       | ok x' =>
         rw [hx] at h
         simp only [Outcome.done.injEq] at h
         subst h
         unfold onlyExpr at hx
         cases hn : node s.length (2 * ts.length + 2) 0 ts with
         | error p => rw [hn] at hx; cases hx
         | ok r =>
           obtain ⟨n, ts'⟩ := r
           rw [hn] at hx
           simp only at hx
           cases ts' with
           | cons t ts' => cases hx
           | nil =>
             simp only at hx
             have hsim := (node_rest_sim (ρ := fun p q => q = p + d) s.length (s.length + d) rfl (2 * ts.length + 2) 0 ts _ (shift_sim d ts hpl)).1
             rw [hn] at hsim
             cases hm : node (s.length + d) (2 * ts.length + 2) 0 (ts.map (Lx.shift d)) with
             | error p => rw [hm] at hsim; exact hsim.elim
             | ok r' =>
               obtain ⟨m, us'⟩ := r'
               rw [hm] at hsim
               have hsn : Sim (fun p q => q = p + d) n m := hsim.1
               have hus : us' = [] := by
                have := hsim.2
                cases this
                rfl
               subst hus
               have hes := expr_sim 50 n m hsn
               rw [hx] at hes
               cases hy : expr 50 m with
               | error p => rw [hy] at hes; exact hes.elim
               | ok y =>
                 rw [hy] at hes
                 have hse : SimE (fun p q => q = p + d) x' y := hes
                 obtain ⟨a1, a2, a3⟩ := hse.parts
                 have hfit : Fits 30 m := ((node_fits _ _ _ _).1 _ _ hm).le (by rw [shift_opens]; omega)
                 refine ⟨m, y, fun stop f D T hf hD => ?_, fun f hf => ?_, a1, a2, a3⟩
                 · have := ((node_more (s.length + d) stop (2 * ts.length + 2) 0 (ts.map (Lx.shift d))).1 _ _ hm).2.2.2 f D T hf (.inr (by rw [shift_opens]; omega))
                   exact this
                 · rw [expr_fuel 30 f 50 m hfit (by omega) (by omega)]; exact hy
def head1 : List UInt8 := [40, 100, 101, 102, 32, 109, 97, 105, 110, 32, 40, 41, 32]
def head2 : List UInt8 := head1 ++ [40, 114, 101, 32]
def head3 : List UInt8 := head1 ++ [40, 108, 101, 116, 32, 40, 40, 113, 32]
def head4 : List UInt8 := head1 ++ [40, 99, 97, 115, 101, 32, 49, 32, 40, 95, 32]
def tail1 : List UInt8 := [41]
def tail2 : List UInt8 := [41, 41]
def tail3 : List UInt8 := [41, 41, 32, 113, 41, 41]
def tail4 : List UInt8 := [41, 41, 41]
def toks1 : List Tok := [mkTok 0 0 [40], mkTok 1 3 [100, 101, 102], mkTok 5 3 [109, 97, 105, 110], mkTok 10 0 [40], mkTok 11 1 [41]]
theorem small_tok (c : UInt8) (t : List UInt8) (h : (Lx.smallB c && t.all Lx.wordB) = true) : Lx.IsTok 3 (c :: t) := by
 rw [Bool.and_eq_true] at h
 exact Lx.isTok_small c t h.1 (fun d hd => List.all_eq_true.1 h.2 d hd)
theorem tk_head1 (l : List UInt8) : tk 0 (head1 ++ l) = (toks1 ++ (tk 13 l).1, (tk 13 l).2) := by
 have e : head1 ++ l = 40 :: ([100, 101, 102] ++ 32 :: ([109, 97, 105, 110] ++ 32 :: 40 :: 41 :: 32 :: l)) := rfl
 rw [e, Lx.tk_open, Lx.tk_word _ (small_tok 100 [101, 102] (by decide)) (Lx.ends_32 _), Lx.tk_32, Lx.tk_word _ (small_tok 109 [97, 105, 110] (by decide)) (Lx.ends_32 _), Lx.tk_32, Lx.tk_open, Lx.tk_close, Lx.tk_32]
 rfl
def toks2 : List Tok := toks1 ++ [mkTok 13 0 [40], mkTok 14 3 [114, 101]]
theorem tk_head2 (l : List UInt8) : tk 0 (head2 ++ l) = (toks2 ++ (tk 17 l).1, (tk 17 l).2) := by
 have e : head2 ++ l = head1 ++ (40 :: ([114, 101] ++ 32 :: l)) := rfl
 rw [e, tk_head1, Lx.tk_open, Lx.tk_word _ (small_tok 114 [101] (by decide)) (Lx.ends_32 _), Lx.tk_32]
 rfl
def toks3 : List Tok := toks1 ++ [mkTok 13 0 [40], mkTok 14 3 [108, 101, 116], mkTok 18 0 [40], mkTok 19 0 [40], mkTok 20 3 [113]]
theorem tk_head3 (l : List UInt8) : tk 0 (head3 ++ l) = (toks3 ++ (tk 22 l).1, (tk 22 l).2) := by
 have e : head3 ++ l = head1 ++ (40 :: ([108, 101, 116] ++ 32 :: 40 :: 40 :: ([113] ++ 32 :: l))) := rfl
 rw [e, tk_head1, Lx.tk_open, Lx.tk_word _ (small_tok 108 [101, 116] (by decide)) (Lx.ends_32 _), Lx.tk_32, Lx.tk_open, Lx.tk_open, Lx.tk_word _ (small_tok 113 [] (by decide)) (Lx.ends_32 _), Lx.tk_32]
 rfl
def toks4 : List Tok := toks1 ++ [mkTok 13 0 [40], mkTok 14 3 [99, 97, 115, 101], mkTok 19 2 [49], mkTok 21 0 [40], mkTok 22 5 [95]]
theorem tk_head4 (l : List UInt8) : tk 0 (head4 ++ l) = (toks4 ++ (tk 24 l).1, (tk 24 l).2) := by
 have e : head4 ++ l = head1 ++ (40 :: ([99, 97, 115, 101] ++ 32 :: ([49] ++ 32 :: 40 :: ([95] ++ 32 :: l)))) := rfl
 have h95 : Lx.IsTok 5 [95] := Lx.isTok_single 95 (by decide) (by decide) (by decide) (by decide) (by decide) (by decide)
 have h49 : Lx.IsTok 2 [49] := Lx.isTok_digits [49] (by decide) (by simp) (by simp)
 rw [e, tk_head1, Lx.tk_open, Lx.tk_word _ (small_tok 99 [97, 115, 101] (by decide)) (Lx.ends_32 _), Lx.tk_32, Lx.tk_word _ h49 (Lx.ends_32 _), Lx.tk_32, Lx.tk_open, Lx.tk_word _ h95 (Lx.ends_32 _), Lx.tk_32]
 rfl
theorem tk_tail1 (p : Nat) : tk p tail1 = ([mkTok p 1 [41]], none) := by show tk p (41 :: []) = _; rw [Lx.tk_close]; rfl
theorem tk_tail2 (p : Nat) : tk p tail2 = ([mkTok p 1 [41], mkTok (p + 1) 1 [41]], none) := by show tk p (41 :: 41 :: []) = _; rw [Lx.tk_close, Lx.tk_close]; rfl
theorem tk_tail4 (p : Nat) : tk p tail4 = ([mkTok p 1 [41], mkTok (p + 1) 1 [41], mkTok (p + 2) 1 [41]], none) := by show tk p (41 :: 41 :: 41 :: []) = _; rw [Lx.tk_close, Lx.tk_close, Lx.tk_close]; rfl
theorem tk_tail3 (p : Nat) : tk p tail3 = ([mkTok p 1 [41], mkTok (p + 1) 1 [41], mkTok (p + 3) 3 [113], mkTok (p + 4) 1 [41], mkTok (p + 5) 1 [41]], none) := by
 have e : tail3 = 41 :: 41 :: 32 :: ([113] ++ 41 :: 41 :: []) := rfl
 rw [e, Lx.tk_close, Lx.tk_close, Lx.tk_32, Lx.tk_word _ (small_tok 113 [] (by decide)) (Lx.ends_41 _), Lx.tk_close, Lx.tk_close]; rfl
/-- Where no token begins in the text inside, none does in the whole. -/
theorem wrap_lex (head tail s : List UInt8) (d q : Nat) (hd : head.length = d) (ht : ∀ l, ∃ a, tk 0 (head ++ l) = (a ++ (tk d l).1, (tk d l).2)) (hq : (tk 0 s).2 = some q) (hl : (head ++ (s ++ 10 :: tail)).length ≤ 4096) :
 program (head ++ (s ++ 10 :: tail)) = .lex (q + d) := by
 obtain ⟨a, ha⟩ := ht (s ++ 10 :: tail)
 have hj := Lx.tk_join d s tail
 have hs := Lx.tk_shift d s
 rw [hq] at hs
 have h2 : (tk d s).2 = some (q + d) := by rw [hs]; rfl
 rw [h2] at hj
 unfold program parsed
 rw [if_neg (by omega)]
 have et : Lx.toks ((head ++ (s ++ 10 :: tail)).length + 1) 0 (head ++ (s ++ 10 :: tail)) = tk 0 (head ++ (s ++ 10 :: tail)) := rfl
 rw [et, ha, hj]
end Px
end Go.Proofs.Ytgoacbomphlhjaa
namespace Go.Proofs.Ytgoacbomphlhjaa
namespace Px
open Lx (tk mkTok)
set_option linter.unusedVariables false
set_option linter.unusedSimpArgs false
theorem natV_small (D : List UInt8) (hd : ∀ c ∈ D, Lx.digitB c = true) (hl : D.length ≤ 18) : Lx.natV D 0 < 1000000000000000000 := by
 have h := Lx.natV_bound D 0 1 hd (by omega)
 have h2 : (10 : Nat) ^ D.length ≤ 10 ^ 18 := Nat.pow_le_pow_right (by omega) hl
 have h3 : (10 : Nat) ^ 18 = 1000000000000000000 := by decide
 omega
/-- A token as it comes of a text. -/
structure TOk (t : Lx.Tok) : Prop where
 opn : t.kind = 0 → t.text = [40]
 num : t.kind = 2 → (-1000000000000000000 < t.int ∧ t.int < 1000000000000000000) ∧ Plain t.text
 word : t.kind ≠ 0 → t.kind ≠ 1 → t.kind ≠ 2 → Lx.IsTok t.kind t.text
 zero : t.kind ≠ 2 → t.int = 0
theorem isTok_arrow : Lx.IsTok 5 [45, 62] := by
 refine ⟨by simp, by decide, by decide, fun r hr => ?_⟩
 rfl
theorem u8_of {c : UInt8} {k : Nat} (h : c.toNat = k) (hk : k < 256) : c = UInt8.ofNat k := by
 apply UInt8.toNat_inj.1
 rw [h, UInt8.toNat_ofNat']
 omega
theorem single5 (c : UInt8) (h : Lx.single c = 5) : Lx.IsTok 5 [c] := by
 have hc : c.toNat = 95 ∨ c.toNat = 43 ∨ c.toNat = 45 ∨ c.toNat = 42 ∨ c.toNat = 47 ∨ c.toNat = 37 ∨ c.toNat = 61 ∨ c.toNat = 60 := by
  unfold Lx.single at h
  split at h
  · omega
  · split at h
    · omega
    · split at h
      · assumption
      · omega
 have key : ∀ k : Nat, k < 256 → c.toNat = k → (Lx.blankB (UInt8.ofNat k) = false ∧ (UInt8.ofNat k).toNat ≠ 59 ∧ Lx.digitB (UInt8.ofNat k) = false ∧ Lx.smallB (UInt8.ofNat k) = false ∧ Lx.greatB (UInt8.ofNat k) = false ∧ ¬ Lx.single (UInt8.ofNat k) < 0) → Lx.IsTok 5 [c] := by
  intro k hk hck ⟨h1, h2, h3, h4, h5, h6⟩
  have e := u8_of hck hk
  rw [← e] at h1 h2 h3 h4 h5 h6
  have := Lx.isTok_single c h1 h2 h3 h4 h5 h6
  rw [h] at this; exact this
 rcases hc with e | e | e | e | e | e | e | e
 · exact key 95 (by omega) e (by decide)
 · exact key 43 (by omega) e (by decide)
 · exact key 45 (by omega) e (by decide)
 · exact key 42 (by omega) e (by decide)
 · exact key 47 (by omega) e (by decide)
 · exact key 37 (by omega) e (by decide)
 · exact key 61 (by omega) e (by decide)
 · exact key 60 (by omega) e (by decide)
theorem cons_of {l : List UInt8} (h : 0 < l.length) : l = Lx.at0 l 0 :: l.drop 1 := by
 cases l with
 | nil => simp at h
 | cons c r => rfl
theorem way_ok {l : List UInt8} {k : Int} {n : Nat} (h : Lx.Way l k n) (hn : n ≠ 0) (p : Nat) : TOk (mkTok p k (l.take n)) := by
 have hint : k = 2 → Lx.Way l 2 n := fun e => by rw [e] at h; exact h
 have hnum : k = 2 → (-1000000000000000000 < (mkTok p k (l.take n)).int ∧ (mkTok p k (l.take n)).int < 1000000000000000000) := by
  intro e
  subst e
  have hw := h
  show -1000000000000000000 < (if (2 : Int) = 2 then Lx.numV (l.take n) else 0) ∧ (if (2 : Int) = 2 then Lx.numV (l.take n) else 0) < 1000000000000000000
  rw [if_pos rfl]
  generalize hk : (2 : Int) = k' at hw
  have key : ∀ D : List UInt8, (∀ c ∈ D, Lx.digitB c = true) → D.length ≤ 18 → (-1000000000000000000 < (Lx.natV D 0 : Int) ∧ (Lx.natV D 0 : Int) < 1000000000000000000) ∧ (-1000000000000000000 < -(Lx.natV D 0 : Int) ∧ -(Lx.natV D 0 : Int) < 1000000000000000000) := by
   intro D h1 h2
   have := natV_small D h1 h2
   exact ⟨⟨by omega, by omega⟩, ⟨by omega, by omega⟩⟩
  cases hw with
  | arrow => omega
  | neg h1 h2 h3 h4 =>
    have e0 : Lx.at0 (l.take (1 + Lx.cnt Lx.digitB (l.drop 1))) 0 = Lx.at0 l 0 := at0_take _ _ _ (by omega)
    unfold Lx.numV
    rw [e0, if_pos h1]
    have hdr : (l.take (1 + Lx.cnt Lx.digitB (l.drop 1))).drop 1 = (l.drop 1).take (Lx.cnt Lx.digitB (l.drop 1)) := by rw [List.drop_take]; congr 1; omega
    rw [hdr]
    exact (key _ (Lx.cnt_spec Lx.digitB (l.drop 1)) (by rw [List.length_take]; omega)).2
  | pos h1 h2 h3 =>
    have hpos : 0 < Lx.cnt Lx.digitB l := by omega
    have e0 : Lx.at0 (l.take (Lx.cnt Lx.digitB l)) 0 = Lx.at0 l 0 := at0_take _ _ _ hpos
    unfold Lx.numV
    rw [e0, if_neg (Lx.digit_not_blank _ h1).2.2.1]
    exact (key _ (Lx.cnt_spec Lx.digitB l) (by rw [List.length_take]; omega)).1
  | name => omega
  | con => omega
  | one h1 h2 => rcases Lx.single_cases (Lx.at0 l 0) with e | e | e | e <;> omega
  | none => omega
 refine ⟨fun e => ?_, fun e => ⟨hnum e, way_plain (hint e)⟩, fun e0 e1 e2 => ?_, fun e => if_neg e⟩
 · have e' : k = 0 := e
   subst e'
   have h40 := Lx.way_open h hn
   have hl : 0 < l.length := by
    cases l with
    | nil => exact absurd h40 (by decide)
    | cons c r => simp
   have hn1 : n = 1 := by
    generalize hk : (0 : Int) = k' at h
    cases h with
    | arrow => omega
    | neg => omega
    | pos => omega
    | name => omega
    | con => omega
    | one => rfl
    | none => omega
   subst hn1
   show l.take 1 = [40]
   rw [cons_of hl, List.take_succ_cons, List.take_zero]
   congr 1
   exact u8_of (k := 40) h40 (by omega)
 · have e0' : k ≠ 0 := e0
   have e1' : k ≠ 1 := e1
   have e2' : k ≠ 2 := e2
   show Lx.IsTok k (l.take n)
   have hw := h
   cases hw with
   | arrow h1 h2 =>
     have hl : 1 < l.length := Lx.ne_out l 1 (fun c => c.toNat == 62) (by decide) (by simp [h2])
     have : l.take 2 = [45, 62] := by
      cases l with
      | nil => simp at hl
      | cons c r =>
        cases r with
        | nil => simp at hl
        | cons d r =>
          have hc : c = 45 := u8_of (k := 45) h1 (by omega)
          have hd : d = 62 := u8_of (k := 62) h2 (by omega)
          subst hc; subst hd; rfl
     rw [this]; exact isTok_arrow
   | neg => omega
   | pos => omega
   | name hs =>
     have hl : 0 < l.length := Lx.ne_out l 0 Lx.smallB (by decide) hs
     rw [cons_of hl, List.take_succ_cons]
     exact Lx.isTok_small _ _ hs (Lx.cnt_spec Lx.wordB (l.drop 1))
   | con hs =>
     have hl : 0 < l.length := Lx.ne_out l 0 Lx.greatB (by decide) hs
     rw [cons_of hl, List.take_succ_cons]
     exact Lx.isTok_great _ _ hs (Lx.cnt_spec Lx.wordB (l.drop 1))
   | one hs _ =>
     have h5 : Lx.single (Lx.at0 l 0) = 5 := by rcases Lx.single_cases (Lx.at0 l 0) with e | e | e | e <;> omega
     have hl : 0 < l.length := Lx.ne_out l 0 (fun c => decide (Lx.single c = 5)) (by decide) (by simp [h5])
     have : l.take 1 = [Lx.at0 l 0] := by
      cases l with
      | nil => simp at hl
      | cons c r => rfl
     rw [this, h5]
     exact single5 _ h5
   | none => omega
theorem toks_ok : ∀ (f p : Nat) (l : List UInt8), ∀ t ∈ (Lx.toks f p l).1, TOk t := by
 intro f
 induction f with
 | zero => intro p l t h; simp [Lx.toks] at h
 | succ f ih =>
   intro p l t h
   rw [Lx.toks_step] at h
   by_cases h1 : l.length ≤ Lx.skipC false l
   · rw [if_pos h1] at h; simp at h
   · rw [if_neg h1] at h
     by_cases h2 : (Lx.tokAt (l.drop (Lx.skipC false l))).2 = 0
     · rw [if_pos h2] at h; simp at h
     · rw [if_neg h2] at h
       rcases List.mem_cons.1 h with rfl | h
       · exact way_ok (Lx.way _) h2 _
       · exact ih _ _ t h
/-- A node as it comes of a text's tokens. -/
inductive NodeGood : Node → Prop
 | leaf (t : Lx.Tok) : TOk t → t.kind ≠ 0 → t.kind ≠ 1 → NodeGood (.mk t [] (takesOf t.text))
 | list (t : Lx.Tok) (l : List Node) : TOk t → t.kind = 0 → (∀ m ∈ l, NodeGood m) → NodeGood (.mk t l 0)
theorem NodeGood.kid {n m : Node} (h : NodeGood n) (hm : m ∈ n.list) : NodeGood m := by
 cases h with
 | leaf t h1 h2 h3 => cases hm
 | list t l h1 h2 h3 => exact h3 m hm
theorem node_good (stop : Nat) : ∀ (f d : Nat) (ts : List Lx.Tok), (∀ t ∈ ts, TOk t) →
 (∀ n ts', node stop f d ts = .ok (n, ts') → NodeGood n ∧ ∀ t ∈ ts', TOk t) ∧ (∀ l ts', rest stop f d ts = .ok (l, ts') → (∀ m ∈ l, NodeGood m) ∧ ∀ t ∈ ts', TOk t) := by
 intro f
 induction f with
 | zero => intro d ts _; exact ⟨fun n ts' h => (by cases h), fun l ts' h => (by cases h)⟩
 | succ f ih =>
   intro d ts hp
   cases ts with
   | nil => exact ⟨fun n ts' h => (by cases h), fun l ts' h => (by cases h)⟩
   | cons t ts =>
     have hpt := hp t (by simp)
     have hps : ∀ u ∈ ts, TOk u := fun u hu => hp u (by simp [hu])
     constructor
     · intro n ts' h
       rw [node] at h
       by_cases k1 : t.kind = 1
       · rw [if_pos k1] at h; cases h
       · rw [if_neg k1] at h
         by_cases k0 : t.kind = 0
         · rw [if_pos k0] at h
           by_cases hd : d = 40
           · rw [if_pos hd] at h; cases h
           · rw [if_neg hd] at h
             cases hr : rest stop f (d + 1) ts with
             | error p => rw [hr] at h; cases h
             | ok x =>
               obtain ⟨l, ts1⟩ := x
               rw [hr] at h
               simp only [Except.ok.injEq, Prod.mk.injEq] at h
               obtain ⟨rfl, rfl⟩ := h
               obtain ⟨h1, h2⟩ := (ih (d + 1) ts hps).2 _ _ hr
               exact ⟨.list _ _ hpt k0 h1, h2⟩
         · rw [if_neg k0] at h
           simp only [Except.ok.injEq, Prod.mk.injEq] at h
           obtain ⟨rfl, rfl⟩ := h
           exact ⟨.leaf _ hpt k0 k1, hps⟩
     · intro l ts' h
       rw [rest] at h
       by_cases k1 : t.kind = 1
       · rw [if_pos k1] at h
         simp only [Except.ok.injEq, Prod.mk.injEq] at h
         obtain ⟨rfl, rfl⟩ := h
         exact ⟨fun m hm => (by cases hm), hps⟩
       · rw [if_neg k1] at h
         cases hn : node stop f d (t :: ts) with
         | error p => rw [hn] at h; cases h
         | ok x =>
           obtain ⟨n, ts1⟩ := x
           rw [hn] at h
           simp only at h
           obtain ⟨h1, h2⟩ := (ih d (t :: ts) hp).1 _ _ hn
           cases hr : rest stop f d ts1 with
           | error p => rw [hr] at h; cases h
           | ok y =>
             obtain ⟨l', ts2⟩ := y
             rw [hr] at h
             simp only [Except.ok.injEq, Prod.mk.injEq] at h
             obtain ⟨rfl, rfl⟩ := h
             obtain ⟨h3, h4⟩ := (ih d ts1 h2).2 _ _ hr
             exact ⟨fun m hm => (List.mem_cons.1 hm).elim (fun e => e ▸ h1) (h3 m), h4⟩
end Px
end Go.Proofs.Ytgoacbomphlhjaa
namespace Go.Proofs.Ytgoacbomphlhjaa
open Go Go.RowKit
theorem Lx.at0_in (l : List UInt8) (k : Nat) (h : k < l.length) : Lx.at0 l k ∈ l := by
 unfold Lx.at0; rw [List.getD_eq_getElem?_getD, List.getElem?_eq_getElem h]; exact List.getElem_mem h
def memB (c : UInt8) (l : List UInt8) : Bool := l.any fun x => x.toNat == c.toNat
theorem memB_at (c : UInt8) (l : List UInt8) (j : Nat) (hj : j < l.length) (h : (Lx.at0 l j).toNat = c.toNat) : memB c l = true := by
 rw [memB, List.any_eq_true]; exact ⟨Lx.at0 l j, Lx.at0_in l j hj, by simp [h]⟩
theorem memB_none (c : UInt8) (l : List UInt8) (h : ∀ j, j < l.length → (Lx.at0 l j).toNat ≠ c.toNat) : memB c l = false := by
 rw [memB, List.any_eq_false]
 intro x hx
 obtain ⟨j, hj, rfl⟩ := List.getElem_of_mem hx
 have := h j hj
 simp [Lx.at0, List.getD_eq_getElem?_getD, List.getElem?_eq_getElem hj] at this
 simpa using this
theorem str_at (l : List UInt8) (k : Nat) (h : k < (ByteArray.mk l.toArray).size) : (ByteArray.mk l.toArray)[k]'h = Lx.at0 l k := by
 have h' : k < l.length := by simpa [ByteArray.size] using h
 unfold Lx.at0
 rw [List.getD_eq_getElem?_getD, List.getElem?_eq_getElem h']
 rfl
theorem str_lt (l : List UInt8) (k : Nat) (h : k < l.length) : k < (ByteArray.mk l.toArray).size := by simpa [ByteArray.size] using h
set_option maxHeartbeats 400000 in
theorem in_any (c : UInt8) (l : List UInt8) (w : World) (hm : l.length ≤ 1000000) :
 Calls Try.prog 64 #[.int .u8 c.toNat, .string ⟨l.toArray⟩] w fun e w' => e = .returned (.bool (memB c l)) ∧ w = w' := by
 go_enter Try.func64, Try.ntmps64
 go_wp2_with fail
 go_loop [5] (fun i => ∃ k : Nat, k ≤ l.length ∧ i = .int .i64 k ∧ Hid (∀ j, j < k → (Lx.at0 l j).toNat ≠ c.toNat)) (fun i => l.length - (intOf i).toNat)
 case atStart => exact ⟨0, by omega, rfl, fun j h => absurd h (by omega)⟩
 case round =>
  obtain ⟨k, hk, rfl, hno⟩ := hrel
  by_cases hlt : k < l.length
  · have e := str_at l k (str_lt l k hlt)
    by_cases h : (Lx.at0 l k).toNat = c.toNat
    · have h1 : ((((ByteArray.mk l.toArray)[k]'(str_lt l k hlt)).toNat : Int) == (c.toNat : Int)) = true := by rw [e]; simp [h]
      have HM := Lib.hid (memB_at c l k hlt h)
      clear e h
      go_wp2
      go_ret
      exact ⟨ret_bool HM.out.symm, rfl⟩
    · have h1 : ((((ByteArray.mk l.toArray)[k]'(str_lt l k hlt)).toNat : Int) == (c.toNat : Int)) = false := by rw [e]; simp; omega
      have HN : Hid (∀ j, j < k + 1 → (Lx.at0 l j).toNat ≠ c.toNat) := fun j hj => by
       by_cases hjk : j = k
       · subst hjk; exact h
       · exact hno.out j (by omega)
      clear e h
      go_wp2
      go_round
      case rel => exact ⟨k + 1, by omega, by go_num, HN⟩
      case measure => simp [intOf]; omega
  · obtain rfl : k = l.length := by omega
    have HM := Lib.hid (memB_none c l hno.out)
    clear hno
    go_wp2
    go_ret
    exact ⟨ret_bool HM.out.symm, rfl⟩
def digitsL : List UInt8 := [48, 49, 50, 51, 52, 53, 54, 55, 56, 57]
def smallL : List UInt8 := [97, 98, 99, 100, 101, 102, 103, 104, 105, 106, 107, 108, 109, 110, 111, 112, 113, 114, 115, 116, 117, 118, 119, 120, 121, 122]
def greatL : List UInt8 := [65, 66, 67, 68, 69, 70, 71, 72, 73, 74, 75, 76, 77, 78, 79, 80, 81, 82, 83, 84, 85, 86, 87, 88, 89, 90]
def insideL : List UInt8 := [97, 98, 99, 100, 101, 102, 103, 104, 105, 106, 107, 108, 109, 110, 111, 112, 113, 114, 115, 116, 117, 118, 119, 120, 121, 122, 65, 66, 67, 68, 69, 70, 71, 72, 73, 74, 75, 76, 77, 78, 79, 80, 81, 82, 83, 84, 85, 86, 87, 88, 89, 90, 48, 49, 50, 51, 52, 53, 54, 55, 56, 57, 39]
def blankL : List UInt8 := [32, 10, 9, 13]
def symL : List UInt8 := [95, 43, 45, 42, 47, 37, 61, 60]
theorem mem_digits (c : UInt8) : memB c digitsL = Lx.digitB c := by rw [Bool.eq_iff_iff]; simp [memB, digitsL, Lx.digitB]; omega
theorem mem_small (c : UInt8) : memB c smallL = Lx.smallB c := by rw [Bool.eq_iff_iff]; simp [memB, smallL, Lx.smallB]; omega
theorem mem_great (c : UInt8) : memB c greatL = Lx.greatB c := by rw [Bool.eq_iff_iff]; simp [memB, greatL, Lx.greatB]; omega
theorem mem_blank (c : UInt8) : memB c blankL = Lx.blankB c := by rw [Bool.eq_iff_iff]; simp [memB, blankL, Lx.blankB]; omega
theorem mem_inside (c : UInt8) : memB c insideL = Lx.wordB c := by
 have e : insideL = smallL ++ (greatL ++ (digitsL ++ [39])) := rfl
 have h39 : memB c [39] = (c.toNat == 39) := by rw [Bool.eq_iff_iff]; simp [memB]; omega
 have ha : ∀ a b : List UInt8, memB c (a ++ b) = (memB c a || memB c b) := fun a b => by simp [memB]
 rw [e, ha, ha, ha, mem_small, mem_great, mem_digits, h39]
 unfold Lx.wordB
 cases Lx.smallB c <;> cases Lx.greatB c <;> cases Lx.digitB c <;> simp
/-- At the document's sets. -/
theorem in_digits (c : UInt8) (w : World) : Calls Try.prog 64 #[.int .u8 c.toNat, .string ⟨#[48, 49, 50, 51, 52, 53, 54, 55, 56, 57]⟩] w fun e w' => e = .returned (.bool (Lx.digitB c)) ∧ w = w' := by
 rw [← mem_digits]; exact in_any c digitsL w (by decide)
theorem in_small (c : UInt8) (w : World) : Calls Try.prog 64 #[.int .u8 c.toNat, .string ⟨smallL.toArray⟩] w fun e w' => e = .returned (.bool (Lx.smallB c)) ∧ w = w' := by
 rw [← mem_small]; exact in_any c smallL w (by decide)
theorem in_great (c : UInt8) (w : World) : Calls Try.prog 64 #[.int .u8 c.toNat, .string ⟨greatL.toArray⟩] w fun e w' => e = .returned (.bool (Lx.greatB c)) ∧ w = w' := by
 rw [← mem_great]; exact in_any c greatL w (by decide)
theorem in_inside (c : UInt8) (w : World) : Calls Try.prog 64 #[.int .u8 c.toNat, .string ⟨insideL.toArray⟩] w fun e w' => e = .returned (.bool (Lx.wordB c)) ∧ w = w' := by
 rw [← mem_inside]; exact in_any c insideL w (by decide)
theorem in_blank (c : UInt8) (w : World) : Calls Try.prog 64 #[.int .u8 c.toNat, .string ⟨#[32, 10, 9, 13]⟩] w fun e w' => e = .returned (.bool (Lx.blankB c)) ∧ w = w' := by
 rw [← mem_blank]; exact in_any c blankL w (by decide)
theorem in_sym (c : UInt8) (w : World) : Calls Try.prog 64 #[.int .u8 c.toNat, .string ⟨symL.toArray⟩] w fun e w' => e = .returned (.bool (memB c symL)) ∧ w = w' :=
 in_any c symL w (by decide)
end Go.Proofs.Ytgoacbomphlhjaa
namespace Go.Proofs.Ytgoacbomphlhjaa
open Go Go.RowKit
set_option maxHeartbeats 1000000 in
theorem take_any (l L : List UInt8) (a : Nat) (w : World) (ha : a ≤ l.length) (hm : l.length ≤ 1000000) (hL : L.length ≤ 1000000) (h0 : memB 0 L = false) :
 Calls Try.prog 66 #[.string ⟨l.toArray⟩, .int .i64 a, .string ⟨L.toArray⟩] w fun e w' => e = .returned (.int .i64 (Lx.cnt (fun c => memB c L) (l.drop a))) ∧ w = w' := by
 go_enter Try.func66, Try.ntmps66
 go_wp2_with fail
 go_loop [7] (fun i => ∃ k : Nat, a + k ≤ l.length ∧ i = .int .i64 k ∧ Hid (k + Lx.cnt (fun c => memB c L) (l.drop (a + k)) = Lx.cnt (fun c => memB c L) (l.drop a))) (fun i => l.length - (intOf i).toNat)
 case atStart => exact ⟨0, by omega, rfl, by show 0 + _ = _; rw [Nat.zero_add, Nat.add_zero]⟩
 case round =>
  obtain ⟨k, hk, rfl, hc⟩ := hrel
  cases hb : memB (Lx.at0 l (a + k)) L
  · have hs := Lx.cnt_stop (fun c => memB c L) l (a + k) hb
    have Hc : Hid (Lx.cnt (fun c => memB c L) (l.drop a) = k) := by have := hc.out; rw [hs] at this; exact Lib.hid (by omega)
    clear hs hc
    rw [Hc.out]
    have Hb := Lib.hid hb; clear hb
    by_cases hlt : a + k < l.length
    · go_wp2_with fail
      refine (in_any _ L _ hL).mono ?_; rintro e w1 ⟨rfl, rfl⟩
      rw [str_at l (a + k) (str_lt l (a + k) hlt), Hb.out]
      go_wp2_with fail
      go_ret
      exact ⟨by rw [Hc.out]; rfl, rfl⟩
    · go_wp2_with fail
      go_ret
      exact ⟨by rw [Hc.out]; rfl, rfl⟩
  · obtain ⟨hlt, hs⟩ := Lx.cnt_step (fun c => memB c L) l (a + k) h0 hb
    have Hc : Hid ((k + 1) + Lx.cnt (fun c => memB c L) (l.drop (a + (k + 1))) = Lx.cnt (fun c => memB c L) (l.drop a)) := by have := hc.out; rw [hs] at this; rw [← Nat.add_assoc a]; exact Lib.hid (by omega)
    clear hs hc
    generalize Lx.cnt (fun c => memB c L) (l.drop a) = T at *
    have Hb := Lib.hid hb; clear hb
    go_wp2_with fail
    refine (in_any _ L _ hL).mono ?_; rintro e w1 ⟨rfl, rfl⟩
    rw [str_at l (a + k) (str_lt l (a + k) hlt), Hb.out]
    go_wp2_with fail
    go_round
    case rel => exact ⟨k + 1, by omega, by go_num, Hc⟩
    case measure => simp [intOf]; omega
set_option maxHeartbeats 1000000 in
theorem refSkip_any (l : List UInt8) (a : Nat) (w : World) (ha : a ≤ l.length) (hm : l.length ≤ 1000000) :
 Calls Try.prog 36 #[.string ⟨l.toArray⟩, .int .i64 a] w fun e w' => e = .returned (.int .i64 ((a + Lx.skipC false (l.drop a) : Nat) : Int)) ∧ w = w' := by
 generalize hT : a + Lx.skipC false (l.drop a) = T
 have HT := Lib.hid hT; clear hT
 go_enter Try.func36, Try.ntmps36
 go_wp2_with fail
 go_loop [1] (fun i => ∃ k : Nat, k ≤ l.length ∧ i = .int .i64 k ∧ Hid (k + Lx.skipC false (l.drop k) = T)) (fun i => l.length - (intOf i).toNat)
 case atStart => exact ⟨a, ha, rfl, HT⟩
 case round =>
  clear HT ha a
  obtain ⟨k, hk, rfl, hc⟩ := hrel
  by_cases hlt : k < l.length
  · have e := str_at l k (str_lt l k hlt)
    have He := Lib.hid e; clear e
    cases hb : Lx.blankB (Lx.at0 l k)
    · by_cases hs : (Lx.at0 l k).toNat = 59
      · obtain ⟨_, h2⟩ := Lx.skip_semi l k hs
        have h3 := Lx.skip_note l k hlt (by omega)
        have Hc : Hid (k + Lx.skipC true (l.drop k) = T) := by have := hc.out; exact Lib.hid (by omega)
        have h1 : ((((ByteArray.mk l.toArray)[k]'(str_lt l k hlt)).toNat : Int) != 59) = false := by rw [He.out]; simp [hs]
        have Hb := Lib.hid hb; have Hs := Lib.hid hs
        clear hb hs h2 h3 hc
        go_wp2_with fail
        refine (in_blank _ _).mono ?_; rintro e w1 ⟨rfl, rfl⟩
        have hbl : Lx.blankB ((ByteArray.mk l.toArray)[k]'(str_lt l k hlt)) = false := by rw [He.out, Hb.out]
        rw [hbl]
        clear hbl
        go_wp2_with fail
        clear h1
        go_loop [1] (fun i => ∃ j : Nat, k ≤ j ∧ j ≤ l.length ∧ i = .int .i64 j ∧ Hid (j + Lx.skipC true (l.drop j) = T)) (fun i => l.length - (intOf i).toNat)
        case atStart => exact ⟨k, by omega, by omega, rfl, Hc⟩
        case round =>
         clear Hc
         obtain ⟨j, hkj, hj, rfl, hd⟩ := hrel
         by_cases hjl : j < l.length
         · have e := str_at l j (str_lt l j hjl)
           by_cases h10 : (Lx.at0 l j).toNat = 10
           · have h1 : ((((ByteArray.mk l.toArray)[j]'(str_lt l j hjl)).toNat : Int) != 10) = false := by rw [e]; simp [h10]
             have h4 := Lx.skip_line l j (fun _ => h10)
             have Hd : Hid (j + Lx.skipC false (l.drop j) = T) := by have := hd.out; rw [h4] at this; exact Lib.hid this
             have hjk : k < j := by
              rcases Nat.lt_or_ge k j with h | h
              · exact h
              · obtain rfl : k = j := by omega
                have := Hs.out; omega
             clear h4 hd e h10
             go_wp2
             go_round
             case rel => exact ⟨j, by omega, rfl, Hd⟩
             case measure => simp [intOf]; omega
           · have h1 : ((((ByteArray.mk l.toArray)[j]'(str_lt l j hjl)).toNat : Int) != 10) = true := by rw [e]; simp; omega
             have h4 := Lx.skip_note l j hjl h10
             have Hd : Hid ((j + 1) + Lx.skipC true (l.drop (j + 1)) = T) := by have := hd.out; exact Lib.hid (by omega)
             clear h4 hd e h10
             go_wp2
             go_round
             case rel => exact ⟨j + 1, by omega, by omega, by go_num, Hd⟩
             case measure => simp [intOf]; omega
         · have h4 := Lx.skip_line l j (fun h => absurd h hjl)
           have Hd : Hid (j + Lx.skipC false (l.drop j) = T) := by have := hd.out; rw [h4] at this; exact Lib.hid this
           clear h4 hd
           go_wp2
           go_round
           case rel => exact ⟨j, by omega, rfl, Hd⟩
           case measure => simp [intOf]; omega
      · have h2 := Lx.skip_end l k hb hs
        have Hc : Hid (T = k) := by have := hc.out; exact Lib.hid (by omega)
        have h1 : ((((ByteArray.mk l.toArray)[k]'(str_lt l k hlt)).toNat : Int) != 59) = true := by rw [He.out]; simp; omega
        have Hb := Lib.hid hb
        clear hb hs h2 hc
        go_wp2_with fail
        refine (in_blank _ _).mono ?_; rintro e w1 ⟨rfl, rfl⟩
        have hbl : Lx.blankB ((ByteArray.mk l.toArray)[k]'(str_lt l k hlt)) = false := by rw [He.out, Hb.out]
        rw [hbl]
        clear hbl
        go_wp2_with fail
        go_ret
        exact ⟨by rw [Hc.out]; rfl, rfl⟩
    · obtain ⟨_, h2⟩ := Lx.skip_blank l k hb
      have Hc : Hid ((k + 1) + Lx.skipC false (l.drop (k + 1)) = T) := by have := hc.out; exact Lib.hid (by omega)
      have Hb := Lib.hid hb
      clear hb h2 hc
      go_wp2_with fail
      refine (in_blank _ _).mono ?_; rintro e w1 ⟨rfl, rfl⟩
      have hbl : Lx.blankB ((ByteArray.mk l.toArray)[k]'(str_lt l k hlt)) = true := by rw [He.out, Hb.out]
      rw [hbl]
      clear hbl
      go_wp2_with fail
      go_round
      case rel => exact ⟨k + 1, by omega, by go_num, Hc⟩
      case measure => simp [intOf]; omega
  · have h2 : Lx.skipC false (l.drop k) = 0 := by rw [List.drop_eq_nil_of_le (by omega)]; rfl
    have Hc : Hid (T = k) := by have := hc.out; exact Lib.hid (by omega)
    clear h2 hc
    go_wp2_with fail
    go_ret
    exact ⟨by rw [Hc.out]; rfl, rfl⟩
end Go.Proofs.Ytgoacbomphlhjaa
namespace Go.Proofs.Ytgoacbomphlhjaa
open Go Go.RowKit
theorem natV_step (D : List UInt8) (i : Nat) (h : i < D.length) : Lx.natV (D.take (i + 1)) 0 = Lx.natV (D.take i) 0 * 10 + ((Lx.at0 D i).toNat - 48) := by
 have e : D.take (i + 1) = D.take i ++ [Lx.at0 D i] := by
  rw [List.take_succ_eq_append_getElem h]
  simp [Lx.at0, List.getD_eq_getElem?_getD, List.getElem?_eq_getElem h]
 rw [e, Lx.natV_append, Lx.natV_cons]; rfl
theorem cnt_digit (D : List UInt8) (i : Nat) (h : i < Lx.cnt Lx.digitB D) : Lx.digitB (Lx.at0 D i) = true := by
 have hl := Lx.cnt_le Lx.digitB D
 have hm := Lx.cnt_spec Lx.digitB D
 refine hm _ ?_
 rw [← Lx.take_at0 D (Lx.cnt Lx.digitB D) i h]
 exact Lx.at0_in _ _ (by rw [List.length_take]; omega)
theorem natV_small (D : List UInt8) (i : Nat) (h : i ≤ Lx.cnt Lx.digitB D) (h17 : i ≤ 18) : Lx.natV (D.take i) 0 < 1000000000000000000 := by
 have hb := Lx.natV_bound (D.take i) 0 1 (fun c hc => by
  refine Lx.cnt_spec Lx.digitB D c ?_
  have : D.take i = (D.take (Lx.cnt Lx.digitB D)).take i := by rw [List.take_take, Nat.min_eq_left h]
  rw [this] at hc
  exact List.mem_of_mem_take hc) (by omega)
 have hp := Lx.pow18 (D.take i).length (by rw [List.length_take]; omega)
 omega
theorem natV_small17 (D : List UInt8) (i : Nat) (h : i ≤ Lx.cnt Lx.digitB D) (h17 : i ≤ 17) : Lx.natV (D.take i) 0 < 100000000000000000 := by
 have hb := Lx.natV_bound (D.take i) 0 1 (fun c hc => by
  refine Lx.cnt_spec Lx.digitB D c ?_
  have : D.take i = (D.take (Lx.cnt Lx.digitB D)).take i := by rw [List.take_take, Nat.min_eq_left h]
  rw [this] at hc
  exact List.mem_of_mem_take hc) (by omega)
 have hp : 10 ^ (D.take i).length ≤ 100000000000000000 := Nat.le_trans (Nat.pow_le_pow_right (by omega) (show (D.take i).length ≤ 17 by rw [List.length_take]; omega)) (Nat.le_refl (10 ^ 17))
 omega
theorem take_int (l L : List UInt8) (i : Int) (w : World) (h : 0 ≤ i) (ha : i ≤ l.length) (hm : l.length ≤ 1000000) (hL : L.length ≤ 1000000) (h0 : memB 0 L = false) :
 Calls Try.prog 66 #[.string ⟨l.toArray⟩, .int .i64 i, .string ⟨L.toArray⟩] w fun e w' => e = .returned (.int .i64 (Lx.cnt (fun c => memB c L) (l.drop i.toNat))) ∧ w = w' := by
 obtain ⟨k, rfl⟩ := Int.eq_ofNat_of_zero_le h
 rw [Int.toNat_natCast]
 exact take_any l L k w (by omega) hm hL h0
set_option maxHeartbeats 2000000 in
set_option maxRecDepth 100000 in
theorem number_pos_bad (l : List UInt8) (a : Nat) (w : World) (ha : a < l.length) (hm : l.length ≤ 1000000) (hd : Lx.digitB (Lx.at0 l a) = true)
 (hbad : 18 < Lx.cnt Lx.digitB (l.drop a) ∨ Lx.wordB (Lx.at0 l (a + Lx.cnt Lx.digitB (l.drop a))) = true) :
 Calls Try.prog 65 #[.string ⟨l.toArray⟩, .int .i64 a] w fun e w' => e = .returned (.tuple #[.int .i64 0, .int .i64 0, .bool false]) ∧ w = w' := by
 have e := str_at l a (str_lt l a ha)
 have hb := Lx.digit_bd _ hd
 have h1 : ((((ByteArray.mk l.toArray)[a]'(str_lt l a ha)).toNat : Int) == 45) = false := by rw [e]; simp; omega
 clear hb
 have hle := Lx.cnt_le Lx.digitB (l.drop a)
 rw [List.length_drop] at hle
 have hfun : (fun c => memB c digitsL) = Lx.digitB := funext mem_digits
 have hfits : ∀ i, i < Lx.cnt Lx.digitB (l.drop a) → Lx.digitB (Lx.at0 l (a + i)) = true := fun i hi => by
  have := cnt_digit (l.drop a) i hi; rwa [Lx.at0_drop] at this
 have hst := natV_step (l.drop a)
 have hsm := natV_small17 (l.drop a)
 have htk := take_any l digitsL a w (by omega) hm (by decide) (by decide)
 rw [hfun] at htk
 generalize hN : Lx.cnt Lx.digitB (l.drop a) = N at *
 have HN := Lib.hid hN; have HT := Lib.hid htk; have HF := Lib.hid hfits; have HST := Lib.hid hst; have HSM := Lib.hid hsm; have HFUN := Lib.hid hfun
 clear hN htk hfits hst hsm e hd hfun
 go_enter Try.func65, Try.ntmps65
 go_wp2_with fail
 refine HT.out.mono ?_; rintro e w1 ⟨rfl, rfl⟩
 by_cases h18 : 18 < N
 · have h18' : (18 : Int) < (N : Int) := by omega
   clear hbad
   go_wp2_with fail
   go_ret3
   exact ⟨rfl, rfl⟩
 · have h18' : ¬ (18 : Int) < (N : Int) := by omega
   have hw : Lx.wordB (Lx.at0 l (a + N)) = true := hbad.resolve_left h18
   have hin : (a + N) < l.length := Lx.ne_out l _ Lx.wordB (by decide) hw
   have Hw := Lib.hid hw
   clear hbad hw
   go_wp2_with fail
   refine (in_any _ insideL _ (by decide)).mono ?_; rintro e w1 ⟨rfl, rfl⟩
   rw [str_at l (a + N) (str_lt l (a + N) hin), mem_inside, Hw.out]
   go_wp2_with fail
   go_ret3
   exact ⟨rfl, rfl⟩
set_option maxHeartbeats 2000000 in
set_option maxRecDepth 100000 in
theorem number_pos_ok (l : List UInt8) (a : Nat) (w : World) (ha : a < l.length) (hm : l.length ≤ 1000000) (hd : Lx.digitB (Lx.at0 l a) = true)
 (h18 : ¬ 18 < Lx.cnt Lx.digitB (l.drop a)) (hw : Lx.wordB (Lx.at0 l (a + Lx.cnt Lx.digitB (l.drop a))) = false) :
 Calls Try.prog 65 #[.string ⟨l.toArray⟩, .int .i64 a] w fun e w' => e = .returned (.tuple #[.int .i64 (((Lx.natV ((l.drop a).take (Lx.cnt Lx.digitB (l.drop a))) 0 : Nat) : Int)), .int .i64 ((Lx.cnt Lx.digitB (l.drop a) : Nat) : Int), .bool true]) ∧ w = w' := by
 have e := str_at l a (str_lt l a ha)
 have hb := Lx.digit_bd _ hd
 have h1 : ((((ByteArray.mk l.toArray)[a]'(str_lt l a ha)).toNat : Int) == 45) = false := by rw [e]; simp; omega
 clear hb
 have hle := Lx.cnt_le Lx.digitB (l.drop a)
 rw [List.length_drop] at hle
 have hfun : (fun c => memB c digitsL) = Lx.digitB := funext mem_digits
 have hfits : ∀ i, i < Lx.cnt Lx.digitB (l.drop a) → Lx.digitB (Lx.at0 l (a + i)) = true := fun i hi => by
  have := cnt_digit (l.drop a) i hi; rwa [Lx.at0_drop] at this
 have hst := natV_step (l.drop a)
 have hsm := natV_small17 (l.drop a)
 have htk := take_any l digitsL a w (by omega) hm (by decide) (by decide)
 rw [hfun] at htk
 generalize hN : Lx.cnt Lx.digitB (l.drop a) = N at *
 have HN := Lib.hid hN; have HT := Lib.hid htk; have HF := Lib.hid hfits; have HST := Lib.hid hst; have HSM := Lib.hid hsm; have HFUN := Lib.hid hfun
 clear hN htk hfits hst hsm e hd hfun
 go_enter Try.func65, Try.ntmps65
 go_wp2_with fail
 refine HT.out.mono ?_; rintro e w1 ⟨rfl, rfl⟩
 have h18' : ¬ (18 : Int) < (N : Int) := by omega
 have Hw := Lib.hid hw; clear hw
 by_cases hin : (a + N) < l.length
 · go_wp2_with fail
   refine (in_any _ insideL _ (by decide)).mono ?_; rintro e w1 ⟨rfl, rfl⟩
   rw [str_at l (a + N) (str_lt l (a + N) hin), mem_inside, Hw.out]
   go_wp2_with fail
   go_loop [9, 10] (fun v i => ∃ k : Nat, k ≤ N ∧ i = .int .i64 k ∧ v = .int .i64 (Lx.natV ((l.drop a).take k) 0 : Nat)) (fun _ i => N - (intOf i).toNat)
   case atStart => exact ⟨0, by omega, rfl, rfl⟩
   case round =>
    obtain ⟨k, hk, rfl, rfl⟩ := hrel
    by_cases hlt : k < N
    · have hdg := Lx.digit_bd _ (HF.out k hlt)
      have hv := HSM.out k (by omega) (by omega)
      have hs := HST.out k (by rw [List.length_drop]; omega)
      rw [Lx.at0_drop] at hs
      have hkl : a + k < l.length := by omega
      have e := str_at l (a + k) (str_lt l _ hkl)
      have hb0 : (48 : Int) ≤ (((ByteArray.mk l.toArray)[a + k]'(str_lt l _ hkl)).toNat : Int) := by rw [e]; omega
      have hb1 : (((ByteArray.mk l.toArray)[a + k]'(str_lt l _ hkl)).toNat : Int) ≤ 57 := by rw [e]; omega
      have hsum : (10 : Int) * (Lx.natV ((l.drop a).take k) 0 : Nat) + ((((ByteArray.mk l.toArray)[a + k]'(str_lt l _ hkl)).toNat : Int) - 48) = ((Lx.natV ((l.drop a).take (k + 1)) 0 : Nat) : Int) := by rw [e]; omega
      generalize Lx.natV ((l.drop a).take k) 0 = V at *
      generalize hV' : Lx.natV ((l.drop a).take (k + 1)) 0 = V' at *
      have HS := Lib.hid hsum; have HV' := Lib.hid hV'
      clear hs hsum e hdg hV'
      go_wp2
      go_round
      case rel => exact ⟨k + 1, by omega, by go_num, by rw [HV'.out, HS.out]⟩
      case measure => simp [intOf]; omega
    · obtain rfl : k = N := by omega
      have HV := Lib.hid (natV_small (l.drop a) k (by rw [HN.out]; omega) (by omega))
      generalize hV : Lx.natV ((l.drop a).take k) 0 = V at *
      have HVe := Lib.hid hV; clear hV
      have hV1 : (V : Int) < 1000000000000000000 := by have := HV.out; omega
      go_wp2
      go_ret3
      exact ⟨by rw [HVe.out]; rfl, rfl⟩
 · go_wp2_with fail
   go_loop [9, 10] (fun v i => ∃ k : Nat, k ≤ N ∧ i = .int .i64 k ∧ v = .int .i64 (Lx.natV ((l.drop a).take k) 0 : Nat)) (fun _ i => N - (intOf i).toNat)
   case atStart => exact ⟨0, by omega, rfl, rfl⟩
   case round =>
    obtain ⟨k, hk, rfl, rfl⟩ := hrel
    by_cases hlt : k < N
    · have hdg := Lx.digit_bd _ (HF.out k hlt)
      have hv := HSM.out k (by omega) (by omega)
      have hs := HST.out k (by rw [List.length_drop]; omega)
      rw [Lx.at0_drop] at hs
      have hkl : a + k < l.length := by omega
      have e := str_at l (a + k) (str_lt l _ hkl)
      have hb0 : (48 : Int) ≤ (((ByteArray.mk l.toArray)[a + k]'(str_lt l _ hkl)).toNat : Int) := by rw [e]; omega
      have hb1 : (((ByteArray.mk l.toArray)[a + k]'(str_lt l _ hkl)).toNat : Int) ≤ 57 := by rw [e]; omega
      have hsum : (10 : Int) * (Lx.natV ((l.drop a).take k) 0 : Nat) + ((((ByteArray.mk l.toArray)[a + k]'(str_lt l _ hkl)).toNat : Int) - 48) = ((Lx.natV ((l.drop a).take (k + 1)) 0 : Nat) : Int) := by rw [e]; omega
      generalize Lx.natV ((l.drop a).take k) 0 = V at *
      generalize hV' : Lx.natV ((l.drop a).take (k + 1)) 0 = V' at *
      have HS := Lib.hid hsum; have HV' := Lib.hid hV'
      clear hs hsum e hdg hV'
      go_wp2
      go_round
      case rel => exact ⟨k + 1, by omega, by go_num, by rw [HV'.out, HS.out]⟩
      case measure => simp [intOf]; omega
    · obtain rfl : k = N := by omega
      have HV := Lib.hid (natV_small (l.drop a) k (by rw [HN.out]; omega) (by omega))
      generalize hV : Lx.natV ((l.drop a).take k) 0 = V at *
      have HVe := Lib.hid hV; clear hV
      have hV1 : (V : Int) < 1000000000000000000 := by have := HV.out; omega
      go_wp2
      go_ret3
      exact ⟨by rw [HVe.out]; rfl, rfl⟩
set_option maxHeartbeats 2000000 in
set_option maxRecDepth 100000 in
theorem number_neg_bad (l : List UInt8) (a : Nat) (w : World) (ha : a < l.length) (hm : l.length ≤ 1000000) (h45 : (Lx.at0 l a).toNat = 45) (hd : Lx.digitB (Lx.at0 l (a + 1)) = true)
 (hbad : 18 < Lx.cnt Lx.digitB (l.drop (a + 1)) ∨ Lx.wordB (Lx.at0 l ((a + 1) + Lx.cnt Lx.digitB (l.drop (a + 1)))) = true) :
 Calls Try.prog 65 #[.string ⟨l.toArray⟩, .int .i64 a] w fun e w' => e = .returned (.tuple #[.int .i64 0, .int .i64 0, .bool false]) ∧ w = w' := by
 have e := str_at l a (str_lt l a ha)
 have h1 : ((((ByteArray.mk l.toArray)[a]'(str_lt l a ha)).toNat : Int) == 45) = true := by rw [e]; simp [h45]
 have ha1 : a + 1 < l.length := Lx.ne_out l (a + 1) Lx.digitB (by decide) hd
 have hle := Lx.cnt_le Lx.digitB (l.drop (a + 1))
 rw [List.length_drop] at hle
 have hfun : (fun c => memB c digitsL) = Lx.digitB := funext mem_digits
 have hfits : ∀ i, i < Lx.cnt Lx.digitB (l.drop (a + 1)) → Lx.digitB (Lx.at0 l ((a + 1) + i)) = true := fun i hi => by
  have := cnt_digit (l.drop (a + 1)) i hi; rwa [Lx.at0_drop] at this
 have hst := natV_step (l.drop (a + 1))
 have hsm := natV_small17 (l.drop (a + 1))
 have htk := take_int l digitsL ((a : Int) + 1) w (by omega) (by omega) hm (by decide) (by decide)
 rw [hfun, show ((a : Int) + 1).toNat = a + 1 by omega] at htk
 generalize hN : Lx.cnt Lx.digitB (l.drop (a + 1)) = N at *
 have HN := Lib.hid hN; have HT := Lib.hid htk; have HF := Lib.hid hfits; have HST := Lib.hid hst; have HSM := Lib.hid hsm; have HFUN := Lib.hid hfun
 clear hN htk hfits hst hsm e hd hfun h45
 go_enter Try.func65, Try.ntmps65
 go_wp2_with fail
 refine HT.out.mono ?_; rintro e w1 ⟨rfl, rfl⟩
 by_cases h18 : 18 < N
 · have h18' : (18 : Int) < (N : Int) := by omega
   clear hbad
   go_wp2_with fail
   go_ret3
   exact ⟨rfl, rfl⟩
 · have h18' : ¬ (18 : Int) < (N : Int) := by omega
   have hw : Lx.wordB (Lx.at0 l (a + 1 + N)) = true := hbad.resolve_left h18
   have hin : (a + 1 + N) < l.length := Lx.ne_out l _ Lx.wordB (by decide) hw
   have Hw := Lib.hid hw
   clear hbad hw
   go_wp2_with fail
   refine (in_any _ insideL _ (by decide)).mono ?_; rintro e w1 ⟨rfl, rfl⟩
   rw [str_at l (a + 1 + N) (str_lt l (a + 1 + N) hin), mem_inside, Hw.out]
   go_wp2_with fail
   go_ret3
   exact ⟨rfl, rfl⟩
set_option maxHeartbeats 2000000 in
set_option maxRecDepth 100000 in
theorem number_neg_ok (l : List UInt8) (a : Nat) (w : World) (ha : a < l.length) (hm : l.length ≤ 1000000) (h45 : (Lx.at0 l a).toNat = 45) (hd : Lx.digitB (Lx.at0 l (a + 1)) = true)
 (h18 : ¬ 18 < Lx.cnt Lx.digitB (l.drop (a + 1))) (hw : Lx.wordB (Lx.at0 l ((a + 1) + Lx.cnt Lx.digitB (l.drop (a + 1)))) = false) :
 Calls Try.prog 65 #[.string ⟨l.toArray⟩, .int .i64 a] w fun e w' => e = .returned (.tuple #[.int .i64 (-((Lx.natV ((l.drop (a + 1)).take (Lx.cnt Lx.digitB (l.drop (a + 1)))) 0 : Nat) : Int)), .int .i64 ((1 + Lx.cnt Lx.digitB (l.drop (a + 1)) : Nat) : Int), .bool true]) ∧ w = w' := by
 have e := str_at l a (str_lt l a ha)
 have h1 : ((((ByteArray.mk l.toArray)[a]'(str_lt l a ha)).toNat : Int) == 45) = true := by rw [e]; simp [h45]
 have ha1 : a + 1 < l.length := Lx.ne_out l (a + 1) Lx.digitB (by decide) hd
 have hle := Lx.cnt_le Lx.digitB (l.drop (a + 1))
 rw [List.length_drop] at hle
 have hfun : (fun c => memB c digitsL) = Lx.digitB := funext mem_digits
 have hfits : ∀ i, i < Lx.cnt Lx.digitB (l.drop (a + 1)) → Lx.digitB (Lx.at0 l ((a + 1) + i)) = true := fun i hi => by
  have := cnt_digit (l.drop (a + 1)) i hi; rwa [Lx.at0_drop] at this
 have hst := natV_step (l.drop (a + 1))
 have hsm := natV_small17 (l.drop (a + 1))
 have htk := take_int l digitsL ((a : Int) + 1) w (by omega) (by omega) hm (by decide) (by decide)
 rw [hfun, show ((a : Int) + 1).toNat = a + 1 by omega] at htk
 generalize hN : Lx.cnt Lx.digitB (l.drop (a + 1)) = N at *
 have HN := Lib.hid hN; have HT := Lib.hid htk; have HF := Lib.hid hfits; have HST := Lib.hid hst; have HSM := Lib.hid hsm; have HFUN := Lib.hid hfun
 clear hN htk hfits hst hsm e hd hfun h45
 go_enter Try.func65, Try.ntmps65
 go_wp2_with fail
 refine HT.out.mono ?_; rintro e w1 ⟨rfl, rfl⟩
 have h18' : ¬ (18 : Int) < (N : Int) := by omega
 have Hw := Lib.hid hw; clear hw
 by_cases hin : (a + 1 + N) < l.length
 · go_wp2_with fail
   refine (in_any _ insideL _ (by decide)).mono ?_; rintro e w1 ⟨rfl, rfl⟩
   rw [str_at l (a + 1 + N) (str_lt l (a + 1 + N) hin), mem_inside, Hw.out]
   go_wp2_with fail
   go_loop [9, 10] (fun v i => ∃ k : Nat, k ≤ N ∧ i = .int .i64 k ∧ v = .int .i64 (Lx.natV ((l.drop (a + 1)).take k) 0 : Nat)) (fun _ i => N - (intOf i).toNat)
   case atStart => exact ⟨0, by omega, rfl, rfl⟩
   case round =>
    obtain ⟨k, hk, rfl, rfl⟩ := hrel
    by_cases hlt : k < N
    · have hdg := Lx.digit_bd _ (HF.out k hlt)
      have hv := HSM.out k (by omega) (by omega)
      have hs := HST.out k (by rw [List.length_drop]; omega)
      rw [Lx.at0_drop] at hs
      have hkl : (a + 1) + k < l.length := by omega
      have e := str_at l ((a + 1) + k) (str_lt l _ hkl)
      have hb0 : (48 : Int) ≤ (((ByteArray.mk l.toArray)[(a + 1) + k]'(str_lt l _ hkl)).toNat : Int) := by rw [e]; omega
      have hb1 : (((ByteArray.mk l.toArray)[(a + 1) + k]'(str_lt l _ hkl)).toNat : Int) ≤ 57 := by rw [e]; omega
      have hsum : (10 : Int) * (Lx.natV ((l.drop (a + 1)).take k) 0 : Nat) + ((((ByteArray.mk l.toArray)[(a + 1) + k]'(str_lt l _ hkl)).toNat : Int) - 48) = ((Lx.natV ((l.drop (a + 1)).take (k + 1)) 0 : Nat) : Int) := by rw [e]; omega
      generalize Lx.natV ((l.drop (a + 1)).take k) 0 = V at *
      generalize hV' : Lx.natV ((l.drop (a + 1)).take (k + 1)) 0 = V' at *
      have HS := Lib.hid hsum; have HV' := Lib.hid hV'
      clear hs hsum e hdg hV'
      go_wp2
      go_round
      case rel => exact ⟨k + 1, by omega, by go_num, by rw [HV'.out, HS.out]⟩
      case measure => simp [intOf]; omega
    · obtain rfl : k = N := by omega
      have HV := Lib.hid (natV_small (l.drop (a + 1)) k (by rw [HN.out]; omega) (by omega))
      generalize hV : Lx.natV ((l.drop (a + 1)).take k) 0 = V at *
      have HVe := Lib.hid hV; clear hV
      have hV1 : (V : Int) < 1000000000000000000 := by have := HV.out; omega
      go_wp2
      go_ret3
      exact ⟨by rw [HVe.out]; rfl, rfl⟩
 · go_wp2_with fail
   go_loop [9, 10] (fun v i => ∃ k : Nat, k ≤ N ∧ i = .int .i64 k ∧ v = .int .i64 (Lx.natV ((l.drop (a + 1)).take k) 0 : Nat)) (fun _ i => N - (intOf i).toNat)
   case atStart => exact ⟨0, by omega, rfl, rfl⟩
   case round =>
    obtain ⟨k, hk, rfl, rfl⟩ := hrel
    by_cases hlt : k < N
    · have hdg := Lx.digit_bd _ (HF.out k hlt)
      have hv := HSM.out k (by omega) (by omega)
      have hs := HST.out k (by rw [List.length_drop]; omega)
      rw [Lx.at0_drop] at hs
      have hkl : (a + 1) + k < l.length := by omega
      have e := str_at l ((a + 1) + k) (str_lt l _ hkl)
      have hb0 : (48 : Int) ≤ (((ByteArray.mk l.toArray)[(a + 1) + k]'(str_lt l _ hkl)).toNat : Int) := by rw [e]; omega
      have hb1 : (((ByteArray.mk l.toArray)[(a + 1) + k]'(str_lt l _ hkl)).toNat : Int) ≤ 57 := by rw [e]; omega
      have hsum : (10 : Int) * (Lx.natV ((l.drop (a + 1)).take k) 0 : Nat) + ((((ByteArray.mk l.toArray)[(a + 1) + k]'(str_lt l _ hkl)).toNat : Int) - 48) = ((Lx.natV ((l.drop (a + 1)).take (k + 1)) 0 : Nat) : Int) := by rw [e]; omega
      generalize Lx.natV ((l.drop (a + 1)).take k) 0 = V at *
      generalize hV' : Lx.natV ((l.drop (a + 1)).take (k + 1)) 0 = V' at *
      have HS := Lib.hid hsum; have HV' := Lib.hid hV'
      clear hs hsum e hdg hV'
      go_wp2
      go_round
      case rel => exact ⟨k + 1, by omega, by go_num, by rw [HV'.out, HS.out]⟩
      case measure => simp [intOf]; omega
    · obtain rfl : k = N := by omega
      have HV := Lib.hid (natV_small (l.drop (a + 1)) k (by rw [HN.out]; omega) (by omega))
      generalize hV : Lx.natV ((l.drop (a + 1)).take k) 0 = V at *
      have HVe := Lib.hid hV; clear hV
      have hV1 : (V : Int) < 1000000000000000000 := by have := HV.out; omega
      go_wp2
      go_ret3
      exact ⟨by rw [HVe.out]; rfl, rfl⟩
end Go.Proofs.Ytgoacbomphlhjaa
