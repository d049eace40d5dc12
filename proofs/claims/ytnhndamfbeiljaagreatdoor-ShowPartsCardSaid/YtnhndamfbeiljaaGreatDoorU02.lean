/-
  Several texts in one: PWrapPure, PWrap, Leaf, Scope, Skip, Read, Shelf, Token.
-/
import Derived.Test.YtnhndamfbeiljaaGreatDoorU00
import Derived.Test.YtnhndamfbeiljaaGreatDoorU01
import Derived.Test.YtnhndamfbeiljaaGreatDoorRows
import Derived.WalkKit
import Derived.WalkSpells
import Derived.Lib.Hide
import Derived.Scope
import Derived.Shelf.LaysM
import Derived.Shelf.Strconv.Itoa4
import Derived.Shelf.LaysC
import Derived.Shelf.Strconv.ParseIntPublic10
import Derived.Test.YtnhndamfbeiljaaGreatDoorProg
set_option linter.unusedVariables false
set_option linter.unusedSimpArgs false
set_option maxHeartbeats 4000000
set_option maxRecDepth 100000
namespace Go.Proofs.YtnhndamfbeiljaaGreatDoor
open Go.Lib (hid)
open List renaming getElem_toArray → jPC, getElem_cons_succ → jPD, getElem_cons_zero → jPE, setIfInBounds_toArray → jPF, set_cons_zero → jPG, set_cons_succ → jPH
namespace Lx
theorem tk_shift (d : Nat) (l : List UInt8) : tk d l = ((tk 0 l).1.map (shift d), (tk 0 l).2.map (· + d)) := by
 have := jMF d (l.length + 1) 0 l; rw [Nat.zero_add] at this; exact this
theorem jKN {l : List UInt8} {n : Nat} (h : Way l 0 n) (hn : n ≠ 0) : (at0 l 0).toNat = 40 := by
 generalize hk : (0 : Int) = k at h; cases h with
 | arrow => omega
 | neg => omega
 | pos => omega
 | name => omega
 | con => omega
 | one h1 h2 =>
   by_cases e : (at0 l 0).toNat = 40
   . exact e
   . unfold single at hk; rw [if_neg e] at hk
     repeat' split at hk
     all_goals omega
 | none => omega
theorem jMP : ∀ (f p : Nat) (l : List UInt8), Px.opens (toks f p l).1 <= l.count 40 := by
 intro f
 induction f with
 | zero => intro p l; simp [toks, Px.opens]
 | succ f ih =>
   intro p l; rw [jDD]; by_cases h1 : l.length <= skipC false l
   . rw [if_pos h1]; simp [Px.opens]
   . rw [if_neg h1]; by_cases h2 : (jAL (l.drop (skipC false l))).2 = 0
     . rw [if_pos h2]; simp [Px.opens]
     . rw [if_neg h2]; simp only [Px.opens]; have hw := way (l.drop (skipC false l)); have hi := ih (p + skipC false l + (jAL (l.drop (skipC false l))).2) ((l.drop (skipC false l)).drop (jAL (l.drop (skipC false l))).2); have hd1 := (List.drop_sublist (skipC false l) l).count_le 40; have hl : 0 < (l.drop (skipC false l)).length := by rw [List.length_drop]; omega
       generalize l.drop (skipC false l) = r at *; have hd2 := (List.drop_sublist (jAL r).2 r).count_le 40; by_cases hk : (jAL r).1 = 0
       . rw [if_pos (by exact hk)]; rw [hk] at hw; have h40 := jKN hw h2; cases r with
         | nil => simp at hl
         | cons c r =>
           have hc : c = 40 := by
            have : c.toNat = 40 := h40; exact UInt8.toNat_inj.1 (by rw [this]; rfl)
           subst hc; obtain ⟨j, hj⟩ : ∃ j, (jAL (40 :: r)).2 = j + 1 := ⟨(jAL (40 :: r)).2 - 1, by omega⟩
           rw [hj] at hi ⊢; rw [List.drop_succ_cons] at hi ⊢; have hd3 := (List.drop_sublist j r).count_le 40; rw [List.count_cons_self] at hd1; omega
       . rw [if_neg (by exact hk)]; omega
end Lx
namespace Px
open Lx (Tok tk jD4)
theorem Fits.mono : ∀ {k : Nat} {n : Node}, Fits k n -> Fits (k + 1) n := by
 intro k
 induction k with
 | zero => intro n h m hm; rw [show n.list = [] from h] at hm; cases hm
 | succ k ih => intro n h m hm; exact ih (h m hm)
theorem Fits.le {k j : Nat} {n : Node} (h : Fits k n) (hj : k <= j) : Fits j n := by
 induction j with
 | zero => obtain rfl : k = 0 := by omega
           exact h
 | succ j ih =>
   by_cases e : k = j + 1
   . subst e; exact h
   . exact (ih (by omega)).mono
theorem Fits.kid {k : Nat} {n m : Node} (h : Fits k n) (hm : m ∈ n.list) : ∃ j, k = j + 1 /\ Fits j m := by
 cases k with
 | zero => rw [show n.list = [] from h] at hm; cases hm
 | succ k => exact ⟨k, rfl, h m hm⟩
theorem jOU (stop : Nat) : ∀ (f d : Nat) (ts : List Tok),
 (∀ n ts', node stop f d ts = .ok (n, ts') -> Fits (opens ts) n) /\ (∀ l ts', rest stop f d ts = .ok (l, ts') -> ∀ m ∈ l, Fits (opens ts) m) := by
 intro f
 induction f with
 | zero => intro d ts; exact ⟨fun n ts' h => (by cases h), fun l ts' h => (by cases h)⟩
 | succ f ih =>
   intro d ts; cases ts with
   | nil => exact ⟨fun n ts' h => (by cases h), fun l ts' h => (by cases h)⟩
   | cons t ts =>
     constructor
     . intro n ts' h; rw [node] at h; by_cases k1 : t.kind = 1
       . rw [if_pos k1] at h; cases h
       . rw [if_neg k1] at h; by_cases k0 : t.kind = 0
         . rw [if_pos k0] at h; by_cases hd : d = 40
           . rw [if_pos hd] at h; cases h
           . rw [if_neg hd] at h; cases hr : rest stop f (d + 1) ts with
             | error p => rw [hr] at h; cases h
             | ok x =>
               obtain ⟨l, ts1⟩ := x; rw [hr] at h; simp only [Except.ok.injEq, Prod.mk.injEq] at h; obtain ⟨rfl, rfl⟩ := h; have ho : opens (t :: ts) = opens ts + 1 := by rw [opens, if_pos k0]; omega
               rw [ho]; exact (ih (d + 1) ts).2 _ _ hr
         . rw [if_neg k0] at h; simp only [Except.ok.injEq, Prod.mk.injEq] at h; obtain ⟨rfl, rfl⟩ := h; exact Fits.le (k := 0) rfl (Nat.zero_le _)
     . intro l ts' h; rw [rest] at h; by_cases k1 : t.kind = 1
       . rw [if_pos k1] at h; simp only [Except.ok.injEq, Prod.mk.injEq] at h; obtain ⟨rfl, rfl⟩ := h; intro m hm; cases hm
       . rw [if_neg k1] at h; cases hn : node stop f d (t :: ts) with
         | error p => rw [hn] at h; cases h
         | ok x =>
           obtain ⟨n, ts1⟩ := x; rw [hn] at h; simp only at h; have hle := ((jJD stop stop f d (t :: ts)).1 _ _ hn).1; cases hr : rest stop f d ts1 with
           | error p => rw [hr] at h; cases h
           | ok y =>
             obtain ⟨l', ts2⟩ := y; rw [hr] at h; simp only [Except.ok.injEq, Prod.mk.injEq] at h; obtain ⟨rfl, rfl⟩ := h; intro m hm
             rcases List.mem_cons.1 hm with rfl | hm
             . exact (ih d (t :: ts)).1 _ _ hn
             . exact ((ih d ts1).2 _ _ hr m hm).le hle
theorem jA8 {n : Node} {a b : Nat} {l : List Node} (h : nodes n a b = .ok l) : l = n.list /\ a <= l.length := by
 unfold nodes at h; by_cases h1 : jAJ n = true
 . rw [if_pos h1] at h; unfold hold at h; by_cases h2 : n.list.length < a
   . rw [if_pos h2] at h; cases h
   . rw [if_neg h2] at h; cases hb : n.list[b]? with
     | some m => rw [hb] at h; cases h
     | none =>
       rw [hb] at h; simp only [Except.ok.injEq] at h; subst h; exact ⟨rfl, by omega⟩
 . rw [if_neg h1] at h; cases h
theorem jBH {l : List Node} {k : Nat} {n : Node} (h : k < l.length) : l.getD k n ∈ l := by
 rw [List.getD_eq_getElem?_getD, List.getElem?_eq_getElem h]; exact List.getElem_mem h
theorem jH0 {l : List Node} {n : Node} (h : 0 < l.length) : l.headD n ∈ l := by
 cases l with
 | nil => simp at h
 | cons a l => simp
theorem jEB {α : Type} {f g : Node -> R α} : ∀ {l : List Node}, (∀ n ∈ l, f n = g n) -> each f l = each g l := by
 intro l
 induction l with
 | nil => intro _; rfl
 | cons a l ih => intro h; rw [each, each, h a (by simp), ih (fun n hn => h n (by simp [hn]))]
theorem pat_fuel : ∀ (k f f' : Nat) (n : Node), Fits k n -> k < f -> k < f' -> pat f n = pat f' n := by
 intro k
 induction k with
 | zero =>
   intro f f' n h hf hf'; obtain ⟨f, rfl⟩ : ∃ g, f = g + 1 := ⟨f - 1, by omega⟩
   obtain ⟨f', rfl⟩ : ∃ g, f' = g + 1 := ⟨f' - 1, by omega⟩
   rw [pat, pat]; cases hn : nodes n 2 9 with
   | error p => rfl
   | ok l =>
     obtain ⟨rfl, h2⟩ := jA8 hn; rw [show n.list = [] from h] at h2; simp at h2
 | succ k ih =>
   intro f f' n h hf hf'; obtain ⟨f, rfl⟩ : ∃ g, f = g + 1 := ⟨f - 1, by omega⟩
   obtain ⟨f', rfl⟩ : ∃ g, f' = g + 1 := ⟨f' - 1, by omega⟩
   rw [pat, pat]; cases hn : nodes n 2 9 with
   | error p => rfl
   | ok l =>
     obtain ⟨rfl, h2⟩ := jA8 hn
     simp only
     rw [jEB (f := pat f) (g := pat f') (fun m hm => ih f f' m (h m (List.mem_of_mem_tail hm)) (by omega) (by omega))]
theorem jP4 : ∀ (k f f' : Nat) (n : Node), Fits k n -> k < f -> k < f' -> expr f n = expr f' n := by
 intro k
 induction k with
 | zero =>
   intro f f' n h hf hf'; obtain ⟨f, rfl⟩ : ∃ g, f = g + 1 := ⟨f - 1, by omega⟩
   obtain ⟨f', rfl⟩ : ∃ g, f' = g + 1 := ⟨f' - 1, by omega⟩
   have he : n.list = [] := h; have hw : word n = [] := by unfold word; rw [he]
   have hp : ∀ ex : Node -> R Expr, jAW ex n = (match nodes n 2 9 with | .error p => .error p | .ok _ => .error n.pos) := by
    intro ex; unfold jAW; cases hn : nodes n 2 9 with
    | error p => rfl
    | ok l =>
      obtain ⟨rfl, h2⟩ := jA8 hn; rw [he] at h2; simp at h2
   have hl : ∀ (g : Nat) (ex : Node -> R Expr), listExpr g ex n = jAW ex n := by
    intro g ex; unfold listExpr; rw [hw, if_neg (by decide), if_neg (by decide), if_neg (by decide)]
   rw [expr, expr, hl, hl, hp, hp]
 | succ k ih =>
   intro f f' n h hf hf'; obtain ⟨f, rfl⟩ : ∃ g, f = g + 1 := ⟨f - 1, by omega⟩
   obtain ⟨f', rfl⟩ : ∃ g, f' = g + 1 := ⟨f' - 1, by omega⟩
   have hk : ∀ m ∈ n.list, expr f m = expr f' m := fun m hm => ih f f' m (h m hm) (by omega) (by omega)
   have hg : ∀ m ∈ n.list, ∀ x ∈ m.list, Fits k x := fun m hm x hx => by
    obtain ⟨j, rfl, hj⟩ := Fits.kid (h m hm) hx; exact hj.mono
   have hke : ∀ m ∈ n.list, ∀ x ∈ m.list, expr f x = expr f' x := fun m hm x hx => ih f f' x (hg m hm x hx) (by omega) (by omega)
   have hkp : ∀ m ∈ n.list, ∀ x ∈ m.list, pat f x = pat f' x := fun m hm x hx => pat_fuel k f f' x (hg m hm x hx) (by omega) (by omega)
   have hfn : jCX (expr f) n = jCX (expr f') n := by
    unfold jCX; cases hn : nodes n 3 3 with
    | error p => rfl
    | ok l =>
      obtain ⟨rfl, h2⟩ := jA8 hn
      simp only
      rw [hk _ (jBH (by omega))]
   have hle : jBY (expr f) n = jBY (expr f') n := by
    unfold jBY; cases hn : nodes n 3 3 with
    | error p => rfl
    | ok l =>
      obtain ⟨rfl, h2⟩ := jA8 hn
      simp only
      rw [hk _ (jBH (by omega))]; cases hp : nodes (n.list.getD 1 n) 1 8 with
      | error p => rfl
      | ok ps =>
        obtain ⟨e, h3⟩ := jA8 hp
        simp only
        rw [jEB (f := pair (expr f)) (g := pair (expr f')) (fun b hb => by
         have hb1 : b ∈ (n.list.getD 1 n).list := by rw [<- e]; exact hb
         unfold pair; cases hq : nodes b 2 2 with
         | error p => rfl
         | ok l2 =>
           obtain ⟨rfl, h4⟩ := jA8 hq
           simp only
           have hb2 : b.list.getD 1 b ∈ b.list := jBH (by omega); obtain ⟨j, hj, hf1⟩ := Fits.kid (hg _ (jBH (by omega)) b hb1) hb2
           rw [ih f f' _ (hf1.le (by omega)) (by omega) (by omega)])]
   have hca : jBK f (expr f) n = jBK f' (expr f') n := by
    unfold jBK; cases hn : nodes n 3 18 with
    | error p => rfl
    | ok l =>
      obtain ⟨rfl, h2⟩ := jA8 hn
      simp only
      rw [hk _ (jBH (by omega))]
      rw [jEB (f := alt f (expr f)) (g := alt f' (expr f')) (fun b hb => by
       have hb1 : b ∈ n.list := List.mem_of_mem_drop hb; unfold alt; cases hq : nodes b 2 2 with
       | error p => rfl
       | ok l2 =>
         obtain ⟨rfl, h4⟩ := jA8 hq
         simp only
         rw [hke b hb1 _ (jBH (by omega)), hkp b hb1 _ (jH0 (by omega))])]
   have hpl : jAW (expr f) n = jAW (expr f') n := by
    unfold jAW; cases hn : nodes n 2 9 with
    | error p => rfl
    | ok l =>
      obtain ⟨rfl, h2⟩ := jA8 hn
      simp only
      rw [jEB (f := expr f) (g := expr f') hk, jEB (f := expr f) (g := expr f') (fun m hm => hk m (List.mem_of_mem_tail hm))]
   rw [expr, expr, listExpr, listExpr, hfn, hle, hca, hpl]
def Expr.kindN : Expr -> Nat | .mk k _ _ _ _ _ _ => k
def Expr.posN : Expr -> Nat | .mk _ p _ _ _ _ _ => p
def Expr.argsL : Expr -> List Expr | .mk _ _ _ _ _ xs _ => xs
theorem SimE.parts {ρ : Nat -> Nat -> Prop} {x y : Expr} (h : SimE ρ x y) : y.kindN = x.kindN /\ ρ x.posN y.posN /\ y.argsL.length = x.argsL.length := by
 cases h with
 | mk k p q nm i ns xs ys al bl h1 h2 h3 h4 => exact ⟨rfl, h1, h2.len⟩
def jIM (t : Tok) : Prop := t.kind = 2 -> Plain t.text
theorem jFM {s : List UInt8} (h : Lx.jA9 (Lx.at0 s 0) = true \/ (Lx.at0 s 0).toNat = 45 /\ Lx.jA9 (Lx.at0 s 1) = true) : Plain s := by
 have key : ∀ s' : List UInt8, s = s' -> ((Lx.jA9 (Lx.at0 s' 0) || ((Lx.at0 s' 0).toNat == 45 && Lx.jA9 (Lx.at0 s' 1))) = true) := by
  intro s' e; subst e
  rcases h with h | ⟨h1, h2⟩
  . simp [h]
  . simp [h1, h2]
 have no : ∀ s' : List UInt8, ((Lx.jA9 (Lx.at0 s' 0) || ((Lx.at0 s' 0).toNat == 45 && Lx.jA9 (Lx.at0 s' 1))) = false) -> s ≠ s' := by
  intro s' h e; rw [key s' e] at h; exact absurd h (by decide)
 refine ⟨?_, no _ (by decide), no _ (by decide), no _ (by decide), no _ (by decide), no _ (by decide), no _ (by decide), no _ (by decide)⟩; unfold jC7; rw [if_neg ?_, if_neg ?_]
 . rintro (e | e)
   . exact no _ (by decide) e
   . exact no _ (by decide) e
 . rintro (e | e | e | e | e | e | e | e | e | e)
   all_goals exact no _ (by decide) e
theorem jEC (l : List UInt8) (n k : Nat) (h : k < n) : Lx.at0 (l.take n) k = Lx.at0 l k := by
 unfold Lx.at0; rw [List.getD_eq_getElem?_getD, List.getD_eq_getElem?_getD, List.getElem?_take, if_pos h]
theorem jJ6 {l : List UInt8} {n : Nat} (h : Lx.Way l 2 n) : Plain (l.take n) := by
 generalize hk : (2 : Int) = k at h
 have hcnt : ∀ r : List UInt8, Lx.jA9 (Lx.at0 r 0) = true -> 0 < Lx.cnt Lx.jA9 r := by
  intro r hr; cases r with
  | nil => exact absurd hr (by decide)
  | cons c r => rw [Lx.cnt, if_pos (by exact hr)]; omega
 cases h with
 | arrow => omega
 | neg h1 h2 h3 h4 =>
   have e : Lx.at0 (l.drop 1) 0 = Lx.at0 l 1 := by rw [Lx.at0_drop]
   have := hcnt (l.drop 1) (by rw [e]; exact h2); exact jFM (.inr ⟨by rw [jEC _ _ _ (by omega)]; exact h1, by rw [jEC _ _ _ (by omega)]; exact h2⟩)
 | pos h1 h2 h3 =>
   have := hcnt l h1; exact jFM (.inl (by rw [jEC _ _ _ this]; exact h1))
 | name => omega
 | con => omega
 | one h1 h2 =>
   rcases Lx.jDI (Lx.at0 l 0) with e | e | e | e <;> omega
 | none => omega
theorem jMG : ∀ (f p : Nat) (l : List UInt8), ∀ t ∈ (Lx.toks f p l).1, jIM t := by
 intro f
 induction f with
 | zero => intro p l t h; simp [Lx.toks] at h
 | succ f ih =>
   intro p l t h; rw [Lx.jDD] at h; by_cases h1 : l.length <= Lx.skipC false l
   . rw [if_pos h1] at h; simp at h
   . rw [if_neg h1] at h; by_cases h2 : (Lx.jAL (l.drop (Lx.skipC false l))).2 = 0
     . rw [if_pos h2] at h; simp at h
     . rw [if_neg h2] at h
       rcases List.mem_cons.1 h with rfl | h
       . intro hk; have hw := Lx.way (l.drop (Lx.skipC false l)); have hk' : (Lx.jAL (l.drop (Lx.skipC false l))).1 = 2 := hk; rw [hk'] at hw; exact jJ6 hw
       . exact ih _ _ t h
theorem jJ8 (d : Nat) : ∀ (ts : List Tok), (∀ t ∈ ts, jIM t) -> All2 (TSim (fun p q => q = p + d)) ts (ts.map (Lx.shift d))
 | [], _ => .nil
 | t :: ts, h => .cons ⟨rfl, rfl, rfl, fun hk => ⟨h t (by simp) hk, h t (by simp) hk⟩, fun _ => rfl⟩ (jJ8 d ts (fun u hu => h u (by simp [hu])))
theorem jFI (d : Nat) : ∀ ts : List Tok, opens (ts.map (Lx.shift d)) = opens ts
 | [] => rfl
 | t :: ts => by rw [List.map_cons, opens, opens, jFI d ts]; rfl
theorem inside (s : List UInt8) (x : Expr) (h : jER s = .done x) (d : Nat) (ho : s.count 40 < 30) :
 (tk 0 s).2 = none /\ ∃ n y, (∀ stop f D T, 2 * (tk 0 s).1.length + 2 <= f -> D <= 10 -> node stop f D ((tk d s).1 ++ T) = .ok (n, T)) /\ (∀ f, 31 <= f -> expr f n = .ok y) /\
   y.kindN = x.kindN /\ y.posN = x.posN + d /\ y.argsL.length = x.argsL.length := by
 unfold jER parsed at h; by_cases hl : 4096 < s.length
 . rw [if_pos hl] at h; cases h
 . rw [if_neg hl] at h; have et : Lx.toks (s.length + 1) 0 s = tk 0 s := rfl; rw [et] at h; have hop : opens (tk 0 s).1 <= s.count 40 := Lx.jMP _ _ s; have hpl : ∀ t ∈ (tk 0 s).1, jIM t := jMG _ _ s
   rw [Lx.tk_shift d s]; cases hs : tk 0 s with
   | mk ts o =>
     rw [hs] at h hop hpl; cases o with
     | some q => cases h
     | none =>
       refine ⟨rfl, ?_⟩; simp only at h hop hpl; cases hx : jCV s.length ts with
       | error p => rw [hx] at h; cases h
       | ok x' =>
         rw [hx] at h; simp only [Outcome.done.injEq] at h; subst h; unfold jCV at hx; cases hn : node s.length (2 * ts.length + 2) 0 ts with
         | error p => rw [hn] at hx; cases hx
         | ok r =>
           obtain ⟨n, ts'⟩ := r; rw [hn] at hx; simp only at hx; cases ts' with
           | cons t ts' => cases hx
           | nil =>
             simp only at hx; have hsim := (jIY (ρ := fun p q => q = p + d) s.length (s.length + d) rfl (2 * ts.length + 2) 0 ts _ (jJ8 d ts hpl)).1; rw [hn] at hsim; cases hm : node (s.length + d) (2 * ts.length + 2) 0 (ts.map (Lx.shift d)) with
             | error p => rw [hm] at hsim; exact hsim.elim
             | ok r' =>
               obtain ⟨m, us'⟩ := r'; rw [hm] at hsim; have hsn : Sim (fun p q => q = p + d) n m := hsim.1
               have hus : us' = [] := by
                have := hsim.2; cases this; rfl
               subst hus; have hes := expr_sim 50 n m hsn; rw [hx] at hes; cases hy : expr 50 m with
               | error p => rw [hy] at hes; exact hes.elim
               | ok y =>
                 rw [hy] at hes; have hse : SimE (fun p q => q = p + d) x' y := hes; obtain ⟨a1, a2, a3⟩ := hse.parts; have hfit : Fits 30 m := ((jOU _ _ _ _).1 _ _ hm).le (by rw [jFI]; omega); refine ⟨m, y, fun stop f D T hf hD => ?_, fun f hf => ?_, a1, a2, a3⟩
                 . have := ((jJD (s.length + d) stop (2 * ts.length + 2) 0 (ts.map (Lx.shift d))).1 _ _ hm).2.2.2 f D T hf (.inr (by rw [jFI]; omega)); exact this
                 . rw [jP4 30 f 50 m hfit (by omega) (by omega)]; exact hy
def head1 : List UInt8 := [40, 100, 101, 102, 32, 109, 97, 105, 110, 32, 40, 41, 32]
def jJN : List UInt8 := head1 ++ [40, 114, 101, 32]
end Px
namespace Px
open Lx (Tok tk jD4)
section
variable {s : List UInt8} {x : Expr} (h : jER s = .done x) (ho : s.count 40 < 30) (hl : s.length <= 1500)
include h ho hl
end
end Px
end Go.Proofs.YtnhndamfbeiljaaGreatDoor
namespace Go.Proofs.YtnhndamfbeiljaaGreatDoor
open Go Go.RowKit
open Go.Lib (hid)
open List renaming getElem_toArray → jPC, getElem_cons_succ → jPD, getElem_cons_zero → jPE, setIfInBounds_toArray → jPF, set_cons_zero → jPG, set_cons_succ → jPH
theorem jCJ {a b : Bool} (h : a = b) : Ending.returned (.bool a) = .returned (.bool b) := by rw [h]
theorem ret_int {k : IntKind} {a b : Int} (h : a = b) : Ending.returned (.int k a) = .returned (.int k b) := by rw [h]
theorem jEN (c : UInt8) (w : World) :
 Calls Tryz.prog 116 #[.int .u8 c.toNat] w fun e w' => e = .returned (.bool (Lx.jCT c)) /\ w = w' := by
 go_enter Tryz.func116, Tryz.ntmps116; go_wp2
 all_goals (go_ret; exact ⟨jCJ (by rw [Bool.eq_iff_iff]; simp [Lx.jCT]; omega), rfl⟩)
theorem jBP (c : UInt8) (w : World) :
 Calls Tryz.prog 118 #[.int .u8 c.toNat] w fun e w' => e = .returned (.bool (Lx.jA9 c)) /\ w = w' := by
 go_enter Tryz.func118, Tryz.ntmps118; go_wp2
 all_goals (go_ret; exact ⟨jCJ (by rw [Bool.eq_iff_iff]; simp [Lx.jA9]; omega), rfl⟩)
theorem jEL (c : UInt8) (w : World) :
 Calls Tryz.prog 119 #[.int .u8 c.toNat] w fun e w' => e = .returned (.bool (Lx.jCF c)) /\ w = w' := by
 go_enter Tryz.func119, Tryz.ntmps119; go_wp2
 all_goals (go_ret; exact ⟨jCJ (by rw [Bool.eq_iff_iff]; simp [Lx.jCF]; omega), rfl⟩)
theorem jFO (c : UInt8) (w : World) :
 Calls Tryz.prog 120 #[.int .u8 c.toNat] w fun e w' => e = .returned (.bool (Lx.jCS c)) /\ w = w' := by
 go_enter Tryz.func120, Tryz.ntmps120; go_wp2
 all_goals (go_ret; exact ⟨jCJ (by rw [Bool.eq_iff_iff]; simp [Lx.jCS]; omega), rfl⟩)
theorem jE0 (c : UInt8) (w : World) :
 Calls Tryz.prog 121 #[.int .u8 c.toNat] w fun e w' => e = .returned (.bool (Lx.jBQ c)) /\ w = w' := by
 have e1 : Lx.jBQ c = (Lx.jCF c || Lx.jCS c || Lx.jA9 c || decide ((c.toNat : Int) = 39)) := by unfold Lx.jBQ; congr 1; rw [Bool.eq_iff_iff]; simp; omega
 rw [e1]; clear e1
 go_enter Tryz.func121, Tryz.ntmps121; cases hs : Lx.jCF c <;> cases hg : Lx.jCS c <;> cases hd : Lx.jA9 c
 all_goals
  go_wp2_with (first | (go_at_call 119; refine (jEL _ _).mono ?_; rintro e w' ⟨rfl, rfl⟩) | (go_at_call 120; refine (jFO _ _).mono ?_; rintro e w' ⟨rfl, rfl⟩) | (go_at_call 118; refine (jBP _ _).mono ?_; rintro e w' ⟨rfl, rfl⟩))
 all_goals (go_ret; exact ⟨jCJ (by first | rfl | simp | (rw [Bool.eq_iff_iff]; simp)), rfl⟩)
theorem jP6 (l : List UInt8) (i : Int) (b off cap : Nat) (w : World) (h0 : 0 <= i) (hi : i < l.length) (_hm : (l.length : Int) <= 9223372036854775807)
 (hc : ∀ j, j < l.length -> w.cell? ⟨b, off + j, none⟩ = some (.int .u8 (Lx.at0 l j).toNat)) :
 Calls Tryz.prog 117 #[.slice (some ⟨b, off, none⟩) l.length cap, .int .i64 i] w fun e w' => e = .returned (.int .u8 (Lx.at0 l i.toNat).toNat) /\ w = w' := by
 obtain ⟨k, rfl⟩ := Int.eq_ofNat_of_zero_le h0; have hk := hc k (by omega); clear hc; rw [Int.toNat_natCast]; go_enter Tryz.func117, Tryz.ntmps117; go_wp2; go_ret; exact ⟨rfl, rfl⟩
theorem jGE (l : List UInt8) (p : Option Addr) (n : Nat) (i : Int) (cap : Nat) (w : World) (hi : n <= i) (hn : n = l.length) (_hm : i <= 9223372036854775807) :
 Calls Tryz.prog 117 #[.slice p n cap, .int .i64 i] w fun e w' => e = .returned (.int .u8 (Lx.at0 l i.toNat).toNat) /\ w = w' := by
 have e0 : (Lx.at0 l i.toNat) = 0 := by unfold Lx.at0; rw [List.getD_eq_getElem?_getD, List.getElem?_eq_none (by omega)]; rfl
 rw [e0]; clear e0 hn
 have h0 : (0 : Int) <= i := by omega
 go_enter Tryz.func117, Tryz.ntmps117; go_wp2; go_ret; exact ⟨rfl, rfl⟩
theorem jB5 (l : List UInt8) (i : Int) (b off cap : Nat) (w : World) (h0 : 0 <= i) (hi : i <= 9223372036854775807) (hm : (l.length : Int) <= 9223372036854775807)
 (hc : ∀ j, j < l.length -> w.cell? ⟨b, off + j, none⟩ = some (.int .u8 (Lx.at0 l j).toNat)) :
 Calls Tryz.prog 117 #[.slice (some ⟨b, off, none⟩) l.length cap, .int .i64 i] w fun e w' => e = .returned (.int .u8 (Lx.at0 l i.toNat).toNat) /\ w = w' := by
 by_cases h : i < l.length
 . exact jP6 l i b off cap w h0 h hm hc
 . exact jGE l _ l.length i cap w (by omega) rfl hi
theorem jFH (c : UInt8) (w : World) :
 Calls Tryz.prog 122 #[.int .u8 c.toNat] w fun e w' => e = .returned (.int .i64 (Lx.single c)) /\ w = w' := by
 go_enter Tryz.func122, Tryz.ntmps122; go_wp2
 all_goals (go_ret; exact ⟨ret_int (by simp only [beq_iff_eq, beq_eq_false_iff_ne, ne_eq] at *; unfold Lx.single; repeat (first | rw [if_pos (by omega)] | rw [if_neg (by omega)])), rfl⟩)
end Go.Proofs.YtnhndamfbeiljaaGreatDoor
namespace Go.Proofs.YtnhndamfbeiljaaGreatDoor
open Go
open Go.Lib (hid)
open List renaming getElem_toArray → jPC, getElem_cons_succ → jPD, getElem_cons_zero → jPE, setIfInBounds_toArray → jPF, set_cons_zero → jPG, set_cons_succ → jPH
def Exit.jumps (J : Nat -> Act -> World -> Prop) (Q : Exit -> Act -> World -> Prop) : Exit -> Act -> World -> Prop
 | .goto l, a, w => J l a w
 | e, a, w => Q e a w
section
variable {P : Program} {a : Act} {w : World} {Q : Exit -> Act -> World -> Prop}
theorem jDX {c : Code} (J : Nat -> Act -> World -> Prop) (μ : Nat -> Act -> World -> Nat)
 (first : c.wp P (Exit.jumps J Q) a w)
 (pass : ∀ l a w, J l a w -> ∃ rest, findLabel c l = some rest /\ rest.wp P (Exit.jumps (fun l' a' w' => J l' a' w' /\ μ l' a' w' < μ l a w) Q) a w) : (Code.scope c).wp P Q a w := by
 intro b k cs; have hg : ∀ l rest, findLabel c l = some rest -> gotoIn l (.inScope c :: k) = some (.code rest :: .inScope c :: k) := fun l rest h => by simp [gotoIn, h]
 have key : ∀ n l a w, μ l a w = n -> J l a w -> ∃ rest, findLabel c l = some rest /\ ∃ e a' w', Q e a' w' /\ Arrives P (lone (b.at a (.code rest :: .inScope c :: k)) cs w) b k cs e a' w' := by
  intro n
  induction n using Nat.strongRecOn with
  | _ n ih =>
    intro l a w hn hJ; obtain ⟨rest, hr, hp⟩ := pass l a w hJ; refine ⟨rest, hr, ?_⟩; obtain ⟨e, a₁, w₁, hq, harr⟩ := hp b (.inScope c :: k) cs; cases e with
    | normal => exact ⟨.normal, a₁, w₁, hq, Steps.trans harr (.one step_inScope)⟩
    | exit id => exact ⟨.exit id, a₁, w₁, hq, fun k' hk => harr k' (by simp [exitTo, hk])⟩
    | goto l' =>
      obtain ⟨hJ', hlt⟩ := hq; obtain ⟨rest', hr', e₂, a₂, w₂, hq₂, harr₂⟩ := ih _ (by omega) l' a₁ w₁ rfl hJ'; exact ⟨e₂, a₂, w₂, hq₂, .of_steps (harr _ (hg l' rest' hr')) harr₂⟩
    | ret => exact ⟨_, a₁, w₁, hq, harr⟩
    | panic ch => exact ⟨_, a₁, w₁, hq, harr⟩
    | outgrown => exact ⟨_, a₁, w₁, hq, harr⟩
 obtain ⟨e, a₁, w₁, hq, harr⟩ := first b (.inScope c :: k) cs
 cases e with
 | normal => exact ⟨.normal, a₁, w₁, hq, .head step_scope (Steps.trans harr (.one step_inScope))⟩
 | exit id => exact ⟨.exit id, a₁, w₁, hq, fun k' hk => .head step_scope (harr k' (by simp [exitTo, hk]))⟩
 | goto l' =>
   obtain ⟨rest', hr', e₂, a₂, w₂, hq₂, harr₂⟩ := key _ l' a₁ w₁ rfl hq; exact ⟨e₂, a₂, w₂, hq₂, .of_steps (.head step_scope (harr _ (hg l' rest' hr'))) harr₂⟩
 | ret => exact ⟨_, a₁, w₁, hq, .of_steps (.one step_scope) harr⟩
 | panic ch => exact ⟨_, a₁, w₁, hq, .of_steps (.one step_scope) harr⟩
 | outgrown => exact ⟨_, a₁, w₁, hq, .of_steps (.one step_scope) harr⟩
theorem Exit.jumps_mono {J J' : Nat -> Act -> World -> Prop} (h : ∀ l a w, J l a w -> J' l a w) {e : Exit} {a : Act} {w : World} (hq : Exit.jumps J Q e a w) : Exit.jumps J' Q e a w := by
 cases e with
 | goto l => exact h l a w hq
 | _ => exact hq
theorem Exit.jumps_ret (J : Nat -> Act -> World -> Prop) : Exit.jumps J Q .ret a w = Q .ret a w := rfl
theorem wp_mono {c : Code} {Q Q' : Exit -> Act -> World -> Prop} (h : ∀ e a w, Q e a w -> Q' e a w) (hc : c.wp P Q a w) : c.wp P Q' a w := fun b k cs =>
 let ⟨e, a', w', hq, harr⟩ := hc b k cs
 ⟨e, a', w', h e a' w' hq, harr⟩
theorem jFD {r : Code} (l0 : Nat) (J : Nat -> Act -> World -> Prop) (μ : Nat -> Act -> World -> Nat) (hJ : J l0 a w)
 (pass0 : ∀ a w, J l0 a w -> r.wp P (Exit.jumps (fun l' a' w' => J l' a' w' /\ μ l' a' w' < μ l0 a w) Q) a w)
 (pass : ∀ l a w, l ≠ l0 -> J l a w -> ∃ rest, findLabel r l = some rest /\ rest.wp P (Exit.jumps (fun l' a' w' => J l' a' w' /\ μ l' a' w' < μ l a w) Q) a w) : (Code.scope (.seq (.label l0) r)).wp P Q a w := by
 refine jDX J μ ?_ ?_
 . refine wp_seq (wp_label ?_); exact wp_mono (fun e a' w' hq => Exit.jumps_mono (fun _ _ _ h => h.1) hq) (pass0 a w hJ)
 . intro l a w hl; by_cases h : l = l0
   . subst h; exact ⟨_, by simp [findLabel], wp_seq (wp_skip (pass0 a w hl))⟩
   . obtain ⟨rest, hr, hp⟩ := pass l a w h hl; exact ⟨rest, by simp [findLabel, hr, Ne.symm h], hp⟩
theorem jIO {c r : Code} (l0 : Nat) (hf : findLabel c l0 = some (.seq .skip r)) (J : Nat -> Act -> World -> Prop) (μ : Nat -> Act -> World -> Nat)
 (pass0 : ∀ a w, J l0 a w -> r.wp P (Exit.jumps (fun l' a' w' => J l' a' w' /\ μ l' a' w' < μ l0 a w) Q) a w)
 (pass : ∀ l a w, l ≠ l0 -> J l a w -> ∃ rest, findLabel c l = some rest /\ rest.wp P (Exit.jumps (fun l' a' w' => J l' a' w' /\ μ l' a' w' < μ l a w) Q) a w)
 (first : (∀ a w, J l0 a w -> r.wp P (Exit.jumps J Q) a w) -> c.wp P (Exit.jumps J Q) a w) : (Code.scope c).wp P Q a w := by
 refine jDX J μ (first fun a w h => wp_mono (fun e a' w' hq => Exit.jumps_mono (fun _ _ _ h => h.1) hq) (pass0 a w h)) ?_; intro l a w hl; by_cases h : l = l0
 . subst h; exact ⟨_, hf, wp_seq (wp_skip (pass0 a w hl))⟩
 . exact pass l a w h hl
end
end Go.Proofs.YtnhndamfbeiljaaGreatDoor
namespace Go.Proofs.YtnhndamfbeiljaaGreatDoor
open Go Go.RowKit
open Go.Lib (hid)
open List renaming getElem_toArray → jPC, getElem_cons_succ → jPD, getElem_cons_zero → jPE, setIfInBounds_toArray → jPF, set_cons_zero → jPG, set_cons_succ → jPH
def SkJ (l : List UInt8) (b off cap tgt : Nat) (w0 : World) (lab : Nat) (a : Act) (w : World) : Prop :=
 w = w0 /\ ∃ (k : Nat) (u5 u6 u7 u8 u9 u10 u11 u12 u13 u14 u15 u16 u17 u18 u19 u20 u21 u22 u23 u24 u25 u26 u27 u28 : Value), a = { tmps := #[.slice (some ⟨b, off, none⟩) l.length cap, .int .i64 k, undef, undef, .int .i64 0, u5, u6, u7, u8, u9, u10, u11, u12, u13, u14, u15, u16, u17, u18, u19, u20, u21, u22, u23, u24, u25, u26, u27, u28], defers := [] } /\
  k <= l.length /\ ((lab = 0 /\ k + Lx.skipC false (l.drop k) = tgt) \/ (lab = 1 /\ k + Lx.skipC true (l.drop k) = tgt))
theorem skip_some (l : List UInt8) (i : Nat) (b off cap : Nat) (w : World) (hi : i <= l.length) (hm : (l.length : Int) <= 9223372036854775806)
 (hc : ∀ j, j < l.length -> w.cell? ⟨b, off + j, none⟩ = some (.int .u8 (Lx.at0 l j).toNat)) :
 Calls Tryz.prog 82 #[.slice (some ⟨b, off, none⟩) l.length cap, .int .i64 i] w fun e w' => e = .returned (.int .i64 ((i + Lx.skipC false (l.drop i) : Nat) : Int)) /\ w = w' := by
 have Hc := hid hc; clear hc
 go_enter Tryz.func82, Tryz.ntmps82; go_wp2; refine jFD 0 (SkJ l b off cap (i + Lx.skipC false (l.drop i)) w) (fun lab a _ => 2 * (l.length - (intOf (a.tmps.getD 1 undef)).toNat) + lab) ?_ ?_ ?_
 . exact ⟨rfl, i, _, _, _, _, _, _, _, _, _, _, _, _, _, _, _, _, _, _, _, _, _, _, _, _, rfl, hi, .inl ⟨rfl, rfl⟩⟩
 . rintro a w' ⟨rfl, k, u5, u6, u7, u8, u9, u10, u11, u12, u13, u14, u15, u16, u17, u18, u19, u20, u21, u22, u23, u24, u25, u26, u27, u28, rfl, hk, h⟩; have ht : k + Lx.skipC false (l.drop k) = i + Lx.skipC false (l.drop i) := by omega
   clear h; cases hb : Lx.jCT (Lx.at0 l k)
   . by_cases hs : (Lx.at0 l k).toNat = 59
     . obtain ⟨hkl, he⟩ := Lx.jO5 l k hs; have hck := Hc.out k hkl; have ht' : (k + 1) + Lx.skipC true (l.drop (k + 1)) = i + Lx.skipC false (l.drop i) := by omega
       generalize i + Lx.skipC false (l.drop i) = T at *; have Hb := hid hb; have Ht := hid ht'; clear hb ht he ht'
       have h1 : (((Lx.at0 l k).toNat : Int) != 59) = false := by simp [hs]
       have h2 : (((Lx.at0 l k).toNat : Int) != 10) = true := by simp [hs]
       have Hs := hid hs; clear hs
       go_wp2_with fail; refine (jB5 l k b off cap _ (by omega) (by omega) (by omega) Hc.out).mono ?_; rintro e w1 ⟨rfl, rfl⟩; rw [Int.toNat_natCast]
       go_wp2_with fail; refine (jEN _ _).mono ?_; rintro e w1 ⟨rfl, rfl⟩; rw [Hb.out]
       go_wp2_with fail; refine (jB5 l k b off cap _ (by omega) (by omega) (by omega) Hc.out).mono ?_; rintro e w1 ⟨rfl, rfl⟩; rw [Int.toNat_natCast]
       go_wp2_with fail
       go_step3
       go_wp2
       go_step3
       exact ⟨⟨rfl, k + 1, _, _, _, _, _, _, _, _, _, _, _, _, _, _, _, _, _, _, _, _, _, _, _, _, rfl, by omega, .inr ⟨rfl, Ht.out⟩⟩, by simp [intOf]; omega⟩
     . have he := Lx.skip_end l k hb hs; have Ht := hid (show i + Lx.skipC false (l.drop i) = k by omega); clear ht he
       have h1 : (((Lx.at0 l k).toNat : Int) != 59) = true := by simp; omega
       have Hb := hid hb; clear hb hs
       rw [Ht.out]; go_wp2_with fail; refine (jB5 l k b off cap _ (by omega) (by omega) (by omega) Hc.out).mono ?_; rintro e w1 ⟨rfl, rfl⟩; rw [Int.toNat_natCast]
       go_wp2_with fail; refine (jEN _ _).mono ?_; rintro e w1 ⟨rfl, rfl⟩; rw [Hb.out]
       go_wp2_with fail; refine (jB5 l k b off cap _ (by omega) (by omega) (by omega) Hc.out).mono ?_; rintro e w1 ⟨rfl, rfl⟩; rw [Int.toNat_natCast]
       go_wp2_with fail; rw [Exit.jumps_ret]; go_ret; exact ⟨by rw [Ht.out]; rfl, rfl⟩
   . obtain ⟨hkl, he⟩ := Lx.jMH l k hb; have ht' : (k + 1) + Lx.skipC false (l.drop (k + 1)) = i + Lx.skipC false (l.drop i) := by omega
     generalize i + Lx.skipC false (l.drop i) = T at *; have Hb := hid hb; have Ht := hid ht'; clear hb ht he ht'
     go_wp2_with fail; refine (jB5 l k b off cap _ (by omega) (by omega) (by omega) Hc.out).mono ?_; rintro e w1 ⟨rfl, rfl⟩; rw [Int.toNat_natCast]
     go_wp2_with fail; refine (jEN _ _).mono ?_; rintro e w1 ⟨rfl, rfl⟩; rw [Hb.out]
     go_wp2_with fail
     go_step3
     exact ⟨⟨rfl, k + 1, _, _, _, _, _, _, _, _, _, _, _, _, _, _, _, _, _, _, _, _, _, _, _, _, rfl, by omega, .inl ⟨rfl, Ht.out⟩⟩, by simp [intOf]; omega⟩
 . rintro lab a w' hlab ⟨rfl, k, u5, u6, u7, u8, u9, u10, u11, u12, u13, u14, u15, u16, u17, u18, u19, u20, u21, u22, u23, u24, u25, u26, u27, u28, rfl, hk, h⟩; obtain ⟨rfl, ht⟩ : lab = 1 /\ k + Lx.skipC true (l.drop k) = i + Lx.skipC false (l.drop i) := by omega
   refine ⟨_, rfl, ?_⟩; clear h; by_cases hkl : k < l.length
   . have hck := Hc.out k hkl; by_cases hs : (Lx.at0 l k).toNat = 10
     . have he := Lx.jJ7 l k (fun _ => hs); rw [he] at ht; clear he
       generalize i + Lx.skipC false (l.drop i) = T at *; have h1 : (((Lx.at0 l k).toNat : Int) != 10) = false := by simp [hs]
       have Ht := hid ht; clear ht hs
       go_wp2
       go_step3
       exact ⟨⟨rfl, k, _, _, _, _, _, _, _, _, _, _, _, _, _, _, _, _, _, _, _, _, _, _, _, _, rfl, by omega, .inl ⟨rfl, Ht.out⟩⟩, by simp [intOf]⟩
     . have he := Lx.jO6 l k hkl hs; have ht' : (k + 1) + Lx.skipC true (l.drop (k + 1)) = i + Lx.skipC false (l.drop i) := by omega
       clear ht he; generalize i + Lx.skipC false (l.drop i) = T at *; have h1 : (((Lx.at0 l k).toNat : Int) != 10) = true := by simp; omega
       have Ht := hid ht'; clear ht' hs
       go_wp2
       go_step3
       exact ⟨⟨rfl, k + 1, _, _, _, _, _, _, _, _, _, _, _, _, _, _, _, _, _, _, _, _, _, _, _, _, rfl, by omega, .inr ⟨rfl, Ht.out⟩⟩, by simp [intOf]; omega⟩
   . have he := Lx.jJ7 l k (fun h => absurd h hkl); rw [he] at ht; clear he
     generalize i + Lx.skipC false (l.drop i) = T at *; have Ht := hid ht; clear ht
     go_wp2
     go_step3
     exact ⟨⟨rfl, k, _, _, _, _, _, _, _, _, _, _, _, _, _, _, _, _, _, _, _, _, _, _, _, _, rfl, by omega, .inl ⟨rfl, Ht.out⟩⟩, by simp [intOf]⟩
theorem skip_none (p : Option Addr) (cap : Nat) (w : World) :
 Calls Tryz.prog 82 #[.slice p 0 cap, .int .i64 0] w fun e w' => e = .returned (.int .i64 0) /\ w = w' := by
 go_enter Tryz.func82, Tryz.ntmps82; go_wp2; refine jFD 0 (fun lab a w' => lab = 0 /\ w' = w /\ a = { tmps := #[.slice p 0 cap, .int .i64 0, undef, undef, .int .i64 0, undef, undef, undef, undef, undef, undef, undef, undef, undef, undef, undef, undef, undef, undef, undef, undef, undef, undef, undef, undef, undef, undef, undef, undef], defers := [] }) (fun lab _ _ => lab) ⟨rfl, rfl, rfl⟩ ?_ ?_
 . rintro a w' ⟨_, rfl, rfl⟩; go_wp2_with fail; refine (jGE [] p 0 0 cap _ (by omega) rfl (by omega)).mono ?_; rintro e w1 ⟨rfl, rfl⟩
   go_wp2_with fail; refine (jEN _ _).mono ?_; rintro e w1 ⟨rfl, rfl⟩; rw [show Lx.jCT (Lx.at0 [] 0) = false from by decide]
   go_wp2_with fail; refine (jGE [] p 0 0 cap _ (by omega) rfl (by omega)).mono ?_; rintro e w1 ⟨rfl, rfl⟩
   have h1 : (((Lx.at0 [] 0).toNat : Int) != 59) = true := by decide
   go_wp2_with fail; rw [Exit.jumps_ret]; go_ret; exact ⟨rfl, rfl⟩
 . rintro lab a w' hlab ⟨h, _⟩; exact absurd h hlab
def RdJ (l : List UInt8) (b off cap i : Nat) (w0 : World) (lab : Nat) (a : Act) (w : World) : Prop :=
 w = w0 /\ ∃ (K : Int) (E D : Nat) (u7 u8 u9 u10 u11 u12 u13 u14 u15 u16 u17 u18 u19 u20 u21 u22 u23 u24 u25 u26 u27 u28 u29 u30 u31 u32 u33 u34 u35 u36 u37 u38 u39 u40 u41 u42 u43 u44 u45 u46 u47 u48 u49 u50 u51 u52 u53 u54 u55 u56 u57 u58 u59 u60 u61 u62 u63 u64 u65 u66 u67 u68 u69 u70 u71 u72 u73 : Value), a = { tmps := #[.slice (some ⟨b, off, none⟩) l.length cap, .int .i64 i, undef, undef, .int .i64 K, .int .i64 E, .int .i64 D, u7, u8, u9, u10, u11, u12, u13, u14, u15, u16, u17, u18, u19, u20, u21, u22, u23, u24, u25, u26, u27, u28, u29, u30, u31, u32, u33, u34, u35, u36, u37, u38, u39, u40, u41, u42, u43, u44, u45, u46, u47, u48, u49, u50, u51, u52, u53, u54, u55, u56, u57, u58, u59, u60, u61, u62, u63, u64, u65, u66, u67, u68, u69, u70, u71, u72, u73], defers := [] } /\
  i < E /\ E <= l.length /\ Lx.RdR l i lab K E D
def jFL (lab : Nat) : Nat := if lab = 0 then 7 else if lab = 1 then 6 else if lab = 2 then 6 else if lab = 3 then 3 else 0
theorem jJZ {a a' b b' : Int} (h : a = a') (h' : b = b') : Ending.returned (.tuple #[.int .i64 a, .int .i64 b]) = .returned (.tuple #[.int .i64 a', .int .i64 b']) := by rw [h, h']
theorem jJ9 (l : List UInt8) (i : Nat) (b off cap : Nat) (w : World) (hi : i < l.length) (hm : (l.length : Int) <= 9223372036854775800)
 (hc : ∀ j, j < l.length -> w.cell? ⟨b, off + j, none⟩ = some (.int .u8 (Lx.at0 l j).toNat)) :
 Calls Tryz.prog 83 #[.slice (some ⟨b, off, none⟩) l.length cap, .int .i64 i] w fun e w' => e = .returned (.tuple #[.int .i64 (Lx.jAL (l.drop i)).1, .int .i64 ((i + (Lx.jAL (l.drop i)).2 : Nat) : Int)]) /\ w = w' := by
 have hci := hc i hi; have Hc := hid hc; clear hc
 go_enter Tryz.func83, Tryz.ntmps83; go_wp2; refine jDX (RdJ l b off cap i w) (fun lab a _ => 8 * (l.length - (intOf (a.tmps.getD 5 undef)).toNat) + jFL lab) ?_ ?_
 . by_cases h45 : (Lx.at0 l i).toNat = 45
   . have Hr := hid (Lx.rd_minus (K := 0) h45); have h1 : (((Lx.at0 l i).toNat : Int) == 45) = true := by simp [h45]
     clear h45; go_wp2_with fail
     go_step3
     exact ⟨rfl, 0, (i + 1), i, _, _, _, _, _, _, _, _, _, _, _, _, _, _, _, _, _, _, _, _, _, _, _, _, _, _, _, _, _, _, _, _, _, _, _, _, _, _, _, _, _, _, _, _, _, _, _, _, _, _, _, _, _, _, _, _, _, _, _, _, _, _, _, _, _, _, _, rfl, by omega, by omega, Hr.out⟩
   . have h1 : (((Lx.at0 l i).toNat : Int) == 45) = false := by simp; omega
     cases hd : Lx.jA9 (Lx.at0 l i)
     . cases hs : Lx.jCF (Lx.at0 l i)
       . cases hg : Lx.jCS (Lx.at0 l i)
         . have Hr := hid (Lx.rd_other (K := 0) (D := i) h45 hd hs hg); have Hd := hid hd; have Hs := hid hs; have Hg := hid hg; clear hd hs hg h45
           go_wp2_with fail; refine (jBP _ _).mono ?_; rintro e w1 ⟨rfl, rfl⟩; rw [Hd.out]
           go_wp2_with fail; refine (jEL _ _).mono ?_; rintro e w1 ⟨rfl, rfl⟩; rw [Hs.out]
           go_wp2_with fail; refine (jFO _ _).mono ?_; rintro e w1 ⟨rfl, rfl⟩; rw [Hg.out]
           go_wp2_with fail
           go_step3
           exact ⟨rfl, 0, (i + 1), i, _, _, _, _, _, _, _, _, _, _, _, _, _, _, _, _, _, _, _, _, _, _, _, _, _, _, _, _, _, _, _, _, _, _, _, _, _, _, _, _, _, _, _, _, _, _, _, _, _, _, _, _, _, _, _, _, _, _, _, _, _, _, _, _, _, _, _, rfl, by omega, by omega, Hr.out⟩
         . have Hr := hid (Lx.rd_great (D := i) h45 hd hs hg); have Hd := hid hd; have Hs := hid hs; have Hg := hid hg; clear hd hs hg h45
           go_wp2_with fail; refine (jBP _ _).mono ?_; rintro e w1 ⟨rfl, rfl⟩; rw [Hd.out]
           go_wp2_with fail; refine (jEL _ _).mono ?_; rintro e w1 ⟨rfl, rfl⟩; rw [Hs.out]
           go_wp2_with fail; refine (jFO _ _).mono ?_; rintro e w1 ⟨rfl, rfl⟩; rw [Hg.out]
           go_wp2_with fail
           go_step3
           exact ⟨rfl, 4, (i + 1), i, _, _, _, _, _, _, _, _, _, _, _, _, _, _, _, _, _, _, _, _, _, _, _, _, _, _, _, _, _, _, _, _, _, _, _, _, _, _, _, _, _, _, _, _, _, _, _, _, _, _, _, _, _, _, _, _, _, _, _, _, _, _, _, _, _, _, _, rfl, by omega, by omega, Hr.out⟩
       . have Hr := hid (Lx.rd_small (D := i) h45 hd hs); have Hd := hid hd; have Hs := hid hs; clear hd hs h45
         go_wp2_with fail; refine (jBP _ _).mono ?_; rintro e w1 ⟨rfl, rfl⟩; rw [Hd.out]
         go_wp2_with fail; refine (jEL _ _).mono ?_; rintro e w1 ⟨rfl, rfl⟩; rw [Hs.out]
         go_wp2_with fail
         go_step3
         exact ⟨rfl, 3, (i + 1), i, _, _, _, _, _, _, _, _, _, _, _, _, _, _, _, _, _, _, _, _, _, _, _, _, _, _, _, _, _, _, _, _, _, _, _, _, _, _, _, _, _, _, _, _, _, _, _, _, _, _, _, _, _, _, _, _, _, _, _, _, _, _, _, _, _, _, _, rfl, by omega, by omega, Hr.out⟩
     . have Hr := hid (Lx.rd_digit (K := 0) h45 hd); have Hd := hid hd; clear hd h45
       go_wp2_with fail; refine (jBP _ _).mono ?_; rintro e w1 ⟨rfl, rfl⟩; rw [Hd.out]
       go_wp2_with fail
       go_step3
       exact ⟨rfl, 0, (i + 1), i, _, _, _, _, _, _, _, _, _, _, _, _, _, _, _, _, _, _, _, _, _, _, _, _, _, _, _, _, _, _, _, _, _, _, _, _, _, _, _, _, _, _, _, _, _, _, _, _, _, _, _, _, _, _, _, _, _, _, _, _, _, _, _, _, _, _, _, rfl, by omega, by omega, Hr.out⟩
 . rintro lab a w' ⟨rfl, K, E, D, u7, u8, u9, u10, u11, u12, u13, u14, u15, u16, u17, u18, u19, u20, u21, u22, u23, u24, u25, u26, u27, u28, u29, u30, u31, u32, u33, u34, u35, u36, u37, u38, u39, u40, u41, u42, u43, u44, u45, u46, u47, u48, u49, u50, u51, u52, u53, u54, u55, u56, u57, u58, u59, u60, u61, u62, u63, u64, u65, u66, u67, u68, u69, u70, u71, u72, u73, rfl, hE, hEl, h⟩
   rcases h.lab_le with rfl | rfl | rfl | rfl | rfl
   . refine ⟨_, rfl, ?_⟩; obtain ⟨hE1, hD, h45⟩ := h.of0; clear h hD; by_cases hgt : (Lx.at0 l E).toNat = 62
     . obtain ⟨ht, hEl'⟩ := Lx.jOG hE1 h45 hgt; have Hr := hid ht; have HE := hid hE1
       have h1 : (((Lx.at0 l E).toNat : Int) == 62) = true := by simp [hgt]
       clear ht hE1 hgt h45; go_wp2_with fail; refine (jB5 l E b off cap _ (by omega) (by omega) (by omega) Hc.out).mono ?_; rintro e w1 ⟨rfl, rfl⟩; rw [Int.toNat_natCast]
       go_wp2_with fail; rw [Exit.jumps_ret]; go_ret2; exact ⟨by rw [Hr.out, HE.out]; exact jJZ rfl (by simp only []; omega), rfl⟩
     . have h1 : (((Lx.at0 l E).toNat : Int) == 62) = false := by simp; omega
       cases hdd : Lx.jA9 (Lx.at0 l E)
       . have Hr := hid (Lx.rd_lone' (K := K) (D := D) hE1 h45 hgt hdd); have Hdd := hid hdd; clear hE1 h45 hgt hdd; go_wp2_with fail; refine (jB5 l E b off cap _ (by omega) (by omega) (by omega) Hc.out).mono ?_; rintro e w1 ⟨rfl, rfl⟩; rw [Int.toNat_natCast]
         go_wp2_with fail; refine (jB5 l E b off cap _ (by omega) (by omega) (by omega) Hc.out).mono ?_; rintro e w1 ⟨rfl, rfl⟩; rw [Int.toNat_natCast]
         go_wp2_with fail; refine (jBP _ _).mono ?_; rintro e w1 ⟨rfl, rfl⟩; rw [Hdd.out]
         go_wp2_with fail
         go_step3
         exact ⟨⟨rfl, K, E, D, _, _, _, _, _, _, _, _, _, _, _, _, _, _, _, _, _, _, _, _, _, _, _, _, _, _, _, _, _, _, _, _, _, _, _, _, _, _, _, _, _, _, _, _, _, _, _, _, _, _, _, _, _, _, _, _, _, _, _, _, _, _, _, _, _, _, _, rfl, by omega, by omega, Hr.out⟩, by simp [intOf, jFL] <;> omega⟩
       . obtain ⟨hk, h'⟩ := Lx.jNH (Lx.rd_neg' (K := K) hE1 h45 hgt hdd) hdd; have Hdd := hid hdd; have Hr := hid h'; clear hE1 h45 hgt hdd h'; go_wp2_with fail; refine (jB5 l E b off cap _ (by omega) (by omega) (by omega) Hc.out).mono ?_; rintro e w1 ⟨rfl, rfl⟩; rw [Int.toNat_natCast]
         go_wp2_with fail; refine (jB5 l E b off cap _ (by omega) (by omega) (by omega) Hc.out).mono ?_; rintro e w1 ⟨rfl, rfl⟩; rw [Int.toNat_natCast]
         go_wp2_with fail; refine (jBP _ _).mono ?_; rintro e w1 ⟨rfl, rfl⟩; rw [Hdd.out]
         go_wp2_with fail
         go_step3
         go_wp2_with fail; refine (jB5 l E b off cap _ (by omega) (by omega) (by omega) Hc.out).mono ?_; rintro e w1 ⟨rfl, rfl⟩; rw [Int.toNat_natCast]
         go_wp2_with fail; refine (jBP _ _).mono ?_; rintro e w1 ⟨rfl, rfl⟩; rw [Hdd.out]
         go_wp2_with fail
         go_step3
         exact ⟨⟨rfl, K, (E + 1), E, _, _, _, _, _, _, _, _, _, _, _, _, _, _, _, _, _, _, _, _, _, _, _, _, _, _, _, _, _, _, _, _, _, _, _, _, _, _, _, _, _, _, _, _, _, _, _, _, _, _, _, _, _, _, _, _, _, _, _, _, _, _, _, _, _, _, _, rfl, by omega, by omega, Hr.out⟩, by simp [intOf, jFL] <;> omega⟩
   . refine ⟨_, rfl, ?_⟩; cases hd : Lx.jA9 (Lx.at0 l E)
     . have hbd := Lx.jOF h; by_cases hl : 18 < E - D
       . have Hr := hid (Lx.rd_long h hd hl); clear h
         have Hd := hid hd; clear hd
         have hl2 : (18 : Int) < (E : Int) - D := by omega
         go_wp2_with fail; refine (jB5 l E b off cap _ (by omega) (by omega) (by omega) Hc.out).mono ?_; rintro e w1 ⟨rfl, rfl⟩; rw [Int.toNat_natCast]
         go_wp2_with fail; refine (jBP _ _).mono ?_; rintro e w1 ⟨rfl, rfl⟩; rw [Hd.out]
         go_wp2_with fail
         go_step3
         exact ⟨⟨rfl, K, E, D, _, _, _, _, _, _, _, _, _, _, _, _, _, _, _, _, _, _, _, _, _, _, _, _, _, _, _, _, _, _, _, _, _, _, _, _, _, _, _, _, _, _, _, _, _, _, _, _, _, _, _, _, _, _, _, _, _, _, _, _, _, _, _, _, _, _, _, rfl, by omega, by omega, Hr.out⟩, by simp [intOf, jFL] <;> omega⟩
       . have hl2 : ¬ (18 : Int) < (E : Int) - D := by omega
         cases hw : Lx.jBQ (Lx.at0 l E)
         . have Hr := hid (Lx.rd_num h hd hl hw); clear h hl
           have Hd := hid hd; clear hd
           have Hw := hid hw; clear hw
           go_wp2_with fail; refine (jB5 l E b off cap _ (by omega) (by omega) (by omega) Hc.out).mono ?_; rintro e w1 ⟨rfl, rfl⟩; rw [Int.toNat_natCast]
           go_wp2_with fail; refine (jBP _ _).mono ?_; rintro e w1 ⟨rfl, rfl⟩; rw [Hd.out]
           go_wp2_with fail; refine (jB5 l E b off cap _ (by omega) (by omega) (by omega) Hc.out).mono ?_; rintro e w1 ⟨rfl, rfl⟩; rw [Int.toNat_natCast]
           go_wp2_with fail; refine (jE0 _ _).mono ?_; rintro e w1 ⟨rfl, rfl⟩; rw [Hw.out]
           go_wp2_with fail; rw [Exit.jumps_ret]; go_ret2; exact ⟨by rw [Hr.out]; exact jJZ rfl (by simp only []; omega), rfl⟩
         . have Hr := hid (Lx.rd_tied h hd hw); clear h hl
           have Hd := hid hd; clear hd
           have Hw := hid hw; clear hw
           go_wp2_with fail; refine (jB5 l E b off cap _ (by omega) (by omega) (by omega) Hc.out).mono ?_; rintro e w1 ⟨rfl, rfl⟩; rw [Int.toNat_natCast]
           go_wp2_with fail; refine (jBP _ _).mono ?_; rintro e w1 ⟨rfl, rfl⟩; rw [Hd.out]
           go_wp2_with fail; refine (jB5 l E b off cap _ (by omega) (by omega) (by omega) Hc.out).mono ?_; rintro e w1 ⟨rfl, rfl⟩; rw [Int.toNat_natCast]
           go_wp2_with fail; refine (jE0 _ _).mono ?_; rintro e w1 ⟨rfl, rfl⟩; rw [Hw.out]
           go_wp2_with fail
           go_step3
           exact ⟨⟨rfl, K, E, D, _, _, _, _, _, _, _, _, _, _, _, _, _, _, _, _, _, _, _, _, _, _, _, _, _, _, _, _, _, _, _, _, _, _, _, _, _, _, _, _, _, _, _, _, _, _, _, _, _, _, _, _, _, _, _, _, _, _, _, _, _, _, _, _, _, _, _, rfl, by omega, by omega, Hr.out⟩, by simp [intOf, jFL] <;> omega⟩
     . obtain ⟨hk, h'⟩ := Lx.jNH h hd; have Hr := hid h'; clear h h'
       have Hd := hid hd; clear hd
       go_wp2_with fail; refine (jB5 l E b off cap _ (by omega) (by omega) (by omega) Hc.out).mono ?_; rintro e w1 ⟨rfl, rfl⟩; rw [Int.toNat_natCast]
       go_wp2_with fail; refine (jBP _ _).mono ?_; rintro e w1 ⟨rfl, rfl⟩; rw [Hd.out]
       go_wp2_with fail
       go_step3
       exact ⟨⟨rfl, K, (E + 1), D, _, _, _, _, _, _, _, _, _, _, _, _, _, _, _, _, _, _, _, _, _, _, _, _, _, _, _, _, _, _, _, _, _, _, _, _, _, _, _, _, _, _, _, _, _, _, _, _, _, _, _, _, _, _, _, _, _, _, _, _, _, _, _, _, _, _, _, rfl, by omega, by omega, Hr.out⟩, by simp [intOf, jFL] <;> omega⟩
   . refine ⟨_, rfl, ?_⟩; cases hw : Lx.jBQ (Lx.at0 l E)
     . have Hr := hid (Lx.rd_word h hw); clear h
       have Hw := hid hw; clear hw
       go_wp2_with fail; refine (jB5 l E b off cap _ (by omega) (by omega) (by omega) Hc.out).mono ?_; rintro e w1 ⟨rfl, rfl⟩; rw [Int.toNat_natCast]
       go_wp2_with fail; refine (jE0 _ _).mono ?_; rintro e w1 ⟨rfl, rfl⟩; rw [Hw.out]
       go_wp2_with fail; rw [Exit.jumps_ret]; go_ret2; exact ⟨by rw [Hr.out]; exact jJZ rfl (by simp only []; omega), rfl⟩
     . obtain ⟨hk, h'⟩ := Lx.jOE h hw; have Hr := hid h'; clear h h'
       have Hw := hid hw; clear hw
       go_wp2_with fail; refine (jB5 l E b off cap _ (by omega) (by omega) (by omega) Hc.out).mono ?_; rintro e w1 ⟨rfl, rfl⟩; rw [Int.toNat_natCast]
       go_wp2_with fail; refine (jE0 _ _).mono ?_; rintro e w1 ⟨rfl, rfl⟩; rw [Hw.out]
       go_wp2_with fail
       go_step3
       exact ⟨⟨rfl, K, (E + 1), D, _, _, _, _, _, _, _, _, _, _, _, _, _, _, _, _, _, _, _, _, _, _, _, _, _, _, _, _, _, _, _, _, _, _, _, _, _, _, _, _, _, _, _, _, _, _, _, _, _, _, _, _, _, _, _, _, _, _, _, _, _, _, _, _, _, _, _, rfl, by omega, by omega, Hr.out⟩, by simp [intOf, jFL] <;> omega⟩
   . refine ⟨_, rfl, ?_⟩; by_cases hs : Lx.single (Lx.at0 l i) < 0
     . have Hr := hid (Lx.rd_none h hs); clear h
       go_wp2_with fail; refine (jFH _ _).mono ?_; rintro e w1 ⟨rfl, rfl⟩
       go_wp2_with fail
       go_step3
       exact ⟨⟨rfl, _, E, D, _, _, _, _, _, _, _, _, _, _, _, _, _, _, _, _, _, _, _, _, _, _, _, _, _, _, _, _, _, _, _, _, _, _, _, _, _, _, _, _, _, _, _, _, _, _, _, _, _, _, _, _, _, _, _, _, _, _, _, _, _, _, _, _, _, _, _, rfl, by omega, by omega, Hr.out⟩, by simp [intOf, jFL] <;> omega⟩
     . have Hr := hid (Lx.rd_one h hs); have hE1 := h.of3.1; have HE := hid hE1; clear h hE1; go_wp2_with fail; refine (jFH _ _).mono ?_; rintro e w1 ⟨rfl, rfl⟩
       go_wp2_with fail; rw [Exit.jumps_ret]; go_ret2; exact ⟨by rw [Hr.out, HE.out]; rfl, rfl⟩
   . refine ⟨_, rfl, ?_⟩; have Hr := hid h.of4; clear h
     go_wp2_with fail; rw [Exit.jumps_ret]; go_ret2; exact ⟨by rw [Hr.out]; rfl, rfl⟩
end Go.Proofs.YtnhndamfbeiljaaGreatDoor
namespace Go.Proofs
open Go.Shelf
def Tryz.laysM173_ren : Go.Shelf.Ren := ⟨fun | 173 => 73 | 246 => 109 | 283 => 138 | 284 => 139 | 285 => 140 | 286 => 141 | 129 => 151 | 317 => 150 | 318 => 152 | 319 => 153 | 320 => 154 | 337 => 162 | 338 => 163 | n => n, fun | 2 => 2 | 3 => 3 | 9 => 9 | 4 => 4 | 171 => 194 | 0 => 0 | 53 => 195 | 37 => 22 | 5 => 5 | 173 => 198 | 212 => 204 | 51 => 205 | 20 => 20 | 213 => 206 | 46 => 208 | 232 => 226 | 233 => 227 | n => n, fun | 17 => 0 | 18 => 3 | 19 => 4 | n => n⟩
theorem Tryz.laysM173 : Go.Proofs.LaysM.n173 Tryz.prog Tryz.laysM173_ren := {
 mixed := by kernel_rfl
 f129 := Tryz.func151.trans (congrArg some (by kernel_rfl))
 f173 := Tryz.func73.trans (congrArg some (by kernel_rfl))
 f246 := Tryz.func109.trans (congrArg some (by kernel_rfl))
 f283 := Tryz.func138.trans (congrArg some (by kernel_rfl))
 f284 := Tryz.func139.trans (congrArg some (by kernel_rfl))
 f285 := Tryz.func140.trans (congrArg some (by kernel_rfl))
 f286 := Tryz.func141.trans (congrArg some (by kernel_rfl))
 f317 := Tryz.func150.trans (congrArg some (by kernel_rfl))
 f318 := Tryz.func152.trans (congrArg some (by kernel_rfl))
 f319 := Tryz.func153.trans (congrArg some (by kernel_rfl))
 f320 := Tryz.func154.trans (congrArg some (by kernel_rfl))
 f337 := Tryz.func162.trans (congrArg some (by kernel_rfl))
 f338 := Tryz.func163.trans (congrArg some (by kernel_rfl))
 t0 := Tryz.underlying0
 a0 := Tryz.isAgg0
 z0 := Tryz.sizeOf0
 v0 := Tryz.zeroValue0
 t2 := Tryz.underlying2
 a2 := Tryz.isAgg2
 z2 := Tryz.sizeOf2
 v2 := Tryz.zeroValue2
 t3 := Tryz.underlying3
 a3 := Tryz.isAgg3
 z3 := Tryz.sizeOf3
 v3 := Tryz.zeroValue3
 t4 := Tryz.underlying4
 a4 := Tryz.isAgg4
 z4 := Tryz.sizeOf4
 v4 := Tryz.zeroValue4
 t5 := Tryz.underlying5
 a5 := Tryz.isAgg5
 z5 := Tryz.sizeOf5
 v5 := Tryz.zeroValue5
 t9 := Tryz.underlying9
 a9 := Tryz.isAgg9
 z9 := Tryz.sizeOf9
 v9 := Tryz.zeroValue9
 t20 := Tryz.underlying20
 a20 := Tryz.isAgg20
 z20 := Tryz.sizeOf20
 v20 := Tryz.zeroValue20
 t37 := Tryz.underlying22
 a37 := Tryz.isAgg22
 z37 := Tryz.sizeOf22
 v37 := Tryz.zeroValue22
 t46 := Tryz.underlying208
 a46 := Tryz.isAgg208
 z46 := Tryz.sizeOf208
 v46 := Tryz.zeroValue208
 t51 := Tryz.underlying205
 a51 := Tryz.isAgg205
 z51 := Tryz.sizeOf205
 v51 := Tryz.zeroValue205
 t53 := Tryz.underlying195
 a53 := Tryz.isAgg195
 z53 := Tryz.sizeOf195
 v53 := Tryz.zeroValue195
 t171 := Tryz.underlying194
 a171 := Tryz.isAgg194
 z171 := Tryz.sizeOf194
 v171 := Tryz.zeroValue194
 t173 := Tryz.underlying198
 a173 := Tryz.isAgg198
 z173 := Tryz.sizeOf198
 v173 := Tryz.zeroValue198
 t212 := Tryz.underlying204
 a212 := Tryz.isAgg204
 z212 := Tryz.sizeOf204
 v212 := Tryz.zeroValue204
 t213 := Tryz.underlying206
 a213 := Tryz.isAgg206
 z213 := Tryz.sizeOf206
 t232 := Tryz.underlying226
 a232 := Tryz.isAgg226
 z232 := Tryz.sizeOf226
 v232 := Tryz.zeroValue226
 t233 := Tryz.underlying227
 a233 := Tryz.isAgg227
 z233 := Tryz.sizeOf227
 v233 := Tryz.zeroValue227
 g17 := by kernel_rfl
 g18 := by kernel_rfl
 g19 := by kernel_rfl
 i0 := by kernel_rfl
 i2 := by kernel_rfl
 i3 := by kernel_rfl
 i4 := by kernel_rfl
 i5 := by kernel_rfl
 i9 := by kernel_rfl
 i20 := by kernel_rfl
 i37 := by kernel_rfl
 i46 := by kernel_rfl
 i51 := by kernel_rfl
 i53 := by kernel_rfl
 i171 := by kernel_rfl
 i173 := by kernel_rfl
 i212 := by kernel_rfl
 i232 := by kernel_rfl
 i233 := by kernel_rfl
 m17 := by kernel_rfl
 m18 := by kernel_rfl
 m19 := by kernel_rfl }
open Go.RowKit Go.Sort Go.Lib in
theorem Tryz.strconv_FormatInt_10 (n : Int) (h0 : -9223372036854775808 <= n) (h1 : n <= 9223372036854775807) (w : World) (htab : Lib.TabIs Tryz.prog w "internal/strconv.uint64pow10" .u64 Lib.pow10Tab) :
 Calls Tryz.prog 73 #[.int .i64 n, .int .i64 10] w fun e w' => e = .returned (.string ⟨(Lib.itoa n).toArray⟩) /\ ∃ k os, w' = grow (w.drewN k) os := Any.strconv_FormatInt_10 Tryz.laysM173 n h0 h1 w htab
def Tryz.laysC174_ren : Go.Shelf.Ren := ⟨fun | 174 => 123 | 247 => 147 | 245 => 148 | 287 => 157 | 279 => 158 | 280 => 159 | 281 => 160 | 282 => 161 | 321 => 165 | 322 => 166 | 316 => 167 | 171 => 169 | 205 => 168 | 243 => 171 | 246 => 109 | 283 => 138 | 284 => 139 | 285 => 140 | 286 => 141 | 129 => 151 | 317 => 150 | 318 => 152 | 319 => 153 | 320 => 154 | 337 => 162 | 338 => 163 | n => n, fun | 9 => 9 | 3 => 3 | 2 => 2 | 75 => 115 | 85 => 182 | 4 => 4 | 167 => 212 | 5 => 5 | 53 => 195 | 175 => 213 | 46 => 208 | 168 => 215 | 37 => 22 | 0 => 0 | 210 => 224 | 21 => 21 | 127 => 165 | 145 => 231 | 143 => 229 | 171 => 194 | 173 => 198 | 212 => 204 | 51 => 205 | 20 => 20 | 213 => 206 | 232 => 226 | 233 => 227 | 80 => 108 | n => n, fun | 15 => 1 | 16 => 2 | 17 => 0 | 18 => 3 | 19 => 4 | n => n⟩
theorem Tryz.laysC174 : Go.Proofs.LaysC.n174 Tryz.prog Tryz.laysC174_ren := {
 mixed := by kernel_rfl
 f129 := Tryz.func151.trans (congrArg some (by kernel_rfl))
 f171 := Tryz.func169.trans (congrArg some (by kernel_rfl))
 f174 := Tryz.func123.trans (congrArg some (by kernel_rfl))
 f205 := Tryz.func168.trans (congrArg some (by kernel_rfl))
 f243 := Tryz.func171.trans (congrArg some (by kernel_rfl))
 f245 := Tryz.func148.trans (congrArg some (by kernel_rfl))
 f246 := Tryz.func109.trans (congrArg some (by kernel_rfl))
 f247 := Tryz.func147.trans (congrArg some (by kernel_rfl))
 f279 := Tryz.func158.trans (congrArg some (by kernel_rfl))
 f280 := Tryz.func159.trans (congrArg some (by kernel_rfl))
 f281 := Tryz.func160.trans (congrArg some (by kernel_rfl))
 f282 := Tryz.func161.trans (congrArg some (by kernel_rfl))
 f283 := Tryz.func138.trans (congrArg some (by kernel_rfl))
 f284 := Tryz.func139.trans (congrArg some (by kernel_rfl))
 f285 := Tryz.func140.trans (congrArg some (by kernel_rfl))
 f286 := Tryz.func141.trans (congrArg some (by kernel_rfl))
 f287 := Tryz.func157.trans (congrArg some (by kernel_rfl))
 f316 := Tryz.func167.trans (congrArg some (by kernel_rfl))
 f317 := Tryz.func150.trans (congrArg some (by kernel_rfl))
 f318 := Tryz.func152.trans (congrArg some (by kernel_rfl))
 f319 := Tryz.func153.trans (congrArg some (by kernel_rfl))
 f320 := Tryz.func154.trans (congrArg some (by kernel_rfl))
 f321 := Tryz.func165.trans (congrArg some (by kernel_rfl))
 f322 := Tryz.func166.trans (congrArg some (by kernel_rfl))
 f337 := Tryz.func162.trans (congrArg some (by kernel_rfl))
 f338 := Tryz.func163.trans (congrArg some (by kernel_rfl))
 t0 := Tryz.underlying0
 a0 := Tryz.isAgg0
 z0 := Tryz.sizeOf0
 v0 := Tryz.zeroValue0
 t2 := Tryz.underlying2
 a2 := Tryz.isAgg2
 z2 := Tryz.sizeOf2
 v2 := Tryz.zeroValue2
 t3 := Tryz.underlying3
 a3 := Tryz.isAgg3
 z3 := Tryz.sizeOf3
 v3 := Tryz.zeroValue3
 t4 := Tryz.underlying4
 a4 := Tryz.isAgg4
 z4 := Tryz.sizeOf4
 v4 := Tryz.zeroValue4
 t5 := Tryz.underlying5
 a5 := Tryz.isAgg5
 z5 := Tryz.sizeOf5
 v5 := Tryz.zeroValue5
 t9 := Tryz.underlying9
 a9 := Tryz.isAgg9
 z9 := Tryz.sizeOf9
 v9 := Tryz.zeroValue9
 t20 := Tryz.underlying20
 a20 := Tryz.isAgg20
 z20 := Tryz.sizeOf20
 v20 := Tryz.zeroValue20
 t21 := Tryz.underlying21
 a21 := Tryz.isAgg21
 z21 := Tryz.sizeOf21
 v21 := Tryz.zeroValue21
 t37 := Tryz.underlying22
 a37 := Tryz.isAgg22
 z37 := Tryz.sizeOf22
 v37 := Tryz.zeroValue22
 t46 := Tryz.underlying208
 a46 := Tryz.isAgg208
 z46 := Tryz.sizeOf208
 v46 := Tryz.zeroValue208
 t51 := Tryz.underlying205
 a51 := Tryz.isAgg205
 z51 := Tryz.sizeOf205
 v51 := Tryz.zeroValue205
 t53 := Tryz.underlying195
 a53 := Tryz.isAgg195
 z53 := Tryz.sizeOf195
 v53 := Tryz.zeroValue195
 t75 := Tryz.underlying115
 a75 := Tryz.isAgg115
 z75 := Tryz.sizeOf115
 v75 := Tryz.zeroValue115
 t85 := Tryz.underlying182
 a85 := Tryz.isAgg182
 z85 := Tryz.sizeOf182
 v85 := Tryz.zeroValue182
 t127 := Tryz.underlying165
 a127 := Tryz.isAgg165
 z127 := Tryz.sizeOf165
 v127 := Tryz.zeroValue165
 t143 := Tryz.underlying229
 a143 := Tryz.isAgg229
 z143 := Tryz.sizeOf229
 v143 := Tryz.zeroValue229
 t145 := Tryz.underlying231
 a145 := Tryz.isAgg231
 z145 := Tryz.sizeOf231
 v145 := Tryz.zeroValue231
 t167 := Tryz.underlying212
 a167 := Tryz.isAgg212
 z167 := Tryz.sizeOf212
 v167 := Tryz.zeroValue212
 t168 := Tryz.underlying215
 a168 := Tryz.isAgg215
 z168 := Tryz.sizeOf215
 v168 := Tryz.zeroValue215
 t171 := Tryz.underlying194
 a171 := Tryz.isAgg194
 z171 := Tryz.sizeOf194
 v171 := Tryz.zeroValue194
 t173 := Tryz.underlying198
 a173 := Tryz.isAgg198
 z173 := Tryz.sizeOf198
 v173 := Tryz.zeroValue198
 t175 := Tryz.underlying213
 a175 := Tryz.isAgg213
 z175 := Tryz.sizeOf213
 v175 := Tryz.zeroValue213
 t210 := Tryz.underlying224
 a210 := Tryz.isAgg224
 z210 := Tryz.sizeOf224
 v210 := Tryz.zeroValue224
 t212 := Tryz.underlying204
 a212 := Tryz.isAgg204
 z212 := Tryz.sizeOf204
 v212 := Tryz.zeroValue204
 t213 := Tryz.underlying206
 a213 := Tryz.isAgg206
 z213 := Tryz.sizeOf206
 t232 := Tryz.underlying226
 a232 := Tryz.isAgg226
 z232 := Tryz.sizeOf226
 v232 := Tryz.zeroValue226
 t233 := Tryz.underlying227
 a233 := Tryz.isAgg227
 z233 := Tryz.sizeOf227
 v233 := Tryz.zeroValue227
 g15 := by kernel_rfl
 g16 := by kernel_rfl
 g17 := by kernel_rfl
 g18 := by kernel_rfl
 g19 := by kernel_rfl
 t80 := Tryz.underlying108
 a80 := Tryz.isAgg108
 z80 := Tryz.sizeOf108
 v80 := Tryz.zeroValue108
 i0 := by kernel_rfl
 i2 := by kernel_rfl
 i3 := by kernel_rfl
 i4 := by kernel_rfl
 i5 := by kernel_rfl
 i9 := by kernel_rfl
 i20 := by kernel_rfl
 i21 := by kernel_rfl
 i37 := by kernel_rfl
 i46 := by kernel_rfl
 i51 := by kernel_rfl
 i53 := by kernel_rfl
 i75 := by kernel_rfl
 i80 := by kernel_rfl
 i85 := by kernel_rfl
 i127 := by kernel_rfl
 i143 := by kernel_rfl
 i145 := by kernel_rfl
 i167 := by kernel_rfl
 i168 := by kernel_rfl
 i171 := by kernel_rfl
 i173 := by kernel_rfl
 i175 := by kernel_rfl
 i210 := by kernel_rfl
 i212 := by kernel_rfl
 i232 := by kernel_rfl
 i233 := by kernel_rfl
 m15 := by kernel_rfl
 m16 := by kernel_rfl
 m17 := by kernel_rfl
 m18 := by kernel_rfl
 m19 := by kernel_rfl
 c0 := by kernel_rfl
 c2 := by kernel_rfl
 c3 := by kernel_rfl
 c4 := by kernel_rfl
 c5 := by kernel_rfl
 c9 := by kernel_rfl
 c20 := by kernel_rfl
 c21 := by kernel_rfl
 c37 := by kernel_rfl
 c46 := by kernel_rfl
 c51 := by kernel_rfl
 c53 := by kernel_rfl
 c75 := by kernel_rfl
 c80 := by kernel_rfl
 c85 := by kernel_rfl
 c127 := by kernel_rfl
 c143 := by kernel_rfl
 c145 := by kernel_rfl
 c167 := by kernel_rfl
 c168 := by kernel_rfl
 c171 := by kernel_rfl
 c173 := by kernel_rfl
 c175 := by kernel_rfl
 c210 := by kernel_rfl
 c212 := by kernel_rfl
 c213 := by kernel_rfl
 c232 := by kernel_rfl
 c233 := by kernel_rfl }
open Go.RowKit in
theorem Tryz.strconv_ParseInt_10_at64_ok (s : ByteArray) (hmax : s.size <= 9223372036854775806) (v : Int) (h : Lib.parseIntB 64 s.data.toList = .ok v) (w : World) :
 Calls Tryz.prog 123 #[.string s, .int .i64 10, .int .i64 64] w fun e w' => e = .returned (.tuple #[.int .i64 v, .nilIface]) /\ (w' = w \/ ∃ t, w' = Lib.bytesWorld w 5 t) := Any.strconv_ParseInt_10_at64_ok Tryz.laysC174 s hmax v h w
end Go.Proofs
namespace Go.Proofs.YtnhndamfbeiljaaGreatDoor
open Go Go.RowKit
open Go.Lib (hid)
open List renaming getElem_toArray → jPC, getElem_cons_succ → jPD, getElem_cons_zero → jPE, setIfInBounds_toArray → jPF, set_cons_zero → jPG, set_cons_succ → jPH
theorem bcell {W w1 : World} (hb : Below W.heap.size W w1) : (∀ b o, b < W.heap.size -> w1.cell? ⟨b, o, none⟩ = W.cell? ⟨b, o, none⟩) /\ (∀ b o, b < W.heap.size -> w1.frozen? ⟨b, o, none⟩ = W.frozen? ⟨b, o, none⟩) :=
 ⟨fun b o h => hb.cell (p := ⟨b, o, none⟩) h, fun b o h => hb.frozen (p := ⟨b, o, none⟩) h⟩
theorem jL9 (s : ByteArray) (v : Int) (w : World) (hmax : s.size <= 9223372036854775806) (h : Lib.parseIntB 64 s.data.toList = .ok v) :
 Calls Tryz.prog 123 #[.string s, .int .i64 10, .int .i64 64] w fun e w' => e = .returned (.tuple #[.int .i64 v, .nilIface]) /\ Below w.heap.size w w' := by
 refine (Tryz.strconv_ParseInt_10_at64_ok s hmax v h w).mono ?_; rintro e w' ⟨rfl, rfl | ⟨t, rfl⟩⟩
 . exact ⟨rfl, Below.refl _ _⟩
 . exact ⟨rfl, Lib.bytesWorld_below _ _ _⟩
theorem jHE (k p : Int) (s : ByteArray) (w : World) (hk : k ≠ 2) :
 Calls Tryz.prog 84 #[.int .i64 k, .int .i64 p, .string s] w fun e w' => e = .returned (.agg #[.int .i64 k, .int .i64 p, .string s, .int .i64 0]) /\ Below w.heap.size w w' := by
 have h1 : (k == 2) = false := by simpa using hk
 clear hk; go_enter Tryz.func84, Tryz.ntmps84; go_wp2; exact bodyPost_ret (v := .agg #[.int .i64 k, .int .i64 p, .string s, .int .i64 0]) (by simp [results, Tryz.results84, go_sem]) rfl ⟨rfl, ((Below.refl _ _).alloc (Nat.le_refl _) _).alloc (by simp) _⟩
theorem jJ0 (p v : Int) (s : ByteArray) (w : World) (hmax : s.size <= 9223372036854775806) (h : Lib.parseIntB 64 s.data.toList = .ok v) :
 Calls Tryz.prog 84 #[.int .i64 2, .int .i64 p, .string s] w fun e w' => e = .returned (.agg #[.int .i64 2, .int .i64 p, .string s, .int .i64 v]) /\ Below w.heap.size w w' := by
 have H := hid h; clear h
 go_enter Tryz.func84, Tryz.ntmps84; go_wp2_with fail; refine (jL9 s v _ hmax H.out).mono ?_; rintro e w1 ⟨rfl, hb⟩; obtain ⟨hc, hf⟩ := bcell hb; go_wp2_with fail; have hs := hb.size; simp at hs; have c0 : w1.cell? ⟨w.heap.size, 0, none⟩ = some (.int .i64 0) := by rw [hc _ _ (by simp; omega)]; go_simp
 have c1 : w1.cell? ⟨w.heap.size, 1, none⟩ = some (.int .i64 0) := by rw [hc _ _ (by simp; omega)]; go_simp
 have c2 : w1.cell? ⟨w.heap.size, 2, none⟩ = some (.string ⟨#[]⟩) := by rw [hc _ _ (by simp; omega)]; go_simp
 have c3 : w1.cell? ⟨w.heap.size, 3, none⟩ = some (.int .i64 0) := by rw [hc _ _ (by simp; omega)]; go_simp
 have b1 : Below w.heap.size w w1 := (((Below.refl _ _).alloc (Nat.le_refl _) _).alloc (by simp) _).trans (hb.mono (by simp; omega)); exact bodyPost_ret (v := .agg #[.int .i64 2, .int .i64 p, .string s, .int .i64 v]) (by simp [results, Tryz.results84, go_sem, c0, c1, c2, c3]) rfl ⟨rfl, ((((b1.setCell (by simp) _).setCell (by simp) _).setCell (by simp) _).setCell (by simp) _).setCell (by simp) _⟩
end Go.Proofs.YtnhndamfbeiljaaGreatDoor
