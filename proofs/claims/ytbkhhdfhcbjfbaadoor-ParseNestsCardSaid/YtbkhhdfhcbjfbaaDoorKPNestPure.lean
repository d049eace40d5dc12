/-
  Lists in lists: their tokens, nodes, expressions, texts.
-/
import Derived.Test.YtbkhhdfhcbjfbaaDoorGThy
import Derived.Test.YtbkhhdfhcbjfbaaDoorGShw
namespace Go.Proofs.YtbkhhdfhcbjfbaaDoor
set_option linter.unusedVariables false
set_option linter.unusedSimpArgs false
namespace Px
open Lx (tk mkTok)

def nestPre : Nat → List UInt8
  | 0 => []
  | k + 1 => [40, 114, 101, 32] ++ nestPre k
theorem nestPre_snoc : ∀ k, nestPre (k + 1) = nestPre k ++ [40, 114, 101, 32]
  | 0 => rfl
  | k + 1 => by
    show [40, 114, 101, 32] ++ nestPre (k + 1) = [40, 114, 101, 32] ++ nestPre k ++ [40, 114, 101, 32]
    rw [nestPre_snoc k, List.append_assoc]
theorem nestPre_len : ∀ k, (nestPre k).length = 4 * k
  | 0 => rfl
  | k + 1 => by rw [nestPre, List.length_append, nestPre_len k]; simp; omega
def nestToks (c : Nat) : Nat → Nat → List Lx.Tok
  | p, 0 => mkTok p 2 [49] :: closes (p + 1) c
  | p, k + 1 => mkTok p 0 [40] :: mkTok (p + 1) 3 [114, 101] :: nestToks c (p + 4) k
def nestNode : Nat → Nat → Node
  | p, 0 => .mk (mkTok p 2 [49]) [] (takesOf [49])
  | p, k + 1 => .mk (mkTok p 0 [40]) [.mk (mkTok (p + 1) 3 [114, 101]) [] (takesOf [114, 101]), nestNode (p + 4) k] 0
def nestExpr : Nat → Nat → Expr
  | p, 0 => .mk 0 p [] 1 [] [] []
  | p, k + 1 => .mk 7 p [114, 101] 0 [] [nestExpr (p + 4) k] []

theorem tk_nest (c : Nat) : ∀ (k p : Nat), tk p (nestPre k ++ ([49] ++ List.replicate c 41)) = (nestToks c p k, none) := by
  intro k
  induction k with
  | zero =>
    intro p
    show tk p ([49] ++ List.replicate c 41) = _
    rw [Lx.tk_word p (Lx.isTok_digits [49] (by decide) (by simp) (by simp)) (ends_closes c), tk_closes]; rfl
  | succ k ih =>
    intro p
    have e : nestPre (k + 1) ++ ([49] ++ List.replicate c 41) = 40 :: ([114, 101] ++ 32 :: (nestPre k ++ ([49] ++ List.replicate c 41))) := rfl
    rw [e, Lx.tk_open, Lx.tk_word _ (small_tok 114 [101] (by decide)) (Lx.ends_32 _), Lx.tk_32]
    have e3 : p + 1 + ([114, 101] : List UInt8).length + 1 = p + 4 := rfl
    rw [e3, ih]; rfl

theorem nest_ok (stop c : Nat) : ∀ (k p d f : Nat), d + k ≤ 40 → 3 * k + 1 ≤ f → k ≤ c → ∃ p', node stop f d (nestToks c p k) = .ok (nestNode p k, closes p' (c - k)) := by
  intro k
  induction k with
  | zero =>
    intro p d f _ hf _
    obtain ⟨f, rfl⟩ : ∃ g, f = g + 1 := ⟨f - 1, by omega⟩
    exact ⟨_, node_leaf' stop f d p 2 [49] _ (by decide) (by decide)⟩
  | succ k ih =>
    intro p d f hd hf hc
    obtain ⟨f, rfl⟩ : ∃ g, f = g + 4 := ⟨f - 4, by omega⟩
    obtain ⟨p', hn⟩ := ih (p + 4) (d + 1) (f + 1) (by omega) (by omega) (by omega)
    obtain ⟨j, hj⟩ : ∃ j, c - k = j + 1 := ⟨c - k - 1, by omega⟩
    have ej : c - (k + 1) = j := by omega
    rw [hj] at hn
    rw [ej]
    exact ⟨p' + 1, node_list' stop _ d p [40] _ _ _ (by omega) (rest_node (node_leaf' _ _ _ _ _ _ _ (by decide) (by decide)) (rest_node hn (rest_end' _ _ _ _ _ _)))⟩

theorem rest_bad {stop f d q : Nat} {us : List Lx.Tok} (hne : us ≠ []) (hk : ∀ t ∈ us.head?, t.kind ≠ 1) (h : node stop f d us = .error q) : rest stop (f + 1) d us = .error q := by
  cases us with
  | nil => exact absurd rfl hne
  | cons t ts => rw [rest, if_neg (hk t rfl), h]
theorem nest_head (c p k : Nat) : nestToks c p k ≠ [] ∧ ∀ t ∈ (nestToks c p k).head?, t.kind ≠ 1 := by
  cases k with
  | zero => exact ⟨by simp [nestToks], fun t ht => by simp only [nestToks, List.head?_cons, Option.mem_def, Option.some.injEq] at ht; subst ht; show (2 : Int) ≠ 1; decide⟩
  | succ k => exact ⟨by simp [nestToks], fun t ht => by simp only [nestToks, List.head?_cons, Option.mem_def, Option.some.injEq] at ht; subst ht; show (0 : Int) ≠ 1; decide⟩
theorem nest_step (stop c k p d f q : Nat) (hd : d ≠ 40) (h : node stop (f + 1) (d + 1) (nestToks c (p + 4) k) = .error q) : node stop (f + 4) d (nestToks c p (k + 1)) = .error q := by
  have hr : rest stop (f + 3) (d + 1) (mkTok (p + 1) 3 [114, 101] :: nestToks c (p + 4) k) = .error q := by
    rw [rest, if_neg (by show (3 : Int) ≠ 1; decide), node_leaf' _ _ _ _ _ _ _ (by decide) (by decide)]
    simp only
    rw [rest_bad (nest_head c (p + 4) k).1 (nest_head c (p + 4) k).2 h]
  rw [nestToks, node, if_neg (by show (0 : Int) ≠ 1; decide), if_pos (show (mkTok p 0 [40]).kind = 0 from rfl), if_neg hd, hr]

theorem nest_deep (stop c : Nat) : ∀ (k p d f : Nat), d ≤ 40 → 40 < d + k → 3 * k + 1 ≤ f → node stop f d (nestToks c p k) = .error (p + 4 * (40 - d)) := by
  intro k
  induction k with
  | zero => intro p d f h1 h2; omega
  | succ k ih =>
    intro p d f h1 h2 hf
    obtain ⟨f, rfl⟩ : ∃ g, f = g + 4 := ⟨f - 4, by omega⟩
    by_cases hd : d = 40
    · subst hd
      rw [nestToks, node, if_neg (by show (0 : Int) ≠ 1; decide), if_pos (show (mkTok p 0 [40]).kind = 0 from rfl), if_pos rfl]; rfl
    · have := ih (p + 4) (d + 1) (f + 1) (by omega) (by omega) (by omega)
      rw [nest_step stop c k p d f _ hd this]
      congr 1; omega
theorem nest_open (stop c : Nat) : ∀ (k p d f : Nat), d + k ≤ 40 → c < k → 3 * k + 1 ≤ f → node stop f d (nestToks c p k) = .error stop := by
  intro k
  induction k with
  | zero => intro p d f _ h; omega
  | succ k ih =>
    intro p d f hd hc hf
    obtain ⟨f, rfl⟩ : ∃ g, f = g + 4 := ⟨f - 4, by omega⟩
    by_cases h : c < k
    · exact nest_step stop c k p d f _ (by omega) (ih (p + 4) (d + 1) (f + 1) (by omega) h (by omega))
    · obtain rfl : c = k := by omega
      obtain ⟨p', hn⟩ := nest_ok stop c c (p + 4) (d + 1) (f + 1) (by omega) (by omega) (Nat.le_refl _)
      rw [Nat.sub_self] at hn
      have hr2 : rest stop (f + 1 + 1) (d + 1) (nestToks c (p + 4) c) = .error stop := by
        obtain ⟨t, ts, he, hk⟩ := node_some hn
        rw [he] at hn ⊢
        rw [rest, if_neg hk, hn]
        rfl
      have hr : rest stop (f + 3) (d + 1) (mkTok (p + 1) 3 [114, 101] :: nestToks c (p + 4) c) = .error stop := by
        rw [rest, if_neg (by show (3 : Int) ≠ 1; decide), node_leaf' _ _ _ _ _ _ _ (by decide) (by decide)]
        simp only
        rw [hr2]
      rw [nestToks, node, if_neg (by show (0 : Int) ≠ 1; decide), if_pos (show (mkTok p 0 [40]).kind = 0 from rfl), if_neg (by omega), hr]

theorem nest_expr : ∀ (k p f : Nat), k < f → expr f (nestNode p k) = .ok (nestExpr p k) := by
  intro k
  induction k with
  | zero =>
    intro p f hf
    obtain ⟨f, rfl⟩ : ∃ g, f = g + 1 := ⟨f - 1, by omega⟩
    rfl
  | succ k ih =>
    intro p f hf
    obtain ⟨f, rfl⟩ : ∃ g, f = g + 1 := ⟨f - 1, by omega⟩
    have hi := ih (p + 4) f (by omega)
    have ht : takesOf [114, 101] = 1 := by decide
    rw [nestNode, ht, expr, if_pos (by rfl), listExpr]
    have hw : word (.mk (mkTok p 0 [40]) [.mk (mkTok (p + 1) 3 [114, 101]) [] 1, nestNode (p + 4) k] 0) = [114, 101] := rfl
    rw [hw, if_neg (by decide), if_neg (by decide), if_neg (by decide), plainExpr]
    have e1 : nodes (.mk (mkTok p 0 [40]) [.mk (mkTok (p + 1) 3 [114, 101]) [] 1, nestNode (p + 4) k] 0) 2 9 = .ok [.mk (mkTok (p + 1) 3 [114, 101]) [] 1, nestNode (p + 4) k] := rfl
    have e2 : hold (.mk (mkTok p 0 [40]) [.mk (mkTok (p + 1) 3 [114, 101]) [] 1, nestNode (p + 4) k] 0) (1 + 1) (1 + 1) = .ok () := rfl
    rw [e1]
    have htk : (([.mk (mkTok (p + 1) 3 [114, 101]) [] 1, nestNode (p + 4) k] : List Node).headD (.mk (mkTok p 0 [40]) [.mk (mkTok (p + 1) 3 [114, 101]) [] 1, nestNode (p + 4) k] 0)).takes = 1 := rfl
    simp only [htk]
    rw [if_pos (by decide), e2]
    simp only [List.tail_cons, each, hi]
    rfl

theorem nest_text : ∀ k, nestPre (k + 1) ++ ([49] ++ List.replicate (k + 1) 41) = joined [[114, 101], nestPre k ++ ([49] ++ List.replicate k 41)] := by
  intro k
  rw [nestPre, List.replicate_succ']
  simp [joined, glue]
theorem nest_show : ∀ (k p f : Nat), k < f → showE f (nestExpr p k) = nestPre k ++ ([49] ++ List.replicate k 41) := by
  intro k
  induction k with
  | zero =>
    intro p f hf
    obtain ⟨f, rfl⟩ : ∃ g, f = g + 1 := ⟨f - 1, by omega⟩
    rw [nestExpr, showE]
    have : Lib.itoa 1 = [49] := by decide +kernel
    simp [this, nestPre]
  | succ k ih =>
    intro p f hf
    obtain ⟨f, rfl⟩ : ∃ g, f = g + 1 := ⟨f - 1, by omega⟩
    rw [nest_text, nestExpr, showE]
    simp [ih (p + 4) f (by omega)]
theorem nest_good : ∀ (k p f : Nat), k < f → GoodE f (nestExpr p k) := by
  intro k
  induction k with
  | zero =>
    intro p f hf
    obtain ⟨f, rfl⟩ : ∃ g, f = g + 1 := ⟨f - 1, by omega⟩
    refine ⟨by omega, fun _ => ⟨by omega, by omega⟩, fun _ => rfl, fun h => by omega, fun h => by omega, fun h => by omega, fun x hx => (by cases hx), fun x hx => (by cases hx)⟩
  | succ k ih =>
    intro p f hf
    obtain ⟨f, rfl⟩ : ∃ g, f = g + 1 := ⟨f - 1, by omega⟩
    refine ⟨by omega, fun h => by omega, fun h => by omega, fun h => by omega, fun h => by omega, fun _ => by simp, fun x hx => ?_, fun x hx => (by cases hx)⟩
    rw [List.mem_singleton] at hx
    subst hx
    exact ih (p + 4) f (by omega)

theorem nestToks_len (c : Nat) : ∀ (k p : Nat), (nestToks c p k).length = 2 * k + 1 + c := by
  intro k
  induction k with
  | zero => intro p; rw [nestToks, List.length_cons, closes_len 0]; omega
  | succ k ih => intro p; rw [nestToks, List.length_cons, List.length_cons, ih]; omega

theorem exprOf_nest (k c : Nat) (hk : k ≤ 100) (hc : c ≤ 100) :
    exprOf (nestPre k ++ ([49] ++ List.replicate c 41)) = match onlyExpr (nestPre k ++ ([49] ++ List.replicate c 41)).length (nestToks c 0 k) with
      | .error p => .parse p
      | .ok x => .done x := by
  unfold exprOf parsed
  have hl : (nestPre k ++ ([49] ++ List.replicate c 41)).length ≤ 4096 := by simp [nestPre_len]; omega
  have ht : Lx.toks ((nestPre k ++ ([49] ++ List.replicate c 41)).length + 1) 0 (nestPre k ++ ([49] ++ List.replicate c 41)) = (nestToks c 0 k, none) := tk_nest c k 0
  rw [if_neg (by omega), ht]
  simp only
  cases onlyExpr (nestPre k ++ ([49] ++ List.replicate c 41)).length (nestToks c 0 k) <;> rfl
theorem nest_many (k c : Nat) (hk : k ≤ 100) (hc : c ≤ 100) (h : 40 < k) : exprOf (nestPre k ++ ([49] ++ List.replicate c 41)) = .parse 160 := by
  rw [exprOf_nest k c hk hc, onlyExpr, nest_deep _ c k 0 0 _ (by omega) (by omega) (by rw [nestToks_len]; omega)]
theorem nest_unclosed (k c : Nat) (hk : k ≤ 40) (hc : c < k) : exprOf (nestPre k ++ ([49] ++ List.replicate c 41)) = .parse (nestPre k ++ ([49] ++ List.replicate c 41)).length := by
  rw [exprOf_nest k c (by omega) (by omega), onlyExpr, nest_open _ c k 0 0 _ (by omega) hc (by rw [nestToks_len]; omega)]
theorem nest_closed (k : Nat) (hk : k ≤ 40) : exprOf (nestPre k ++ ([49] ++ List.replicate k 41)) = .done (nestExpr 0 k) := by
  obtain ⟨p', hn⟩ := nest_ok (nestPre k ++ ([49] ++ List.replicate k 41)).length k k 0 0 (2 * (nestToks k 0 k).length + 2) (by omega) (by rw [nestToks_len]; omega) (Nat.le_refl _)
  rw [exprOf_nest k k (by omega) (by omega), onlyExpr, hn, Nat.sub_self]
  simp only [closes]
  rw [nest_expr k 0 50 (by omega)]
end Px
end Go.Proofs.YtbkhhdfhcbjfbaaDoor
