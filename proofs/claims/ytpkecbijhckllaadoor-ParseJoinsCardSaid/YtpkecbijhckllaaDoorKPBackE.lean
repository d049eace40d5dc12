/-
 What is shown of parsed expressions, types, definitions is their nodes' text.
-/
import Derived.Test.YtpkecbijhckllaaDoorKPBack
namespace Go.Proofs.YtpkecbijhckllaaDoor
set_option linter.unusedVariables false
set_option linter.unusedSimpArgs false
namespace Px
theorem two_of {l : List Node} (h1 : 2 ≤ l.length) (h2 : l.length ≤ 2) (n : Node) : l = [l.headD n, l.getD 1 n] := by
 match l, h1, h2 with
 | [a, b], _, _ => rfl
theorem three_of {l : List Node} (h1 : 3 ≤ l.length) (h2 : l.length ≤ 3) (n : Node) : l = [l.headD n, l.getD 1 n, l.getD 2 n] := by
 match l, h1, h2 with
 | [a, b, c], _, _ => rfl
theorem four_of {l : List Node} (h1 : 4 ≤ l.length) (h2 : l.length ≤ 4) (n : Node) : l = [l.headD n, l.getD 1 n, l.getD 2 n, l.getD 3 n] := by
 match l, h1, h2 with
 | [a, b, c, d], _, _ => rfl
theorem drop2_of {l : List Node} (h1 : 2 ≤ l.length) (n : Node) : l = l.headD n :: l.getD 1 n :: l.drop 2 := by
 match l, h1 with
 | a :: b :: r, _ => rfl
theorem drop3_of {l : List Node} (h1 : 3 ≤ l.length) (n : Node) : l = l.headD n :: l.getD 1 n :: l.getD 2 n :: l.drop 3 := by
 match l, h1 with
 | a :: b :: c :: r, _ => rfl
theorem word_canon {n : Node} (hg : NodeGood n) {s : List UInt8} (hw : word n = s) (hs : s ≠ []) (hp : ∀ x, Plain x → x ≠ s) : Canon (n.list.headD n) s := by
 obtain ⟨a, r, hlr, hb, ht⟩ := word_head hw hs
 rw [hlr]
 exact canon_word (hg.kid (by rw [hlr]; simp)) hb ht hp
theorem takes_canon {n : Node} (hg : NodeGood n) (ht : 0 < n.takes) : Canon n n.text := by
 cases hg with
 | leaf t h1 h3 h4 =>
  refine .leaf t _ h3 (fun e => ?_)
  have := (h1.num e).2.1
  have h5 : 0 < takesOf t.text := ht
  omega
 | list t l h1 h3 h4 => exact absurd ht (by show ¬ 0 < 0; omega)
theorem expr_canon : ∀ (f : Nat) (n : Node) (t : Expr), NodeGood n → NodeAll TInt n → expr f n = .ok t → Canon n (showE f t) := by
 intro f
 induction f with
 | zero => intro n t _ _ h; cases h
 | succ f ih =>
  intro n t hg hn h
  have hgood := (expr_whole (f + 1) n t hn (fun _ _ => trivial) h).good
  have kids : ∀ m ∈ n.list, ∀ y, expr f m = .ok y → Canon m (showE f y) := fun m hm y hy => ih m y (hg.kid hm) (hn.kid hm) hy
  rw [expr] at h
  by_cases h1 : isListB n = true
  · rw [if_pos h1] at h
    unfold listExpr at h
    by_cases w1 : word n = [102, 110]
    · rw [if_pos w1] at h
      unfold fnExpr at h
      cases hq : nodes n 3 3 with
      | error q => rw [hq] at h; cases h
      | ok l =>
       rw [hq] at h
       simp only at h
       obtain ⟨rfl, hl, hl2, hlb⟩ := nodes_len hq
       cases hns : names (n.list.getD 1 n) 1 with
       | error q => rw [hns] at h; cases h
       | ok ns =>
        rw [hns] at h
        simp only at h
        cases he : expr f (n.list.getD 2 n) with
        | error q => rw [he] at h; cases h
        | ok y =>
         rw [he] at h
         simp only [Except.ok.injEq] at h
         subst h
         have c1 := word_canon hg w1 (by simp) (fun x hx => hx.2.2.2.1)
         have c2 := names_canon (hg.kid (getD_mem (l := n.list) (k := 1) (n := n) (by omega))) hns
         have c3 := kids _ (getD_mem (l := n.list) (k := 2) (n := n) (by omega)) _ he
         rw [showE_eq f _ _ _ _ _ _ _ hgood, if_neg (by decide), if_neg (by decide), if_neg (by decide), if_neg (by decide), if_pos rfl]
         refine canon_list hg hlb ?_
         rw [three_of hl hl2 n]
         exact .cons c1 (.cons c2 (.cons c3 .nil))
    · rw [if_neg w1] at h
      by_cases w2 : word n = [108, 101, 116]
      · rw [if_pos w2] at h
        unfold letExpr at h
        cases hq : nodes n 3 3 with
        | error q => rw [hq] at h; cases h
        | ok l =>
         rw [hq] at h
         simp only at h
         obtain ⟨rfl, hl, hl2, hlb⟩ := nodes_len hq
         have m1 := getD_mem (l := n.list) (k := 1) (n := n) (by omega)
         cases hps : nodes (n.list.getD 1 n) 1 8 with
         | error q => rw [hps] at h; cases h
         | ok ps =>
          rw [hps] at h
          simp only at h
          obtain ⟨hpe, hpl, _, hpb⟩ := nodes_len hps
          cases hbs : each (pair (expr f)) ps with
          | error q => rw [hbs] at h; cases h
          | ok bs =>
           rw [hbs] at h
           simp only at h
           cases he : expr f (n.list.getD 2 n) with
           | error q => rw [he] at h; cases h
           | ok y =>
            rw [he] at h
            simp only [Except.ok.injEq] at h
            subst h
            have c1 := word_canon hg w2 (by simp) (fun x hx => hx.2.2.2.2.1)
            have c3 := kids _ (getD_mem (l := n.list) (k := 2) (n := n) (by omega)) _ he
            have e1 := each_canon (len := fun b : List UInt8 × Expr => joined [b.1, showE f b.2]) (fun m hm x hx => by
             have hmm : m ∈ (n.list.getD 1 n).list := by rw [← hpe]; exact hm
             have hmg := (hg.kid m1).kid hmm
             have hmn := (hn.kid m1).kid hmm
             unfold pair at hx
             cases hz2 : nodes m 2 2 with
             | error q => rw [hz2] at hx; cases hx
             | ok l2 =>
              rw [hz2] at hx
              simp only at hx
              obtain ⟨rfl, h4, h42, hmb⟩ := nodes_len hz2
              cases hz3 : name (m.list.headD m) with
              | error q => rw [hz3] at hx; cases hx
              | ok s =>
               rw [hz3] at hx
               simp only at hx
               cases hz4 : expr f (m.list.getD 1 m) with
               | error q => rw [hz4] at hx; cases hx
               | ok e =>
                rw [hz4] at hx
                simp only [Except.ok.injEq] at hx
                subst hx
                have d1 := name_canon (hmg.kid (headD_mem (by omega))) hz3
                have d2 := ih _ _ (hmg.kid (getD_mem (l := m.list) (k := 1) (n := m) (by omega))) (hmn.kid (getD_mem (l := m.list) (k := 1) (n := m) (by omega))) hz4
                refine canon_list hmg hmb ?_
                rw [two_of h4 h42 m]
                exact .cons d1 (.cons d2 .nil)) hbs
            rw [hpe] at e1
            have c2 := canon_list (hg.kid m1) hpb e1
            rw [showE_eq f _ _ _ _ _ _ _ hgood, if_neg (by decide), if_neg (by decide), if_neg (by decide), if_neg (by decide), if_neg (by decide), if_neg (by decide), if_neg (by decide), if_pos rfl]
            have hz : ((bs.map (·.2) ++ [y]).map (showE f)) = (bs.map (·.2)).map (showE f) ++ [showE f y] := by simp
            rw [hz, zip_app]
            have hlast : ((bs.map (·.2)).map (showE f) ++ [showE f y]).getLastD [] = showE f y := by simp
            rw [hlast]
            refine canon_list hg hlb ?_
            rw [three_of hl hl2 n]
            exact .cons c1 (.cons c2 (.cons c3 .nil))
      · rw [if_neg w2] at h
        by_cases w3 : word n = [99, 97, 115, 101]
        · rw [if_pos w3] at h
          unfold caseExpr at h
          cases hq : nodes n 3 18 with
          | error q => rw [hq] at h; cases h
          | ok l =>
           rw [hq] at h
           simp only at h
           obtain ⟨rfl, hl, hl2, hlb⟩ := nodes_len hq
           cases he : expr f (n.list.getD 1 n) with
           | error q => rw [he] at h; cases h
           | ok y =>
            rw [he] at h
            simp only at h
            cases hbs : each (alt f (expr f)) (n.list.drop 2) with
            | error q => rw [hbs] at h; cases h
            | ok alts1 =>
             rw [hbs] at h
             simp only [Except.ok.injEq] at h
             subst h
             have c1 := word_canon hg w3 (by simp) (fun x hx => hx.2.2.2.2.2.1)
             have c2 := kids _ (getD_mem (l := n.list) (k := 1) (n := n) (by omega)) _ he
             have e1 := each_canon (len := fun b : Pat × Expr => joined [showP f b.1, showE f b.2]) (fun m hm x hx => by
              have hmm : m ∈ n.list := List.mem_of_mem_drop hm
              have hmg := hg.kid hmm
              have hmn := hn.kid hmm
              unfold alt at hx
              cases hz2 : nodes m 2 2 with
              | error q => rw [hz2] at hx; cases hx
              | ok l2 =>
               rw [hz2] at hx
               simp only at hx
               obtain ⟨rfl, h4, h42, hmb⟩ := nodes_len hz2
               cases hz3 : pat f (m.list.headD m) with
               | error q => rw [hz3] at hx; cases hx
               | ok s =>
                rw [hz3] at hx
                simp only at hx
                cases hz4 : expr f (m.list.getD 1 m) with
                | error q => rw [hz4] at hx; cases hx
                | ok e =>
                 rw [hz4] at hx
                 simp only [Except.ok.injEq] at hx
                 subst hx
                 have d1 := pat_canon f _ _ (hmg.kid (headD_mem (by omega))) hz3
                 have d2 := ih _ _ (hmg.kid (getD_mem (l := m.list) (k := 1) (n := m) (by omega))) (hmn.kid (getD_mem (l := m.list) (k := 1) (n := m) (by omega))) hz4
                 refine canon_list hmg hmb ?_
                 rw [two_of h4 h42 m]
                 exact .cons d1 (.cons d2 .nil)) hbs
             rw [showE_eq f _ _ _ _ _ _ _ hgood, if_neg (by decide), if_neg (by decide), if_neg (by decide), if_neg (by decide), if_neg (by decide), if_neg (by decide), if_neg (by decide), if_neg (by decide)]
             refine canon_list hg hlb ?_
             rw [drop2_of (l := n.list) (by omega) n]
             exact .cons c1 (.cons c2 e1)
        · rw [if_neg w3] at h
          unfold plainExpr at h
          cases hq : nodes n 2 9 with
          | error q => rw [hq] at h; cases h
          | ok l =>
           rw [hq] at h
           simp only at h
           obtain ⟨rfl, hl, hl2, hlb⟩ := nodes_len hq
           have hh0 : n.list.headD n ∈ n.list := headD_mem (by omega)
           have tails : ∀ {s : List UInt8} {xs : List Expr}, Canon (n.list.headD n) s → each (expr f) n.list.tail = .ok xs → Canon n (joined (s :: xs.map (showE f))) := by
            intro s xs hs he
            have e1 := each_canon (len := showE f) (fun m hm x hx => kids m (List.mem_of_mem_tail hm) x hx) he
            refine canon_list hg hlb ?_
            cases hnl : n.list with
            | nil => rw [hnl] at hl; simp at hl
            | cons a r => rw [hnl] at hs e1; exact .cons hs e1
           by_cases ht : 0 < (n.list.headD n).takes
           · rw [if_pos ht] at h
             cases hh : hold n (1 + (n.list.headD n).takes) (1 + (n.list.headD n).takes) with
             | error q => rw [hh] at h; cases h
             | ok u =>
              rw [hh] at h
              simp only at h
              cases hb : each (expr f) n.list.tail with
              | error q => rw [hb] at h; cases h
              | ok xs =>
               rw [hb] at h
               simp only [Except.ok.injEq] at h
               subst h
               rw [showE_eq f _ _ _ _ _ _ _ hgood, if_neg (by decide), if_neg (by decide), if_neg (by decide), if_pos rfl]
               exact tails (takes_canon (hg.kid hh0) ht) hb
           · rw [if_neg ht] at h
             by_cases hcn : isConB (n.list.headD n) = true
             · rw [if_pos hcn] at h
               cases hb : each (expr f) n.list.tail with
               | error q => rw [hb] at h; cases h
               | ok xs =>
                rw [hb] at h
                simp only [Except.ok.injEq] at h
                subst h
                have hxl := each_len hb
                rw [List.length_tail] at hxl
                rw [showE_eq f _ _ _ _ _ _ _ hgood, if_neg (by decide), if_neg (by decide), if_pos rfl, if_neg (by intro e; have := congrArg List.length e; rw [List.length_map, hxl] at this; simp at this; omega)]
                exact tails (conName_canon (hg.kid hh0) (by unfold conName; rw [if_pos hcn])) hb
             · rw [if_neg hcn] at h
               cases hb : each (expr f) n.list with
               | error q => rw [hb] at h; cases h
               | ok xs =>
                rw [hb] at h
                simp only [Except.ok.injEq] at h
                subst h
                rw [showE_eq f _ _ _ _ _ _ _ hgood, if_neg (by decide), if_neg (by decide), if_neg (by decide), if_neg (by decide), if_neg (by decide), if_pos rfl]
                exact canon_list hg hlb (each_canon (len := showE f) (fun m hm x hx => kids m hm x hx) hb)
  · rw [if_neg h1] at h
    have hlb : isListB n = false := by simpa using h1
    by_cases h2 : isIntB n = true
    · rw [if_pos h2] at h
      simp only [Except.ok.injEq] at h
      subst h
      rw [showE_eq f _ _ _ _ _ _ _ hgood, if_pos rfl]
      exact canon_int hg (by unfold isIntB at h2; simpa using h2)
    · rw [if_neg h2] at h
      have h2k := kind_ne (by simpa using h2)
      by_cases h3 : isConB n = true
      · rw [if_pos h3] at h
        simp only [Except.ok.injEq] at h
        subst h
        rw [showE_eq f _ _ _ _ _ _ _ hgood, if_neg (by decide), if_neg (by decide), if_pos rfl, if_pos (by rfl)]
        exact canon_leaf hg hlb h2k
      · rw [if_neg h3] at h
        by_cases h4 : isNameB n = true
        · rw [if_pos h4] at h
          simp only [Except.ok.injEq] at h
          subst h
          rw [showE_eq f _ _ _ _ _ _ _ hgood, if_neg (by decide), if_pos rfl]
          exact canon_leaf hg hlb h2k
        · rw [if_neg h4] at h; cases h
theorem con_canon (f : Nat) (n : Node) (c : Con) (hg : NodeGood n) (h : con f n = .ok c) : Canon n (showCon f c) := by
 unfold con at h
 cases hq : nodes n 1 9 with
 | error q => rw [hq] at h; cases h
 | ok l =>
  rw [hq] at h
  simp only at h
  obtain ⟨rfl, hl, _, hlb⟩ := nodes_len hq
  cases hc : conName (n.list.headD n) with
  | error q => rw [hc] at h; cases h
  | ok nm =>
   rw [hc] at h
   simp only at h
   have hk := conName_canon (hg.kid (headD_mem (by omega))) hc
   cases he : each (typeE f) n.list.tail with
   | error q => rw [he] at h; cases h
   | ok xs =>
    rw [he] at h
    simp only [Except.ok.injEq] at h
    subst h
    have hs := each_canon (len := showT f) (fun m hm x hx => typeE_canon f m x (hg.kid (List.mem_of_mem_tail hm)) hx) he
    refine canon_list hg hlb ?_
    cases hnl : n.list with
    | nil => rw [hnl] at hl; simp at hl
    | cons a r => rw [hnl] at hk hs; exact .cons hk hs
theorem data_canon (f : Nat) (n : Node) (d : Data) (hg : NodeGood n) (hw : word n = [100, 97, 116, 97]) (h : data f n = .ok d) : Canon n (showData f d) := by
 unfold data at h
 cases hq : nodes n 4 103 with
 | error q => rw [hq] at h; cases h
 | ok l =>
  rw [hq] at h
  simp only at h
  obtain ⟨rfl, hl, _, hlb⟩ := nodes_len hq
  have c0 := word_canon hg hw (by simp) (fun x hx => hx.2.1)
  cases hcn : conName (n.list.getD 1 n) with
  | error q => rw [hcn] at h; cases h
  | ok nm =>
   rw [hcn] at h
   simp only at h
   have c1 := conName_canon (hg.kid (getD_mem (l := n.list) (k := 1) (n := n) (by omega))) hcn
   cases hps : names (n.list.getD 2 n) 0 with
   | error q => rw [hps] at h; cases h
   | ok ps =>
    rw [hps] at h
    simp only at h
    have c2 := names_canon (hg.kid (getD_mem (l := n.list) (k := 2) (n := n) (by omega))) hps
    cases he : each (con f) (n.list.drop 3) with
    | error q => rw [he] at h; cases h
    | ok xs =>
     rw [he] at h
     simp only [Except.ok.injEq] at h
     subst h
     have hs := each_canon (len := showCon f) (fun m hm x hx => con_canon f m x (hg.kid (List.mem_of_mem_drop hm)) hx) he
     refine canon_list hg hlb ?_
     rw [drop3_of (l := n.list) (by omega) n]
     exact .cons c0 (.cons c1 (.cons c2 hs))
theorem defn_canon (f : Nat) (n : Node) (d : Def) (hg : NodeGood n) (hn : NodeAll TInt n) (hw : word n = [100, 101, 102]) (h : defn f n = .ok d) : Canon n (showDef f d) := by
 unfold defn at h
 cases hq : nodes n 4 4 with
 | error q => rw [hq] at h; cases h
 | ok l =>
  rw [hq] at h
  simp only at h
  obtain ⟨rfl, hl, hl2, hlb⟩ := nodes_len hq
  have c0 := word_canon hg hw (by simp) (fun x hx => hx.2.2.1)
  cases hcn : name (n.list.getD 1 n) with
  | error q => rw [hcn] at h; cases h
  | ok nm =>
   rw [hcn] at h
   simp only at h
   have c1 := name_canon (hg.kid (getD_mem (l := n.list) (k := 1) (n := n) (by omega))) hcn
   cases hps : names (n.list.getD 2 n) 0 with
   | error q => rw [hps] at h; cases h
   | ok ps =>
    rw [hps] at h
    simp only at h
    have c2 := names_canon (hg.kid (getD_mem (l := n.list) (k := 2) (n := n) (by omega))) hps
    cases he : expr f (n.list.getD 3 n) with
    | error q => rw [he] at h; cases h
    | ok x =>
     rw [he] at h
     simp only [Except.ok.injEq] at h
     subst h
     have c3 := expr_canon f _ _ (hg.kid (getD_mem (l := n.list) (k := 3) (n := n) (by omega))) (hn.kid (getD_mem (l := n.list) (k := 3) (n := n) (by omega))) he
     refine canon_list hg hlb ?_
     rw [four_of hl hl2 n]
     exact .cons c0 (.cons c1 (.cons c2 (.cons c3 .nil)))
end Px
end Go.Proofs.YtpkecbijhckllaaDoor
