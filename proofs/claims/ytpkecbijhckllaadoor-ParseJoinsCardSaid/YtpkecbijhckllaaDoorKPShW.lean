/-
 What is shown of parsed parts is no heavier than their nodes.
-/
import Derived.Test.YtpkecbijhckllaaDoorKPShSim
namespace Go.Proofs.YtpkecbijhckllaaDoor
set_option linter.unusedVariables false
set_option linter.unusedSimpArgs false
namespace Px
theorem NW.ge {n : Node} {W : Nat} (h : NW n W) : n.text.length + 24 ≤ W := by
 obtain ⟨ws, _, rfl⟩ := h.split; omega
theorem name_is {n : Node} {s : List UInt8} (h : name n = .ok s) : s = n.text := by
 unfold name at h; split at h
 · simp only [Except.ok.injEq] at h; exact h.symm
 · cases h
theorem conName_is {n : Node} {s : List UInt8} (h : conName n = .ok s) : s = n.text := by
 unfold conName at h; split at h
 · simp only [Except.ok.injEq] at h; exact h.symm
 · cases h
theorem All2.head2 {S : Node → Nat → Prop} {l : List Node} {ws : List Nat} (h : All2 S l ws) (hl : 1 ≤ l.length) (n : Node) : ∃ w, S (l.headD n) w ∧ ws.sum = w + ws.tail.sum ∧ All2 S l.tail ws.tail := by
 cases h with
 | nil => simp at hl
 | @cons a b l ws h1 h2 => exact ⟨b, h1, by simp, h2⟩
theorem All2.three {S : Node → Nat → Prop} {l : List Node} {ws : List Nat} (h : All2 S l ws) (hl : 3 ≤ l.length) (n : Node) : ∃ a b c, S (l.getD 0 n) a ∧ S (l.getD 1 n) b ∧ S (l.getD 2 n) c ∧ ws.sum = a + b + c + (ws.drop 3).sum ∧ All2 S (l.drop 3) (ws.drop 3) := by
 cases h with
 | nil => simp at hl
 | @cons x a l ws h1 h2 =>
  cases h2 with
  | nil => simp at hl
  | @cons y b l ws h2 h3 =>
   cases h3 with
   | nil => simp at hl
   | @cons z c l ws h3 h4 => exact ⟨a, b, c, h1, h2, h3, by simp; omega, by simpa using h4⟩
theorem All2.two {S : Node → Nat → Prop} {l : List Node} {ws : List Nat} (h : All2 S l ws) (hl : 2 ≤ l.length) (n : Node) : ∃ a b, S (l.headD n) a ∧ S (l.getD 1 n) b ∧ ws.sum = a + b + (ws.drop 2).sum ∧ All2 S (l.drop 2) (ws.drop 2) := by
 cases h with
 | nil => simp at hl
 | @cons x a l ws h1 h2 =>
  cases h2 with
  | nil => simp at hl
  | @cons y b l ws h2 h3 => exact ⟨a, b, h1, h2, by simp; omega, by simpa using h3⟩
theorem names_weight {n : Node} {a W : Nat} {ns : List (List UInt8)} (h : names n a = .ok ns) (hw : NW n W) : (joined ns).length + 22 ≤ W := by
 unfold names at h
 cases hq : nodes n a 8 with
 | error p => rw [hq] at h; cases h
 | ok l =>
  rw [hq] at h
  simp only at h
  obtain ⟨rfl, _⟩ := nodes_is hq
  obtain ⟨ws, h1, rfl⟩ := hw.split
  have := each_weight (len := id) (fun m _ x W hx hW => by have := name_is hx; have := hW.ge; subst x; simp only [id]; omega) h h1
  have hj := joined_sum ns
  simp only [List.map_id] at this
  omega
theorem typeE_weight : ∀ (f : Nat) (n : Node) (t : TypeE) (W : Nat), typeE f n = .ok t → NW n W → (showT f t).length + 1 ≤ W := by
 intro f
 induction f with
 | zero => intro n t W h; cases h
 | succ f ih =>
  intro n t W h hw
  have hge := hw.ge
  rw [typeE] at h
  by_cases h1 : (isConB n || isNameB n) = true
  · rw [if_pos h1] at h
    simp only [Except.ok.injEq] at h
    subst h
    rw [showT, if_pos rfl]; omega
  · rw [if_neg h1] at h
    cases hq : nodes n 2 9 with
    | error p => rw [hq] at h; cases h
    | ok l =>
     rw [hq] at h
     simp only at h
     obtain ⟨rfl, hl⟩ := nodes_is hq
     obtain ⟨ws, h2, rfl⟩ := hw.split
     obtain ⟨w0, h3, h4, h5⟩ := h2.head2 (by omega) n
     have h3g := h3.ge
     have key : ∀ nm : List UInt8, (if word n = [45, 62] then (match hold n 3 3 with | .error p => .error p | .ok _ => .ok ([45, 62] : List UInt8)) else conName (n.list.headD n)) = .ok nm → nm.length + 2 ≤ w0 := by
      intro nm hnm
      split at hnm
      · split at hnm
        · cases hnm
        · simp only [Except.ok.injEq] at hnm; subst hnm; simp only [List.length_cons, List.length_nil]; omega
      · have := conName_is hnm; subst this; omega
     revert h
     generalize (if word n = [45, 62] then (match hold n 3 3 with | .error p => .error p | .ok _ => .ok ([45, 62] : List UInt8)) else conName (n.list.headD n)) = A at key ⊢
     intro h
     cases A with
     | error p => cases h
     | ok nm =>
      simp only at h
      have hk := key nm rfl
      cases he : each (typeE f) n.list.tail with
      | error p => rw [he] at h; cases h
      | ok xs =>
       rw [he] at h
       simp only [Except.ok.injEq] at h
       subst h
       have hs := each_weight (len := showT f) (fun m _ x W hx hW => ih m x W hx hW) he h5
       have hj := joined_sum (nm :: xs.map (showT f))
       simp only [List.map_cons, List.sum_cons] at hj
       rw [showT]
       split <;> omega
theorem pat_weight : ∀ (f : Nat) (n : Node) (t : Pat) (W : Nat), NodeAll TInt n → pat f n = .ok t → NW n W → (showP f t).length + 1 ≤ W := by
 intro f
 induction f with
 | zero => intro n t W _ h; cases h
 | succ f ih =>
  intro n t W hn h hw
  have hge := hw.ge
  rw [pat] at h
  by_cases h1 : isListB n = true
  · rw [if_pos h1] at h
    cases hq : nodes n 2 9 with
    | error p => rw [hq] at h; cases h
    | ok l =>
     rw [hq] at h
     simp only at h
     obtain ⟨rfl, hl⟩ := nodes_is hq
     obtain ⟨ws, h2, rfl⟩ := hw.split
     obtain ⟨w0, h3, h4, h5⟩ := h2.head2 (by omega) n
     have h3g := h3.ge
     cases hc : conName (n.list.headD n) with
     | error p => rw [hc] at h; cases h
     | ok nm =>
      rw [hc] at h
      simp only at h
      have hnm := conName_is hc
      cases he : each (pat f) n.list.tail with
      | error p => rw [he] at h; cases h
      | ok xs =>
       rw [he] at h
       simp only [Except.ok.injEq] at h
       subst h
       have hs := each_weight (len := showP f) (fun m hm x W hx hW => ih m x W (hn.kid (List.mem_of_mem_tail hm)) hx hW) he h5
       have hj := joined_sum (nm :: xs.map (showP f))
       simp only [List.map_cons, List.sum_cons] at hj
       subst hnm
       rw [showP, if_neg (by decide), if_neg (by decide)]
       split <;> omega
  · rw [if_neg h1] at h
    by_cases h2 : isIntB n = true
    · rw [if_pos h2] at h
      simp only [Except.ok.injEq] at h
      subst h
      have := itoa_le n.tok.int (hn.tok (by unfold isIntB at h2; simpa using h2))
      rw [showP, if_neg (by decide), if_pos rfl]; omega
    · rw [if_neg h2] at h
      have fin : ∀ {k : Nat} {nm : List UInt8}, k ≠ 2 → nm.length ≤ n.text.length → (Except.ok (Pat.mk k n.pos nm 0 []) : R Pat) = .ok t → (showP (f + 1) t).length + 1 ≤ W := by
       intro k nm hk hl e
       simp only [Except.ok.injEq] at e
       subst e
       rw [showP]
       split
       · simp only [List.length_cons, List.length_nil]; omega
       · first
          | (rw [if_neg hk, if_pos rfl]; omega)
          | (rw [if_pos rfl]; omega)
      repeat' split at h
      all_goals first | exact fin (by decide) (Nat.le_refl _) h | exact fin (by decide) (Nat.zero_le _) h | cases h
theorem zip_app (bs : List (List UInt8 × Expr)) (g : Expr → List UInt8) (x : List UInt8) :
 (((bs.map (·.1)).zip ((bs.map (·.2)).map g ++ [x])).map fun p => joined [p.1, p.2]) = bs.map fun b => joined [b.1, g b.2] := by
 induction bs with
 | nil => rfl
 | cons b bs ih => simp only [List.map_cons, List.cons_append, List.zip_cons_cons, ih]
theorem expr_weight : ∀ (f : Nat) (n : Node) (t : Expr) (W : Nat), NodeAll TInt n → expr f n = .ok t → NW n W → (showE f t).length + 1 ≤ W := by
 intro f
 induction f with
 | zero => intro n t W _ h; cases h
 | succ f ih =>
  intro n t W hn h hw
  have hge := hw.ge
  have hgood := (expr_whole (f + 1) n t hn (fun _ _ => trivial) h).good
  rw [expr] at h
  by_cases h1 : isListB n = true
  · rw [if_pos h1] at h
    unfold listExpr at h
    by_cases w1 : word n = [102, 110]
    · rw [if_pos w1] at h
      unfold fnExpr at h
      cases hq : nodes n 3 3 with
      | error q => rw [hq] at h; cases h
      | ok l =>
       rw [hq] at h
       simp only at h
       obtain ⟨rfl, hl⟩ := nodes_is hq
       obtain ⟨ws, h2, rfl⟩ := hw.split
       obtain ⟨a, b, c, ha, hb, hc, hsum, _⟩ := h2.three (by omega) n
       cases hns : names (n.list.getD 1 n) 1 with
       | error q => rw [hns] at h; cases h
       | ok ns =>
        rw [hns] at h
        simp only at h
        cases he : expr f (n.list.getD 2 n) with
        | error q => rw [he] at h; cases h
        | ok y =>
         rw [he] at h
         simp only [Except.ok.injEq] at h
         subst h
         have e1 := names_weight hns hb
         have e2 := ih _ _ _ (hn.kid (getD_mem (by omega))) he hc
         rw [showE_eq f _ _ _ _ _ _ _ hgood, if_neg (by decide), if_neg (by decide), if_neg (by decide), if_neg (by decide), if_pos rfl]
         have hj := joined_sum [[102, 110], joined ns, showE f y]
         simp only [List.map_cons, List.map_nil, List.sum_cons, List.sum_nil, List.length_cons, List.length_nil, List.headD_cons] at hj ⊢
         omega
    · rw [if_neg w1] at h
      by_cases w2 : word n = [108, 101, 116]
      · rw [if_pos w2] at h
        unfold letExpr at h
        cases hq : nodes n 3 3 with
        | error q => rw [hq] at h; cases h
        | ok l =>
         rw [hq] at h
         simp only at h
         obtain ⟨rfl, hl⟩ := nodes_is hq
         obtain ⟨ws, h2, rfl⟩ := hw.split
         obtain ⟨a, b, c, ha, hb, hc, hsum, _⟩ := h2.three (by omega) n
         cases hps : nodes (n.list.getD 1 n) 1 8 with
         | error q => rw [hps] at h; cases h
         | ok ps =>
          rw [hps] at h
          simp only at h
          obtain ⟨hpe, hpl⟩ := nodes_is hps
          cases hbs : each (pair (expr f)) ps with
          | error q => rw [hbs] at h; cases h
          | ok bs =>
           rw [hbs] at h
           simp only at h
           cases he : expr f (n.list.getD 2 n) with
           | error q => rw [he] at h; cases h
           | ok y =>
            rw [he] at h
            simp only [Except.ok.injEq] at h
            subst h
            have e2 := ih _ _ _ (hn.kid (getD_mem (by omega))) he hc
            obtain ⟨wb, hwb, rfl⟩ := hb.split
            rw [← hpe] at hwb
            have e1 := each_weight (len := fun b : List UInt8 × Expr => joined [b.1, showE f b.2]) (fun m hm x W hx hW => by
             have hmn : NodeAll TInt m := (hn.kid (getD_mem (l := n.list) (k := 1) (n := n) (by omega))).kid (by rw [← hpe]; exact hm)
             unfold pair at hx
             cases hz2 : nodes m 2 2 with
             | error q => rw [hz2] at hx; cases hx
             | ok l2 =>
              rw [hz2] at hx
              simp only at hx
              obtain ⟨rfl, h4⟩ := nodes_is hz2
              obtain ⟨ws2, h5, rfl⟩ := hW.split
              obtain ⟨a2, b2, ha2, hb2, hs2, _⟩ := h5.two (by omega) m
              cases hz3 : name (m.list.headD m) with
              | error q => rw [hz3] at hx; cases hx
              | ok s =>
               rw [hz3] at hx
               simp only at hx
               cases hz4 : expr f (m.list.getD 1 m) with
               | error q => rw [hz4] at hx; cases hx
               | ok e =>
                rw [hz4] at hx
                simp only [Except.ok.injEq] at hx
                subst hx
                have hs := name_is hz3
                have hg := ha2.ge
                have e3 := ih _ _ _ (hmn.kid (getD_mem (by omega))) hz4 hb2
                have hj := joined_sum [s, showE f e]
                simp only [List.map_cons, List.map_nil, List.sum_cons, List.sum_nil] at hj
                subst hs
                show (joined [(m.list.headD m).text, showE f e]).length + 1 ≤ _
                omega) hbs hwb
            rw [showE_eq f _ _ _ _ _ _ _ hgood, if_neg (by decide), if_neg (by decide), if_neg (by decide), if_neg (by decide), if_neg (by decide), if_neg (by decide), if_neg (by decide), if_pos rfl]
            have hz : ((bs.map (·.2) ++ [y]).map (showE f)) = (bs.map (·.2)).map (showE f) ++ [showE f y] := by simp
            rw [hz, zip_app]
            have hlast : ((bs.map (·.2)).map (showE f) ++ [showE f y]).getLastD [] = showE f y := by simp
            rw [hlast]
            have hj2 := joined_sum (bs.map fun b => joined [b.1, showE f b.2])
            have hj := joined_sum [[108, 101, 116], joined (bs.map fun b => joined [b.1, showE f b.2]), showE f y]
            simp only [List.map_cons, List.map_nil, List.sum_cons, List.sum_nil, List.length_cons, List.length_nil] at hj ⊢
            omega
      · rw [if_neg w2] at h
        by_cases w3 : word n = [99, 97, 115, 101]
        · rw [if_pos w3] at h
          unfold caseExpr at h
          cases hq : nodes n 3 18 with
          | error q => rw [hq] at h; cases h
          | ok l =>
           rw [hq] at h
           simp only at h
           obtain ⟨rfl, hl⟩ := nodes_is hq
           obtain ⟨ws, h2, rfl⟩ := hw.split
           obtain ⟨a, b, ha, hb, hsum, hrest⟩ := h2.two (by omega) n
           cases he : expr f (n.list.getD 1 n) with
           | error q => rw [he] at h; cases h
           | ok y =>
            rw [he] at h
            simp only at h
            cases hbs : each (alt f (expr f)) (n.list.drop 2) with
            | error q => rw [hbs] at h; cases h
            | ok alts1 =>
             rw [hbs] at h
             simp only [Except.ok.injEq] at h
             subst h
             have e2 := ih _ _ _ (hn.kid (getD_mem (by omega))) he hb
             have e1 := each_weight (len := fun b : Pat × Expr => joined [showP f b.1, showE f b.2]) (fun m hm x W hx hW => by
              have hmn : NodeAll TInt m := hn.kid (List.mem_of_mem_drop hm)
              unfold alt at hx
              cases hz2 : nodes m 2 2 with
              | error q => rw [hz2] at hx; cases hx
              | ok l2 =>
               rw [hz2] at hx
               simp only at hx
               obtain ⟨rfl, h4⟩ := nodes_is hz2
               obtain ⟨ws2, h5, rfl⟩ := hW.split
               obtain ⟨a2, b2, ha2, hb2, hs2, _⟩ := h5.two (by omega) m
               cases hz3 : pat f (m.list.headD m) with
               | error q => rw [hz3] at hx; cases hx
               | ok s =>
                rw [hz3] at hx
                simp only at hx
                cases hz4 : expr f (m.list.getD 1 m) with
                | error q => rw [hz4] at hx; cases hx
                | ok e =>
                 rw [hz4] at hx
                 simp only [Except.ok.injEq] at hx
                 subst hx
                 have e3 := pat_weight f _ _ _ (hmn.kid (headD_mem (by omega))) hz3 ha2
                 have e4 := ih _ _ _ (hmn.kid (getD_mem (by omega))) hz4 hb2
                 have hj := joined_sum [showP f s, showE f e]
                 simp only [List.map_cons, List.map_nil, List.sum_cons, List.sum_nil] at hj
                 show (joined [showP f s, showE f e]).length + 1 ≤ _
                 omega) hbs hrest
             rw [showE_eq f _ _ _ _ _ _ _ hgood, if_neg (by decide), if_neg (by decide), if_neg (by decide), if_neg (by decide), if_neg (by decide), if_neg (by decide), if_neg (by decide), if_neg (by decide)]
             have hj := joined_sum ([99, 97, 115, 101] :: showE f y :: alts1.map fun b => joined [showP f b.1, showE f b.2])
             have hag := ha.ge
             simp only [List.map_cons, List.map_nil, List.sum_cons, List.length_cons, List.length_nil, List.headD_cons] at hj ⊢
             omega
        · rw [if_neg w3] at h
          unfold plainExpr at h
          cases hq : nodes n 2 9 with
          | error q => rw [hq] at h; cases h
          | ok l =>
           rw [hq] at h
           simp only at h
           obtain ⟨rfl, hl⟩ := nodes_is hq
           obtain ⟨ws, h2, rfl⟩ := hw.split
           obtain ⟨w0, h3, h4, h5⟩ := h2.head2 (by omega) n
           have h3g := h3.ge
           by_cases ht : 0 < (n.list.headD n).takes
           · rw [if_pos ht] at h
             cases hh : hold n (1 + (n.list.headD n).takes) (1 + (n.list.headD n).takes) with
             | error q => rw [hh] at h; cases h
             | ok u =>
              rw [hh] at h
              simp only at h
              cases hb : each (expr f) n.list.tail with
              | error q => rw [hb] at h; cases h
              | ok xs =>
               rw [hb] at h
               simp only [Except.ok.injEq] at h
               subst h
               have hs := each_weight (len := showE f) (fun m hm x W hx hW => ih m x W (hn.kid (List.mem_of_mem_tail hm)) hx hW) hb h5
               have hj := joined_sum ((n.list.headD n).text :: xs.map (showE f))
               simp only [List.map_cons, List.sum_cons] at hj
               rw [showE_eq f _ _ _ _ _ _ _ hgood, if_neg (by decide), if_neg (by decide), if_neg (by decide), if_pos rfl]
               omega
           · rw [if_neg ht] at h
             by_cases hcn : isConB (n.list.headD n) = true
             · rw [if_pos hcn] at h
               cases hb : each (expr f) n.list.tail with
               | error q => rw [hb] at h; cases h
               | ok xs =>
                rw [hb] at h
                simp only [Except.ok.injEq] at h
                subst h
                have hs := each_weight (len := showE f) (fun m hm x W hx hW => ih m x W (hn.kid (List.mem_of_mem_tail hm)) hx hW) hb h5
                have hj := joined_sum ((n.list.headD n).text :: xs.map (showE f))
                simp only [List.map_cons, List.sum_cons] at hj
                rw [showE_eq f _ _ _ _ _ _ _ hgood, if_neg (by decide), if_neg (by decide), if_pos rfl]
                split <;> omega
             · rw [if_neg hcn] at h
               cases hb : each (expr f) n.list with
               | error q => rw [hb] at h; cases h
               | ok xs =>
                rw [hb] at h
                simp only [Except.ok.injEq] at h
                subst h
                have hs := each_weight (len := showE f) (fun m hm x W hx hW => ih m x W (hn.kid hm) hx hW) hb h2
                have hj := joined_sum (xs.map (showE f))
                rw [showE_eq f _ _ _ _ _ _ _ hgood, if_neg (by decide), if_neg (by decide), if_neg (by decide), if_neg (by decide), if_neg (by decide), if_pos rfl]
                omega
  · rw [if_neg h1] at h
    by_cases h2 : isIntB n = true
    · rw [if_pos h2] at h
      simp only [Except.ok.injEq] at h
      subst h
      have := itoa_le n.tok.int (hn.tok (by unfold isIntB at h2; simpa using h2))
      rw [showE_eq f _ _ _ _ _ _ _ hgood, if_pos rfl]; omega
    · rw [if_neg h2] at h
      by_cases h3 : isConB n = true
      · rw [if_pos h3] at h
        simp only [Except.ok.injEq] at h
        subst h
        rw [showE_eq f _ _ _ _ _ _ _ hgood, if_neg (by decide), if_neg (by decide), if_pos rfl, if_pos (by rfl)]; omega
      · rw [if_neg h3] at h
        by_cases h4 : isNameB n = true
        · rw [if_pos h4] at h
          simp only [Except.ok.injEq] at h
          subst h
          rw [showE_eq f _ _ _ _ _ _ _ hgood, if_neg (by decide), if_pos rfl]; omega
        · rw [if_neg h4] at h; cases h
theorem con_weight (f : Nat) (n : Node) (c : Con) (W : Nat) (h : con f n = .ok c) (hw : NW n W) : (showCon f c).length + 1 ≤ W := by
 unfold con at h
 cases hq : nodes n 1 9 with
 | error q => rw [hq] at h; cases h
 | ok l =>
  rw [hq] at h
  simp only at h
  obtain ⟨rfl, hl⟩ := nodes_is hq
  obtain ⟨ws, h2, rfl⟩ := hw.split
  obtain ⟨w0, h3, h4, h5⟩ := h2.head2 (by omega) n
  have h3g := h3.ge
  cases hc : conName (n.list.headD n) with
  | error q => rw [hc] at h; cases h
  | ok nm =>
   rw [hc] at h
   simp only at h
   have hnm := conName_is hc
   cases he : each (typeE f) n.list.tail with
   | error q => rw [he] at h; cases h
   | ok xs =>
    rw [he] at h
    simp only [Except.ok.injEq] at h
    subst h
    have hs := each_weight (len := showT f) (fun m _ x W hx hW => typeE_weight f m x W hx hW) he h5
    have hj := joined_sum (nm :: xs.map (showT f))
    simp only [List.map_cons, List.sum_cons] at hj
    subst hnm
    show (joined ((n.list.headD n).text :: xs.map (showT f))).length + 1 ≤ _
    omega
theorem data_weight (f : Nat) (n : Node) (d : Data) (W : Nat) (h : data f n = .ok d) (hw : NW n W) : (showData f d).length + 1 ≤ W := by
 unfold data at h
 cases hq : nodes n 4 103 with
 | error q => rw [hq] at h; cases h
 | ok l =>
  rw [hq] at h
  simp only at h
  obtain ⟨rfl, hl⟩ := nodes_is hq
  obtain ⟨ws, h2, rfl⟩ := hw.split
  obtain ⟨a, b, c, ha, hb, hc, hsum, hrest⟩ := h2.three (by omega) n
  have hbg := hb.ge; have hag := ha.ge
  cases hcn : conName (n.list.getD 1 n) with
  | error q => rw [hcn] at h; cases h
  | ok nm =>
   rw [hcn] at h
   simp only at h
   have hnm := conName_is hcn
   cases hps : names (n.list.getD 2 n) 0 with
   | error q => rw [hps] at h; cases h
   | ok ps =>
    rw [hps] at h
    simp only at h
    have hpw := names_weight hps hc
    cases he : each (con f) (n.list.drop 3) with
    | error q => rw [he] at h; cases h
    | ok xs =>
     rw [he] at h
     simp only [Except.ok.injEq] at h
     subst h
     have hs := each_weight (len := showCon f) (fun m _ x W hx hW => con_weight f m x W hx hW) he hrest
     have hj := joined_sum ([100, 97, 116, 97] :: nm :: joined ps :: xs.map (showCon f))
     simp only [List.map_cons, List.sum_cons, List.length_cons, List.length_nil] at hj
     subst hnm
     show (joined ([100, 97, 116, 97] :: (n.list.getD 1 n).text :: joined ps :: xs.map (showCon f))).length + 1 ≤ _
     omega
theorem defn_weight (f : Nat) (n : Node) (d : Def) (W : Nat) (hn : NodeAll TInt n) (h : defn f n = .ok d) (hw : NW n W) : (showDef f d).length + 1 ≤ W := by
 unfold defn at h
 cases hq : nodes n 4 4 with
 | error q => rw [hq] at h; cases h
 | ok l =>
  rw [hq] at h
  simp only at h
  obtain ⟨rfl, hl⟩ := nodes_is hq
  obtain ⟨ws, h2, rfl⟩ := hw.split
  obtain ⟨a, b, c, ha, hb, hc, hsum, hrest⟩ := h2.three (by omega) n
  have hbg := hb.ge; have hag := ha.ge
  obtain ⟨e, he0, hes, _⟩ := hrest.head2 (by rw [List.length_drop]; omega) n
  have hhd : (n.list.drop 3).headD n = n.list.getD 3 n := by
   rw [List.headD_eq_head?_getD, List.head?_drop, List.getD_eq_getElem?_getD]
  rw [hhd] at he0
  cases hcn : name (n.list.getD 1 n) with
  | error q => rw [hcn] at h; cases h
  | ok nm =>
   rw [hcn] at h
   simp only at h
   have hnm := name_is hcn
   cases hps : names (n.list.getD 2 n) 0 with
   | error q => rw [hps] at h; cases h
   | ok ps =>
    rw [hps] at h
    simp only at h
    have hpw := names_weight hps hc
    cases he : expr f (n.list.getD 3 n) with
    | error q => rw [he] at h; cases h
    | ok x =>
     rw [he] at h
     simp only [Except.ok.injEq] at h
     subst h
     have hs := expr_weight f _ _ _ (hn.kid (getD_mem (by omega))) he he0
     have hj := joined_sum [[100, 101, 102], nm, joined ps, showE f x]
     simp only [List.map_cons, List.map_nil, List.sum_cons, List.sum_nil, List.length_cons, List.length_nil] at hj
     subst hnm
     show (joined [[100, 101, 102], (n.list.getD 1 n).text, joined ps, showE f x]).length + 1 ≤ _
     omega
theorem showProg_cons_data (f : Nat) (d : Data) (q : Prog) : (showProg f ⟨d :: q.datas, q.defs⟩).length = (showData f d).length + 1 + (showProg f q).length := by
 simp [showProg]; omega
theorem showProg_cons_def (f : Nat) (d : Def) (q : Prog) : (showProg f ⟨q.datas, d :: q.defs⟩).length = (showDef f d).length + 1 + (showProg f q).length := by
 simp [showProg]; omega
theorem prog_weight (stop : Nat) : ∀ (f c : Nat) (ts : List Lx.Tok) (q : Prog), (∀ t ∈ ts, TInt t) → prog stop f c ts = .ok q → (showProg 50 q).length ≤ tw ts := by
 intro f
 induction f with
 | zero => intro c ts q _ h; cases h; simp [showProg]
 | succ f ih =>
  intro c ts q hts h
  cases ts with
  | nil => rw [prog_nil] at h; cases h; simp [showProg]
  | cons t ts =>
   rw [prog_cons] at h
   cases hn : node stop (2 * (t :: ts).length + 2) 0 (t :: ts) with
   | error p => rw [hn] at h; cases h
   | ok x =>
    obtain ⟨n, ts1⟩ := x
    rw [hn] at h
    simp only at h
    obtain ⟨hna, hts1⟩ := (node_all TInt stop _ 0 (t :: ts) hts).1 _ _ hn
    obtain ⟨W, hW, hWt⟩ := (node_weight stop _ 0 (t :: ts)).1 _ _ hn
    by_cases h100 : c = 100
    · rw [if_pos h100] at h; cases h
    · rw [if_neg h100] at h
      by_cases k1 : word n = [100, 97, 116, 97]
      · rw [if_pos k1] at h
        cases hd : data 50 n with
        | error p => rw [hd] at h; cases h
        | ok d =>
         rw [hd] at h
         simp only at h
         cases hp : prog stop f (c + 1) ts1 with
         | error p => rw [hp] at h; cases h
         | ok q' =>
          rw [hp] at h
          simp only [Except.ok.injEq] at h
          subst h
          have e1 := ih _ _ _ hts1 hp
          have e2 := data_weight 50 n d W hd hW
          rw [showProg_cons_data]; omega
      · rw [if_neg k1] at h
        by_cases k2 : word n = [100, 101, 102]
        · rw [if_pos k2] at h
          cases hd : defn 50 n with
          | error p => rw [hd] at h; cases h
          | ok d =>
           rw [hd] at h
           simp only at h
           cases hp : prog stop f (c + 1) ts1 with
           | error p => rw [hp] at h; cases h
           | ok q' =>
            rw [hp] at h
            simp only [Except.ok.injEq] at h
            subst h
            have e1 := ih _ _ _ hts1 hp
            have e2 := defn_weight 50 n d W hna hd hW
            rw [showProg_cons_def]; omega
        · rw [if_neg k2] at h; cases h
/-- What is shown of a parsed program is bounded. -/
theorem program_weight (l : List UInt8) (q : Prog) (h : program l = .done q) : (showProg 50 q).length ≤ 102400 := by
 unfold program parsed at h
 by_cases hl : 4096 < l.length
 · rw [if_pos hl] at h; cases h
 · rw [if_neg hl] at h
   cases ht : Lx.toks (l.length + 1) 0 l with
   | mk ts o =>
    rw [ht] at h
    cases o with
    | some q' => cases h
    | none =>
     simp only at h
     cases hx : prog l.length (ts.length + 1) 0 ts with
     | error p => rw [hx] at h; cases h
     | ok q' =>
      rw [hx] at h
      simp only [Outcome.done.injEq] at h
      subst h
      have hi := toks_int (l.length + 1) 0 l
      have hw := toks_weight (l.length + 1) 0 l
      rw [ht] at hi hw
      simp only at hi hw
      have := prog_weight _ _ _ _ _ hi hx
      omega
end Px
end Go.Proofs.YtpkecbijhckllaaDoor
