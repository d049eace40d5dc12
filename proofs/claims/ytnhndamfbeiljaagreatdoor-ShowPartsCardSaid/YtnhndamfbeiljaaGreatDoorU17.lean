/-
  Several texts in one: PShW, PBack, WNm, WPure.
-/
import Derived.Test.YtnhndamfbeiljaaGreatDoorU00
import Derived.Test.YtnhndamfbeiljaaGreatDoorU16
import Derived.Test.YtnhndamfbeiljaaGreatDoorU15
import Derived.Lib.ItoaNum
set_option linter.unusedVariables false
set_option linter.unusedSimpArgs false
set_option maxHeartbeats 4000000
set_option maxRecDepth 100000
namespace Go.Proofs.YtnhndamfbeiljaaGreatDoor
open Go.Lib (hid)
open List renaming getElem_toArray → jPC, getElem_cons_succ → jPD, getElem_cons_zero → jPE, setIfInBounds_toArray → jPF, set_cons_zero → jPG, set_cons_succ → jPH
namespace Px
theorem NW.ge {n : Node} {W : Nat} (h : NW n W) : n.text.length + 24 <= W := by
 obtain ⟨ws, _, rfl⟩ := h.split; omega
theorem jKB {n : Node} {s : List UInt8} (h : name n = .ok s) : s = n.text := by
 unfold name at h; split at h
 . simp only [Except.ok.injEq] at h; exact h.symm
 . cases h
theorem jF8 {n : Node} {s : List UInt8} (h : jAT n = .ok s) : s = n.text := by
 unfold jAT at h; split at h
 . simp only [Except.ok.injEq] at h; exact h.symm
 . cases h
theorem All2.jJN {S : Node -> Nat -> Prop} {l : List Node} {ws : List Nat} (h : All2 S l ws) (hl : 1 <= l.length) (n : Node) : ∃ w, S (l.headD n) w /\ ws.sum = w + ws.tail.sum /\ All2 S l.tail ws.tail := by
 cases h with
 | nil => simp at hl
 | @cons a b l ws h1 h2 => exact ⟨b, h1, by simp, h2⟩
theorem All2.three {S : Node -> Nat -> Prop} {l : List Node} {ws : List Nat} (h : All2 S l ws) (hl : 3 <= l.length) (n : Node) : ∃ a b c, S (l.getD 0 n) a /\ S (l.getD 1 n) b /\ S (l.getD 2 n) c /\ ws.sum = a + b + c + (ws.drop 3).sum /\ All2 S (l.drop 3) (ws.drop 3) := by
 cases h with
 | nil => simp at hl
 | @cons x a l ws h1 h2 =>
   cases h2 with
   | nil => simp at hl
   | @cons y b l ws h2 h3 =>
     cases h3 with
     | nil => simp at hl
     | @cons z c l ws h3 h4 => exact ⟨a, b, c, h1, h2, h3, by simp; omega, by simpa using h4⟩
theorem All2.two {S : Node -> Nat -> Prop} {l : List Node} {ws : List Nat} (h : All2 S l ws) (hl : 2 <= l.length) (n : Node) : ∃ a b, S (l.headD n) a /\ S (l.getD 1 n) b /\ ws.sum = a + b + (ws.drop 2).sum /\ All2 S (l.drop 2) (ws.drop 2) := by
 cases h with
 | nil => simp at hl
 | @cons x a l ws h1 h2 =>
   cases h2 with
   | nil => simp at hl
   | @cons y b l ws h2 h3 => exact ⟨a, b, h1, h2, by simp; omega, by simpa using h3⟩
theorem jF3 {n : Node} {a W : Nat} {ns : List (List UInt8)} (h : names n a = .ok ns) (hw : NW n W) : (joined ns).length + 22 <= W := by
 unfold names at h; cases hq : nodes n a 8 with
 | error p => rw [hq] at h; cases h
 | ok l =>
   rw [hq] at h; simp only at h; obtain ⟨rfl, _⟩ := jA8 hq; obtain ⟨ws, h1, rfl⟩ := hw.split; have := jC3 (len := id) (fun m _ x W hx hW => by have := jKB hx; have := hW.ge; subst x; simp only [id]; omega) h h1; have hj := jBF ns; simp only [List.map_id] at this; omega
theorem jJR : ∀ (f : Nat) (n : Node) (t : TypeE) (W : Nat), jC f n = .ok t -> NW n W -> (jBE f t).length + 1 <= W := by
 intro f
 induction f with
 | zero => intro n t W h; cases h
 | succ f ih =>
   intro n t W h hw; have hge := hw.ge; rw [jC] at h; by_cases h1 : (jAZ n || jAS n) = true
   . rw [if_pos h1] at h; simp only [Except.ok.injEq] at h; subst h; rw [jBE, if_pos rfl]; omega
   . rw [if_neg h1] at h; cases hq : nodes n 2 9 with
     | error p => rw [hq] at h; cases h
     | ok l =>
       rw [hq] at h; simp only at h; obtain ⟨rfl, hl⟩ := jA8 hq; obtain ⟨ws, h2, rfl⟩ := hw.split; obtain ⟨w0, h3, h4, h5⟩ := h2.jJN (by omega) n; have h3g := h3.ge
       have key : ∀ nm : List UInt8, (if word n = [45, 62] then (match hold n 3 3 with | .error p => .error p | .ok _ => .ok ([45, 62] : List UInt8)) else jAT (n.list.headD n)) = .ok nm -> nm.length + 2 <= w0 := by
        intro nm hnm
        split at hnm
        . split at hnm
          . cases hnm
          . simp only [Except.ok.injEq] at hnm; subst hnm; simp only [List.length_cons, List.length_nil]; omega
        . have := jF8 hnm; subst this; omega
       revert h
       generalize (if word n = [45, 62] then (match hold n 3 3 with | .error p => .error p | .ok _ => .ok ([45, 62] : List UInt8)) else jAT (n.list.headD n)) = A at key ⊢; intro h; cases A with
       | error p => cases h
       | ok nm =>
         simp only at h; have hk := key nm rfl; cases he : each (jC f) n.list.tail with
         | error p => rw [he] at h; cases h
         | ok xs =>
           rw [he] at h; simp only [Except.ok.injEq] at h; subst h; have hs := jC3 (len := jBE f) (fun m _ x W hx hW => ih m x W hx hW) he h5; have hj := jBF (nm :: xs.map (jBE f)); simp only [List.map_cons, List.sum_cons] at hj; rw [jBE]
           split <;> omega
theorem jMN : ∀ (f : Nat) (n : Node) (t : Pat) (W : Nat), NodeAll TInt n -> pat f n = .ok t -> NW n W -> (jB1 f t).length + 1 <= W := by
 intro f
 induction f with
 | zero => intro n t W _ h; cases h
 | succ f ih =>
   intro n t W hn h hw; have hge := hw.ge; rw [pat] at h; by_cases h1 : jAJ n = true
   . rw [if_pos h1] at h; cases hq : nodes n 2 9 with
     | error p => rw [hq] at h; cases h
     | ok l =>
       rw [hq] at h; simp only at h; obtain ⟨rfl, hl⟩ := jA8 hq; obtain ⟨ws, h2, rfl⟩ := hw.split; obtain ⟨w0, h3, h4, h5⟩ := h2.jJN (by omega) n; have h3g := h3.ge; cases hc : jAT (n.list.headD n) with
       | error p => rw [hc] at h; cases h
       | ok nm =>
         rw [hc] at h; simp only at h; have hnm := jF8 hc; cases he : each (pat f) n.list.tail with
         | error p => rw [he] at h; cases h
         | ok xs =>
           rw [he] at h; simp only [Except.ok.injEq] at h; subst h; have hs := jC3 (len := jB1 f) (fun m hm x W hx hW => ih m x W (hn.kid (List.mem_of_mem_tail hm)) hx hW) he h5; have hj := jBF (nm :: xs.map (jB1 f)); simp only [List.map_cons, List.sum_cons] at hj; subst hnm; rw [jB1, if_neg (by decide), if_neg (by decide)]
           split <;> omega
   . rw [if_neg h1] at h; by_cases h2 : jBB n = true
     . rw [if_pos h2] at h; simp only [Except.ok.injEq] at h; subst h; have := jNM n.tok.int (hn.tok (by unfold jBB at h2; simpa using h2)); rw [jB1, if_neg (by decide), if_pos rfl]; omega
     . rw [if_neg h2] at h
       have fin : ∀ {k : Nat} {nm : List UInt8}, k ≠ 2 -> nm.length <= n.text.length -> (Except.ok (Pat.mk k n.pos nm 0 []) : R Pat) = .ok t -> (jB1 (f + 1) t).length + 1 <= W := by
        intro k nm hk hl e; simp only [Except.ok.injEq] at e; subst e; rw [jB1]
        split
        . simp only [List.length_cons, List.length_nil]; omega
        . first
           | (rw [if_neg hk, if_pos rfl]; omega)
           | (rw [if_pos rfl]; omega)
       repeat' split at h
       all_goals first | exact fin (by decide) (Nat.le_refl _) h | exact fin (by decide) (Nat.zero_le _) h | cases h
theorem zip_app (bs : List (List UInt8 × Expr)) (g : Expr -> List UInt8) (x : List UInt8) :
 (((bs.map (·.1)).zip ((bs.map (·.2)).map g ++ [x])).map fun p => joined [p.1, p.2]) = bs.map fun b => joined [b.1, g b.2] := by
 induction bs with
 | nil => rfl
 | cons b bs ih => simp only [List.map_cons, List.cons_append, List.zip_cons_cons, ih]
theorem jLT : ∀ (f : Nat) (n : Node) (t : Expr) (W : Nat), NodeAll TInt n -> expr f n = .ok t -> NW n W -> (jAE f t).length + 1 <= W := by
 intro f
 induction f with
 | zero => intro n t W _ h; cases h
 | succ f ih =>
   intro n t W hn h hw; have hge := hw.ge; have hgood := (jIF (f + 1) n t hn (fun _ _ => trivial) h).good; rw [expr] at h; by_cases h1 : jAJ n = true
   . rw [if_pos h1] at h; unfold listExpr at h; by_cases w1 : word n = [102, 110]
     . rw [if_pos w1] at h; unfold jCX at h; cases hq : nodes n 3 3 with
       | error q => rw [hq] at h; cases h
       | ok l =>
         rw [hq] at h; simp only at h; obtain ⟨rfl, hl⟩ := jA8 hq; obtain ⟨ws, h2, rfl⟩ := hw.split; obtain ⟨a, b, c, ha, hb, hc, hsum, _⟩ := h2.three (by omega) n; cases hns : names (n.list.getD 1 n) 1 with
         | error q => rw [hns] at h; cases h
         | ok ns =>
           rw [hns] at h; simp only at h; cases he : expr f (n.list.getD 2 n) with
           | error q => rw [he] at h; cases h
           | ok y =>
             rw [he] at h; simp only [Except.ok.injEq] at h; subst h; have e1 := jF3 hns hb; have e2 := ih _ _ _ (hn.kid (jBH (by omega))) he hc; rw [jCC f _ _ _ _ _ _ _ hgood, if_neg (by decide), if_neg (by decide), if_neg (by decide), if_neg (by decide), if_pos rfl]; have hj := jBF [[102, 110], joined ns, jAE f y]; simp only [List.map_cons, List.map_nil, List.sum_cons, List.sum_nil, List.length_cons, List.length_nil, List.headD_cons] at hj ⊢; omega
     . rw [if_neg w1] at h; by_cases w2 : word n = [108, 101, 116]
       . rw [if_pos w2] at h; unfold jBY at h; cases hq : nodes n 3 3 with
         | error q => rw [hq] at h; cases h
         | ok l =>
           rw [hq] at h; simp only at h; obtain ⟨rfl, hl⟩ := jA8 hq; obtain ⟨ws, h2, rfl⟩ := hw.split; obtain ⟨a, b, c, ha, hb, hc, hsum, _⟩ := h2.three (by omega) n; cases hps : nodes (n.list.getD 1 n) 1 8 with
           | error q => rw [hps] at h; cases h
           | ok ps =>
             rw [hps] at h; simp only at h; obtain ⟨hpe, hpl⟩ := jA8 hps; cases hbs : each (pair (expr f)) ps with
             | error q => rw [hbs] at h; cases h
             | ok bs =>
               rw [hbs] at h; simp only at h; cases he : expr f (n.list.getD 2 n) with
               | error q => rw [he] at h; cases h
               | ok y =>
                 rw [he] at h; simp only [Except.ok.injEq] at h; subst h; have e2 := ih _ _ _ (hn.kid (jBH (by omega))) he hc; obtain ⟨wb, hwb, rfl⟩ := hb.split; rw [<- hpe] at hwb
                 have e1 := jC3 (len := fun b : List UInt8 × Expr => joined [b.1, jAE f b.2]) (fun m hm x W hx hW => by
                  have hmn : NodeAll TInt m := (hn.kid (jBH (l := n.list) (k := 1) (n := n) (by omega))).kid (by rw [<- hpe]; exact hm); unfold pair at hx; cases hz2 : nodes m 2 2 with
                  | error q => rw [hz2] at hx; cases hx
                  | ok l2 =>
                    rw [hz2] at hx; simp only at hx; obtain ⟨rfl, h4⟩ := jA8 hz2; obtain ⟨ws2, h5, rfl⟩ := hW.split; obtain ⟨a2, b2, ha2, hb2, hs2, _⟩ := h5.two (by omega) m; cases hz3 : name (m.list.headD m) with
                    | error q => rw [hz3] at hx; cases hx
                    | ok s =>
                      rw [hz3] at hx; simp only at hx; cases hz4 : expr f (m.list.getD 1 m) with
                      | error q => rw [hz4] at hx; cases hx
                      | ok e =>
                        rw [hz4] at hx; simp only [Except.ok.injEq] at hx; subst hx; have hs := jKB hz3; have hg := ha2.ge; have e3 := ih _ _ _ (hmn.kid (jBH (by omega))) hz4 hb2; have hj := jBF [s, jAE f e]; simp only [List.map_cons, List.map_nil, List.sum_cons, List.sum_nil] at hj; subst hs; show (joined [(m.list.headD m).text, jAE f e]).length + 1 <= _
                        omega) hbs hwb
                 rw [jCC f _ _ _ _ _ _ _ hgood, if_neg (by decide), if_neg (by decide), if_neg (by decide), if_neg (by decide), if_neg (by decide), if_neg (by decide), if_neg (by decide), if_pos rfl]; have hz : ((bs.map (·.2) ++ [y]).map (jAE f)) = (bs.map (·.2)).map (jAE f) ++ [jAE f y] := by simp
                 rw [hz, zip_app]; have hlast : ((bs.map (·.2)).map (jAE f) ++ [jAE f y]).getLastD [] = jAE f y := by simp
                 rw [hlast]; have hj2 := jBF (bs.map fun b => joined [b.1, jAE f b.2]); have hj := jBF [[108, 101, 116], joined (bs.map fun b => joined [b.1, jAE f b.2]), jAE f y]; simp only [List.map_cons, List.map_nil, List.sum_cons, List.sum_nil, List.length_cons, List.length_nil] at hj ⊢; omega
       . rw [if_neg w2] at h; by_cases w3 : word n = [99, 97, 115, 101]
         . rw [if_pos w3] at h; unfold jBK at h; cases hq : nodes n 3 18 with
           | error q => rw [hq] at h; cases h
           | ok l =>
             rw [hq] at h; simp only at h; obtain ⟨rfl, hl⟩ := jA8 hq; obtain ⟨ws, h2, rfl⟩ := hw.split; obtain ⟨a, b, ha, hb, hsum, hrest⟩ := h2.two (by omega) n; cases he : expr f (n.list.getD 1 n) with
             | error q => rw [he] at h; cases h
             | ok y =>
               rw [he] at h; simp only at h; cases hbs : each (alt f (expr f)) (n.list.drop 2) with
               | error q => rw [hbs] at h; cases h
               | ok alts1 =>
                 rw [hbs] at h; simp only [Except.ok.injEq] at h; subst h; have e2 := ih _ _ _ (hn.kid (jBH (by omega))) he hb
                 have e1 := jC3 (len := fun b : Pat × Expr => joined [jB1 f b.1, jAE f b.2]) (fun m hm x W hx hW => by
                  have hmn : NodeAll TInt m := hn.kid (List.mem_of_mem_drop hm); unfold alt at hx; cases hz2 : nodes m 2 2 with
                  | error q => rw [hz2] at hx; cases hx
                  | ok l2 =>
                    rw [hz2] at hx; simp only at hx; obtain ⟨rfl, h4⟩ := jA8 hz2; obtain ⟨ws2, h5, rfl⟩ := hW.split; obtain ⟨a2, b2, ha2, hb2, hs2, _⟩ := h5.two (by omega) m; cases hz3 : pat f (m.list.headD m) with
                    | error q => rw [hz3] at hx; cases hx
                    | ok s =>
                      rw [hz3] at hx; simp only at hx; cases hz4 : expr f (m.list.getD 1 m) with
                      | error q => rw [hz4] at hx; cases hx
                      | ok e =>
                        rw [hz4] at hx; simp only [Except.ok.injEq] at hx; subst hx; have e3 := jMN f _ _ _ (hmn.kid (jH0 (by omega))) hz3 ha2; have e4 := ih _ _ _ (hmn.kid (jBH (by omega))) hz4 hb2; have hj := jBF [jB1 f s, jAE f e]; simp only [List.map_cons, List.map_nil, List.sum_cons, List.sum_nil] at hj; show (joined [jB1 f s, jAE f e]).length + 1 <= _
                        omega) hbs hrest
                 rw [jCC f _ _ _ _ _ _ _ hgood, if_neg (by decide), if_neg (by decide), if_neg (by decide), if_neg (by decide), if_neg (by decide), if_neg (by decide), if_neg (by decide), if_neg (by decide)]; have hj := jBF ([99, 97, 115, 101] :: jAE f y :: alts1.map fun b => joined [jB1 f b.1, jAE f b.2]); have hag := ha.ge; simp only [List.map_cons, List.map_nil, List.sum_cons, List.length_cons, List.length_nil, List.headD_cons] at hj ⊢; omega
         . rw [if_neg w3] at h; unfold jAW at h; cases hq : nodes n 2 9 with
           | error q => rw [hq] at h; cases h
           | ok l =>
             rw [hq] at h; simp only at h; obtain ⟨rfl, hl⟩ := jA8 hq; obtain ⟨ws, h2, rfl⟩ := hw.split; obtain ⟨w0, h3, h4, h5⟩ := h2.jJN (by omega) n; have h3g := h3.ge; by_cases ht : 0 < (n.list.headD n).takes
             . rw [if_pos ht] at h; cases hh : hold n (1 + (n.list.headD n).takes) (1 + (n.list.headD n).takes) with
               | error q => rw [hh] at h; cases h
               | ok u =>
                 rw [hh] at h; simp only at h; cases hb : each (expr f) n.list.tail with
                 | error q => rw [hb] at h; cases h
                 | ok xs =>
                   rw [hb] at h; simp only [Except.ok.injEq] at h; subst h; have hs := jC3 (len := jAE f) (fun m hm x W hx hW => ih m x W (hn.kid (List.mem_of_mem_tail hm)) hx hW) hb h5; have hj := jBF ((n.list.headD n).text :: xs.map (jAE f)); simp only [List.map_cons, List.sum_cons] at hj; rw [jCC f _ _ _ _ _ _ _ hgood, if_neg (by decide), if_neg (by decide), if_neg (by decide), if_pos rfl]; omega
             . rw [if_neg ht] at h; by_cases hcn : jAZ (n.list.headD n) = true
               . rw [if_pos hcn] at h; cases hb : each (expr f) n.list.tail with
                 | error q => rw [hb] at h; cases h
                 | ok xs =>
                   rw [hb] at h; simp only [Except.ok.injEq] at h; subst h; have hs := jC3 (len := jAE f) (fun m hm x W hx hW => ih m x W (hn.kid (List.mem_of_mem_tail hm)) hx hW) hb h5; have hj := jBF ((n.list.headD n).text :: xs.map (jAE f)); simp only [List.map_cons, List.sum_cons] at hj; rw [jCC f _ _ _ _ _ _ _ hgood, if_neg (by decide), if_neg (by decide), if_pos rfl]
                   split <;> omega
               . rw [if_neg hcn] at h; cases hb : each (expr f) n.list with
                 | error q => rw [hb] at h; cases h
                 | ok xs =>
                   rw [hb] at h; simp only [Except.ok.injEq] at h; subst h; have hs := jC3 (len := jAE f) (fun m hm x W hx hW => ih m x W (hn.kid hm) hx hW) hb h2; have hj := jBF (xs.map (jAE f)); rw [jCC f _ _ _ _ _ _ _ hgood, if_neg (by decide), if_neg (by decide), if_neg (by decide), if_neg (by decide), if_neg (by decide), if_pos rfl]; omega
   . rw [if_neg h1] at h; by_cases h2 : jBB n = true
     . rw [if_pos h2] at h; simp only [Except.ok.injEq] at h; subst h; have := jNM n.tok.int (hn.tok (by unfold jBB at h2; simpa using h2)); rw [jCC f _ _ _ _ _ _ _ hgood, if_pos rfl]; omega
     . rw [if_neg h2] at h; by_cases h3 : jAZ n = true
       . rw [if_pos h3] at h; simp only [Except.ok.injEq] at h; subst h; rw [jCC f _ _ _ _ _ _ _ hgood, if_neg (by decide), if_neg (by decide), if_pos rfl, if_pos (by rfl)]; omega
       . rw [if_neg h3] at h; by_cases h4 : jAS n = true
         . rw [if_pos h4] at h; simp only [Except.ok.injEq] at h; subst h; rw [jCC f _ _ _ _ _ _ _ hgood, if_neg (by decide), if_pos rfl]; omega
         . rw [if_neg h4] at h; cases h
theorem jN1 (f : Nat) (n : Node) (c : Con) (W : Nat) (h : con f n = .ok c) (hw : NW n W) : (jDT f c).length + 1 <= W := by
 unfold con at h; cases hq : nodes n 1 9 with
 | error q => rw [hq] at h; cases h
 | ok l =>
   rw [hq] at h; simp only at h; obtain ⟨rfl, hl⟩ := jA8 hq; obtain ⟨ws, h2, rfl⟩ := hw.split; obtain ⟨w0, h3, h4, h5⟩ := h2.jJN (by omega) n; have h3g := h3.ge; cases hc : jAT (n.list.headD n) with
   | error q => rw [hc] at h; cases h
   | ok nm =>
     rw [hc] at h; simp only at h; have hnm := jF8 hc; cases he : each (jC f) n.list.tail with
     | error q => rw [he] at h; cases h
     | ok xs =>
       rw [he] at h; simp only [Except.ok.injEq] at h; subst h; have hs := jC3 (len := jBE f) (fun m _ x W hx hW => jJR f m x W hx hW) he h5; have hj := jBF (nm :: xs.map (jBE f)); simp only [List.map_cons, List.sum_cons] at hj; subst hnm; show (joined ((n.list.headD n).text :: xs.map (jBE f))).length + 1 <= _; omega
theorem jLZ (f : Nat) (n : Node) (d : Data) (W : Nat) (h : data f n = .ok d) (hw : NW n W) : (jC5 f d).length + 1 <= W := by
 unfold data at h; cases hq : nodes n 4 103 with
 | error q => rw [hq] at h; cases h
 | ok l =>
   rw [hq] at h; simp only at h; obtain ⟨rfl, hl⟩ := jA8 hq; obtain ⟨ws, h2, rfl⟩ := hw.split; obtain ⟨a, b, c, ha, hb, hc, hsum, hrest⟩ := h2.three (by omega) n; have hbg := hb.ge; have hag := ha.ge
   cases hcn : jAT (n.list.getD 1 n) with
   | error q => rw [hcn] at h; cases h
   | ok nm =>
     rw [hcn] at h; simp only at h; have hnm := jF8 hcn; cases hps : names (n.list.getD 2 n) 0 with
     | error q => rw [hps] at h; cases h
     | ok ps =>
       rw [hps] at h; simp only at h; have hpw := jF3 hps hc; cases he : each (con f) (n.list.drop 3) with
       | error q => rw [he] at h; cases h
       | ok xs =>
         rw [he] at h; simp only [Except.ok.injEq] at h; subst h; have hs := jC3 (len := jDT f) (fun m _ x W hx hW => jN1 f m x W hx hW) he hrest; have hj := jBF ([100, 97, 116, 97] :: nm :: joined ps :: xs.map (jDT f)); simp only [List.map_cons, List.sum_cons, List.length_cons, List.length_nil] at hj; subst hnm; show (joined ([100, 97, 116, 97] :: (n.list.getD 1 n).text :: joined ps :: xs.map (jDT f))).length + 1 <= _; omega
theorem jLY (f : Nat) (n : Node) (d : Def) (W : Nat) (hn : NodeAll TInt n) (h : defn f n = .ok d) (hw : NW n W) : (jCL f d).length + 1 <= W := by
 unfold defn at h; cases hq : nodes n 4 4 with
 | error q => rw [hq] at h; cases h
 | ok l =>
   rw [hq] at h; simp only at h; obtain ⟨rfl, hl⟩ := jA8 hq; obtain ⟨ws, h2, rfl⟩ := hw.split; obtain ⟨a, b, c, ha, hb, hc, hsum, hrest⟩ := h2.three (by omega) n; have hbg := hb.ge; have hag := ha.ge
   obtain ⟨e, he0, hes, _⟩ := hrest.jJN (by rw [List.length_drop]; omega) n
   have hhd : (n.list.drop 3).headD n = n.list.getD 3 n := by
    rw [List.headD_eq_head?_getD, List.head?_drop, List.getD_eq_getElem?_getD]
   rw [hhd] at he0; cases hcn : name (n.list.getD 1 n) with
   | error q => rw [hcn] at h; cases h
   | ok nm =>
     rw [hcn] at h; simp only at h; have hnm := jKB hcn; cases hps : names (n.list.getD 2 n) 0 with
     | error q => rw [hps] at h; cases h
     | ok ps =>
       rw [hps] at h; simp only at h; have hpw := jF3 hps hc; cases he : expr f (n.list.getD 3 n) with
       | error q => rw [he] at h; cases h
       | ok x =>
         rw [he] at h; simp only [Except.ok.injEq] at h; subst h; have hs := jLT f _ _ _ (hn.kid (jBH (by omega))) he he0; have hj := jBF [[100, 101, 102], nm, joined ps, jAE f x]; simp only [List.map_cons, List.map_nil, List.sum_cons, List.sum_nil, List.length_cons, List.length_nil] at hj; subst hnm; show (joined [[100, 101, 102], (n.list.getD 1 n).text, joined ps, jAE f x]).length + 1 <= _; omega
theorem jG7 (f : Nat) (d : Data) (q : Prog) : (jC0 f ⟨d :: q.datas, q.defs⟩).length = (jC5 f d).length + 1 + (jC0 f q).length := by
 simp [jC0]; omega
theorem jGH (f : Nat) (d : Def) (q : Prog) : (jC0 f ⟨q.datas, d :: q.defs⟩).length = (jCL f d).length + 1 + (jC0 f q).length := by
 simp [jC0]; omega
theorem jL6 (stop : Nat) : ∀ (f c : Nat) (ts : List Lx.Tok) (q : Prog), (∀ t ∈ ts, TInt t) -> prog stop f c ts = .ok q -> (jC0 50 q).length <= tw ts := by
 intro f
 induction f with
 | zero => intro c ts q _ h; cases h; simp [jC0]
 | succ f ih =>
   intro c ts q hts h; cases ts with
   | nil => rw [jL7] at h; cases h; simp [jC0]
   | cons t ts =>
     rw [jJA] at h; cases hn : node stop (2 * (t :: ts).length + 2) 0 (t :: ts) with
     | error p => rw [hn] at h; cases h
     | ok x =>
       obtain ⟨n, ts1⟩ := x; rw [hn] at h; simp only at h; obtain ⟨hna, hts1⟩ := (jLF TInt stop _ 0 (t :: ts) hts).1 _ _ hn; obtain ⟨W, hW, hWt⟩ := (jLD stop _ 0 (t :: ts)).1 _ _ hn; by_cases h100 : c = 100
       . rw [if_pos h100] at h; cases h
       . rw [if_neg h100] at h; by_cases k1 : word n = [100, 97, 116, 97]
         . rw [if_pos k1] at h; cases hd : data 50 n with
           | error p => rw [hd] at h; cases h
           | ok d =>
             rw [hd] at h; simp only at h; cases hp : prog stop f (c + 1) ts1 with
             | error p => rw [hp] at h; cases h
             | ok q' =>
               rw [hp] at h; simp only [Except.ok.injEq] at h; subst h; have e1 := ih _ _ _ hts1 hp; have e2 := jLZ 50 n d W hd hW; rw [jG7]; omega
         . rw [if_neg k1] at h; by_cases k2 : word n = [100, 101, 102]
           . rw [if_pos k2] at h; cases hd : defn 50 n with
             | error p => rw [hd] at h; cases h
             | ok d =>
               rw [hd] at h; simp only at h; cases hp : prog stop f (c + 1) ts1 with
               | error p => rw [hp] at h; cases h
               | ok q' =>
                 rw [hp] at h; simp only [Except.ok.injEq] at h; subst h; have e1 := ih _ _ _ hts1 hp; have e2 := jLY 50 n d W hna hd hW; rw [jGH]; omega
           . rw [if_neg k2] at h; cases h
theorem jI0 (l : List UInt8) (q : Prog) (h : program l = .done q) : (jC0 50 q).length <= 102400 := by
 unfold program parsed at h; by_cases hl : 4096 < l.length
 . rw [if_pos hl] at h; cases h
 . rw [if_neg hl] at h; cases ht : Lx.toks (l.length + 1) 0 l with
   | mk ts o =>
     rw [ht] at h; cases o with
     | some q' => cases h
     | none =>
       simp only at h; cases hx : prog l.length (ts.length + 1) 0 ts with
       | error p => rw [hx] at h; cases h
       | ok q' =>
         rw [hx] at h; simp only [Outcome.done.injEq] at h; subst h; have hi := jKR (l.length + 1) 0 l; have hw := jKP (l.length + 1) 0 l; rw [ht] at hi hw; simp only at hi hw; have := jL6 _ _ _ _ _ hi hx; omega
end Px
namespace Px
open Lx (tk jD4)
structure TOk (t : Lx.Tok) : Prop where
 opn : t.kind = 0 -> t.text = [40]
 num : t.kind = 2 -> (-1000000000000000000 < t.int /\ t.int < 1000000000000000000) /\ Plain t.text
 word : t.kind ≠ 0 -> t.kind ≠ 1 -> t.kind ≠ 2 -> Lx.IsTok t.kind t.text
 zero : t.kind ≠ 2 -> t.int = 0
theorem jLL : Lx.IsTok 5 [45, 62] := by
 refine ⟨by simp, by decide, by decide, fun r hr => ?_⟩; rfl
theorem jNC {c : UInt8} {k : Nat} (h : c.toNat = k) (hk : k < 256) : c = UInt8.ofNat k := by
 apply UInt8.toNat_inj.1
 rw [h, UInt8.toNat_ofNat']; omega
theorem single5 (c : UInt8) (h : Lx.single c = 5) : Lx.IsTok 5 [c] := by
 have hc : c.toNat = 95 \/ c.toNat = 43 \/ c.toNat = 45 \/ c.toNat = 42 \/ c.toNat = 47 \/ c.toNat = 37 \/ c.toNat = 61 \/ c.toNat = 60 := by
  unfold Lx.single at h
  split at h
  . omega
  . split at h
    . omega
    . split at h
      . assumption
      . omega
 have key : ∀ k : Nat, k < 256 -> c.toNat = k -> (Lx.jCT (UInt8.ofNat k) = false /\ (UInt8.ofNat k).toNat ≠ 59 /\ Lx.jA9 (UInt8.ofNat k) = false /\ Lx.jCF (UInt8.ofNat k) = false /\ Lx.jCS (UInt8.ofNat k) = false /\ ¬ Lx.single (UInt8.ofNat k) < 0) -> Lx.IsTok 5 [c] := by
  intro k hk hck ⟨h1, h2, h3, h4, h5, h6⟩; have e := jNC hck hk; rw [<- e] at h1 h2 h3 h4 h5 h6; have := Lx.jKE c h1 h2 h3 h4 h5 h6; rw [h] at this; exact this
 rcases hc with e | e | e | e | e | e | e | e
 . exact key 95 (by omega) e (by decide)
 . exact key 43 (by omega) e (by decide)
 . exact key 45 (by omega) e (by decide)
 . exact key 42 (by omega) e (by decide)
 . exact key 47 (by omega) e (by decide)
 . exact key 37 (by omega) e (by decide)
 . exact key 61 (by omega) e (by decide)
 . exact key 60 (by omega) e (by decide)
theorem jKG {l : List UInt8} (h : 0 < l.length) : l = Lx.at0 l 0 :: l.drop 1 := by
 cases l with
 | nil => simp at h
 | cons c r => rfl
theorem way_ok {l : List UInt8} {k : Int} {n : Nat} (h : Lx.Way l k n) (hn : n ≠ 0) (p : Nat) : TOk (jD4 p k (l.take n)) := by
 have hint : k = 2 -> Lx.Way l 2 n := fun e => by rw [e] at h; exact h
 have hnum : k = 2 -> (-1000000000000000000 < (jD4 p k (l.take n)).int /\ (jD4 p k (l.take n)).int < 1000000000000000000) := by
  intro e; subst e; have hw := h; show -1000000000000000000 < (if (2 : Int) = 2 then Lx.numV (l.take n) else 0) /\ (if (2 : Int) = 2 then Lx.numV (l.take n) else 0) < 1000000000000000000; rw [if_pos rfl]; generalize hk : (2 : Int) = k' at hw
  have key : ∀ D : List UInt8, (∀ c ∈ D, Lx.jA9 c = true) -> D.length <= 18 -> (-1000000000000000000 < (Lx.natV D 0 : Int) /\ (Lx.natV D 0 : Int) < 1000000000000000000) /\ (-1000000000000000000 < -(Lx.natV D 0 : Int) /\ -(Lx.natV D 0 : Int) < 1000000000000000000) := by
   intro D h1 h2; have := jI4 D h1 h2; exact ⟨⟨by omega, by omega⟩, ⟨by omega, by omega⟩⟩
  cases hw with
  | arrow => omega
  | neg h1 h2 h3 h4 =>
    have e0 : Lx.at0 (l.take (1 + Lx.cnt Lx.jA9 (l.drop 1))) 0 = Lx.at0 l 0 := jEC _ _ _ (by omega); unfold Lx.numV; rw [e0, if_pos h1]; have hdr : (l.take (1 + Lx.cnt Lx.jA9 (l.drop 1))).drop 1 = (l.drop 1).take (Lx.cnt Lx.jA9 (l.drop 1)) := by rw [List.drop_take]; congr 1; omega
    rw [hdr]; exact (key _ (Lx.jDN Lx.jA9 (l.drop 1)) (by rw [List.length_take]; omega)).2
  | pos h1 h2 h3 =>
    have hpos : 0 < Lx.cnt Lx.jA9 l := by omega
    have e0 : Lx.at0 (l.take (Lx.cnt Lx.jA9 l)) 0 = Lx.at0 l 0 := jEC _ _ _ hpos; unfold Lx.numV; rw [e0, if_neg (Lx.jFC _ h1).2.2.1]; exact (key _ (Lx.jDN Lx.jA9 l) (by rw [List.length_take]; omega)).1
  | name => omega
  | con => omega
  | one h1 h2 => rcases Lx.jDI (Lx.at0 l 0) with e | e | e | e <;> omega
  | none => omega
 refine ⟨fun e => ?_, fun e => ⟨hnum e, jJ6 (hint e)⟩, fun e0 e1 e2 => ?_, fun e => if_neg e⟩
 . have e' : k = 0 := e; subst e'; have h40 := Lx.jKN h hn
   have hl : 0 < l.length := by
    cases l with
    | nil => exact absurd h40 (by decide)
    | cons c r => simp
   have hn1 : n = 1 := by
    generalize hk : (0 : Int) = k' at h; cases h with
    | arrow => omega
    | neg => omega
    | pos => omega
    | name => omega
    | con => omega
    | one => rfl
    | none => omega
   subst hn1; show l.take 1 = [40]; rw [jKG hl, List.take_succ_cons, List.take_zero]
   congr 1
   exact jNC (k := 40) h40 (by omega)
 . have e0' : k ≠ 0 := e0; have e1' : k ≠ 1 := e1; have e2' : k ≠ 2 := e2; show Lx.IsTok k (l.take n); have hw := h; cases hw with
   | arrow h1 h2 =>
     have hl : 1 < l.length := Lx.jF2 l 1 (fun c => c.toNat == 62) (by decide) (by simp [h2])
     have : l.take 2 = [45, 62] := by
      cases l with
      | nil => simp at hl
      | cons c r =>
        cases r with
        | nil => simp at hl
        | cons d r =>
          have hc : c = 45 := jNC (k := 45) h1 (by omega); have hd : d = 62 := jNC (k := 62) h2 (by omega); subst hc; subst hd; rfl
     rw [this]; exact jLL
   | neg => omega
   | pos => omega
   | name hs =>
     have hl : 0 < l.length := Lx.jF2 l 0 Lx.jCF (by decide) hs; rw [jKG hl, List.take_succ_cons]; exact Lx.jLJ _ _ hs (Lx.jDN Lx.jBQ (l.drop 1))
   | con hs =>
     have hl : 0 < l.length := Lx.jF2 l 0 Lx.jCS (by decide) hs; rw [jKG hl, List.take_succ_cons]; exact Lx.jLK _ _ hs (Lx.jDN Lx.jBQ (l.drop 1))
   | one hs _ =>
     have h5 : Lx.single (Lx.at0 l 0) = 5 := by rcases Lx.jDI (Lx.at0 l 0) with e | e | e | e <;> omega
     have hl : 0 < l.length := Lx.jF2 l 0 (fun c => decide (Lx.single c = 5)) (by decide) (by simp [h5])
     have : l.take 1 = [Lx.at0 l 0] := by
      cases l with
      | nil => simp at hl
      | cons c r => rfl
     rw [this, h5]; exact single5 _ h5
   | none => omega
theorem toks_ok : ∀ (f p : Nat) (l : List UInt8), ∀ t ∈ (Lx.toks f p l).1, TOk t := by
 intro f
 induction f with
 | zero => intro p l t h; simp [Lx.toks] at h
 | succ f ih =>
   intro p l t h; rw [Lx.jDD] at h; by_cases h1 : l.length <= Lx.skipC false l
   . rw [if_pos h1] at h; simp at h
   . rw [if_neg h1] at h; by_cases h2 : (Lx.jAL (l.drop (Lx.skipC false l))).2 = 0
     . rw [if_pos h2] at h; simp at h
     . rw [if_neg h2] at h
       rcases List.mem_cons.1 h with rfl | h
       . exact way_ok (Lx.way _) h2 _
       . exact ih _ _ t h
inductive NodeGood : Node -> Prop
 | leaf (t : Lx.Tok) : TOk t -> t.kind ≠ 0 -> t.kind ≠ 1 -> NodeGood (.mk t [] (jC7 t.text))
 | list (t : Lx.Tok) (l : List Node) : TOk t -> t.kind = 0 -> (∀ m ∈ l, NodeGood m) -> NodeGood (.mk t l 0)
theorem NodeGood.kid {n m : Node} (h : NodeGood n) (hm : m ∈ n.list) : NodeGood m := by
 cases h with
 | leaf t h1 h2 h3 => cases hm
 | list t l h1 h2 h3 => exact h3 m hm
theorem jOT (stop : Nat) : ∀ (f d : Nat) (ts : List Lx.Tok), (∀ t ∈ ts, TOk t) ->
 (∀ n ts', node stop f d ts = .ok (n, ts') -> NodeGood n /\ ∀ t ∈ ts', TOk t) /\ (∀ l ts', rest stop f d ts = .ok (l, ts') -> (∀ m ∈ l, NodeGood m) /\ ∀ t ∈ ts', TOk t) := by
 intro f
 induction f with
 | zero => intro d ts _; exact ⟨fun n ts' h => (by cases h), fun l ts' h => (by cases h)⟩
 | succ f ih =>
   intro d ts hp; cases ts with
   | nil => exact ⟨fun n ts' h => (by cases h), fun l ts' h => (by cases h)⟩
   | cons t ts =>
     have hpt := hp t (by simp); have hps : ∀ u ∈ ts, TOk u := fun u hu => hp u (by simp [hu])
     constructor
     . intro n ts' h; rw [node] at h; by_cases k1 : t.kind = 1
       . rw [if_pos k1] at h; cases h
       . rw [if_neg k1] at h; by_cases k0 : t.kind = 0
         . rw [if_pos k0] at h; by_cases hd : d = 40
           . rw [if_pos hd] at h; cases h
           . rw [if_neg hd] at h; cases hr : rest stop f (d + 1) ts with
             | error p => rw [hr] at h; cases h
             | ok x =>
               obtain ⟨l, ts1⟩ := x; rw [hr] at h; simp only [Except.ok.injEq, Prod.mk.injEq] at h; obtain ⟨rfl, rfl⟩ := h; obtain ⟨h1, h2⟩ := (ih (d + 1) ts hps).2 _ _ hr; exact ⟨.list _ _ hpt k0 h1, h2⟩
         . rw [if_neg k0] at h; simp only [Except.ok.injEq, Prod.mk.injEq] at h; obtain ⟨rfl, rfl⟩ := h; exact ⟨.leaf _ hpt k0 k1, hps⟩
     . intro l ts' h; rw [rest] at h; by_cases k1 : t.kind = 1
       . rw [if_pos k1] at h; simp only [Except.ok.injEq, Prod.mk.injEq] at h; obtain ⟨rfl, rfl⟩ := h; exact ⟨fun m hm => (by cases hm), hps⟩
       . rw [if_neg k1] at h; cases hn : node stop f d (t :: ts) with
         | error p => rw [hn] at h; cases h
         | ok x =>
           obtain ⟨n, ts1⟩ := x; rw [hn] at h; simp only at h; obtain ⟨h1, h2⟩ := (ih d (t :: ts) hp).1 _ _ hn; cases hr : rest stop f d ts1 with
           | error p => rw [hr] at h; cases h
           | ok y =>
             obtain ⟨l', ts2⟩ := y; rw [hr] at h; simp only [Except.ok.injEq, Prod.mk.injEq] at h; obtain ⟨rfl, rfl⟩ := h; obtain ⟨h3, h4⟩ := (ih d ts1 h2).2 _ _ hr; exact ⟨fun m hm => (List.mem_cons.1 hm).elim (fun e => e ▸ h1) (h3 m), h4⟩
theorem NodeGood.all {k : Nat} : ∀ {n : Node}, Fits k n -> NodeGood n -> NodeAll TInt n := by
 induction k with
 | zero =>
   intro n hf h; cases h with
   | leaf t h1 h2 h3 => exact .mk _ _ _ (fun e => ⟨by have := (h1.num e).1; omega, by have := (h1.num e).1; omega⟩) (fun m hm => by cases hm)
   | list t l h1 h2 h3 => exact .mk _ _ _ (fun e => by omega) (fun m hm => by rw [show l = [] from hf] at hm; cases hm)
 | succ k ih =>
   intro n hf h; cases h with
   | leaf t h1 h2 h3 => exact .mk _ _ _ (fun e => ⟨by have := (h1.num e).1; omega, by have := (h1.num e).1; omega⟩) (fun m hm => by cases hm)
   | list t l h1 h2 h3 => exact .mk _ _ _ (fun e => by omega) (fun m hm => ih (hf m hm) (h3 m hm))
inductive Canon : Node -> List UInt8 -> Prop
 | int (t : Lx.Tok) (k : Nat) : t.kind = 2 -> Canon (.mk t [] k) (Lib.itoa t.int)
 | leaf (t : Lx.Tok) (k : Nat) : t.kind ≠ 0 -> t.kind ≠ 2 -> Canon (.mk t [] k) t.text
 | list (t : Lx.Tok) (l : List Node) (ss : List (List UInt8)) (k : Nat) : t.kind = 0 -> All2 Canon l ss -> Canon (.mk t l k) (joined ss)
end Px
end Go.Proofs.YtnhndamfbeiljaaGreatDoor
namespace Go.Proofs.YtnhndamfbeiljaaGreatDoor
open Go Go.RowKit
open Go.Lib (hid)
open List renaming getElem_toArray → jPC, getElem_cons_succ → jPD, getElem_cons_zero → jPE, setIfInBounds_toArray → jPF, set_cons_zero → jPG, set_cons_succ → jPH
namespace Px
def nmT : Nat -> TypeE -> Prop
 | 0, _ => False
 | f + 1, .mk _ nm args => nm ≠ [] /\ ∀ t ∈ args, nmT f t
def nmP : Nat -> Pat -> Prop
 | 0, _ => False
 | f + 1, .mk k _ nm _ args => (k ≠ 0 -> k ≠ 2 -> nm ≠ []) /\ ∀ a ∈ args, nmP f a
def nmE : Nat -> Expr -> Prop
 | 0, _ => False
 | f + 1, .mk k _ nm _ ns xs al => (k = 1 \/ k = 2 \/ k = 7 -> nm ≠ []) /\ (∀ s ∈ ns, s ≠ []) /\ (∀ x ∈ xs, nmE f x) /\ (∀ a ∈ al, nmP f a.1 /\ nmE f a.2) /\ (k ≠ 5 -> al = [])
def nmC (c : Con) : Prop := c.name ≠ [] /\ ∀ t ∈ c.fields, nmT 50 t
def nmD (d : Data) : Prop := d.name ≠ [] /\ (∀ s ∈ d.params, s ≠ []) /\ ∀ c ∈ d.cons, nmC c
def nmF (d : Def) : Prop := d.name ≠ [] /\ (∀ s ∈ d.params, s ≠ []) /\ nmE 50 d.body
def nmProg (p : Prog) : Prop := (∀ d ∈ p.datas, nmD d) /\ ∀ d ∈ p.defs, nmF d
theorem jHG {n : Node} (hg : NodeGood n) (h0 : jAJ n = false) (h2 : n.tok.kind ≠ 2) : n.text ≠ [] := by
 cases hg with
 | leaf t ho h0' h1 =>
   have hw := ho.word h0' h1 h2; exact hw.ne
 | list t l ho h0' hl =>
   have hk : (Node.mk t l 0).tok.kind = 0 := h0'; unfold jAJ at h0; rw [hk] at h0; simp at h0
theorem takes_ne {n : Node} (hg : NodeGood n) (h : 0 < n.takes) : n.text ≠ [] := by
 cases hg with
 | leaf t ho h0 h1 =>
   intro e; have e' : t.text = [] := e; have h' : 0 < jC7 t.text := h; rw [e'] at h'; exact absurd h' (by decide)
 | list t l ho h0 hl => exact absurd h (by simp [Node.takes])
theorem jNL {n : Node} {k : Nat} (h : n.tok.kind = k) (hk : k ≠ 0) : jAJ n = false := by
 unfold jAJ; rw [h]; simpa using hk
theorem jHJ {n : Node} {s : List UInt8} (h : name n = .ok s) (hg : NodeGood n) : s ≠ [] := by
 unfold name at h
 split at h
 . rename_i hn; simp only [Except.ok.injEq] at h; subst h; unfold jAS at hn; simp only [Bool.and_eq_true, beq_iff_eq] at hn; have hk : n.tok.kind = 3 := hn.1.2; exact jHG hg (jNL hk (by decide)) (by omega)
 . cases h
theorem jN2 {n : Node} (hk : jAZ n = true) (hg : NodeGood n) : n.text ≠ [] := by
 unfold jAZ at hk; simp only [beq_iff_eq] at hk; exact jHG hg (jNL hk (by decide)) (by omega)
theorem jF7 {n : Node} {s : List UInt8} (h : jAT n = .ok s) (hg : NodeGood n) : s ≠ [] := by
 unfold jAT at h
 split at h
 . rename_i hn; simp only [Except.ok.injEq] at h; subst h; exact jN2 hn hg
 . cases h
theorem jDV {α : Type} {g : Node -> R α} {Q : α -> Prop} : ∀ {l : List Node} {xs : List α}, (∀ n ∈ l, ∀ x, g n = .ok x -> Q x) -> each g l = .ok xs -> ∀ x ∈ xs, Q x := by
 intro l
 induction l with
 | nil => intro xs _ h; simp only [each, Except.ok.injEq] at h; subst h; intro x hx; cases hx
 | cons n r ih =>
   intro xs hg h; simp only [each] at h; cases hf : g n with
   | error p => rw [hf] at h; cases h
   | ok y =>
     rw [hf] at h; cases hr : each g r with
     | error p => rw [hr] at h; cases h
     | ok ys =>
       rw [hr] at h; simp only [Except.ok.injEq] at h; subst h; intro x hx
       rcases List.mem_cons.1 hx with rfl | hx
       . exact hg n (by simp) _ hf
       . exact ih (fun m hm => hg m (by simp [hm])) hr x hx
theorem jDR {l : List Node} (h : 1 <= l.length) (n : Node) : l.headD n ∈ l := by
 cases l with
 | nil => simp at h
 | cons a r => simp
theorem jCB {l : List Node} {k : Nat} (h : k < l.length) (n : Node) : l.getD k n ∈ l := by
 rw [List.getD_eq_getElem?_getD, List.getElem?_eq_getElem h]; exact List.getElem_mem h
theorem typeE_nm : ∀ (f : Nat) (n : Node) (t : TypeE), jC f n = .ok t -> NodeGood n -> nmT f t := by
 intro f
 induction f with
 | zero => intro n t h; cases h
 | succ f ih =>
   intro n t h hg; rw [jC] at h; by_cases h1 : (jAZ n || jAS n) = true
   . rw [if_pos h1] at h; simp only [Except.ok.injEq] at h; subst h; rw [nmT]
     rcases Bool.or_eq_true _ _ ▸ h1 with hc | hn
     . exact ⟨jN2 hc hg, fun x hx => by cases hx⟩
     . exact ⟨jHJ (show name n = .ok n.text by unfold name; rw [if_pos hn]) hg, fun x hx => by cases hx⟩
   . rw [if_neg h1] at h; cases hq : nodes n 2 9 with
     | error p => rw [hq] at h; cases h
     | ok l =>
       rw [hq] at h; simp only at h; obtain ⟨rfl, hl⟩ := jA8 hq
       have fin : ∀ {nm : List UInt8}, nm ≠ [] -> (match each (jC f) n.list.tail with | .error p => (.error p : R TypeE) | .ok xs => .ok (.mk n.pos nm xs)) = .ok t -> nmT (f + 1) t := by
        intro nm hnm e; cases he : each (jC f) n.list.tail with
        | error p => rw [he] at e; cases e
        | ok xs =>
          rw [he] at e; simp only [Except.ok.injEq] at e; subst e; rw [nmT]; exact ⟨hnm, jDV (fun m hm x hx => ih m x hx (hg.kid (List.mem_of_mem_tail hm))) he⟩
       by_cases hA : word n = [45, 62]
       . simp only [if_pos hA] at h; cases hh : hold n 3 3 with
         | error p => rw [hh] at h; cases h
         | ok u =>
           rw [hh] at h; exact fin (by decide) h
       . simp only [if_neg hA] at h; cases hc : jAT (n.list.headD n) with
         | error p => rw [hc] at h; cases h
         | ok nm =>
           rw [hc] at h; exact fin (jF7 hc (hg.kid (jDR (by omega) n))) h
theorem pat_nm : ∀ (f : Nat) (n : Node) (t : Pat), pat f n = .ok t -> NodeGood n -> nmP f t := by
 intro f
 induction f with
 | zero => intro n t h; cases h
 | succ f ih =>
   intro n t h hg; rw [pat] at h; by_cases h1 : jAJ n = true
   . rw [if_pos h1] at h; cases hq : nodes n 2 9 with
     | error p => rw [hq] at h; cases h
     | ok l =>
       rw [hq] at h; simp only at h; obtain ⟨rfl, hl⟩ := jA8 hq; cases hc : jAT (n.list.headD n) with
       | error p => rw [hc] at h; cases h
       | ok nm =>
         rw [hc] at h; simp only at h; cases he : each (pat f) n.list.tail with
         | error p => rw [he] at h; cases h
         | ok xs =>
           rw [he] at h; simp only [Except.ok.injEq] at h; subst h; rw [nmP]; exact ⟨fun _ _ => jF7 hc (hg.kid (jDR (by omega) n)), jDV (fun m hm x hx => ih m x hx (hg.kid (List.mem_of_mem_tail hm))) he⟩
   . rw [if_neg h1] at h; have h1' : jAJ n = false := by simpa using h1
     by_cases h2 : jBB n = true
     . rw [if_pos h2] at h; simp only [Except.ok.injEq] at h; subst h; rw [nmP]; exact ⟨fun _ h => absurd rfl h, fun x hx => by cases hx⟩
     rw [if_neg h2] at h; have hne : n.text ≠ [] := jHG hg h1' (fun e => h2 (by unfold jBB; rw [e]; rfl))
     have fin : ∀ {k p : Nat} {nm : List UInt8} {i : Int}, (k ≠ 0 -> nm ≠ []) -> (Except.ok (Pat.mk k p nm i []) : R Pat) = .ok t -> nmP (f + 1) t := by
      intro k p nm i hn e; simp only [Except.ok.injEq] at e; subst e; rw [nmP]; exact ⟨fun h _ => hn h, fun x hx => by cases hx⟩
     repeat' split at h
     all_goals first | exact fin (fun _ => hne) h | exact fin (fun h => absurd rfl h) h | cases h
theorem jI5 {n : Node} {a : Nat} {ns : List (List UInt8)} (h : names n a = .ok ns) (hg : NodeGood n) : ∀ s ∈ ns, s ≠ [] := by
 unfold names at h; cases hq : nodes n a 8 with
 | error p => rw [hq] at h; cases h
 | ok l =>
   rw [hq] at h; simp only at h; obtain ⟨rfl, _⟩ := jA8 hq; exact jDV (fun m hm x hx => jHJ hx (hg.kid hm)) h
theorem expr_nm : ∀ (f : Nat) (n : Node) (t : Expr), expr f n = .ok t -> NodeGood n -> nmE f t := by
 intro f
 induction f with
 | zero => intro n t h; cases h
 | succ f ih =>
   intro n t h hg; rw [expr] at h; by_cases h1 : jAJ n = true
   . rw [if_pos h1] at h; unfold listExpr at h; by_cases w1 : word n = [102, 110]
     . rw [if_pos w1] at h; unfold jCX at h; cases hq : nodes n 3 3 with
       | error q => rw [hq] at h; cases h
       | ok l =>
         rw [hq] at h; simp only at h; obtain ⟨rfl, hl⟩ := jA8 hq; cases hns : names (n.list.getD 1 n) 1 with
         | error q => rw [hns] at h; cases h
         | ok ns =>
           rw [hns] at h; simp only at h; cases he : expr f (n.list.getD 2 n) with
           | error q => rw [he] at h; cases h
           | ok y =>
             rw [he] at h; simp only [Except.ok.injEq] at h; subst h; rw [nmE]; exact ⟨fun e => by omega, jI5 hns (hg.kid (jCB (by omega) n)), fun x hx => by simp at hx; subst hx; exact ih _ _ he (hg.kid (jCB (by omega) n)), (fun a ha => by cases ha), fun _ => rfl⟩
     . rw [if_neg w1] at h; by_cases w2 : word n = [108, 101, 116]
       . rw [if_pos w2] at h; unfold jBY at h; cases hq : nodes n 3 3 with
         | error q => rw [hq] at h; cases h
         | ok l =>
           rw [hq] at h; simp only at h; obtain ⟨rfl, hl⟩ := jA8 hq; cases hps : nodes (n.list.getD 1 n) 1 8 with
           | error q => rw [hps] at h; cases h
           | ok ps =>
             rw [hps] at h; simp only at h; have hg1 := hg.kid (jCB (k := 1) (by omega) n); obtain ⟨rfl, hl1⟩ := jA8 hps; cases hbs : each (pair (expr f)) (n.list.getD 1 n).list with
             | error q => rw [hbs] at h; cases h
             | ok bs =>
               rw [hbs] at h; simp only at h; cases he : expr f (n.list.getD 2 n) with
               | error q => rw [he] at h; cases h
               | ok y =>
                 rw [he] at h; simp only [Except.ok.injEq] at h; subst h
                 have hb := jDV (Q := fun b : List UInt8 × Expr => b.1 ≠ [] /\ nmE f b.2) (fun m hm x hx => by
                  unfold pair at hx; cases hz2 : nodes m 2 2 with
                  | error q => rw [hz2] at hx; cases hx
                  | ok l2 =>
                    rw [hz2] at hx; simp only at hx; obtain ⟨rfl, hl2⟩ := jA8 hz2; have hgm := hg1.kid hm; cases hz3 : name (m.list.headD m) with
                    | error q => rw [hz3] at hx; cases hx
                    | ok s =>
                      rw [hz3] at hx; simp only at hx; cases hz4 : expr f (m.list.getD 1 m) with
                      | error q => rw [hz4] at hx; cases hx
                      | ok e =>
                        rw [hz4] at hx; simp only [Except.ok.injEq] at hx; subst hx
                        exact ⟨jHJ hz3 (hgm.kid (jDR (by omega) m)), ih _ _ hz4 (hgm.kid (jCB (by omega) m))⟩) hbs
                 rw [nmE]; refine ⟨fun e => by omega, fun s hs => ?_, fun x hx => ?_, (fun a ha => by cases ha), fun _ => rfl⟩
                 . obtain ⟨b, h1, rfl⟩ := List.mem_map.1 hs; exact (hb b h1).1
                 rcases List.mem_append.1 hx with hx | hx
                 . obtain ⟨b, h1, rfl⟩ := List.mem_map.1 hx; exact (hb b h1).2
                 . simp at hx; subst hx; exact ih _ _ he (hg.kid (jCB (by omega) n))
       . rw [if_neg w2] at h; by_cases w3 : word n = [99, 97, 115, 101]
         . rw [if_pos w3] at h; unfold jBK at h; cases hq : nodes n 3 18 with
           | error q => rw [hq] at h; cases h
           | ok l =>
             rw [hq] at h; simp only at h; obtain ⟨rfl, hl⟩ := jA8 hq; cases he : expr f (n.list.getD 1 n) with
             | error q => rw [he] at h; cases h
             | ok y =>
               rw [he] at h; simp only at h; cases hbs : each (alt f (expr f)) (n.list.drop 2) with
               | error q => rw [hbs] at h; cases h
               | ok bs =>
                 rw [hbs] at h; simp only [Except.ok.injEq] at h; subst h
                 have hb := jDV (Q := fun b : Pat × Expr => nmP f b.1 /\ nmE f b.2) (fun m hm x hx => by
                  unfold alt at hx; cases hz2 : nodes m 2 2 with
                  | error q => rw [hz2] at hx; cases hx
                  | ok l2 =>
                    rw [hz2] at hx; simp only at hx; obtain ⟨rfl, hl2⟩ := jA8 hz2; have hgm := hg.kid (List.mem_of_mem_drop hm); cases hz3 : pat f (m.list.headD m) with
                    | error q => rw [hz3] at hx; cases hx
                    | ok s =>
                      rw [hz3] at hx; simp only at hx; cases hz4 : expr f (m.list.getD 1 m) with
                      | error q => rw [hz4] at hx; cases hx
                      | ok e =>
                        rw [hz4] at hx; simp only [Except.ok.injEq] at hx; subst hx
                        exact ⟨pat_nm _ _ _ hz3 (hgm.kid (jDR (by omega) m)), ih _ _ hz4 (hgm.kid (jCB (by omega) m))⟩) hbs
                 rw [nmE]; exact ⟨fun e => by omega, fun s hs => (by cases hs), fun x hx => by simp at hx; subst hx; exact ih _ _ he (hg.kid (jCB (by omega) n)), hb, fun h => absurd rfl h⟩
         . rw [if_neg w3] at h; unfold jAW at h; cases hq : nodes n 2 9 with
           | error q => rw [hq] at h; cases h
           | ok l =>
             rw [hq] at h; simp only at h; obtain ⟨rfl, hl⟩ := jA8 hq; have hhd := jDR (show 1 <= n.list.length by omega) n
             have fin : ∀ {k p : Nat} {nm : List UInt8} {l : List Node}, (k = 1 \/ k = 2 \/ k = 7 -> nm ≠ []) -> (∀ m ∈ l, m ∈ n.list) -> (match each (expr f) l with | .error p => (.error p : R Expr) | .ok xs => .ok (.mk k p nm 0 [] xs [])) = .ok t -> nmE (f + 1) t := by
              intro k p nm l hn hl e; cases he : each (expr f) l with
              | error q => rw [he] at e; cases e
              | ok xs =>
                rw [he] at e; simp only [Except.ok.injEq] at e; subst e; rw [nmE]; exact ⟨hn, (fun s hs => by cases hs), jDV (fun m hm x hx => ih m x hx (hg.kid (hl m hm))) he, (fun a ha => by cases ha), fun _ => rfl⟩
             by_cases t1 : 0 < (n.list.headD n).takes
             . rw [if_pos t1] at h; have hne := takes_ne (hg.kid hhd) t1
               split at h
               . cases h
               . exact fin (fun _ => hne) (fun m hm => List.mem_of_mem_tail hm) h
             . rw [if_neg t1] at h; by_cases t2 : jAZ (n.list.headD n) = true
               . rw [if_pos t2] at h; exact fin (fun _ => jN2 t2 (hg.kid hhd)) (fun m hm => List.mem_of_mem_tail hm) h
               . rw [if_neg t2] at h; exact fin (fun e => by omega) (fun m hm => hm) h
   . rw [if_neg h1] at h; have h1' : jAJ n = false := by simpa using h1
     by_cases h2 : jBB n = true
     . rw [if_pos h2] at h; simp only [Except.ok.injEq] at h; subst h; rw [nmE]; exact ⟨fun e => by omega, (fun s hs => by cases hs), (fun x hx => by cases hx), (fun a ha => by cases ha), fun _ => rfl⟩
     rw [if_neg h2] at h; have hne : n.text ≠ [] := jHG hg h1' (fun e => h2 (by unfold jBB; rw [e]; rfl))
     have fin : ∀ {k p : Nat} {i : Int}, (Except.ok (Expr.mk k p n.text i [] [] []) : R Expr) = .ok t -> nmE (f + 1) t := by
      intro k p i e; simp only [Except.ok.injEq] at e; subst e; rw [nmE]; exact ⟨fun _ => hne, (fun s hs => by cases hs), (fun x hx => by cases hx), (fun a ha => by cases ha), fun _ => rfl⟩
     repeat' split at h
     all_goals first | exact fin h | cases h
theorem con_nm (n : Node) (c : Con) (h : con 50 n = .ok c) (hg : NodeGood n) : nmC c := by
 unfold con at h; cases hq : nodes n 1 9 with
 | error p => rw [hq] at h; cases h
 | ok l =>
   rw [hq] at h; simp only at h; obtain ⟨rfl, hl⟩ := jA8 hq; cases hc : jAT (n.list.headD n) with
   | error p => rw [hc] at h; cases h
   | ok nm =>
     rw [hc] at h; simp only at h; cases he : each (jC 50) n.list.tail with
     | error p => rw [he] at h; cases h
     | ok xs =>
       rw [he] at h; simp only [Except.ok.injEq] at h; subst h; exact ⟨jF7 hc (hg.kid (jDR (by omega) n)), jDV (fun m hm x hx => typeE_nm 50 m x hx (hg.kid (List.mem_of_mem_tail hm))) he⟩
theorem data_nm (n : Node) (c : Data) (h : data 50 n = .ok c) (hg : NodeGood n) : nmD c := by
 unfold data at h; cases hq : nodes n 4 103 with
 | error p => rw [hq] at h; cases h
 | ok l =>
   rw [hq] at h; simp only at h; obtain ⟨rfl, hl⟩ := jA8 hq; cases hc : jAT (n.list.getD 1 n) with
   | error p => rw [hc] at h; cases h
   | ok nm =>
     rw [hc] at h; simp only at h; cases hns : names (n.list.getD 2 n) 0 with
     | error q => rw [hns] at h; cases h
     | ok ps =>
       rw [hns] at h; simp only at h; cases he : each (con 50) (n.list.drop 3) with
       | error p => rw [he] at h; cases h
       | ok xs =>
         rw [he] at h; simp only [Except.ok.injEq] at h; subst h; exact ⟨jF7 hc (hg.kid (jCB (by omega) n)), jI5 hns (hg.kid (jCB (by omega) n)), jDV (fun m hm x hx => con_nm m x hx (hg.kid (List.mem_of_mem_drop hm))) he⟩
theorem defn_nm (n : Node) (c : Def) (h : defn 50 n = .ok c) (hg : NodeGood n) : nmF c := by
 unfold defn at h; cases hq : nodes n 4 4 with
 | error p => rw [hq] at h; cases h
 | ok l =>
   rw [hq] at h; simp only at h; obtain ⟨rfl, hl⟩ := jA8 hq; cases hc : name (n.list.getD 1 n) with
   | error p => rw [hc] at h; cases h
   | ok nm =>
     rw [hc] at h; simp only at h; cases hns : names (n.list.getD 2 n) 0 with
     | error q => rw [hns] at h; cases h
     | ok ps =>
       rw [hns] at h; simp only at h; cases he : expr 50 (n.list.getD 3 n) with
       | error p => rw [he] at h; cases h
       | ok x =>
         rw [he] at h; simp only [Except.ok.injEq] at h; subst h; exact ⟨jHJ hc (hg.kid (jCB (by omega) n)), jI5 hns (hg.kid (jCB (by omega) n)), expr_nm _ _ _ he (hg.kid (jCB (by omega) n))⟩
theorem prog_nm (stop : Nat) : ∀ (f c : Nat) (ts : List Lx.Tok) (p : Prog), (∀ t ∈ ts, TOk t) -> prog stop f c ts = .ok p -> nmProg p := by
 intro f
 induction f with
 | zero => intro c ts p _ h; simp only [prog, Except.ok.injEq] at h; subst h; exact ⟨(fun d hd => by cases hd), (fun d hd => by cases hd)⟩
 | succ f ih =>
   intro c ts p ht h; cases ts with
   | nil => simp only [prog, Except.ok.injEq] at h; subst h; exact ⟨(fun d hd => by cases hd), (fun d hd => by cases hd)⟩
   | cons t ts =>
     rw [prog] at h
     . cases hn : node stop (2 * (t :: ts).length + 2) 0 (t :: ts) with
       | error q => rw [hn] at h; cases h
       | ok y =>
         obtain ⟨n, ts'⟩ := y; rw [hn] at h; simp only at h; obtain ⟨h1, h2⟩ := (jOT stop (2 * (t :: ts).length + 2) 0 (t :: ts) ht).1 n ts' hn; by_cases hc : c = 100
         . rw [if_pos hc] at h; cases h
         rw [if_neg hc] at h; by_cases hw1 : word n = [100, 97, 116, 97]
         . rw [if_pos hw1] at h; cases hd : data 50 n with
           | error q => rw [hd] at h; cases h
           | ok d =>
             rw [hd] at h; simp only at h; cases hr : prog stop f (c + 1) ts' with
             | error q => rw [hr] at h; cases h
             | ok q =>
               rw [hr] at h; simp only [Except.ok.injEq] at h; subst h; have e1 := ih _ _ _ h2 hr; have e2 := data_nm _ _ hd h1; exact ⟨fun x hx => by rcases List.mem_cons.1 hx with rfl | hx; exact e2; exact e1.1 x hx, e1.2⟩
         . rw [if_neg hw1] at h; by_cases hw2 : word n = [100, 101, 102]
           . rw [if_pos hw2] at h; cases hd : defn 50 n with
             | error q => rw [hd] at h; cases h
             | ok d =>
               rw [hd] at h; simp only at h; cases hr : prog stop f (c + 1) ts' with
               | error q => rw [hr] at h; cases h
               | ok q =>
                 rw [hr] at h; simp only [Except.ok.injEq] at h; subst h; have e1 := ih _ _ _ h2 hr; have e2 := defn_nm _ _ hd h1; exact ⟨e1.1, fun x hx => by rcases List.mem_cons.1 hx with rfl | hx; exact e2; exact e1.2 x hx⟩
           . rw [if_neg hw2] at h; cases h
     . simp
theorem jMK (l : List UInt8) (p : Prog) (h : program l = .done p) : nmProg p := by
 unfold program parsed at h; by_cases h0 : 4096 < l.length
 . rw [if_pos h0] at h; cases h
 rw [if_neg h0] at h; have hw := toks_ok (l.length + 1) 0 l; cases ht : Lx.toks (l.length + 1) 0 l with
 | mk ts r =>
   rw [ht] at h hw; cases r with
   | some q => cases h
   | none =>
     simp only at h hw; cases hn : prog l.length (ts.length + 1) 0 ts with
     | error q => rw [hn] at h; cases h
     | ok y =>
       rw [hn] at h; simp only [Outcome.done.injEq] at h; subst h; exact prog_nm _ _ _ _ _ hw hn
end Px
namespace Sw
inductive Tr where
 | mk (name : List UInt8) (int re im : Int) (args : List Tr)
inductive Nd where
 | blank
 | fin
 | word (s : List UInt8)
 | typ (f : Nat) (t : Px.TypeE)
 | pat (f : Nat) (p : Px.Pat)
 | expr (f : Nat) (x : Px.Expr)
 | alt (f : Nat) (a : Px.Pat × Px.Expr)
 | pair (f : Nat) (b : List UInt8 × Px.Expr)
 | names (l : List (List UInt8))
 | pairs (f : Nat) (l : List (List UInt8 × Px.Expr))
 | con (f : Nat) (c : Px.Con)
 | data (f : Nat) (d : Px.Data)
 | defn (f : Nat) (d : Px.Def)
 | tree (f : Nat) (t : Tr)
def jBS : List Nd -> List Nd
 | [] => [.fin]
 | x :: r => x :: ((r.flatMap fun y => [.blank, y]) ++ [.fin])
def wd (s : List UInt8) : List UInt8 := if s = [] then [63] else s
def named (nm : List UInt8) (l : List Nd) : List UInt8 × List Nd := if l = [] then (wd nm, []) else ([40], jBS (.word nm :: l))
def jBV (ns : List (List UInt8)) (xs : List Px.Expr) : List (List UInt8 × Px.Expr) := ns.zip xs
def jEQ (ns : List (List UInt8)) (xs : List Px.Expr) : Nat := min ns.length xs.length
def step : Nd -> List UInt8 × List Nd
 | .blank => ([32], [])
 | .fin => ([41], [])
 | .word s => (wd s, [])
 | .typ 0 _ => ([63], [])
 | .typ (f + 1) (.mk _ nm args) => named nm (args.map (.typ f))
 | .pat 0 _ => ([63], [])
 | .pat (f + 1) (.mk k _ nm i args) => if k = 0 then ([95], []) else if k = 2 then (Lib.itoa i, []) else named nm (args.map (.pat f))
 | .expr 0 _ => ([63], [])
 | .expr (f + 1) (.mk k _ nm i ns xs al) =>
   if k = 0 then (Lib.itoa i, [])
   else if k = 3 then ([40], jBS (.word [102, 110] :: .names ns :: xs.map (.expr f)))
   else if k = 4 then ([40], jBS (.word [108, 101, 116] :: .pairs f (jBV ns xs) :: (xs.drop (jEQ ns xs)).map (.expr f)))
   else if k = 5 then ([40], jBS (.word [99, 97, 115, 101] :: (xs.map (.expr f) ++ al.map (.alt f))))
   else if k = 6 then ([40], jBS (xs.map (.expr f)))
   else if k = 8 then ([102, 97, 105, 108], [])
   else named nm (xs.map (.expr f))
 | .alt f a => ([40], jBS [.pat f a.1, .expr f a.2])
 | .pair f b => ([40], jBS [.word b.1, .expr f b.2])
 | .names l => ([40], jBS (l.map .word))
 | .pairs f l => ([40], jBS (l.map (.pair f)))
 | .con f c => ([40], jBS (.word c.name :: c.fields.map (.typ f)))
 | .data f d => ([40], jBS (.word [100, 97, 116, 97] :: .word d.name :: .names d.params :: d.cons.map (.con f)))
 | .defn f d => ([40], jBS [.word [100, 101, 102], .word d.name, .names d.params, .expr f d.body])
 | .tree 0 _ => ([63], [])
 | .tree (f + 1) (.mk nm i re im args) => if nm = [] then (Lib.itoa i, []) else if nm = [99, 112, 120] then ([40], jBS [.word [99, 112, 120], .word (Lib.itoa re), .word (Lib.itoa im)]) else named nm (args.map (.tree f))
inductive Run : List Nd -> List UInt8 -> Nat -> Prop
 | nil : Run [] [] 0
 | cons {n : Nd} {r : List Nd} {T : List UInt8} {k : Nat} (h : Run ((step n).2 ++ r) T k) : Run (n :: r) ((step n).1 ++ T) (k + 1)
theorem Run.app {a b : List Nd} {T U : List UInt8} {k j : Nat} (h : Run a T k) (g : Run b U j) : Run (a ++ b) (T ++ U) (k + j) := by
 induction h with
 | nil => simpa using g
 | cons h ih =>
   rw [List.append_assoc, List.cons_append, show ∀ x y : Nat, x + 1 + y = x + y + 1 by omega]; refine Run.cons ?_; rw [<- List.append_assoc]; exact ih
theorem Run.one {n : Nd} {T : List UInt8} {k : Nat} (h : Run (step n).2 T k) : Run [n] ((step n).1 ++ T) (k + 1) := Run.cons (by simpa using h)
theorem wd_ne (s : List UInt8) : wd s ≠ [] := by unfold wd; split <;> simp_all
theorem jGM (nm : List UInt8) (l : List Nd) : (named nm l).1 ≠ [] := by
 unfold named; split
 . exact wd_ne nm
 . simp
theorem jKD (n : Int) : Lib.itoa n ≠ [] := by
 unfold Lib.itoa
 split
 . simp
 . rw [Lib.decDigits]; split <;> simp
theorem step_ne : ∀ n : Nd, (step n).1 ≠ [] := by
 intro n; cases n with
 | blank => simp [step]
 | fin => simp [step]
 | word s => exact wd_ne s
 | typ f t =>
   cases f with
   | zero => simp [step]
   | succ f => obtain ⟨p, nm, args⟩ := t; exact jGM _ _
 | pat f t =>
   cases f with
   | zero => simp [step]
   | succ f =>
     obtain ⟨k, p, nm, i, args⟩ := t; simp only [step]
     split
     . simp
     split
     . exact jKD i
     . exact jGM _ _
 | expr f t =>
   cases f with
   | zero => simp [step]
   | succ f =>
     obtain ⟨k, p, nm, i, ns, xs, al⟩ := t; simp only [step]
     split
     . exact jKD i
     split
     . simp
     split
     . simp
     split
     . simp
     split
     . simp
     split
     . simp
     . exact jGM _ _
 | alt f a => simp [step]
 | pair f b => simp [step]
 | names l => simp [step]
 | pairs f l => simp [step]
 | con f c => simp [step]
 | data f d => simp [step]
 | defn f d => simp [step]
 | tree f t =>
   cases f with
   | zero => simp [step]
   | succ f =>
     obtain ⟨nm, i, re, im, args⟩ := t; simp only [step]
     split
     . exact jKD i
     split
     . simp
     . exact jGM _ _
theorem Run.len {l : List Nd} {T : List UInt8} {k : Nat} (h : Run l T k) : l.length <= T.length := by
 induction h with
 | nil => simp
 | @cons n r T k h ih =>
   have := List.length_pos_iff.2 (step_ne n); simp only [List.length_append, List.length_cons] at ih ⊢; omega
def jCZ : List Nd -> List (List UInt8) -> Prop
 | [], [] => True
 | n :: r, t :: ts => (∃ k, Run [n] t k) /\ jCZ r ts
 | _, _ => False
theorem jCZ.map {α : Type} (g : α -> Nd) (t : α -> List UInt8) : ∀ l : List α, (∀ x ∈ l, ∃ k, Run [g x] (t x) k) -> jCZ (l.map g) (l.map t)
 | [], _ => trivial
 | x :: r, h => ⟨h x (by simp), jCZ.map g t r fun y hy => h y (by simp [hy])⟩
theorem jCZ.app : ∀ {a b : List Nd} {s t : List (List UInt8)}, jCZ a s -> jCZ b t -> jCZ (a ++ b) (s ++ t)
 | [], _, [], _, _, h => h
 | _ :: _, _, _ :: _, _, h, g => ⟨h.1, jCZ.app h.2 g⟩
 | [], _, _ :: _, _, h, _ => h.elim
 | _ :: _, _, [], _, h, _ => h.elim
theorem jOC : ∃ k, Run [Nd.blank] [32] k := ⟨1, by simpa [step] using Run.one (n := .blank) (T := []) (k := 0) Run.nil⟩
theorem jNG : ∃ k, Run [Nd.fin] [41] k := ⟨1, by simpa [step] using Run.one (n := .fin) (T := []) (k := 0) Run.nil⟩
theorem jCI (s : List UInt8) (h : s ≠ []) : ∃ k, Run [Nd.word s] s k := ⟨1, by simpa [step, wd, h] using Run.one (n := .word s) (T := []) (k := 0) Run.nil⟩
theorem jL0 : ∀ {r : List Nd} {ts : List (List UInt8)}, jCZ r ts -> ∃ k, Run ((r.flatMap fun y => [Nd.blank, y]) ++ [.fin]) ((ts.flatMap fun y => 32 :: y) ++ [41]) k
 | [], [], _ => jNG
 | y :: r, t :: ts, h => by
   obtain ⟨k1, h1⟩ := jOC; obtain ⟨k2, h2⟩ := h.1; obtain ⟨k3, h3⟩ := jL0 h.2; exact ⟨_, by simpa using h1.app (h2.app h3)⟩
 | [], _ :: _, h => h.elim
 | _ :: _, [], h => h.elim
theorem jOB {l : List Nd} {ts : List (List UInt8)} (h : jCZ l ts) : ∃ k, Run (jBS l) (glue ts ++ [41]) k := by
 cases l with
 | nil =>
   cases ts with
   | nil => exact jNG
   | cons _ _ => exact h.elim
 | cons x r =>
   cases ts with
   | nil => exact h.elim
   | cons t ts =>
     obtain ⟨k1, h1⟩ := h.1; obtain ⟨k2, h2⟩ := jL0 h.2; exact ⟨_, by simpa [jBS, glue] using h1.app h2⟩
theorem jBI {n : Nd} {l : List Nd} {ts : List (List UInt8)} (hs : step n = ([40], jBS l)) (h : jCZ l ts) : ∃ k, Run [n] (joined ts) k := by
 obtain ⟨k, hk⟩ := jOB h; have := Run.one (n := n) (T := glue ts ++ [41]) (k := k) (by rw [hs]; exact hk); rw [hs] at this; exact ⟨_, by simpa [joined] using this⟩
theorem run_text {n : Nd} {t : List UInt8} (hs : step n = (t, [])) : ∃ k, Run [n] t k := by
 have := Run.one (n := n) (T := []) (k := 0) (by rw [hs]; exact Run.nil); rw [hs] at this; exact ⟨_, by simpa using this⟩
theorem jE2 {n : Nd} {nm : List UInt8} {l : List Nd} {ts : List (List UInt8)} (hn : nm ≠ []) (hs : step n = named nm l) (h : jCZ l ts) : ∃ k, Run [n] (if ts = [] then nm else joined (nm :: ts)) k := by
 cases l with
 | nil =>
   cases ts with
   | nil => rw [if_pos rfl]; exact run_text (by rw [hs]; simp [named, wd, hn])
   | cons _ _ => exact h.elim
 | cons x r =>
   cases ts with
   | nil => exact h.elim
   | cons t ts =>
     rw [if_neg (by simp)]; exact jBI (l := .word nm :: x :: r) (by rw [hs]; simp [named]) ⟨jCI nm hn, h⟩
end Sw
end Go.Proofs.YtnhndamfbeiljaaGreatDoor
