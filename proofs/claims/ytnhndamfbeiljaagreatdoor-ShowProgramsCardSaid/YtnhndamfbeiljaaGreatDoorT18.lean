/-
  Several texts in one: PShW, PBack, WNm.
-/
import Derived.Test.YtnhndamfbeiljaaGreatDoorT00
import Derived.Test.YtnhndamfbeiljaaGreatDoorT17
set_option linter.unusedVariables false
set_option linter.unusedSimpArgs false
set_option maxHeartbeats 4000000
set_option maxRecDepth 100000
namespace Go.Proofs.YtnhndamfbeiljaaGreatDoor
open Go.Lib (hid)
open List renaming getElem_toArray → jR, getElem_cons_succ → jR0, getElem_cons_zero → jR1, setIfInBounds_toArray → jR2, set_cons_zero → jR3, set_cons_succ → jR4
namespace Px
theorem NW.ge {n : Node} {W : Nat} (h : NW n W) : n.text.length + 24 <= W := by
 obtain ⟨ws, _, rfl⟩ := h.split; omega
theorem jI1 {n : Node} {s : List UInt8} (h : name n = .ok s) : s = n.text := by
 unfold name at h; split at h
 . simp only [Except.ok.injEq] at h; exact h.symm
 . cases h
theorem jEJ {n : Node} {s : List UInt8} (h : jAJ n = .ok s) : s = n.text := by
 unfold jAJ at h; split at h
 . simp only [Except.ok.injEq] at h; exact h.symm
 . cases h
theorem All2.jKM {S : Node -> Nat -> Prop} {l : List Node} {ws : List Nat} (h : All2 S l ws) (hl : 1 <= l.length) (n : Node) : ∃ w, S (l.headD n) w /\ ws.sum = w + ws.tail.sum /\ All2 S l.tail ws.tail := by
 cases h with
 | nil => simp at hl
 | @cons a b l ws h1 h2 => exact ⟨b, h1, by simp, h2⟩
theorem All2.three {S : Node -> Nat -> Prop} {l : List Node} {ws : List Nat} (h : All2 S l ws) (hl : 3 <= l.length) (n : Node) : ∃ a b c, S (l.getD 0 n) a /\ S (l.getD 1 n) b /\ S (l.getD 2 n) c /\ ws.sum = a + b + c + (ws.drop 3).sum /\ All2 S (l.drop 3) (ws.drop 3) := by
 cases h with
 | nil => simp at hl
 | @cons x a l ws h1 h2 =>
   cases h2 with
   | nil => simp at hl
   | @cons y b l ws h2 h3 =>
     cases h3 with
     | nil => simp at hl
     | @cons z c l ws h3 h4 => exact ⟨a, b, c, h1, h2, h3, by simp; omega, by simpa using h4⟩
theorem All2.two {S : Node -> Nat -> Prop} {l : List Node} {ws : List Nat} (h : All2 S l ws) (hl : 2 <= l.length) (n : Node) : ∃ a b, S (l.headD n) a /\ S (l.getD 1 n) b /\ ws.sum = a + b + (ws.drop 2).sum /\ All2 S (l.drop 2) (ws.drop 2) := by
 cases h with
 | nil => simp at hl
 | @cons x a l ws h1 h2 =>
   cases h2 with
   | nil => simp at hl
   | @cons y b l ws h2 h3 => exact ⟨a, b, h1, h2, by simp; omega, by simpa using h3⟩
theorem jFE {n : Node} {a W : Nat} {ns : List (List UInt8)} (h : names n a = .ok ns) (hw : NW n W) : (joined ns).length + 22 <= W := by
 unfold names at h; cases hq : nodes n a 8 with
 | error p => rw [hq] at h; cases h
 | ok l =>
   rw [hq] at h; simp only at h; obtain ⟨rfl, _⟩ := jA9 hq; obtain ⟨ws, h1, rfl⟩ := hw.split; have := jC5 (len := id) (fun m _ x W hx hW => by have := jI1 hx; have := hW.ge; subst x; simp only [id]; omega) h h1; have hj := jBI ns; simp only [List.map_id] at this; omega
theorem jKR : ∀ (f : Nat) (n : Node) (t : TypeE) (W : Nat), typeE f n = .ok t -> NW n W -> (showT f t).length + 1 <= W := by
 intro f
 induction f with
 | zero => intro n t W h; cases h
 | succ f ih =>
   intro n t W h hw; have hge := hw.ge; rw [typeE] at h; by_cases h1 : (jAS n || jAM n) = true
   . rw [if_pos h1] at h; simp only [Except.ok.injEq] at h; subst h; rw [showT, if_pos rfl]; omega
   . rw [if_neg h1] at h; cases hq : nodes n 2 9 with
     | error p => rw [hq] at h; cases h
     | ok l =>
       rw [hq] at h; simp only at h; obtain ⟨rfl, hl⟩ := jA9 hq; obtain ⟨ws, h2, rfl⟩ := hw.split; obtain ⟨w0, h3, h4, h5⟩ := h2.jKM (by omega) n; have h3g := h3.ge
       have key : ∀ nm : List UInt8, (if word n = [45, 62] then (match hold n 3 3 with | .error p => .error p | .ok _ => .ok ([45, 62] : List UInt8)) else jAJ (n.list.headD n)) = .ok nm -> nm.length + 2 <= w0 := by
        intro nm hnm
        split at hnm
        . split at hnm
          . cases hnm
          . simp only [Except.ok.injEq] at hnm; subst hnm; simp only [List.length_cons, List.length_nil]; omega
        . have := jEJ hnm; subst this; omega
       revert h
       generalize (if word n = [45, 62] then (match hold n 3 3 with | .error p => .error p | .ok _ => .ok ([45, 62] : List UInt8)) else jAJ (n.list.headD n)) = A at key ⊢; intro h; cases A with
       | error p => cases h
       | ok nm =>
         simp only at h; have hk := key nm rfl; cases he : each (typeE f) n.list.tail with
         | error p => rw [he] at h; cases h
         | ok xs =>
           rw [he] at h; simp only [Except.ok.injEq] at h; subst h; have hs := jC5 (len := showT f) (fun m _ x W hx hW => ih m x W hx hW) he h5; have hj := jBI (nm :: xs.map (showT f)); simp only [List.map_cons, List.sum_cons] at hj; rw [showT]
           split <;> omega
theorem jNY : ∀ (f : Nat) (n : Node) (t : Pat) (W : Nat), NodeAll TInt n -> pat f n = .ok t -> NW n W -> (showP f t).length + 1 <= W := by
 intro f
 induction f with
 | zero => intro n t W _ h; cases h
 | succ f ih =>
   intro n t W hn h hw; have hge := hw.ge; rw [pat] at h; by_cases h1 : jAF n = true
   . rw [if_pos h1] at h; cases hq : nodes n 2 9 with
     | error p => rw [hq] at h; cases h
     | ok l =>
       rw [hq] at h; simp only at h; obtain ⟨rfl, hl⟩ := jA9 hq; obtain ⟨ws, h2, rfl⟩ := hw.split; obtain ⟨w0, h3, h4, h5⟩ := h2.jKM (by omega) n; have h3g := h3.ge; cases hc : jAJ (n.list.headD n) with
       | error p => rw [hc] at h; cases h
       | ok nm =>
         rw [hc] at h; simp only at h; have hnm := jEJ hc; cases he : each (pat f) n.list.tail with
         | error p => rw [he] at h; cases h
         | ok xs =>
           rw [he] at h; simp only [Except.ok.injEq] at h; subst h; have hs := jC5 (len := showP f) (fun m hm x W hx hW => ih m x W (hn.kid (List.mem_of_mem_tail hm)) hx hW) he h5; have hj := jBI (nm :: xs.map (showP f)); simp only [List.map_cons, List.sum_cons] at hj; subst hnm; rw [showP, if_neg (by decide), if_neg (by decide)]
           split <;> omega
   . rw [if_neg h1] at h; by_cases h2 : jB8 n = true
     . rw [if_pos h2] at h; simp only [Except.ok.injEq] at h; subst h; have := jP2 n.tok.int (hn.tok (by unfold jB8 at h2; simpa using h2)); rw [showP, if_neg (by decide), if_pos rfl]; omega
     . rw [if_neg h2] at h
       have fin : ∀ {k : Nat} {nm : List UInt8}, k ≠ 2 -> nm.length <= n.text.length -> (Except.ok (Pat.mk k n.pos nm 0 []) : R Pat) = .ok t -> (showP (f + 1) t).length + 1 <= W := by
        intro k nm hk hl e; simp only [Except.ok.injEq] at e; subst e; rw [showP]
        split
        . simp only [List.length_cons, List.length_nil]; omega
        . first
           | (rw [if_neg hk, if_pos rfl]; omega)
           | (rw [if_pos rfl]; omega)
       repeat' split at h
       all_goals first | exact fin (by decide) (Nat.le_refl _) h | exact fin (by decide) (Nat.zero_le _) h | cases h
theorem jOT (bs : List (List UInt8 × Expr)) (g : Expr -> List UInt8) (x : List UInt8) :
 (((bs.map (·.1)).zip ((bs.map (·.2)).map g ++ [x])).map fun p => joined [p.1, p.2]) = bs.map fun b => joined [b.1, g b.2] := by
 induction bs with
 | nil => rfl
 | cons b bs ih => simp only [List.map_cons, List.cons_append, List.zip_cons_cons, ih]
theorem jN2 : ∀ (f : Nat) (n : Node) (t : Expr) (W : Nat), NodeAll TInt n -> expr f n = .ok t -> NW n W -> (showE f t).length + 1 <= W := by
 intro f
 induction f with
 | zero => intro n t W _ h; cases h
 | succ f ih =>
   intro n t W hn h hw; have hge := hw.ge; have hgood := (jGL (f + 1) n t hn (fun _ _ => trivial) h).good; rw [expr] at h; by_cases h1 : jAF n = true
   . rw [if_pos h1] at h; unfold listExpr at h; by_cases w1 : word n = [102, 110]
     . rw [if_pos w1] at h; unfold jCW at h; cases hq : nodes n 3 3 with
       | error q => rw [hq] at h; cases h
       | ok l =>
         rw [hq] at h; simp only at h; obtain ⟨rfl, hl⟩ := jA9 hq; obtain ⟨ws, h2, rfl⟩ := hw.split; obtain ⟨a, b, c, ha, hb, hc, hsum, _⟩ := h2.three (by omega) n; cases hns : names (n.list.getD 1 n) 1 with
         | error q => rw [hns] at h; cases h
         | ok ns =>
           rw [hns] at h; simp only at h; cases he : expr f (n.list.getD 2 n) with
           | error q => rw [he] at h; cases h
           | ok y =>
             rw [he] at h; simp only [Except.ok.injEq] at h; subst h; have e1 := jFE hns hb; have e2 := ih _ _ _ (hn.kid (jAT (by omega))) he hc; rw [jBC f _ _ _ _ _ _ _ hgood, if_neg (by decide), if_neg (by decide), if_neg (by decide), if_neg (by decide), if_pos rfl]; have hj := jBI [[102, 110], joined ns, showE f y]; simp only [List.map_cons, List.map_nil, List.sum_cons, List.sum_nil, List.length_cons, List.length_nil, List.headD_cons] at hj ⊢; omega
     . rw [if_neg w1] at h; by_cases w2 : word n = [108, 101, 116]
       . rw [if_pos w2] at h; unfold jBW at h; cases hq : nodes n 3 3 with
         | error q => rw [hq] at h; cases h
         | ok l =>
           rw [hq] at h; simp only at h; obtain ⟨rfl, hl⟩ := jA9 hq; obtain ⟨ws, h2, rfl⟩ := hw.split; obtain ⟨a, b, c, ha, hb, hc, hsum, _⟩ := h2.three (by omega) n; cases hps : nodes (n.list.getD 1 n) 1 8 with
           | error q => rw [hps] at h; cases h
           | ok ps =>
             rw [hps] at h; simp only at h; obtain ⟨hpe, hpl⟩ := jA9 hps; cases hbs : each (pair (expr f)) ps with
             | error q => rw [hbs] at h; cases h
             | ok bs =>
               rw [hbs] at h; simp only at h; cases he : expr f (n.list.getD 2 n) with
               | error q => rw [he] at h; cases h
               | ok y =>
                 rw [he] at h; simp only [Except.ok.injEq] at h; subst h; have e2 := ih _ _ _ (hn.kid (jAT (by omega))) he hc; obtain ⟨wb, hwb, rfl⟩ := hb.split; rw [<- hpe] at hwb
                 have e1 := jC5 (len := fun b : List UInt8 × Expr => joined [b.1, showE f b.2]) (fun m hm x W hx hW => by
                  have hmn : NodeAll TInt m := (hn.kid (jAT (l := n.list) (k := 1) (n := n) (by omega))).kid (by rw [<- hpe]; exact hm); unfold pair at hx; cases hz2 : nodes m 2 2 with
                  | error q => rw [hz2] at hx; cases hx
                  | ok l2 =>
                    rw [hz2] at hx; simp only at hx; obtain ⟨rfl, h4⟩ := jA9 hz2; obtain ⟨ws2, h5, rfl⟩ := hW.split; obtain ⟨a2, b2, ha2, hb2, hs2, _⟩ := h5.two (by omega) m; cases hz3 : name (m.list.headD m) with
                    | error q => rw [hz3] at hx; cases hx
                    | ok s =>
                      rw [hz3] at hx; simp only at hx; cases hz4 : expr f (m.list.getD 1 m) with
                      | error q => rw [hz4] at hx; cases hx
                      | ok e =>
                        rw [hz4] at hx; simp only [Except.ok.injEq] at hx; subst hx; have hs := jI1 hz3; have hg := ha2.ge; have e3 := ih _ _ _ (hmn.kid (jAT (by omega))) hz4 hb2; have hj := jBI [s, showE f e]; simp only [List.map_cons, List.map_nil, List.sum_cons, List.sum_nil] at hj; subst hs; show (joined [(m.list.headD m).text, showE f e]).length + 1 <= _
                        omega) hbs hwb
                 rw [jBC f _ _ _ _ _ _ _ hgood, if_neg (by decide), if_neg (by decide), if_neg (by decide), if_neg (by decide), if_neg (by decide), if_neg (by decide), if_neg (by decide), if_pos rfl]; have hz : ((bs.map (·.2) ++ [y]).map (showE f)) = (bs.map (·.2)).map (showE f) ++ [showE f y] := by simp
                 rw [hz, jOT]; have hlast : ((bs.map (·.2)).map (showE f) ++ [showE f y]).getLastD [] = showE f y := by simp
                 rw [hlast]; have hj2 := jBI (bs.map fun b => joined [b.1, showE f b.2]); have hj := jBI [[108, 101, 116], joined (bs.map fun b => joined [b.1, showE f b.2]), showE f y]; simp only [List.map_cons, List.map_nil, List.sum_cons, List.sum_nil, List.length_cons, List.length_nil] at hj ⊢; omega
       . rw [if_neg w2] at h; by_cases w3 : word n = [99, 97, 115, 101]
         . rw [if_pos w3] at h; unfold jBL at h; cases hq : nodes n 3 18 with
           | error q => rw [hq] at h; cases h
           | ok l =>
             rw [hq] at h; simp only at h; obtain ⟨rfl, hl⟩ := jA9 hq; obtain ⟨ws, h2, rfl⟩ := hw.split; obtain ⟨a, b, ha, hb, hsum, hrest⟩ := h2.two (by omega) n; cases he : expr f (n.list.getD 1 n) with
             | error q => rw [he] at h; cases h
             | ok y =>
               rw [he] at h; simp only at h; cases hbs : each (alt f (expr f)) (n.list.drop 2) with
               | error q => rw [hbs] at h; cases h
               | ok alts1 =>
                 rw [hbs] at h; simp only [Except.ok.injEq] at h; subst h; have e2 := ih _ _ _ (hn.kid (jAT (by omega))) he hb
                 have e1 := jC5 (len := fun b : Pat × Expr => joined [showP f b.1, showE f b.2]) (fun m hm x W hx hW => by
                  have hmn : NodeAll TInt m := hn.kid (List.mem_of_mem_drop hm); unfold alt at hx; cases hz2 : nodes m 2 2 with
                  | error q => rw [hz2] at hx; cases hx
                  | ok l2 =>
                    rw [hz2] at hx; simp only at hx; obtain ⟨rfl, h4⟩ := jA9 hz2; obtain ⟨ws2, h5, rfl⟩ := hW.split; obtain ⟨a2, b2, ha2, hb2, hs2, _⟩ := h5.two (by omega) m; cases hz3 : pat f (m.list.headD m) with
                    | error q => rw [hz3] at hx; cases hx
                    | ok s =>
                      rw [hz3] at hx; simp only at hx; cases hz4 : expr f (m.list.getD 1 m) with
                      | error q => rw [hz4] at hx; cases hx
                      | ok e =>
                        rw [hz4] at hx; simp only [Except.ok.injEq] at hx; subst hx; have e3 := jNY f _ _ _ (hmn.kid (jD3 (by omega))) hz3 ha2; have e4 := ih _ _ _ (hmn.kid (jAT (by omega))) hz4 hb2; have hj := jBI [showP f s, showE f e]; simp only [List.map_cons, List.map_nil, List.sum_cons, List.sum_nil] at hj; show (joined [showP f s, showE f e]).length + 1 <= _
                        omega) hbs hrest
                 rw [jBC f _ _ _ _ _ _ _ hgood, if_neg (by decide), if_neg (by decide), if_neg (by decide), if_neg (by decide), if_neg (by decide), if_neg (by decide), if_neg (by decide), if_neg (by decide)]; have hj := jBI ([99, 97, 115, 101] :: showE f y :: alts1.map fun b => joined [showP f b.1, showE f b.2]); have hag := ha.ge; simp only [List.map_cons, List.map_nil, List.sum_cons, List.length_cons, List.length_nil, List.headD_cons] at hj ⊢; omega
         . rw [if_neg w3] at h; unfold jAV at h; cases hq : nodes n 2 9 with
           | error q => rw [hq] at h; cases h
           | ok l =>
             rw [hq] at h; simp only at h; obtain ⟨rfl, hl⟩ := jA9 hq; obtain ⟨ws, h2, rfl⟩ := hw.split; obtain ⟨w0, h3, h4, h5⟩ := h2.jKM (by omega) n; have h3g := h3.ge; by_cases ht : 0 < (n.list.headD n).takes
             . rw [if_pos ht] at h; cases hh : hold n (1 + (n.list.headD n).takes) (1 + (n.list.headD n).takes) with
               | error q => rw [hh] at h; cases h
               | ok u =>
                 rw [hh] at h; simp only at h; cases hb : each (expr f) n.list.tail with
                 | error q => rw [hb] at h; cases h
                 | ok xs =>
                   rw [hb] at h; simp only [Except.ok.injEq] at h; subst h; have hs := jC5 (len := showE f) (fun m hm x W hx hW => ih m x W (hn.kid (List.mem_of_mem_tail hm)) hx hW) hb h5; have hj := jBI ((n.list.headD n).text :: xs.map (showE f)); simp only [List.map_cons, List.sum_cons] at hj; rw [jBC f _ _ _ _ _ _ _ hgood, if_neg (by decide), if_neg (by decide), if_neg (by decide), if_pos rfl]; omega
             . rw [if_neg ht] at h; by_cases hcn : jAS (n.list.headD n) = true
               . rw [if_pos hcn] at h; cases hb : each (expr f) n.list.tail with
                 | error q => rw [hb] at h; cases h
                 | ok xs =>
                   rw [hb] at h; simp only [Except.ok.injEq] at h; subst h; have hs := jC5 (len := showE f) (fun m hm x W hx hW => ih m x W (hn.kid (List.mem_of_mem_tail hm)) hx hW) hb h5; have hj := jBI ((n.list.headD n).text :: xs.map (showE f)); simp only [List.map_cons, List.sum_cons] at hj; rw [jBC f _ _ _ _ _ _ _ hgood, if_neg (by decide), if_neg (by decide), if_pos rfl]
                   split <;> omega
               . rw [if_neg hcn] at h; cases hb : each (expr f) n.list with
                 | error q => rw [hb] at h; cases h
                 | ok xs =>
                   rw [hb] at h; simp only [Except.ok.injEq] at h; subst h; have hs := jC5 (len := showE f) (fun m hm x W hx hW => ih m x W (hn.kid hm) hx hW) hb h2; have hj := jBI (xs.map (showE f)); rw [jBC f _ _ _ _ _ _ _ hgood, if_neg (by decide), if_neg (by decide), if_neg (by decide), if_neg (by decide), if_neg (by decide), if_pos rfl]; omega
   . rw [if_neg h1] at h; by_cases h2 : jB8 n = true
     . rw [if_pos h2] at h; simp only [Except.ok.injEq] at h; subst h; have := jP2 n.tok.int (hn.tok (by unfold jB8 at h2; simpa using h2)); rw [jBC f _ _ _ _ _ _ _ hgood, if_pos rfl]; omega
     . rw [if_neg h2] at h; by_cases h3 : jAS n = true
       . rw [if_pos h3] at h; simp only [Except.ok.injEq] at h; subst h; rw [jBC f _ _ _ _ _ _ _ hgood, if_neg (by decide), if_neg (by decide), if_pos rfl, if_pos (by rfl)]; omega
       . rw [if_neg h3] at h; by_cases h4 : jAM n = true
         . rw [if_pos h4] at h; simp only [Except.ok.injEq] at h; subst h; rw [jBC f _ _ _ _ _ _ _ hgood, if_neg (by decide), if_pos rfl]; omega
         . rw [if_neg h4] at h; cases h
theorem jOI (f : Nat) (n : Node) (c : Con) (W : Nat) (h : con f n = .ok c) (hw : NW n W) : (jD2 f c).length + 1 <= W := by
 unfold con at h; cases hq : nodes n 1 9 with
 | error q => rw [hq] at h; cases h
 | ok l =>
   rw [hq] at h; simp only at h; obtain ⟨rfl, hl⟩ := jA9 hq; obtain ⟨ws, h2, rfl⟩ := hw.split; obtain ⟨w0, h3, h4, h5⟩ := h2.jKM (by omega) n; have h3g := h3.ge; cases hc : jAJ (n.list.headD n) with
   | error q => rw [hc] at h; cases h
   | ok nm =>
     rw [hc] at h; simp only at h; have hnm := jEJ hc; cases he : each (typeE f) n.list.tail with
     | error q => rw [he] at h; cases h
     | ok xs =>
       rw [he] at h; simp only [Except.ok.injEq] at h; subst h; have hs := jC5 (len := showT f) (fun m _ x W hx hW => jKR f m x W hx hW) he h5; have hj := jBI (nm :: xs.map (showT f)); simp only [List.map_cons, List.sum_cons] at hj; subst hnm; show (joined ((n.list.headD n).text :: xs.map (showT f))).length + 1 <= _; omega
theorem jNA (f : Nat) (n : Node) (d : Data) (W : Nat) (h : data f n = .ok d) (hw : NW n W) : (jBJ f d).length + 1 <= W := by
 unfold data at h; cases hq : nodes n 4 103 with
 | error q => rw [hq] at h; cases h
 | ok l =>
   rw [hq] at h; simp only at h; obtain ⟨rfl, hl⟩ := jA9 hq; obtain ⟨ws, h2, rfl⟩ := hw.split; obtain ⟨a, b, c, ha, hb, hc, hsum, hrest⟩ := h2.three (by omega) n; have hbg := hb.ge; have hag := ha.ge
   cases hcn : jAJ (n.list.getD 1 n) with
   | error q => rw [hcn] at h; cases h
   | ok nm =>
     rw [hcn] at h; simp only at h; have hnm := jEJ hcn; cases hps : names (n.list.getD 2 n) 0 with
     | error q => rw [hps] at h; cases h
     | ok ps =>
       rw [hps] at h; simp only at h; have hpw := jFE hps hc; cases he : each (con f) (n.list.drop 3) with
       | error q => rw [he] at h; cases h
       | ok xs =>
         rw [he] at h; simp only [Except.ok.injEq] at h; subst h; have hs := jC5 (len := jD2 f) (fun m _ x W hx hW => jOI f m x W hx hW) he hrest; have hj := jBI ([100, 97, 116, 97] :: nm :: joined ps :: xs.map (jD2 f)); simp only [List.map_cons, List.sum_cons, List.length_cons, List.length_nil] at hj; subst hnm; show (joined ([100, 97, 116, 97] :: (n.list.getD 1 n).text :: joined ps :: xs.map (jD2 f))).length + 1 <= _; omega
theorem jN8 (f : Nat) (n : Node) (d : Def) (W : Nat) (hn : NodeAll TInt n) (h : defn f n = .ok d) (hw : NW n W) : (jC0 f d).length + 1 <= W := by
 unfold defn at h; cases hq : nodes n 4 4 with
 | error q => rw [hq] at h; cases h
 | ok l =>
   rw [hq] at h; simp only at h; obtain ⟨rfl, hl⟩ := jA9 hq; obtain ⟨ws, h2, rfl⟩ := hw.split; obtain ⟨a, b, c, ha, hb, hc, hsum, hrest⟩ := h2.three (by omega) n; have hbg := hb.ge; have hag := ha.ge
   obtain ⟨e, he0, hes, _⟩ := hrest.jKM (by rw [List.length_drop]; omega) n
   have hhd : (n.list.drop 3).headD n = n.list.getD 3 n := by
    rw [List.headD_eq_head?_getD, List.head?_drop, List.getD_eq_getElem?_getD]
   rw [hhd] at he0; cases hcn : name (n.list.getD 1 n) with
   | error q => rw [hcn] at h; cases h
   | ok nm =>
     rw [hcn] at h; simp only at h; have hnm := jI1 hcn; cases hps : names (n.list.getD 2 n) 0 with
     | error q => rw [hps] at h; cases h
     | ok ps =>
       rw [hps] at h; simp only at h; have hpw := jFE hps hc; cases he : expr f (n.list.getD 3 n) with
       | error q => rw [he] at h; cases h
       | ok x =>
         rw [he] at h; simp only [Except.ok.injEq] at h; subst h; have hs := jN2 f _ _ _ (hn.kid (jAT (by omega))) he he0; have hj := jBI [[100, 101, 102], nm, joined ps, showE f x]; simp only [List.map_cons, List.map_nil, List.sum_cons, List.sum_nil, List.length_cons, List.length_nil] at hj; subst hnm; show (joined [[100, 101, 102], (n.list.getD 1 n).text, joined ps, showE f x]).length + 1 <= _; omega
theorem jGG (f : Nat) (d : Data) (q : Prog) : (jB1 f ⟨d :: q.datas, q.defs⟩).length = (jBJ f d).length + 1 + (jB1 f q).length := by
 simp [jB1]; omega
theorem jGQ (f : Nat) (d : Def) (q : Prog) : (jB1 f ⟨q.datas, d :: q.defs⟩).length = (jC0 f d).length + 1 + (jB1 f q).length := by
 simp [jB1]; omega
theorem jMK (stop : Nat) : ∀ (f c : Nat) (ts : List Lx.Tok) (q : Prog), (∀ t ∈ ts, TInt t) -> prog stop f c ts = .ok q -> (jB1 50 q).length <= tw ts := by
 intro f
 induction f with
 | zero => intro c ts q _ h; cases h; simp [jB1]
 | succ f ih =>
   intro c ts q hts h; cases ts with
   | nil => rw [jFV] at h; cases h; simp [jB1]
   | cons t ts =>
     rw [jEB] at h; cases hn : node stop (2 * (t :: ts).length + 2) 0 (t :: ts) with
     | error p => rw [hn] at h; cases h
     | ok x =>
       obtain ⟨n, ts1⟩ := x; rw [hn] at h; simp only at h; obtain ⟨hna, hts1⟩ := (jMQ TInt stop _ 0 (t :: ts) hts).1 _ _ hn; obtain ⟨W, hW, hWt⟩ := (jMO stop _ 0 (t :: ts)).1 _ _ hn; by_cases h100 : c = 100
       . rw [if_pos h100] at h; cases h
       . rw [if_neg h100] at h; by_cases k1 : word n = [100, 97, 116, 97]
         . rw [if_pos k1] at h; cases hd : data 50 n with
           | error p => rw [hd] at h; cases h
           | ok d =>
             rw [hd] at h; simp only at h; cases hp : prog stop f (c + 1) ts1 with
             | error p => rw [hp] at h; cases h
             | ok q' =>
               rw [hp] at h; simp only [Except.ok.injEq] at h; subst h; have e1 := ih _ _ _ hts1 hp; have e2 := jNA 50 n d W hd hW; rw [jGG]; omega
         . rw [if_neg k1] at h; by_cases k2 : word n = [100, 101, 102]
           . rw [if_pos k2] at h; cases hd : defn 50 n with
             | error p => rw [hd] at h; cases h
             | ok d =>
               rw [hd] at h; simp only at h; cases hp : prog stop f (c + 1) ts1 with
               | error p => rw [hp] at h; cases h
               | ok q' =>
                 rw [hp] at h; simp only [Except.ok.injEq] at h; subst h; have e1 := ih _ _ _ hts1 hp; have e2 := jN8 50 n d W hna hd hW; rw [jGQ]; omega
           . rw [if_neg k2] at h; cases h
theorem jIL (l : List UInt8) (q : Prog) (h : program l = .done q) : (jB1 50 q).length <= 102400 := by
 unfold program parsed at h; by_cases hl : 4096 < l.length
 . rw [if_pos hl] at h; cases h
 . rw [if_neg hl] at h; cases ht : Lx.toks (l.length + 1) 0 l with
   | mk ts o =>
     rw [ht] at h; cases o with
     | some q' => cases h
     | none =>
       simp only at h; cases hx : prog l.length (ts.length + 1) 0 ts with
       | error p => rw [hx] at h; cases h
       | ok q' =>
         rw [hx] at h; simp only [Outcome.done.injEq] at h; subst h; have hi := jM (l.length + 1) 0 l; have hw := jLY (l.length + 1) 0 l; rw [ht] at hi hw; simp only at hi hw; have := jMK _ _ _ _ _ hi hx; omega
end Px
namespace Px
open Lx (tk jBH)
structure TOk (t : Lx.Tok) : Prop where
 opn : t.kind = 0 -> t.text = [40]
 num : t.kind = 2 -> (-1000000000000000000 < t.int /\ t.int < 1000000000000000000) /\ Plain t.text
 word : t.kind ≠ 0 -> t.kind ≠ 1 -> t.kind ≠ 2 -> Lx.IsTok t.kind t.text
 zero : t.kind ≠ 2 -> t.int = 0
theorem jMW : Lx.IsTok 5 [45, 62] := by
 refine ⟨by simp, by decide, by decide, fun r hr => ?_⟩; rfl
theorem jOU {c : UInt8} {k : Nat} (h : c.toNat = k) (hk : k < 256) : c = UInt8.ofNat k := by
 apply UInt8.toNat_inj.1
 rw [h, UInt8.toNat_ofNat']; omega
theorem single5 (c : UInt8) (h : Lx.single c = 5) : Lx.IsTok 5 [c] := by
 have hc : c.toNat = 95 \/ c.toNat = 43 \/ c.toNat = 45 \/ c.toNat = 42 \/ c.toNat = 47 \/ c.toNat = 37 \/ c.toNat = 61 \/ c.toNat = 60 := by
  unfold Lx.single at h
  split at h
  . omega
  . split at h
    . omega
    . split at h
      . assumption
      . omega
 have key : ∀ k : Nat, k < 256 -> c.toNat = k -> (Lx.jCA (UInt8.ofNat k) = false /\ (UInt8.ofNat k).toNat ≠ 59 /\ Lx.jA8 (UInt8.ofNat k) = false /\ Lx.jCH (UInt8.ofNat k) = false /\ Lx.jCV (UInt8.ofNat k) = false /\ ¬ Lx.single (UInt8.ofNat k) < 0) -> Lx.IsTok 5 [c] := by
  intro k hk hck ⟨h1, h2, h3, h4, h5, h6⟩; have e := jOU hck hk; rw [<- e] at h1 h2 h3 h4 h5 h6; have := Lx.jLJ c h1 h2 h3 h4 h5 h6; rw [h] at this; exact this
 rcases hc with e | e | e | e | e | e | e | e
 . exact key 95 (by omega) e (by decide)
 . exact key 43 (by omega) e (by decide)
 . exact key 45 (by omega) e (by decide)
 . exact key 42 (by omega) e (by decide)
 . exact key 47 (by omega) e (by decide)
 . exact key 37 (by omega) e (by decide)
 . exact key 61 (by omega) e (by decide)
 . exact key 60 (by omega) e (by decide)
theorem jLN {l : List UInt8} (h : 0 < l.length) : l = Lx.at0 l 0 :: l.drop 1 := by
 cases l with
 | nil => simp at h
 | cons c r => rfl
theorem way_ok {l : List UInt8} {k : Int} {n : Nat} (h : Lx.Way l k n) (hn : n ≠ 0) (p : Nat) : TOk (jBH p k (l.take n)) := by
 have hint : k = 2 -> Lx.Way l 2 n := fun e => by rw [e] at h; exact h
 have hnum : k = 2 -> (-1000000000000000000 < (jBH p k (l.take n)).int /\ (jBH p k (l.take n)).int < 1000000000000000000) := by
  intro e; subst e; have hw := h; show -1000000000000000000 < (if (2 : Int) = 2 then Lx.numV (l.take n) else 0) /\ (if (2 : Int) = 2 then Lx.numV (l.take n) else 0) < 1000000000000000000; rw [if_pos rfl]; generalize hk : (2 : Int) = k' at hw
  have key : ∀ D : List UInt8, (∀ c ∈ D, Lx.jA8 c = true) -> D.length <= 18 -> (-1000000000000000000 < (Lx.natV D 0 : Int) /\ (Lx.natV D 0 : Int) < 1000000000000000000) /\ (-1000000000000000000 < -(Lx.natV D 0 : Int) /\ -(Lx.natV D 0 : Int) < 1000000000000000000) := by
   intro D h1 h2; have := jIT D h1 h2; exact ⟨⟨by omega, by omega⟩, ⟨by omega, by omega⟩⟩
  cases hw with
  | arrow => omega
  | neg h1 h2 h3 h4 =>
    have e0 : Lx.at0 (l.take (1 + Lx.cnt Lx.jA8 (l.drop 1))) 0 = Lx.at0 l 0 := jEK _ _ _ (by omega); unfold Lx.numV; rw [e0, if_pos h1]; have hdr : (l.take (1 + Lx.cnt Lx.jA8 (l.drop 1))).drop 1 = (l.drop 1).take (Lx.cnt Lx.jA8 (l.drop 1)) := by rw [List.drop_take]; congr 1; omega
    rw [hdr]; exact (key _ (Lx.jDO Lx.jA8 (l.drop 1)) (by rw [List.length_take]; omega)).2
  | pos h1 h2 h3 =>
    have hpos : 0 < Lx.cnt Lx.jA8 l := by omega
    have e0 : Lx.at0 (l.take (Lx.cnt Lx.jA8 l)) 0 = Lx.at0 l 0 := jEK _ _ _ hpos; unfold Lx.numV; rw [e0, if_neg (Lx.jCR _ h1).2.2.1]; exact (key _ (Lx.jDO Lx.jA8 l) (by rw [List.length_take]; omega)).1
  | name => omega
  | con => omega
  | one h1 h2 => rcases Lx.jDJ (Lx.at0 l 0) with e | e | e | e <;> omega
  | none => omega
 refine ⟨fun e => ?_, fun e => ⟨hnum e, jK0 (hint e)⟩, fun e0 e1 e2 => ?_, fun e => if_neg e⟩
 . have e' : k = 0 := e; subst e'; have h40 := Lx.jLV h hn
   have hl : 0 < l.length := by
    cases l with
    | nil => exact absurd h40 (by decide)
    | cons c r => simp
   have hn1 : n = 1 := by
    generalize hk : (0 : Int) = k' at h; cases h with
    | arrow => omega
    | neg => omega
    | pos => omega
    | name => omega
    | con => omega
    | one => rfl
    | none => omega
   subst hn1; show l.take 1 = [40]; rw [jLN hl, List.take_succ_cons, List.take_zero]
   congr 1
   exact jOU (k := 40) h40 (by omega)
 . have e0' : k ≠ 0 := e0; have e1' : k ≠ 1 := e1; have e2' : k ≠ 2 := e2; show Lx.IsTok k (l.take n); have hw := h; cases hw with
   | arrow h1 h2 =>
     have hl : 1 < l.length := Lx.jFD l 1 (fun c => c.toNat == 62) (by decide) (by simp [h2])
     have : l.take 2 = [45, 62] := by
      cases l with
      | nil => simp at hl
      | cons c r =>
        cases r with
        | nil => simp at hl
        | cons d r =>
          have hc : c = 45 := jOU (k := 45) h1 (by omega); have hd : d = 62 := jOU (k := 62) h2 (by omega); subst hc; subst hd; rfl
     rw [this]; exact jMW
   | neg => omega
   | pos => omega
   | name hs =>
     have hl : 0 < l.length := Lx.jFD l 0 Lx.jCH (by decide) hs; rw [jLN hl, List.take_succ_cons]; exact Lx.jMU _ _ hs (Lx.jDO Lx.jBT (l.drop 1))
   | con hs =>
     have hl : 0 < l.length := Lx.jFD l 0 Lx.jCV (by decide) hs; rw [jLN hl, List.take_succ_cons]; exact Lx.jMV _ _ hs (Lx.jDO Lx.jBT (l.drop 1))
   | one hs _ =>
     have h5 : Lx.single (Lx.at0 l 0) = 5 := by rcases Lx.jDJ (Lx.at0 l 0) with e | e | e | e <;> omega
     have hl : 0 < l.length := Lx.jFD l 0 (fun c => decide (Lx.single c = 5)) (by decide) (by simp [h5])
     have : l.take 1 = [Lx.at0 l 0] := by
      cases l with
      | nil => simp at hl
      | cons c r => rfl
     rw [this, h5]; exact single5 _ h5
   | none => omega
theorem jOV : ∀ (f p : Nat) (l : List UInt8), ∀ t ∈ (Lx.toks f p l).1, TOk t := by
 intro f
 induction f with
 | zero => intro p l t h; simp [Lx.toks] at h
 | succ f ih =>
   intro p l t h; rw [Lx.jC6] at h; by_cases h1 : l.length <= Lx.skipC false l
   . rw [if_pos h1] at h; simp at h
   . rw [if_neg h1] at h; by_cases h2 : (Lx.jAK (l.drop (Lx.skipC false l))).2 = 0
     . rw [if_pos h2] at h; simp at h
     . rw [if_neg h2] at h
       rcases List.mem_cons.1 h with rfl | h
       . exact way_ok (Lx.way _) h2 _
       . exact ih _ _ t h
inductive NodeGood : Node -> Prop
 | leaf (t : Lx.Tok) : TOk t -> t.kind ≠ 0 -> t.kind ≠ 1 -> NodeGood (.mk t [] (jBG t.text))
 | list (t : Lx.Tok) (l : List Node) : TOk t -> t.kind = 0 -> (∀ m ∈ l, NodeGood m) -> NodeGood (.mk t l 0)
theorem NodeGood.kid {n m : Node} (h : NodeGood n) (hm : m ∈ n.list) : NodeGood m := by
 cases h with
 | leaf t h1 h2 h3 => cases hm
 | list t l h1 h2 h3 => exact h3 m hm
theorem jKC (stop : Nat) : ∀ (f d : Nat) (ts : List Lx.Tok), (∀ t ∈ ts, TOk t) ->
 (∀ n ts', node stop f d ts = .ok (n, ts') -> NodeGood n /\ ∀ t ∈ ts', TOk t) /\ (∀ l ts', rest stop f d ts = .ok (l, ts') -> (∀ m ∈ l, NodeGood m) /\ ∀ t ∈ ts', TOk t) := by
 intro f
 induction f with
 | zero => intro d ts _; exact ⟨fun n ts' h => (by cases h), fun l ts' h => (by cases h)⟩
 | succ f ih =>
   intro d ts hp; cases ts with
   | nil => exact ⟨fun n ts' h => (by cases h), fun l ts' h => (by cases h)⟩
   | cons t ts =>
     have hpt := hp t (by simp); have hps : ∀ u ∈ ts, TOk u := fun u hu => hp u (by simp [hu])
     constructor
     . intro n ts' h; rw [node] at h; by_cases k1 : t.kind = 1
       . rw [if_pos k1] at h; cases h
       . rw [if_neg k1] at h; by_cases k0 : t.kind = 0
         . rw [if_pos k0] at h; by_cases hd : d = 40
           . rw [if_pos hd] at h; cases h
           . rw [if_neg hd] at h; cases hr : rest stop f (d + 1) ts with
             | error p => rw [hr] at h; cases h
             | ok x =>
               obtain ⟨l, ts1⟩ := x; rw [hr] at h; simp only [Except.ok.injEq, Prod.mk.injEq] at h; obtain ⟨rfl, rfl⟩ := h; obtain ⟨h1, h2⟩ := (ih (d + 1) ts hps).2 _ _ hr; exact ⟨.list _ _ hpt k0 h1, h2⟩
         . rw [if_neg k0] at h; simp only [Except.ok.injEq, Prod.mk.injEq] at h; obtain ⟨rfl, rfl⟩ := h; exact ⟨.leaf _ hpt k0 k1, hps⟩
     . intro l ts' h; rw [rest] at h; by_cases k1 : t.kind = 1
       . rw [if_pos k1] at h; simp only [Except.ok.injEq, Prod.mk.injEq] at h; obtain ⟨rfl, rfl⟩ := h; exact ⟨fun m hm => (by cases hm), hps⟩
       . rw [if_neg k1] at h; cases hn : node stop f d (t :: ts) with
         | error p => rw [hn] at h; cases h
         | ok x =>
           obtain ⟨n, ts1⟩ := x; rw [hn] at h; simp only at h; obtain ⟨h1, h2⟩ := (ih d (t :: ts) hp).1 _ _ hn; cases hr : rest stop f d ts1 with
           | error p => rw [hr] at h; cases h
           | ok y =>
             obtain ⟨l', ts2⟩ := y; rw [hr] at h; simp only [Except.ok.injEq, Prod.mk.injEq] at h; obtain ⟨rfl, rfl⟩ := h; obtain ⟨h3, h4⟩ := (ih d ts1 h2).2 _ _ hr; exact ⟨fun m hm => (List.mem_cons.1 hm).elim (fun e => e ▸ h1) (h3 m), h4⟩
theorem NodeGood.all {k : Nat} : ∀ {n : Node}, Fits k n -> NodeGood n -> NodeAll TInt n := by
 induction k with
 | zero =>
   intro n hf h; cases h with
   | leaf t h1 h2 h3 => exact .mk _ _ _ (fun e => ⟨by have := (h1.num e).1; omega, by have := (h1.num e).1; omega⟩) (fun m hm => by cases hm)
   | list t l h1 h2 h3 => exact .mk _ _ _ (fun e => by omega) (fun m hm => by rw [show l = [] from hf] at hm; cases hm)
 | succ k ih =>
   intro n hf h; cases h with
   | leaf t h1 h2 h3 => exact .mk _ _ _ (fun e => ⟨by have := (h1.num e).1; omega, by have := (h1.num e).1; omega⟩) (fun m hm => by cases hm)
   | list t l h1 h2 h3 => exact .mk _ _ _ (fun e => by omega) (fun m hm => ih (hf m hm) (h3 m hm))
inductive Canon : Node -> List UInt8 -> Prop
 | int (t : Lx.Tok) (k : Nat) : t.kind = 2 -> Canon (.mk t [] k) (Lib.itoa t.int)
 | leaf (t : Lx.Tok) (k : Nat) : t.kind ≠ 0 -> t.kind ≠ 2 -> Canon (.mk t [] k) t.text
 | list (t : Lx.Tok) (l : List Node) (ss : List (List UInt8)) (k : Nat) : t.kind = 0 -> All2 Canon l ss -> Canon (.mk t l k) (joined ss)
theorem jD {n : Node} (h : NodeGood n) (hl : jAF n = false) (h2 : n.tok.kind ≠ 2) : Canon n n.text := by
 cases h with
 | leaf t h1 h3 h4 => exact .leaf t _ h3 h2
 | list t l h1 h3 h4 => unfold jAF at hl; simp [Node.tok, h3] at hl
theorem jKO {n : Node} (h : NodeGood n) (h2 : n.tok.kind = 2) : Canon n (Lib.itoa n.tok.int) := by
 cases h with
 | leaf t h1 h3 h4 => exact .int t _ h2
 | list t l h1 h3 h4 => have : t.kind = 2 := h2; omega
theorem jBO {n : Node} (h : NodeGood n) (hl : jAF n = true) {ss : List (List UInt8)} (hs : All2 Canon n.list ss) : Canon n (joined ss) := by
 cases h with
 | leaf t h1 h3 h4 => unfold jAF at hl; simp [Node.tok] at hl; exact absurd hl h3
 | list t l h1 h3 h4 => exact .list t l ss _ h3 hs
theorem jO9 {n : Node} (h : NodeGood n) (h2 : n.tok.kind = 2) : Plain n.text := by
 cases h with
 | leaf t h1 h3 h4 => exact (h1.num h2).2
 | list t l h1 h3 h4 => have : t.kind = 2 := h2; omega
theorem jJA {n : Node} (h : NodeGood n) (hl : jAF n = false) {s : List UInt8} (ht : n.text = s) (hs : ∀ x, Plain x -> x ≠ s) : Canon n s := by
 rw [<- ht]; exact jD h hl (fun e => hs _ (jO9 h e) ht)
theorem jFF {n : Node} (h : NodeGood n) {s : List UInt8} (hn : name n = .ok s) : Canon n s := by
 have hs := jI1 hn; subst hs; unfold name at hn
 split at hn
 . rename_i hb; have hk := jKH hb; refine jD h ?_ hk; unfold jAM at hb; simp only [Bool.and_eq_true, beq_iff_eq] at hb
   unfold jAF; rw [hb.1.2]; rfl
 . cases hn
theorem jCU {n : Node} (h : NodeGood n) {s : List UInt8} (hn : jAJ n = .ok s) : Canon n s := by
 have hs := jEJ hn; subst hs; unfold jAJ at hn
 split at hn
 . rename_i hb; have hk := jJ3 hb; refine jD h ?_ hk; unfold jAS at hb; simp only [beq_iff_eq] at hb
   unfold jAF; rw [hb]; rfl
 . cases hn
theorem jCO {α : Type} {g : Node -> R α} {len : α -> List UInt8} : ∀ {l : List Node} {xs : List α}, (∀ n ∈ l, ∀ x, g n = .ok x -> Canon n (len x)) -> each g l = .ok xs -> All2 Canon l (xs.map len) := by
 intro l
 induction l with
 | nil => intro xs _ h; simp only [each, Except.ok.injEq] at h; subst h; exact .nil
 | cons n r ih =>
   intro xs hg h; simp only [each] at h; cases hf : g n with
   | error p => rw [hf] at h; cases h
   | ok x =>
     rw [hf] at h; cases hr : each g r with
     | error p => rw [hr] at h; cases h
     | ok ys =>
       rw [hr] at h; simp only [Except.ok.injEq] at h; subst h; exact .cons (hg n (by simp) x hf) (ih (fun m hm => hg m (by simp [hm])) hr)
theorem jC8 {n : Node} {a b : Nat} {l : List Node} (h : nodes n a b = .ok l) : l = n.list /\ a <= l.length /\ l.length <= b /\ jAF n = true := by
 unfold nodes at h; by_cases h1 : jAF n = true
 . rw [if_pos h1] at h; unfold hold at h; by_cases h2 : n.list.length < a
   . rw [if_pos h2] at h; cases h
   . rw [if_neg h2] at h; cases hb : n.list[b]? with
     | some m => rw [hb] at h; cases h
     | none =>
       rw [hb] at h; simp only [Except.ok.injEq] at h; subst h; exact ⟨rfl, by omega, by simpa using hb, h1⟩
 . rw [if_neg h1] at h; cases h
theorem jFX {n : Node} (h : NodeGood n) {a : Nat} {ns : List (List UInt8)} (hn : names n a = .ok ns) : Canon n (joined ns) := by
 unfold names at hn; cases hq : nodes n a 8 with
 | error p => rw [hq] at hn; cases hn
 | ok l =>
   rw [hq] at hn; simp only at hn; obtain ⟨rfl, _, _, hl⟩ := jC8 hq; have := jCO (len := id) (fun m hm x hx => jFF (h.kid hm) hx) hn; rw [List.map_id] at this; exact jBO h hl this
theorem jK {n : Node} {s : List UInt8} (h : word n = s) (hs : s ≠ []) : ∃ a r, n.list = a :: r /\ jAF a = false /\ a.text = s := by
 unfold word at h; cases hl : n.list with
 | nil => rw [hl] at h; exact absurd h.symm hs
 | cons a r =>
   rw [hl] at h; simp only at h
   split at h
   . exact absurd h.symm hs
   . rename_i hb; exact ⟨a, r, rfl, by simpa using hb, h⟩
theorem jLW : ∀ (f : Nat) (n : Node) (t : TypeE), NodeGood n -> typeE f n = .ok t -> Canon n (showT f t) := by
 intro f
 induction f with
 | zero => intro n t _ h; cases h
 | succ f ih =>
   intro n t hg h; rw [typeE] at h; by_cases h1 : (jAS n || jAM n) = true
   . rw [if_pos h1] at h; simp only [Except.ok.injEq] at h; subst h; rw [showT, if_pos rfl]; rw [Bool.or_eq_true] at h1
     rcases h1 with h1 | h1
     . exact jCU hg (by unfold jAJ; rw [if_pos h1])
     . exact jFF hg (by unfold name; rw [if_pos h1])
   . rw [if_neg h1] at h; cases hq : nodes n 2 9 with
     | error p => rw [hq] at h; cases h
     | ok l =>
       rw [hq] at h; simp only at h; obtain ⟨rfl, hl, _, hlb⟩ := jC8 hq
       have key : ∀ nm : List UInt8, (if word n = [45, 62] then (match hold n 3 3 with | .error p => .error p | .ok _ => .ok ([45, 62] : List UInt8)) else jAJ (n.list.headD n)) = .ok nm -> Canon (n.list.headD n) nm := by
        intro nm hnm
        split at hnm
        . rename_i hw; obtain ⟨a, r, hlr, hb, ht⟩ := jK hw (by simp)
          split at hnm
          . cases hnm
          . simp only [Except.ok.injEq] at hnm; subst hnm; rw [hlr]; exact jJA (hg.kid (by rw [hlr]; simp)) hb ht (fun x hx => hx.2.2.2.2.2.2.1)
        . exact jCU (hg.kid (jD3 (by omega))) hnm
       revert h
       generalize (if word n = [45, 62] then (match hold n 3 3 with | .error p => .error p | .ok _ => .ok ([45, 62] : List UInt8)) else jAJ (n.list.headD n)) = A at key ⊢; intro h; cases A with
       | error p => cases h
       | ok nm =>
         simp only at h; have hk := key nm rfl; cases he : each (typeE f) n.list.tail with
         | error p => rw [he] at h; cases h
         | ok xs =>
           rw [he] at h; simp only [Except.ok.injEq] at h; subst h; have hs := jCO (len := showT f) (fun m hm x hx => ih m x (hg.kid (List.mem_of_mem_tail hm)) hx) he; have hxl := jCG he; rw [List.length_tail] at hxl; rw [showT, if_neg (by intro e; rw [e] at hxl; simp at hxl; omega)]; refine jBO hg hlb ?_; cases hnl : n.list with
           | nil => rw [hnl] at hl; simp at hl
           | cons a r =>
             rw [hnl] at hk hs; exact .cons hk hs
theorem jQ6 : ∀ (f : Nat) (n : Node) (t : Pat), NodeGood n -> pat f n = .ok t -> Canon n (showP f t) := by
 intro f
 induction f with
 | zero => intro n t _ h; cases h
 | succ f ih =>
   intro n t hg h; rw [pat] at h; by_cases h1 : jAF n = true
   . rw [if_pos h1] at h; cases hq : nodes n 2 9 with
     | error p => rw [hq] at h; cases h
     | ok l =>
       rw [hq] at h; simp only at h; obtain ⟨rfl, hl, _, hlb⟩ := jC8 hq; cases hc : jAJ (n.list.headD n) with
       | error p => rw [hc] at h; cases h
       | ok nm =>
         rw [hc] at h; simp only at h; have hk := jCU (hg.kid (jD3 (by omega))) hc; cases he : each (pat f) n.list.tail with
         | error p => rw [he] at h; cases h
         | ok xs =>
           rw [he] at h; simp only [Except.ok.injEq] at h; subst h; have hs := jCO (len := showP f) (fun m hm x hx => ih m x (hg.kid (List.mem_of_mem_tail hm)) hx) he; have hxl := jCG he; rw [List.length_tail] at hxl; rw [showP, if_neg (by decide), if_neg (by decide), if_neg (by intro e; rw [e] at hxl; simp at hxl; omega)]; refine jBO hg hlb ?_; cases hnl : n.list with
           | nil => rw [hnl] at hl; simp at hl
           | cons a r =>
             rw [hnl] at hk hs; exact .cons hk hs
   . rw [if_neg h1] at h; by_cases h2 : jB8 n = true
     . rw [if_pos h2] at h; simp only [Except.ok.injEq] at h; subst h; rw [showP, if_neg (by decide), if_pos rfl]; exact jKO hg (by unfold jB8 at h2; simpa using h2)
     . rw [if_neg h2] at h; have h2k := jI2 (by simpa using h2); by_cases h3 : jAS n = true
       . rw [if_pos h3] at h; simp only [Except.ok.injEq] at h; subst h; rw [showP, if_neg (by decide), if_neg (by decide), if_pos rfl]; exact jD hg (by simpa using h1) h2k
       . rw [if_neg h3] at h; by_cases h4 : jAM n = true
         . rw [if_pos h4] at h; simp only [Except.ok.injEq] at h; subst h; rw [showP, if_neg (by decide), if_neg (by decide), if_pos rfl]; exact jD hg (by simpa using h1) h2k
         . rw [if_neg h4] at h; by_cases h5 : n.text = [95]
           . rw [if_pos h5] at h; simp only [Except.ok.injEq] at h; subst h; rw [showP, if_pos rfl, <- h5]; exact jD hg (by simpa using h1) h2k
           . rw [if_neg h5] at h; cases h
end Px
end Go.Proofs.YtnhndamfbeiljaaGreatDoor
namespace Go.Proofs.YtnhndamfbeiljaaGreatDoor
open Go Go.RowKit
open Go.Lib (hid)
open List renaming getElem_toArray → jR, getElem_cons_succ → jR0, getElem_cons_zero → jR1, setIfInBounds_toArray → jR2, set_cons_zero → jR3, set_cons_succ → jR4
namespace Px
def nmT : Nat -> TypeE -> Prop
 | 0, _ => False
 | f + 1, .mk _ nm args => nm ≠ [] /\ ∀ t ∈ args, nmT f t
def nmP : Nat -> Pat -> Prop
 | 0, _ => False
 | f + 1, .mk k _ nm _ args => (k ≠ 0 -> k ≠ 2 -> nm ≠ []) /\ ∀ a ∈ args, nmP f a
def nmE : Nat -> Expr -> Prop
 | 0, _ => False
 | f + 1, .mk k _ nm _ ns xs al => (k = 1 \/ k = 2 \/ k = 7 -> nm ≠ []) /\ (∀ s ∈ ns, s ≠ []) /\ (∀ x ∈ xs, nmE f x) /\ (∀ a ∈ al, nmP f a.1 /\ nmE f a.2) /\ (k ≠ 5 -> al = [])
def nmC (c : Con) : Prop := c.name ≠ [] /\ ∀ t ∈ c.fields, nmT 50 t
def nmD (d : Data) : Prop := d.name ≠ [] /\ (∀ s ∈ d.params, s ≠ []) /\ ∀ c ∈ d.cons, nmC c
def nmF (d : Def) : Prop := d.name ≠ [] /\ (∀ s ∈ d.params, s ≠ []) /\ nmE 50 d.body
def jO4 (p : Prog) : Prop := (∀ d ∈ p.datas, nmD d) /\ ∀ d ∈ p.defs, nmF d
theorem jHW {n : Node} (hg : NodeGood n) (h0 : jAF n = false) (h2 : n.tok.kind ≠ 2) : n.text ≠ [] := by
 cases hg with
 | leaf t ho h0' h1 =>
   have hw := ho.word h0' h1 h2; exact hw.ne
 | list t l ho h0' hl =>
   have hk : (Node.mk t l 0).tok.kind = 0 := h0'; unfold jAF at h0; rw [hk] at h0; simp at h0
theorem takes_ne {n : Node} (hg : NodeGood n) (h : 0 < n.takes) : n.text ≠ [] := by
 cases hg with
 | leaf t ho h0 h1 =>
   intro e; have e' : t.text = [] := e; have h' : 0 < jBG t.text := h; rw [e'] at h'; exact absurd h' (by decide)
 | list t l ho h0 hl => exact absurd h (by simp [Node.takes])
theorem jP1 {n : Node} {k : Nat} (h : n.tok.kind = k) (hk : k ≠ 0) : jAF n = false := by
 unfold jAF; rw [h]; simpa using hk
theorem jI0 {n : Node} {s : List UInt8} (h : name n = .ok s) (hg : NodeGood n) : s ≠ [] := by
 unfold name at h
 split at h
 . rename_i hn; simp only [Except.ok.injEq] at h; subst h; unfold jAM at hn; simp only [Bool.and_eq_true, beq_iff_eq] at hn; have hk : n.tok.kind = 3 := hn.1.2; exact jHW hg (jP1 hk (by decide)) (by omega)
 . cases h
theorem jOJ {n : Node} (hk : jAS n = true) (hg : NodeGood n) : n.text ≠ [] := by
 unfold jAS at hk; simp only [beq_iff_eq] at hk; exact jHW hg (jP1 hk (by decide)) (by omega)
theorem jFM {n : Node} {s : List UInt8} (h : jAJ n = .ok s) (hg : NodeGood n) : s ≠ [] := by
 unfold jAJ at h
 split at h
 . rename_i hn; simp only [Except.ok.injEq] at h; subst h; exact jOJ hn hg
 . cases h
theorem jDZ {α : Type} {g : Node -> R α} {Q : α -> Prop} : ∀ {l : List Node} {xs : List α}, (∀ n ∈ l, ∀ x, g n = .ok x -> Q x) -> each g l = .ok xs -> ∀ x ∈ xs, Q x := by
 intro l
 induction l with
 | nil => intro xs _ h; simp only [each, Except.ok.injEq] at h; subst h; intro x hx; cases hx
 | cons n r ih =>
   intro xs hg h; simp only [each] at h; cases hf : g n with
   | error p => rw [hf] at h; cases h
   | ok y =>
     rw [hf] at h; cases hr : each g r with
     | error p => rw [hr] at h; cases h
     | ok ys =>
       rw [hr] at h; simp only [Except.ok.injEq] at h; subst h; intro x hx
       rcases List.mem_cons.1 hx with rfl | hx
       . exact hg n (by simp) _ hf
       . exact ih (fun m hm => hg m (by simp [hm])) hr x hx
theorem jDU {l : List Node} (h : 1 <= l.length) (n : Node) : l.headD n ∈ l := by
 cases l with
 | nil => simp at h
 | cons a r => simp
theorem jCE {l : List Node} {k : Nat} (h : k < l.length) (n : Node) : l.getD k n ∈ l := by
 rw [List.getD_eq_getElem?_getD, List.getElem?_eq_getElem h]; exact List.getElem_mem h
theorem typeE_nm : ∀ (f : Nat) (n : Node) (t : TypeE), typeE f n = .ok t -> NodeGood n -> nmT f t := by
 intro f
 induction f with
 | zero => intro n t h; cases h
 | succ f ih =>
   intro n t h hg; rw [typeE] at h; by_cases h1 : (jAS n || jAM n) = true
   . rw [if_pos h1] at h; simp only [Except.ok.injEq] at h; subst h; rw [nmT]
     rcases Bool.or_eq_true _ _ ▸ h1 with hc | hn
     . exact ⟨jOJ hc hg, fun x hx => by cases hx⟩
     . exact ⟨jI0 (show name n = .ok n.text by unfold name; rw [if_pos hn]) hg, fun x hx => by cases hx⟩
   . rw [if_neg h1] at h; cases hq : nodes n 2 9 with
     | error p => rw [hq] at h; cases h
     | ok l =>
       rw [hq] at h; simp only at h; obtain ⟨rfl, hl⟩ := jA9 hq
       have fin : ∀ {nm : List UInt8}, nm ≠ [] -> (match each (typeE f) n.list.tail with | .error p => (.error p : R TypeE) | .ok xs => .ok (.mk n.pos nm xs)) = .ok t -> nmT (f + 1) t := by
        intro nm hnm e; cases he : each (typeE f) n.list.tail with
        | error p => rw [he] at e; cases e
        | ok xs =>
          rw [he] at e; simp only [Except.ok.injEq] at e; subst e; rw [nmT]; exact ⟨hnm, jDZ (fun m hm x hx => ih m x hx (hg.kid (List.mem_of_mem_tail hm))) he⟩
       by_cases hA : word n = [45, 62]
       . simp only [if_pos hA] at h; cases hh : hold n 3 3 with
         | error p => rw [hh] at h; cases h
         | ok u =>
           rw [hh] at h; exact fin (by decide) h
       . simp only [if_neg hA] at h; cases hc : jAJ (n.list.headD n) with
         | error p => rw [hc] at h; cases h
         | ok nm =>
           rw [hc] at h; exact fin (jFM hc (hg.kid (jDU (by omega) n))) h
theorem pat_nm : ∀ (f : Nat) (n : Node) (t : Pat), pat f n = .ok t -> NodeGood n -> nmP f t := by
 intro f
 induction f with
 | zero => intro n t h; cases h
 | succ f ih =>
   intro n t h hg; rw [pat] at h; by_cases h1 : jAF n = true
   . rw [if_pos h1] at h; cases hq : nodes n 2 9 with
     | error p => rw [hq] at h; cases h
     | ok l =>
       rw [hq] at h; simp only at h; obtain ⟨rfl, hl⟩ := jA9 hq; cases hc : jAJ (n.list.headD n) with
       | error p => rw [hc] at h; cases h
       | ok nm =>
         rw [hc] at h; simp only at h; cases he : each (pat f) n.list.tail with
         | error p => rw [he] at h; cases h
         | ok xs =>
           rw [he] at h; simp only [Except.ok.injEq] at h; subst h; rw [nmP]; exact ⟨fun _ _ => jFM hc (hg.kid (jDU (by omega) n)), jDZ (fun m hm x hx => ih m x hx (hg.kid (List.mem_of_mem_tail hm))) he⟩
   . rw [if_neg h1] at h; have h1' : jAF n = false := by simpa using h1
     by_cases h2 : jB8 n = true
     . rw [if_pos h2] at h; simp only [Except.ok.injEq] at h; subst h; rw [nmP]; exact ⟨fun _ h => absurd rfl h, fun x hx => by cases hx⟩
     rw [if_neg h2] at h; have hne : n.text ≠ [] := jHW hg h1' (fun e => h2 (by unfold jB8; rw [e]; rfl))
     have fin : ∀ {k p : Nat} {nm : List UInt8} {i : Int}, (k ≠ 0 -> nm ≠ []) -> (Except.ok (Pat.mk k p nm i []) : R Pat) = .ok t -> nmP (f + 1) t := by
      intro k p nm i hn e; simp only [Except.ok.injEq] at e; subst e; rw [nmP]; exact ⟨fun h _ => hn h, fun x hx => by cases hx⟩
     repeat' split at h
     all_goals first | exact fin (fun _ => hne) h | exact fin (fun h => absurd rfl h) h | cases h
theorem jIU {n : Node} {a : Nat} {ns : List (List UInt8)} (h : names n a = .ok ns) (hg : NodeGood n) : ∀ s ∈ ns, s ≠ [] := by
 unfold names at h; cases hq : nodes n a 8 with
 | error p => rw [hq] at h; cases h
 | ok l =>
   rw [hq] at h; simp only at h; obtain ⟨rfl, _⟩ := jA9 hq; exact jDZ (fun m hm x hx => jI0 hx (hg.kid hm)) h
theorem expr_nm : ∀ (f : Nat) (n : Node) (t : Expr), expr f n = .ok t -> NodeGood n -> nmE f t := by
 intro f
 induction f with
 | zero => intro n t h; cases h
 | succ f ih =>
   intro n t h hg; rw [expr] at h; by_cases h1 : jAF n = true
   . rw [if_pos h1] at h; unfold listExpr at h; by_cases w1 : word n = [102, 110]
     . rw [if_pos w1] at h; unfold jCW at h; cases hq : nodes n 3 3 with
       | error q => rw [hq] at h; cases h
       | ok l =>
         rw [hq] at h; simp only at h; obtain ⟨rfl, hl⟩ := jA9 hq; cases hns : names (n.list.getD 1 n) 1 with
         | error q => rw [hns] at h; cases h
         | ok ns =>
           rw [hns] at h; simp only at h; cases he : expr f (n.list.getD 2 n) with
           | error q => rw [he] at h; cases h
           | ok y =>
             rw [he] at h; simp only [Except.ok.injEq] at h; subst h; rw [nmE]; exact ⟨fun e => by omega, jIU hns (hg.kid (jCE (by omega) n)), fun x hx => by simp at hx; subst hx; exact ih _ _ he (hg.kid (jCE (by omega) n)), (fun a ha => by cases ha), fun _ => rfl⟩
     . rw [if_neg w1] at h; by_cases w2 : word n = [108, 101, 116]
       . rw [if_pos w2] at h; unfold jBW at h; cases hq : nodes n 3 3 with
         | error q => rw [hq] at h; cases h
         | ok l =>
           rw [hq] at h; simp only at h; obtain ⟨rfl, hl⟩ := jA9 hq; cases hps : nodes (n.list.getD 1 n) 1 8 with
           | error q => rw [hps] at h; cases h
           | ok ps =>
             rw [hps] at h; simp only at h; have hg1 := hg.kid (jCE (k := 1) (by omega) n); obtain ⟨rfl, hl1⟩ := jA9 hps; cases hbs : each (pair (expr f)) (n.list.getD 1 n).list with
             | error q => rw [hbs] at h; cases h
             | ok bs =>
               rw [hbs] at h; simp only at h; cases he : expr f (n.list.getD 2 n) with
               | error q => rw [he] at h; cases h
               | ok y =>
                 rw [he] at h; simp only [Except.ok.injEq] at h; subst h
                 have hb := jDZ (Q := fun b : List UInt8 × Expr => b.1 ≠ [] /\ nmE f b.2) (fun m hm x hx => by
                  unfold pair at hx; cases hz2 : nodes m 2 2 with
                  | error q => rw [hz2] at hx; cases hx
                  | ok l2 =>
                    rw [hz2] at hx; simp only at hx; obtain ⟨rfl, hl2⟩ := jA9 hz2; have hgm := hg1.kid hm; cases hz3 : name (m.list.headD m) with
                    | error q => rw [hz3] at hx; cases hx
                    | ok s =>
                      rw [hz3] at hx; simp only at hx; cases hz4 : expr f (m.list.getD 1 m) with
                      | error q => rw [hz4] at hx; cases hx
                      | ok e =>
                        rw [hz4] at hx; simp only [Except.ok.injEq] at hx; subst hx
                        exact ⟨jI0 hz3 (hgm.kid (jDU (by omega) m)), ih _ _ hz4 (hgm.kid (jCE (by omega) m))⟩) hbs
                 rw [nmE]; refine ⟨fun e => by omega, fun s hs => ?_, fun x hx => ?_, (fun a ha => by cases ha), fun _ => rfl⟩
                 . obtain ⟨b, h1, rfl⟩ := List.mem_map.1 hs; exact (hb b h1).1
                 rcases List.mem_append.1 hx with hx | hx
                 . obtain ⟨b, h1, rfl⟩ := List.mem_map.1 hx; exact (hb b h1).2
                 . simp at hx; subst hx; exact ih _ _ he (hg.kid (jCE (by omega) n))
       . rw [if_neg w2] at h; by_cases w3 : word n = [99, 97, 115, 101]
         . rw [if_pos w3] at h; unfold jBL at h; cases hq : nodes n 3 18 with
           | error q => rw [hq] at h; cases h
           | ok l =>
             rw [hq] at h; simp only at h; obtain ⟨rfl, hl⟩ := jA9 hq; cases he : expr f (n.list.getD 1 n) with
             | error q => rw [he] at h; cases h
             | ok y =>
               rw [he] at h; simp only at h; cases hbs : each (alt f (expr f)) (n.list.drop 2) with
               | error q => rw [hbs] at h; cases h
               | ok bs =>
                 rw [hbs] at h; simp only [Except.ok.injEq] at h; subst h
                 have hb := jDZ (Q := fun b : Pat × Expr => nmP f b.1 /\ nmE f b.2) (fun m hm x hx => by
                  unfold alt at hx; cases hz2 : nodes m 2 2 with
                  | error q => rw [hz2] at hx; cases hx
                  | ok l2 =>
                    rw [hz2] at hx; simp only at hx; obtain ⟨rfl, hl2⟩ := jA9 hz2; have hgm := hg.kid (List.mem_of_mem_drop hm); cases hz3 : pat f (m.list.headD m) with
                    | error q => rw [hz3] at hx; cases hx
                    | ok s =>
                      rw [hz3] at hx; simp only at hx; cases hz4 : expr f (m.list.getD 1 m) with
                      | error q => rw [hz4] at hx; cases hx
                      | ok e =>
                        rw [hz4] at hx; simp only [Except.ok.injEq] at hx; subst hx
                        exact ⟨pat_nm _ _ _ hz3 (hgm.kid (jDU (by omega) m)), ih _ _ hz4 (hgm.kid (jCE (by omega) m))⟩) hbs
                 rw [nmE]; exact ⟨fun e => by omega, fun s hs => (by cases hs), fun x hx => by simp at hx; subst hx; exact ih _ _ he (hg.kid (jCE (by omega) n)), hb, fun h => absurd rfl h⟩
         . rw [if_neg w3] at h; unfold jAV at h; cases hq : nodes n 2 9 with
           | error q => rw [hq] at h; cases h
           | ok l =>
             rw [hq] at h; simp only at h; obtain ⟨rfl, hl⟩ := jA9 hq; have hhd := jDU (show 1 <= n.list.length by omega) n
             have fin : ∀ {k p : Nat} {nm : List UInt8} {l : List Node}, (k = 1 \/ k = 2 \/ k = 7 -> nm ≠ []) -> (∀ m ∈ l, m ∈ n.list) -> (match each (expr f) l with | .error p => (.error p : R Expr) | .ok xs => .ok (.mk k p nm 0 [] xs [])) = .ok t -> nmE (f + 1) t := by
              intro k p nm l hn hl e; cases he : each (expr f) l with
              | error q => rw [he] at e; cases e
              | ok xs =>
                rw [he] at e; simp only [Except.ok.injEq] at e; subst e; rw [nmE]; exact ⟨hn, (fun s hs => by cases hs), jDZ (fun m hm x hx => ih m x hx (hg.kid (hl m hm))) he, (fun a ha => by cases ha), fun _ => rfl⟩
             by_cases t1 : 0 < (n.list.headD n).takes
             . rw [if_pos t1] at h; have hne := takes_ne (hg.kid hhd) t1
               split at h
               . cases h
               . exact fin (fun _ => hne) (fun m hm => List.mem_of_mem_tail hm) h
             . rw [if_neg t1] at h; by_cases t2 : jAS (n.list.headD n) = true
               . rw [if_pos t2] at h; exact fin (fun _ => jOJ t2 (hg.kid hhd)) (fun m hm => List.mem_of_mem_tail hm) h
               . rw [if_neg t2] at h; exact fin (fun e => by omega) (fun m hm => hm) h
   . rw [if_neg h1] at h; have h1' : jAF n = false := by simpa using h1
     by_cases h2 : jB8 n = true
     . rw [if_pos h2] at h; simp only [Except.ok.injEq] at h; subst h; rw [nmE]; exact ⟨fun e => by omega, (fun s hs => by cases hs), (fun x hx => by cases hx), (fun a ha => by cases ha), fun _ => rfl⟩
     rw [if_neg h2] at h; have hne : n.text ≠ [] := jHW hg h1' (fun e => h2 (by unfold jB8; rw [e]; rfl))
     have fin : ∀ {k p : Nat} {i : Int}, (Except.ok (Expr.mk k p n.text i [] [] []) : R Expr) = .ok t -> nmE (f + 1) t := by
      intro k p i e; simp only [Except.ok.injEq] at e; subst e; rw [nmE]; exact ⟨fun _ => hne, (fun s hs => by cases hs), (fun x hx => by cases hx), (fun a ha => by cases ha), fun _ => rfl⟩
     repeat' split at h
     all_goals first | exact fin h | cases h
theorem con_nm (n : Node) (c : Con) (h : con 50 n = .ok c) (hg : NodeGood n) : nmC c := by
 unfold con at h; cases hq : nodes n 1 9 with
 | error p => rw [hq] at h; cases h
 | ok l =>
   rw [hq] at h; simp only at h; obtain ⟨rfl, hl⟩ := jA9 hq; cases hc : jAJ (n.list.headD n) with
   | error p => rw [hc] at h; cases h
   | ok nm =>
     rw [hc] at h; simp only at h; cases he : each (typeE 50) n.list.tail with
     | error p => rw [he] at h; cases h
     | ok xs =>
       rw [he] at h; simp only [Except.ok.injEq] at h; subst h; exact ⟨jFM hc (hg.kid (jDU (by omega) n)), jDZ (fun m hm x hx => typeE_nm 50 m x hx (hg.kid (List.mem_of_mem_tail hm))) he⟩
theorem data_nm (n : Node) (c : Data) (h : data 50 n = .ok c) (hg : NodeGood n) : nmD c := by
 unfold data at h; cases hq : nodes n 4 103 with
 | error p => rw [hq] at h; cases h
 | ok l =>
   rw [hq] at h; simp only at h; obtain ⟨rfl, hl⟩ := jA9 hq; cases hc : jAJ (n.list.getD 1 n) with
   | error p => rw [hc] at h; cases h
   | ok nm =>
     rw [hc] at h; simp only at h; cases hns : names (n.list.getD 2 n) 0 with
     | error q => rw [hns] at h; cases h
     | ok ps =>
       rw [hns] at h; simp only at h; cases he : each (con 50) (n.list.drop 3) with
       | error p => rw [he] at h; cases h
       | ok xs =>
         rw [he] at h; simp only [Except.ok.injEq] at h; subst h; exact ⟨jFM hc (hg.kid (jCE (by omega) n)), jIU hns (hg.kid (jCE (by omega) n)), jDZ (fun m hm x hx => con_nm m x hx (hg.kid (List.mem_of_mem_drop hm))) he⟩
theorem defn_nm (n : Node) (c : Def) (h : defn 50 n = .ok c) (hg : NodeGood n) : nmF c := by
 unfold defn at h; cases hq : nodes n 4 4 with
 | error p => rw [hq] at h; cases h
 | ok l =>
   rw [hq] at h; simp only at h; obtain ⟨rfl, hl⟩ := jA9 hq; cases hc : name (n.list.getD 1 n) with
   | error p => rw [hc] at h; cases h
   | ok nm =>
     rw [hc] at h; simp only at h; cases hns : names (n.list.getD 2 n) 0 with
     | error q => rw [hns] at h; cases h
     | ok ps =>
       rw [hns] at h; simp only at h; cases he : expr 50 (n.list.getD 3 n) with
       | error p => rw [he] at h; cases h
       | ok x =>
         rw [he] at h; simp only [Except.ok.injEq] at h; subst h; exact ⟨jI0 hc (hg.kid (jCE (by omega) n)), jIU hns (hg.kid (jCE (by omega) n)), expr_nm _ _ _ he (hg.kid (jCE (by omega) n))⟩
theorem prog_nm (stop : Nat) : ∀ (f c : Nat) (ts : List Lx.Tok) (p : Prog), (∀ t ∈ ts, TOk t) -> prog stop f c ts = .ok p -> jO4 p := by
 intro f
 induction f with
 | zero => intro c ts p _ h; simp only [prog, Except.ok.injEq] at h; subst h; exact ⟨(fun d hd => by cases hd), (fun d hd => by cases hd)⟩
 | succ f ih =>
   intro c ts p ht h; cases ts with
   | nil => simp only [prog, Except.ok.injEq] at h; subst h; exact ⟨(fun d hd => by cases hd), (fun d hd => by cases hd)⟩
   | cons t ts =>
     rw [prog] at h
     . cases hn : node stop (2 * (t :: ts).length + 2) 0 (t :: ts) with
       | error q => rw [hn] at h; cases h
       | ok y =>
         obtain ⟨n, ts'⟩ := y; rw [hn] at h; simp only at h; obtain ⟨h1, h2⟩ := (jKC stop (2 * (t :: ts).length + 2) 0 (t :: ts) ht).1 n ts' hn; by_cases hc : c = 100
         . rw [if_pos hc] at h; cases h
         rw [if_neg hc] at h; by_cases hw1 : word n = [100, 97, 116, 97]
         . rw [if_pos hw1] at h; cases hd : data 50 n with
           | error q => rw [hd] at h; cases h
           | ok d =>
             rw [hd] at h; simp only at h; cases hr : prog stop f (c + 1) ts' with
             | error q => rw [hr] at h; cases h
             | ok q =>
               rw [hr] at h; simp only [Except.ok.injEq] at h; subst h; have e1 := ih _ _ _ h2 hr; have e2 := data_nm _ _ hd h1; exact ⟨fun x hx => by rcases List.mem_cons.1 hx with rfl | hx; exact e2; exact e1.1 x hx, e1.2⟩
         . rw [if_neg hw1] at h; by_cases hw2 : word n = [100, 101, 102]
           . rw [if_pos hw2] at h; cases hd : defn 50 n with
             | error q => rw [hd] at h; cases h
             | ok d =>
               rw [hd] at h; simp only at h; cases hr : prog stop f (c + 1) ts' with
               | error q => rw [hr] at h; cases h
               | ok q =>
                 rw [hr] at h; simp only [Except.ok.injEq] at h; subst h; have e1 := ih _ _ _ h2 hr; have e2 := defn_nm _ _ hd h1; exact ⟨e1.1, fun x hx => by rcases List.mem_cons.1 hx with rfl | hx; exact e2; exact e1.2 x hx⟩
           . rw [if_neg hw2] at h; cases h
     . simp
theorem jIN (l : List UInt8) (p : Prog) (h : program l = .done p) : jO4 p := by
 unfold program parsed at h; by_cases h0 : 4096 < l.length
 . rw [if_pos h0] at h; cases h
 rw [if_neg h0] at h; have hw := jOV (l.length + 1) 0 l; cases ht : Lx.toks (l.length + 1) 0 l with
 | mk ts r =>
   rw [ht] at h hw; cases r with
   | some q => cases h
   | none =>
     simp only at h hw; cases hn : prog l.length (ts.length + 1) 0 ts with
     | error q => rw [hn] at h; cases h
     | ok y =>
       rw [hn] at h; simp only [Outcome.done.injEq] at h; subst h; exact prog_nm _ _ _ _ _ hw hn
end Px
end Go.Proofs.YtnhndamfbeiljaaGreatDoor
