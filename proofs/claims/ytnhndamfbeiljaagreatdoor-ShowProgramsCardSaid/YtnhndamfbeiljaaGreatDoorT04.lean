/-
  Several texts in one: PLeaf, PRow, PPrims, PWord, PReader.
-/
import Derived.Test.YtnhndamfbeiljaaGreatDoorT00
import Derived.Test.YtnhndamfbeiljaaGreatDoorT03
import Derived.Maps.OwnOps
import Derived.Deep.QuietTactic
import Derived.BigQuiet
import Derived.BigRegion
set_option linter.unusedVariables false
set_option linter.unusedSimpArgs false
set_option maxHeartbeats 4000000
set_option maxRecDepth 100000
namespace Go.Proofs.YtnhndamfbeiljaaGreatDoor
open Go Go.RowKit
open Go.Lib (hid)
open List renaming getElem_toArray → jR, getElem_cons_succ → jR0, getElem_cons_zero → jR1, setIfInBounds_toArray → jR2, set_cons_zero → jR3, set_cons_succ → jR4
theorem jAL (n : Px.Node) (lv : Value) (w : World) : Calls Tryz.prog 47 #[jA7 n lv] w fun e w' => e = .returned (.int .i64 n.pos) /\ Below w.heap.size w w' := by
 unfold jA7; go_enter Tryz.func47, Tryz.ntmps47; go_wp2; go_ret; exact ⟨rfl, (Below.refl _ _).alloc (Nat.le_refl _) _⟩
theorem jO8 (n : Px.Node) (lv : Value) (w : World) : Calls Tryz.prog 86 #[jA7 n lv] w fun e w' => e = .returned (.bool (Px.jAF n)) /\ Below w.heap.size w w' := by
 unfold jA7; go_enter Tryz.func86, Tryz.ntmps86; go_wp2; go_ret; exact ⟨rfl, (Below.refl _ _).alloc (Nat.le_refl _) _⟩
theorem jQK (n : Px.Node) (lv : Value) (w : World) : Calls Tryz.prog 113 #[jA7 n lv] w fun e w' => e = .returned (.bool (Px.jB8 n)) /\ Below w.heap.size w w' := by
 unfold jA7; go_enter Tryz.func113, Tryz.ntmps113; go_wp2; go_ret; exact ⟨rfl, (Below.refl _ _).alloc (Nat.le_refl _) _⟩
theorem jHA (n : Px.Node) (lv : Value) (w : World) : Calls Tryz.prog 114 #[jA7 n lv] w fun e w' => e = .returned (.bool (Px.jAS n)) /\ Below w.heap.size w w' := by
 unfold jA7; go_enter Tryz.func114, Tryz.ntmps114; go_wp2; go_ret; exact ⟨rfl, (Below.refl _ _).alloc (Nat.le_refl _) _⟩
theorem jGK (n : Px.Node) (lv : Value) (w : World) : Calls Tryz.prog 115 #[jA7 n lv] w fun e w' => e = .returned (.bool (Px.jAM n)) /\ Below w.heap.size w w' := by
 unfold jA7; cases h0 : (n.tok.text == [100, 97, 116, 97]) with
 | true =>
   go_enter Tryz.func115, Tryz.ntmps115; go_wp2; go_ret; exact ⟨jCL (by simp [Px.jAM, Px.Node.text, h0]), (Below.refl _ _).alloc (Nat.le_refl _) _⟩
 | false =>
   cases h1 : (n.tok.text == [100, 101, 102]) with
   | true =>
     go_enter Tryz.func115, Tryz.ntmps115; go_wp2; go_ret; exact ⟨jCL (by simp [Px.jAM, Px.Node.text, h0, h1]), (Below.refl _ _).alloc (Nat.le_refl _) _⟩
   | false =>
     cases h2 : (n.tok.text == [102, 110]) with
     | true =>
       go_enter Tryz.func115, Tryz.ntmps115; go_wp2; go_ret; exact ⟨jCL (by simp [Px.jAM, Px.Node.text, h0, h1, h2]), (Below.refl _ _).alloc (Nat.le_refl _) _⟩
     | false =>
       cases h3 : (n.tok.text == [108, 101, 116]) with
       | true =>
         go_enter Tryz.func115, Tryz.ntmps115; go_wp2; go_ret; exact ⟨jCL (by simp [Px.jAM, Px.Node.text, h0, h1, h2, h3]), (Below.refl _ _).alloc (Nat.le_refl _) _⟩
       | false =>
         cases h4 : (n.tok.text == [99, 97, 115, 101]) with
         | true =>
           go_enter Tryz.func115, Tryz.ntmps115; go_wp2; go_ret; exact ⟨jCL (by simp [Px.jAM, Px.Node.text, h0, h1, h2, h3, h4]), (Below.refl _ _).alloc (Nat.le_refl _) _⟩
         | false =>
           by_cases h5 : n.tok.kind = 3
           . by_cases h6 : n.takes = 0
             . have h7 : ((n.takes : Int) == 0) = true := by simp [h6]
               go_enter Tryz.func115, Tryz.ntmps115; go_wp2; go_ret; exact ⟨jCL (by simp [Px.jAM, Px.Node.text, h0, h1, h2, h3, h4, h5, h6]), (Below.refl _ _).alloc (Nat.le_refl _) _⟩
             . have h7 : ((n.takes : Int) == 0) = false := by simp; omega
               go_enter Tryz.func115, Tryz.ntmps115; go_wp2; go_ret; exact ⟨jCL (by simp [Px.jAM, Px.Node.text, h0, h1, h2, h3, h4, h5, h6]), (Below.refl _ _).alloc (Nat.le_refl _) _⟩
           . have h7 : (n.tok.kind == 3) = false := by simp [h5]
             go_enter Tryz.func115, Tryz.ntmps115; go_wp2; go_ret; exact ⟨jCL (by simp [Px.jAM, Px.Node.text, h0, h1, h2, h3, h4, h5]), (Below.refl _ _).alloc (Nat.le_refl _) _⟩
theorem jG1 (n : Px.Node) (lv : Value) (w : World) : Calls Tryz.prog 88 #[jA7 n lv] w (Told w (fun _ v s => v = .string ⟨s.toArray⟩) (Px.jAJ n)) := by
 cases h : Px.jAS n with
 | true =>
   go_enter Tryz.func88, Tryz.ntmps88; unfold jA7; go_wp2_with fail; refine (jHA n lv _).mono ?_; rw [h]; rintro e w1 ⟨rfl, hb⟩; obtain ⟨c0, c1, c2, c3, c4, c5⟩ := (jCX w n lv _).below hb; have HB := hid (jAR hb); clear hb
   go_wp2; go_ret; exact ⟨HB.out, by rw [Px.jAJ, if_pos h]; exact ⟨_, rfl, rfl⟩⟩
 | false =>
   go_enter Tryz.func88, Tryz.ntmps88; unfold jA7; go_wp2_with fail; refine (jHA n lv _).mono ?_; rw [h]; rintro e w1 ⟨rfl, hb⟩; obtain ⟨c0, c1, c2, c3, c4, c5⟩ := (jCX w n lv _).below hb; have HB := hid (jAR hb); clear hb
   go_wp2_with fail; refine (jAL n lv _).mono ?_; rintro e w2 ⟨rfl, hb⟩; have HB2 := bT HB hb; clear hb
   go_wp2; refine ⟨rfl, HB2.out, ?_⟩; rw [Px.jAJ, if_neg (by simp [h])]; rfl
theorem jIX (n : Px.Node) (lv : Value) (w : World) : Calls Tryz.prog 92 #[jA7 n lv] w (Told w (fun _ v s => v = .string ⟨s.toArray⟩) (Px.name n)) := by
 cases h : Px.jAM n with
 | true =>
   go_enter Tryz.func92, Tryz.ntmps92; unfold jA7; go_wp2_with fail; refine (jGK n lv _).mono ?_; rw [h]; rintro e w1 ⟨rfl, hb⟩; obtain ⟨c0, c1, c2, c3, c4, c5⟩ := (jCX w n lv _).below hb; have HB := hid (jAR hb); clear hb
   go_wp2; go_ret; exact ⟨HB.out, by rw [Px.name, if_pos h]; exact ⟨_, rfl, rfl⟩⟩
 | false =>
   go_enter Tryz.func92, Tryz.ntmps92; unfold jA7; go_wp2_with fail; refine (jGK n lv _).mono ?_; rw [h]; rintro e w1 ⟨rfl, hb⟩; obtain ⟨c0, c1, c2, c3, c4, c5⟩ := (jCX w n lv _).below hb; have HB := hid (jAR hb); clear hb
   go_wp2_with fail; refine (jAL n lv _).mono ?_; rintro e w2 ⟨rfl, hb⟩; have HB2 := bT HB hb; clear hb
   go_wp2; refine ⟨rfl, HB2.out, ?_⟩; rw [Px.name, if_neg (by simp [h])]; rfl
theorem jN0 (k : Nat) (n : Px.Node) (lv : Value) (a b : Nat) (w : World) (hk : jAC w k lv n.list) (_ha : a <= 1000) (_hb : b <= 1000) :
 Calls Tryz.prog 124 #[jA7 n lv, .int .i64 a, .int .i64 b] w (Told w (fun _ v _ => v = .tuple #[]) (Px.hold n a b)) := by
 by_cases h1 : n.list.length < a
 . obtain ⟨p, c, rfl⟩ := hk.len; go_enter Tryz.func124, Tryz.ntmps124; unfold jA7; go_wp2_with fail; refine (jAL n _ _).mono ?_; rintro e w2 ⟨rfl, hb⟩; have HB2 := hid (jAR hb); clear hb
   go_wp2; refine ⟨rfl, HB2.out, ?_⟩; rw [Px.hold, if_pos h1]; rfl
 . by_cases h2 : b < n.list.length
   . obtain ⟨j, g, o, c, rfl, rfl, h3, h4, h5⟩ := hk.some (by intro e; rw [e] at h2; simp at h2); obtain ⟨kv, hn, _⟩ := h5 b _ (List.getElem?_eq_getElem h2); obtain ⟨c0, c1, c2, c3, c4, c5⟩ := hn.below (Below.alloc (Below.refl w.heap.size w) (Nat.le_refl _) (.cells #[.int .i64 n.tok.kind, .int .i64 n.tok.pos, .string ⟨n.tok.text.toArray⟩, .int .i64 n.tok.int, .slice (some ⟨g, o, none⟩) n.list.length c, .int .i64 n.takes] 105)); generalize hm : n.list[b] = m at *; have Hm := hid hm; clear hm h5
     go_enter Tryz.func124, Tryz.ntmps124; unfold jA7; go_wp2_with fail; refine (jAL m _ _).mono ?_; rintro e w2 ⟨rfl, hb⟩; have HB2 := hid (jAR hb); clear hb
     go_wp2; refine ⟨rfl, HB2.out, ?_⟩; rw [Px.hold, if_neg h1, List.getElem?_eq_getElem h2, Hm.out]; rfl
   . obtain ⟨p, c, rfl⟩ := hk.len; go_enter Tryz.func124, Tryz.ntmps124; unfold jA7; go_wp2_with fail
     go_end0
     refine ⟨(Below.refl _ _).alloc (Nat.le_refl _) _, ?_⟩; rw [Px.hold, if_neg h1, List.getElem?_eq_none (by omega)]; exact ⟨_, rfl, rfl⟩
theorem jB2 (n : Px.Node) (lv : Value) (w : World) (b : Bool) (h : Px.jAF n = b) : Calls Tryz.prog 86 #[jA7 n lv] w fun e w' => e = .returned (.bool b) /\ Below w.heap.size w w' := h ▸ jO8 n lv w
theorem jBY (n : Px.Node) (lv : Value) (w : World) (b : Bool) (h : Px.jAS n = b) : Calls Tryz.prog 114 #[jA7 n lv] w fun e w' => e = .returned (.bool b) /\ Below w.heap.size w w' := h ▸ jHA n lv w
theorem jDN (n : Px.Node) (lv : Value) (w : World) (b : Bool) (h : Px.jB8 n = b) : Calls Tryz.prog 113 #[jA7 n lv] w fun e w' => e = .returned (.bool b) /\ Below w.heap.size w w' := h ▸ jQK n lv w
theorem jCD (n : Px.Node) (lv : Value) (w : World) (b : Bool) (h : Px.jAM n = b) : Calls Tryz.prog 115 #[jA7 n lv] w fun e w' => e = .returned (.bool b) /\ Below w.heap.size w w' := h ▸ jGK n lv w
theorem jP4 (k : Nat) (n : Px.Node) (lv : Value) (a b : Nat) (w : World) (hk : jAC w k lv n.list) (ha : a <= 1000) (hb : b <= 1000) (h : Px.hold n a b = .ok ()) :
 Calls Tryz.prog 124 #[jA7 n lv, .int .i64 a, .int .i64 b] w fun e w' => e = .returned (.tuple #[]) /\ Below w.heap.size w w' :=
 (jN0 k n lv a b w hk ha hb).mono fun e w' ⟨h1, h2⟩ => by rw [h] at h2; obtain ⟨v, h2, rfl⟩ := h2; exact ⟨h2, h1⟩
theorem jN (k : Nat) (n : Px.Node) (lv : Value) (a b : Nat) (w : World) (hk : jAC w k lv n.list) (ha : a <= 1000) (hb : b <= 1000) (p : Nat) (h : Px.hold n a b = .error p) :
 Calls Tryz.prog 124 #[jA7 n lv, .int .i64 a, .int .i64 b] w fun e w' => e = jAW p /\ Below w.heap.size w w' :=
 (jN0 k n lv a b w hk ha hb).mono fun e w' ⟨h1, h2⟩ => by rw [h] at h2; exact ⟨h2, h1⟩
theorem jKA (k : Nat) (n : Px.Node) (lv : Value) (a b : Nat) (w : World) (hk : jAC w k lv n.list) (ha : a <= 1000) (hb : b <= 1000) :
 Calls Tryz.prog 87 #[jA7 n lv, .int .i64 a, .int .i64 b] w (Told w (fun _ v l => v = lv /\ l = n.list) (Px.nodes n a b)) := by
 cases h : Px.jAF n with
 | false =>
   go_enter Tryz.func87, Tryz.ntmps87; unfold jA7; go_wp2_with fail; refine (jB2 n _ _ _ h).mono ?_; rintro e w1 ⟨rfl, hb⟩; obtain ⟨c0, c1, c2, c3, c4, c5⟩ := (jCX w n _ _).below hb; have HB := hid (jAR hb); clear hb
   go_wp2_with fail; refine (jAL n _ _).mono ?_; rintro e w2 ⟨rfl, hb⟩; have HB2 := bT HB hb; clear hb
   go_wp2; refine ⟨rfl, HB2.out, ?_⟩; rw [Px.nodes, if_neg (by simp [h])]; rfl
 | true =>
   go_enter Tryz.func87, Tryz.ntmps87; unfold jA7; go_wp2_with fail; refine (jB2 n _ _ _ h).mono ?_; rintro e w1 ⟨rfl, hb⟩; have nb := (jCX w n _ _).below hb; obtain ⟨c0, c1, c2, c3, c4, c5⟩ := nb; have HB := hid (jAR hb); have HK := hid (hk.below HB.out); have NB := hid ((jCX w n _ _).below hb); clear hb hk; cases h2 : Px.hold n a b with
   | error p =>
     go_wp2_with fail; refine (jN k n lv a b _ HK.out ha hb p h2).mono ?_; rintro e w2 ⟨rfl, hb⟩; refine ⟨rfl, HB.out.trans (hb.mono HB.out.size), ?_⟩; rw [Px.nodes, if_pos h, h2]; rfl
   | ok u =>
     go_wp2_with fail; refine (jP4 k n lv a b _ HK.out ha hb h2).mono ?_; rintro e w2 ⟨rfl, hb⟩; obtain ⟨d0, d1, d2, d3, d4, d5⟩ := NB.out.below hb; have HB2 := bT HB hb; clear hb
     go_wp2; go_ret; exact ⟨HB2.out, by rw [Px.nodes, if_pos h, h2]; exact ⟨_, rfl, rfl, rfl⟩⟩
theorem nodes_ok (k : Nat) (n : Px.Node) (lv : Value) (a b : Nat) (w : World) (hk : jAC w k lv n.list) (ha : a <= 1000) (hb : b <= 1000) (l : List Px.Node) (h : Px.nodes n a b = .ok l) :
 Calls Tryz.prog 87 #[jA7 n lv, .int .i64 a, .int .i64 b] w fun e w' => e = .returned lv /\ Below w.heap.size w w' :=
 (jKA k n lv a b w hk ha hb).mono fun e w' ⟨h1, h2⟩ => by rw [h] at h2; obtain ⟨v, h2, rfl, _⟩ := h2; exact ⟨h2, h1⟩
theorem jQA (k : Nat) (n : Px.Node) (lv : Value) (a b : Nat) (w : World) (hk : jAC w k lv n.list) (ha : a <= 1000) (hb : b <= 1000) (p : Nat) (h : Px.nodes n a b = .error p) :
 Calls Tryz.prog 87 #[jA7 n lv, .int .i64 a, .int .i64 b] w fun e w' => e = jAW p /\ Below w.heap.size w w' :=
 (jKA k n lv a b w hk ha hb).mono fun e w' ⟨h1, h2⟩ => by rw [h] at h2; exact ⟨h2, h1⟩
theorem jA9 {n : Px.Node} {a b : Nat} {l : List Px.Node} (h : Px.nodes n a b = .ok l) : l = n.list /\ a <= l.length /\ l.length <= b /\ Px.jAF n = true := by
 unfold Px.nodes Px.hold at h; by_cases h1 : Px.jAF n = true
 . rw [if_pos h1] at h; by_cases h2 : n.list.length < a
   . rw [if_pos h2] at h; cases h
   . rw [if_neg h2] at h; cases h3 : n.list[b]? with
     | some m => rw [h3] at h; cases h
     | none =>
       rw [h3] at h; obtain rfl : n.list = l := by simpa using h
       exact ⟨rfl, by omega, by simpa using h3, h1⟩
 . rw [if_neg h1] at h; cases h
theorem jGM (n : Px.Node) (lv : Value) (w : World) (s : List UInt8) (h : Px.jAJ n = .ok s) : Calls Tryz.prog 88 #[jA7 n lv] w fun e w' => e = .returned (.string ⟨s.toArray⟩) /\ Below w.heap.size w w' :=
 (jG1 n lv w).mono fun e w' ⟨h1, h2⟩ => by rw [h] at h2; obtain ⟨v, h2, rfl⟩ := h2; exact ⟨h2, h1⟩
theorem jG0 (n : Px.Node) (lv : Value) (w : World) (p : Nat) (h : Px.jAJ n = .error p) : Calls Tryz.prog 88 #[jA7 n lv] w fun e w' => e = jAW p /\ Below w.heap.size w w' :=
 (jG1 n lv w).mono fun e w' ⟨h1, h2⟩ => by rw [h] at h2; exact ⟨h2, h1⟩
theorem jLD (n : Px.Node) (lv : Value) (w : World) (s : List UInt8) (h : Px.name n = .ok s) : Calls Tryz.prog 92 #[jA7 n lv] w fun e w' => e = .returned (.string ⟨s.toArray⟩) /\ Below w.heap.size w w' :=
 (jIX n lv w).mono fun e w' ⟨h1, h2⟩ => by rw [h] at h2; obtain ⟨v, h2, rfl⟩ := h2; exact ⟨h2, h1⟩
theorem name_bad (n : Px.Node) (lv : Value) (w : World) (p : Nat) (h : Px.name n = .error p) : Calls Tryz.prog 92 #[jA7 n lv] w fun e w' => e = jAW p /\ Below w.heap.size w w' :=
 (jIX n lv w).mono fun e w' ⟨h1, h2⟩ => by rw [h] at h2; exact ⟨h2, h1⟩
namespace Px
theorem each_append {α : Type} (f : Node -> R α) (a b : List Node) : each f (a ++ b) = match each f a with | .error p => .error p | .ok xs => match each f b with | .error p => .error p | .ok ys => .ok (xs ++ ys) := by
 induction a with
 | nil => simp only [List.nil_append, each]; cases each f b <;> rfl
 | cons n r ih =>
   simp only [List.cons_append, each, ih]; cases f n with
   | error p => rfl
   | ok x =>
     cases each f r with
     | error p => rfl
     | ok xs => cases each f b <;> rfl
theorem jC9 {α : Type} {f : Node -> R α} {l : List Node} {k : Nat} {n : Node} {xs : List α} (hn : l[k]? = some n) (h : each f (l.take k) = .ok xs) :
 (∀ x, f n = .ok x -> each f (l.take (k + 1)) = .ok (xs ++ [x])) /\ (∀ p, f n = .error p -> each f l = .error p) := by
 obtain ⟨hk, rfl⟩ := List.getElem?_eq_some_iff.1 hn; refine ⟨fun x hx => ?_, fun p hp => ?_⟩
 . rw [List.take_succ_eq_append_getElem hk, each_append, h]; simp only [each, hx]
 . rw [<- List.take_append_drop k l, each_append, h, List.drop_eq_getElem_cons hk]; simp only [each, hp]
theorem jCG {α : Type} {f : Node -> R α} : ∀ {l : List Node} {xs : List α}, each f l = .ok xs -> xs.length = l.length := by
 intro l
 induction l with
 | nil => intro xs h; simp only [each, Except.ok.injEq] at h; subst h; rfl
 | cons n r ih =>
   intro xs h; simp only [each] at h; cases hf : f n with
   | error p => rw [hf] at h; cases h
   | ok x =>
     rw [hf] at h; cases hr : each f r with
     | error p => rw [hr] at h; cases h
     | ok ys => rw [hr] at h; simp only [Except.ok.injEq] at h; subst h; simp [ih hr]
end Px
def Reps {α : Type} (rep : Value -> α -> Prop) : List Value -> List α -> Prop
 | [], [] => True
 | v :: vs, x :: xs => rep v x /\ Reps rep vs xs
 | _, _ => False
theorem Reps.len {α : Type} {rep : Value -> α -> Prop} : ∀ {vs : List Value} {xs : List α}, Reps rep vs xs -> vs.length = xs.length
 | [], [], _ => rfl
 | _ :: _, _ :: _, h => by simp [Reps.len h.2]
 | [], _ :: _, h => h.elim
 | _ :: _, [], h => h.elim
theorem Reps.snoc {α : Type} {rep : Value -> α -> Prop} {v : Value} {x : α} (hx : rep v x) : ∀ {vs : List Value} {xs : List α}, Reps rep vs xs -> Reps rep (vs ++ [v]) (xs ++ [x])
 | [], [], _ => ⟨hx, trivial⟩
 | _ :: _, _ :: _, h => ⟨h.1, Reps.snoc hx h.2⟩
 | [], _ :: _, h => h.elim
 | _ :: _, [], h => h.elim
theorem Reps.mono {α : Type} {rep rep' : Value -> α -> Prop} (hr : ∀ v x, rep v x -> rep' v x) : ∀ {vs : List Value} {xs : List α}, Reps rep vs xs -> Reps rep' vs xs
 | [], [], _ => trivial
 | _ :: vs, _ :: xs, h => ⟨hr _ _ h.1, Reps.mono hr h.2⟩
 | [], _ :: _, h => h.elim
 | _ :: _, [], h => h.elim
theorem Reps.at {α : Type} {rep : Value -> α -> Prop} : ∀ {vs : List Value} {xs : List α} {i : Nat} {x : α}, Reps rep vs xs -> xs[i]? = some x -> ∃ v, vs[i]? = some v /\ rep v x
 | [], [], _, _, _, h => by simp at h
 | v :: _, _ :: _, 0, _, h, hx => by simp at hx; subst hx; exact ⟨v, rfl, h.1⟩
 | _ :: _, _ :: _, _ + 1, _, h, hx => by simp at hx; simpa using Reps.at h.2 hx
 | [], _ :: _, _, _, h, _ => h.elim
 | _ :: _, [], _, _, h, _ => h.elim
def cellsOf (vs : List Value) : List Value := vs.flatMap fun v => v.cells.toList
theorem jHL (sz : Nat) : ∀ {vs : List Value}, (∀ v ∈ vs, v.cells.size = sz) -> (cellsOf vs).length = vs.length * sz
 | [], _ => by simp [cellsOf]
 | v :: vs, h => by
   have e : cellsOf (v :: vs) = v.cells.toList ++ cellsOf vs := by simp [cellsOf]
   rw [e, List.length_append, Array.length_toList, h v (by simp), jHL sz (fun u hu => h u (by simp [hu])), List.length_cons, Nat.add_mul]; omega
theorem jFN (sz : Nat) : ∀ {vs : List Value} {i j : Nat} {v c : Value}, (∀ v ∈ vs, v.cells.size = sz) -> vs[i]? = some v -> v.cells[j]? = some c -> (cellsOf vs)[i * sz + j]? = some c
 | [], _, _, _, _, _, h, _ => by simp at h
 | u :: vs, 0, j, v, c, hs, h, hc => by
   simp at h; subst h
   have e : cellsOf (u :: vs) = u.cells.toList ++ cellsOf vs := by simp [cellsOf]
   have hj : j < u.cells.size := (Array.getElem?_eq_some_iff.1 hc).1; rw [e, Nat.zero_mul, Nat.zero_add, List.getElem?_append_left (by simpa using hj)]; simpa using hc
 | u :: vs, i + 1, j, v, c, hs, h, hc => by
   simp at h; have e : cellsOf (u :: vs) = u.cells.toList ++ cellsOf vs := by simp [cellsOf]
   have hu := hs u (by simp); rw [e, List.getElem?_append_right (by rw [Array.length_toList, hu, Nat.add_mul]; omega), Array.length_toList, hu]; have := jFN sz (fun x hx => hs x (by simp [hx])) h hc; rw [<- this]; congr 1; rw [Nat.add_mul]; omega
def jAI {α : Type} (sz : Nat) (rep : Value -> α -> Prop) (w : World) (v : Value) (xs : List α) : Prop :=
 (xs = [] /\ ∃ p c, v = .slice p 0 c) \/
   ∃ g o c, v = .slice (some ⟨g, o, none⟩) xs.length c /\ xs.length <= c /\ (c : Int) <= 9223372036854775807 /\
    ∀ i x, xs[i]? = some x -> ∃ u, rep u x /\ u.cells.size = sz /\ ∀ j z, u.cells[j]? = some z -> w.cell? ⟨g, o + i * sz + j, none⟩ = some z
theorem jAI.len {α : Type} {sz : Nat} {rep : Value -> α -> Prop} {w : World} {v : Value} {xs : List α} (h : jAI sz rep w v xs) : ∃ p c, v = .slice p xs.length c := by
 rcases h with ⟨rfl, p, c, rfl⟩ | ⟨g, o, c, h, _⟩
 . exact ⟨p, c, rfl⟩
 . exact ⟨_, c, h⟩
theorem jAI.mono {α : Type} {sz : Nat} {rep rep' : Value -> α -> Prop} {w w' : World} {v : Value} {xs : List α} (h : jAI sz rep w v xs) (hb : Below w.heap.size w w') (hr : ∀ u x, x ∈ xs -> rep u x -> rep' u x) : jAI sz rep' w' v xs := by
 rcases h with h | ⟨g, o, c, h1, h2, h3, h4⟩
 . exact .inl h
 . refine .inr ⟨g, o, c, h1, h2, h3, fun i x hx => ?_⟩; obtain ⟨u, a, b, d⟩ := h4 i x hx; refine ⟨u, hr u x (List.mem_of_getElem? hx) a, b, fun j z hz => ?_⟩; have := d j z hz; rw [hb.cell (World.block_lt_of_cell? w _ this)]; exact this
def New {α : Type} (rep : World -> Value -> α -> Prop) (w w' : World) (v : Value) (x : α) : Prop :=
 ∀ u : World, (∀ b, w.heap.size <= b -> b < w'.heap.size -> u.heap[b]? = w'.heap[b]?) -> rep u v x
theorem New.now {α : Type} {rep : World -> Value -> α -> Prop} {w w' : World} {v : Value} {x : α} (h : New rep w w' v x) : rep w' v x := h w' fun _ _ _ => rfl
def Kept {α : Type} (rep : World -> Value -> α -> Prop) (base : Nat) (w : World) (ob : Option Nat) (v : Value) (x : α) : Prop :=
 ∃ lo hi, base <= lo /\ hi <= w.heap.size /\ (∀ g, ob = some g -> g < lo \/ hi <= g) /\ ∀ u : World, (∀ b, lo <= b -> b < hi -> u.heap[b]? = w.heap[b]?) -> rep u v x
theorem Kept.since {α : Type} {rep : World -> Value -> α -> Prop} {base : Nat} {w w' : World} {ob ob' : Option Nat} {v : Value} {x : α} (h : Kept rep base w ob v x) (hs : w.heap.size <= w'.heap.size)
 (hk : ∀ b, base <= b -> b < w.heap.size -> ob ≠ some b -> w'.heap[b]? = w.heap[b]?) (ho : ob' = ob \/ ∀ g, ob' = some g -> w.heap.size <= g) : Kept rep base w' ob' v x := by
 obtain ⟨lo, hi, h0, h1, h2, h3⟩ := h; refine ⟨lo, hi, h0, by omega, fun g hg => ?_, fun u hu => h3 u fun b hb1 hb2 => ?_⟩
 . rcases ho with rfl | ho
   . exact h2 g hg
   . have := ho g hg; omega
 . rw [hu b hb1 hb2]; exact hk b (by omega) (by omega) (fun e => by have := h2 b e; omega)
theorem Kept.step {α : Type} {rep : World -> Value -> α -> Prop} {base : Nat} {w w' : World} {ob ob' : Option Nat} {v : Value} {x : α} (h : Kept rep base w ob v x) (hs : w.heap.size <= w'.heap.size)
 (hk : ∀ b, b < w.heap.size -> ob ≠ some b -> w'.heap[b]? = w.heap[b]?) (ho : ob' = ob \/ ∀ g, ob' = some g -> w.heap.size <= g) : Kept rep base w' ob' v x :=
 h.since hs (fun b _ => hk b) ho
theorem Kept.below {α : Type} {rep : World -> Value -> α -> Prop} {base : Nat} {w w' : World} {ob : Option Nat} {v : Value} {x : α} (h : Kept rep base w ob v x) (hb : Below w.heap.size w w') : Kept rep base w' ob v x :=
 h.step hb.size (fun b hb1 _ => hb.block b hb1) (.inl rfl)
theorem New.kept {α : Type} {rep : World -> Value -> α -> Prop} {base : Nat} {w w' : World} {ob : Option Nat} {v : Value} {x : α} (h : New rep w w' v x) (hb : base <= w.heap.size) (ho : ∀ g, ob = some g -> g < w.heap.size) : Kept rep base w' ob v x :=
 ⟨w.heap.size, w'.heap.size, hb, Nat.le_refl _, fun g hg => .inl (ho g hg), h⟩
theorem New.row {α : Type} {sz : Nat} {rep : World -> Value -> α -> Prop} {w0 w : World} {E n : Nat} {v : Value} {vs : List Value} {xs : List α} (h : w.ownsRow w0.heap.size E sz v n (cellsOf vs)) (hn : n = xs.length)
 (hr : Reps (Kept rep w0.heap.size w v.ownBlock) vs xs) (hs : ∀ v ∈ vs, v.cells.size = sz) : New (fun u => jAI sz (rep u) u) w0 w v xs := by
 intro u hu; subst hn
 rcases h.2 with ⟨rfl, hn⟩ | ⟨g, cap, cur, rfl, hb, hg, hc1, hc2, hc3, hc4⟩
 . exact .inl ⟨List.eq_nil_of_length_eq_zero hn, none, 0, rfl⟩
 . refine .inr ⟨g, 0, cap, rfl, hc1, by unfold maxLen at hc2; omega, fun i x hx => ?_⟩; obtain ⟨y, hy, lo, hi, h0, h1, _, h3⟩ := hr.at hx; refine ⟨y, h3 u fun b hb1 hb2 => hu b (by omega) (by omega), hs y (List.mem_of_getElem? hy), fun j z hz => ?_⟩; have hcell := World.ownsRow.cells h (g := g) rfl (i * sz + j) z (jFN sz hs hy hz); have e : (⟨g, 0, none⟩ : Addr).add (i * sz + j) = ⟨g, 0 + i * sz + j, none⟩ := by unfold Addr.add; split <;> simp_all
   rw [e] at hcell; have hlt : g < w.heap.size := (Array.getElem?_eq_some_iff.1 hg).1; rw [World.cell?_of_block (w := w) (hu g hb hlt)]; exact hcell
def jB3 {α : Type} (w : World) (rep : World -> Value -> α -> Prop) (r : Px.R α) : Ending -> World -> Prop := Told w (New rep w) r
theorem jDK (w : World) (base : Nat) (t ty e : TypeId) (i : TypeInfo) (z : Value) (size bytes : Nat) (ht : Tryz.prog.underlying t = some (.slice e)) (hi : Tryz.prog.info? e = some i) (hz : i.zero = some z)
 (hsize : i.size = size) (hby : i.bytes = bytes) (hzs : z.cells.size = size) (hsz : 0 < size)
 (v : Value) (n : Nat) (xs : List Value) (hown : w.ownsRow base e size v n xs)
 (a : Addr) (m c : Nat) (hm : 0 < m) (news : List Value) (hl : news.length = m * size) (hnews : ∀ j u, news[j]? = some u -> w.cell? (a.add j) = some u) (h1 : ∀ u ∈ news, u.oneCell' = true)
 (h63 : n + m <= maxLen) (hbytes : (n + m) * bytes <= 140737488355328) (hbase : base <= w.heap.size) :
 ∃ v' w', (Builtin.append_ #[t, t] ty #[v, .slice (some a) m c]).run Tryz.prog w = .ok v' w' /\ w'.ownsRow base e size v' (n + m) (xs ++ news) /\ w.grownBy w' v.ownBlock /\
  (v'.ownBlock = v.ownBlock \/ ∀ g, v'.ownBlock = some g -> w.heap.size <= g) := by
 obtain ⟨v', w', hr, h2, h3, _⟩ := run_append_own (P := Tryz.prog) w base t ty e i z size bytes ht hi hz hsize hby hzs hsz v n xs hown a m c news hl hnews h1 h63 hbytes hbase; refine ⟨v', w', hr, h2, h3, ?_⟩; subst hsize
 subst hby
 have hsmall : n + m <= 9223372036854775807 := by simp only [maxLen] at h63; omega
 rcases hown.2 with ⟨rfl, rfl⟩ | ⟨g, cap, cur, rfl, hbg, hg, hnc, hcm, hcs, htake⟩
 . have hr' := run_append_nil (P := Tryz.prog) w t ty e i z ht hi hz a m c news hl hnews (by omega) (by omega) (by have hb := hbytes; simp only [Nat.zero_add] at hb; omega); rw [hr] at hr'
   injection hr' with hv _
   subst hv; exact .inr fun g hg => by simp only [Value.ownBlock, Option.some.injEq] at hg; omega
 . by_cases hroom : n + m <= cap
   . have hfit : n * i.size + news.length <= cur.size := by rw [hl, hcs, <- Nat.add_mul]; exact Nat.mul_le_mul_right _ hroom
     have hr' := run_append_room (P := Tryz.prog) w t ty e i ht hi g n cap cur hg a m c news hl hnews h1 hroom hfit; rw [hr] at hr'
     injection hr' with hv _
     subst hv; exact .inl rfl
   . have holds : ∀ j u, xs[j]? = some u -> w.cell? ((⟨g, 0, none⟩ : Addr).add j) = some u := hown.cells (g := g) rfl
     have hr' := run_append_grow (P := Tryz.prog) w t ty e i z ht hi hz ⟨g, 0, none⟩ n cap xs hown.1 holds a m c news hl hnews (by omega) (by omega) (growslice_fits (by omega) hbytes); rw [hr] at hr'
     injection hr' with hv _
     subst hv; exact .inr fun g hg => by simp only [Value.ownBlock, Option.some.injEq] at hg; omega
theorem jAN (w : World) {ops : Array Oper} {rest : List Oper} {o : Oper} {a : Act} {Q : Exit -> Act -> World -> Prop} (hgd : o.guard = none) (s x : Operand) (t : TypeId)
 (ho : o.op = .call { callee := .builtin .append, args := #[s, x], argTypes := #[t, t] })
 (base : Nat) (e : TypeId) (i : TypeInfo) (z : Value) (size bytes : Nat) (ht : Tryz.prog.underlying t = some (.slice e)) (hi : Tryz.prog.info? e = some i) (hz : i.zero = some z)
 (hsize : i.size = size) (hby : i.bytes = bytes) (hzs : z.cells.size = size) (hsz : 0 < size)
 (v : Value) (n : Nat) (xs : List Value) (hs : a.eval s = v) (hown : w.ownsRow base e size v n xs)
 (ad : Addr) (m c : Nat) (news : List Value) (hx : a.eval x = .slice (some ad) m c) (hm : 0 < m) (hl : news.length = m * size) (hnews : ∀ j u, news[j]? = some u -> w.cell? (ad.add j) = some u) (h1 : ∀ u ∈ news, u.oneCell' = true)
 (h63 : n + m <= maxLen) (hbytes : (n + m) * bytes <= 140737488355328) (hbase : base <= w.heap.size)
 (h : ∀ v' w', w'.ownsRow base e size v' (n + m) (xs ++ news) -> w.grownBy w' v.ownBlock -> (v'.ownBlock = v.ownBlock \/ ∀ g, v'.ownBlock = some g -> w.heap.size <= g) -> wpList Tryz.prog ops Q rest (a.put o.dst v') w') : wpList Tryz.prog ops Q (o :: rest) a w := by
 refine wpList_plain hgd fun K hK => ?_
 obtain ⟨v', w', hr, h2, h3, h4⟩ := jDK w base t o.type e i z size bytes ht hi hz hsize hby hzs hsz v n xs hown ad m c hm news hl hnews h1 h63 hbytes hbase; unfold Oper.wp execOp; simp only [ho, resolve, invoke, builtin, Sem.run_bind, Sem.run_pure, Result.andThen_ok, List.map_toArray, List.map_cons, List.map_nil, hs, hx, hr]; exact hK _ _ (h v' w' h2 h3 h4)
def jBN : Array MapEntry := #[⟨.string ⟨#[43]⟩, .int .i64 2, 0⟩, ⟨.string ⟨#[45]⟩, .int .i64 2, 1⟩, ⟨.string ⟨#[42]⟩, .int .i64 2, 2⟩, ⟨.string ⟨#[47]⟩, .int .i64 2, 3⟩, ⟨.string ⟨#[37]⟩, .int .i64 2, 4⟩, ⟨.string ⟨#[61]⟩, .int .i64 2, 5⟩, ⟨.string ⟨#[60]⟩, .int .i64 2, 6⟩, ⟨.string ⟨#[99, 112, 120]⟩, .int .i64 2, 7⟩, ⟨.string ⟨#[114, 101]⟩, .int .i64 1, 8⟩, ⟨.string ⟨#[105, 109]⟩, .int .i64 1, 9⟩, ⟨.string ⟨#[99, 97, 100, 100]⟩, .int .i64 2, 10⟩, ⟨.string ⟨#[99, 109, 117, 108]⟩, .int .i64 2, 11⟩]
theorem push_set (h : Array Obj) (o o' : Obj) : (h.push o).setIfInBounds h.size o' = h.push o' := by
 apply Array.ext_getElem?
 intro i; rw [Array.getElem?_setIfInBounds, Array.getElem?_push, Array.getElem?_push]; by_cases hi : h.size = i
 . subst hi; simp
 . rw [if_neg hi, if_neg (fun e => hi e.symm), if_neg (fun e => hi e.symm)]
theorem jQZ (w : World) (o o' : Obj) : { w.alloc o with heap := (w.alloc o).heap.setIfInBounds w.heap.size o' } = w.alloc o' := by
 show ({ w with heap := (w.heap.push o).setIfInBounds w.heap.size o' } : World) = { w with heap := w.heap.push o' }; rw [push_set]
theorem jD9 (w : World) (es : Array MapEntry) (k : ByteArray) (v : Value) (hf : Instr.findNow .string (.string k) es.toList 0 = some none) :
 (Instr.mapUpdate 97 (.map (some w.heap.size)) (.string k) v).run Tryz.prog (w.alloc (.map es es.size)) = .ok () (w.alloc (.map (es.push ⟨.string k, v, es.size⟩) (es.size + 1))) := by
 have hb : (w.alloc (.map es es.size)).heap[w.heap.size]? = some (.map es es.size) := heap_alloc_new w _; have hck := MapKept.run_checkKey (P := Tryz.prog) (w := w.alloc (.map es es.size)) (kt := 9) (d := .string) (k := .string k) Tryz.underlying9 (by simp [MapKept.IsKey]) false 9999; simp [Instr.mapUpdate, run_underlying Tryz.underlying97, MapKept.run_getObj_map hb, hck, MapKept.run_findKey Tryz.underlying9 hf, MapKept.run_setObj_map _ hb, Result.andThen]; exact jQZ w _ _
theorem jK8 (w : World) : Calls Tryz.prog 44 #[] w fun e w' => e = .returned (.map (some w.heap.size)) /\ w' = w.alloc (.map jBN 12) := by
 have hmm := @run_makeMap Tryz.prog; have h0 := jD9 w #[] ⟨#[43]⟩ (.int .i64 2) rfl; have h1 := jD9 w #[⟨.string ⟨#[43]⟩, .int .i64 2, 0⟩] ⟨#[45]⟩ (.int .i64 2) rfl; have h2 := jD9 w #[⟨.string ⟨#[43]⟩, .int .i64 2, 0⟩, ⟨.string ⟨#[45]⟩, .int .i64 2, 1⟩] ⟨#[42]⟩ (.int .i64 2) rfl; have h3 := jD9 w #[⟨.string ⟨#[43]⟩, .int .i64 2, 0⟩, ⟨.string ⟨#[45]⟩, .int .i64 2, 1⟩, ⟨.string ⟨#[42]⟩, .int .i64 2, 2⟩] ⟨#[47]⟩ (.int .i64 2) rfl; have h4 := jD9 w #[⟨.string ⟨#[43]⟩, .int .i64 2, 0⟩, ⟨.string ⟨#[45]⟩, .int .i64 2, 1⟩, ⟨.string ⟨#[42]⟩, .int .i64 2, 2⟩, ⟨.string ⟨#[47]⟩, .int .i64 2, 3⟩] ⟨#[37]⟩ (.int .i64 2) rfl; have h5 := jD9 w #[⟨.string ⟨#[43]⟩, .int .i64 2, 0⟩, ⟨.string ⟨#[45]⟩, .int .i64 2, 1⟩, ⟨.string ⟨#[42]⟩, .int .i64 2, 2⟩, ⟨.string ⟨#[47]⟩, .int .i64 2, 3⟩, ⟨.string ⟨#[37]⟩, .int .i64 2, 4⟩] ⟨#[61]⟩ (.int .i64 2) rfl; have h6 := jD9 w #[⟨.string ⟨#[43]⟩, .int .i64 2, 0⟩, ⟨.string ⟨#[45]⟩, .int .i64 2, 1⟩, ⟨.string ⟨#[42]⟩, .int .i64 2, 2⟩, ⟨.string ⟨#[47]⟩, .int .i64 2, 3⟩, ⟨.string ⟨#[37]⟩, .int .i64 2, 4⟩, ⟨.string ⟨#[61]⟩, .int .i64 2, 5⟩] ⟨#[60]⟩ (.int .i64 2) rfl; have h7 := jD9 w #[⟨.string ⟨#[43]⟩, .int .i64 2, 0⟩, ⟨.string ⟨#[45]⟩, .int .i64 2, 1⟩, ⟨.string ⟨#[42]⟩, .int .i64 2, 2⟩, ⟨.string ⟨#[47]⟩, .int .i64 2, 3⟩, ⟨.string ⟨#[37]⟩, .int .i64 2, 4⟩, ⟨.string ⟨#[61]⟩, .int .i64 2, 5⟩, ⟨.string ⟨#[60]⟩, .int .i64 2, 6⟩] ⟨#[99, 112, 120]⟩ (.int .i64 2) rfl; have h8 := jD9 w #[⟨.string ⟨#[43]⟩, .int .i64 2, 0⟩, ⟨.string ⟨#[45]⟩, .int .i64 2, 1⟩, ⟨.string ⟨#[42]⟩, .int .i64 2, 2⟩, ⟨.string ⟨#[47]⟩, .int .i64 2, 3⟩, ⟨.string ⟨#[37]⟩, .int .i64 2, 4⟩, ⟨.string ⟨#[61]⟩, .int .i64 2, 5⟩, ⟨.string ⟨#[60]⟩, .int .i64 2, 6⟩, ⟨.string ⟨#[99, 112, 120]⟩, .int .i64 2, 7⟩] ⟨#[114, 101]⟩ (.int .i64 1) rfl; have h9 := jD9 w #[⟨.string ⟨#[43]⟩, .int .i64 2, 0⟩, ⟨.string ⟨#[45]⟩, .int .i64 2, 1⟩, ⟨.string ⟨#[42]⟩, .int .i64 2, 2⟩, ⟨.string ⟨#[47]⟩, .int .i64 2, 3⟩, ⟨.string ⟨#[37]⟩, .int .i64 2, 4⟩, ⟨.string ⟨#[61]⟩, .int .i64 2, 5⟩, ⟨.string ⟨#[60]⟩, .int .i64 2, 6⟩, ⟨.string ⟨#[99, 112, 120]⟩, .int .i64 2, 7⟩, ⟨.string ⟨#[114, 101]⟩, .int .i64 1, 8⟩] ⟨#[105, 109]⟩ (.int .i64 1) rfl; have h10 := jD9 w #[⟨.string ⟨#[43]⟩, .int .i64 2, 0⟩, ⟨.string ⟨#[45]⟩, .int .i64 2, 1⟩, ⟨.string ⟨#[42]⟩, .int .i64 2, 2⟩, ⟨.string ⟨#[47]⟩, .int .i64 2, 3⟩, ⟨.string ⟨#[37]⟩, .int .i64 2, 4⟩, ⟨.string ⟨#[61]⟩, .int .i64 2, 5⟩, ⟨.string ⟨#[60]⟩, .int .i64 2, 6⟩, ⟨.string ⟨#[99, 112, 120]⟩, .int .i64 2, 7⟩, ⟨.string ⟨#[114, 101]⟩, .int .i64 1, 8⟩, ⟨.string ⟨#[105, 109]⟩, .int .i64 1, 9⟩] ⟨#[99, 97, 100, 100]⟩ (.int .i64 2) rfl; have h11 := jD9 w #[⟨.string ⟨#[43]⟩, .int .i64 2, 0⟩, ⟨.string ⟨#[45]⟩, .int .i64 2, 1⟩, ⟨.string ⟨#[42]⟩, .int .i64 2, 2⟩, ⟨.string ⟨#[47]⟩, .int .i64 2, 3⟩, ⟨.string ⟨#[37]⟩, .int .i64 2, 4⟩, ⟨.string ⟨#[61]⟩, .int .i64 2, 5⟩, ⟨.string ⟨#[60]⟩, .int .i64 2, 6⟩, ⟨.string ⟨#[99, 112, 120]⟩, .int .i64 2, 7⟩, ⟨.string ⟨#[114, 101]⟩, .int .i64 1, 8⟩, ⟨.string ⟨#[105, 109]⟩, .int .i64 1, 9⟩, ⟨.string ⟨#[99, 97, 100, 100]⟩, .int .i64 2, 10⟩] ⟨#[99, 109, 117, 108]⟩ (.int .i64 2) rfl; simp only [List.push_toArray, List.nil_append, List.cons_append, List.size_toArray, List.length_nil, List.length_cons, Nat.zero_add, Nat.reduceAdd] at h0 h1 h2 h3 h4 h5 h6 h7 h8 h9 h10 h11; go_enter Tryz.func44, Tryz.ntmps44; go_wp2; go_ret; exact ⟨rfl, rfl⟩
theorem str_eq (a b : List UInt8) : ((⟨a.toArray⟩ : ByteArray) == ⟨b.toArray⟩) = (a == b) := by
 rw [Bool.eq_iff_iff, MapKept.bytes_beq]; simp
theorem jOA (s : List UInt8) : ∃ r, Instr.findNow .string (.string ⟨s.toArray⟩) jBN.toList 0 = some r /\ ((r = none /\ Px.jBG s = 0) \/ ∃ j n, r = some (j, .int .i64 n) /\ Px.jBG s = n) := by
 by_cases e0 : s = [43]
 . subst e0; exact ⟨_, by rfl, .inr ⟨0, 2, rfl, by decide⟩⟩
 by_cases e1 : s = [45]
 . subst e1; exact ⟨_, by rfl, .inr ⟨1, 2, rfl, by decide⟩⟩
 by_cases e2 : s = [42]
 . subst e2; exact ⟨_, by rfl, .inr ⟨2, 2, rfl, by decide⟩⟩
 by_cases e3 : s = [47]
 . subst e3; exact ⟨_, by rfl, .inr ⟨3, 2, rfl, by decide⟩⟩
 by_cases e4 : s = [37]
 . subst e4; exact ⟨_, by rfl, .inr ⟨4, 2, rfl, by decide⟩⟩
 by_cases e5 : s = [61]
 . subst e5; exact ⟨_, by rfl, .inr ⟨5, 2, rfl, by decide⟩⟩
 by_cases e6 : s = [60]
 . subst e6; exact ⟨_, by rfl, .inr ⟨6, 2, rfl, by decide⟩⟩
 by_cases e7 : s = [99, 112, 120]
 . subst e7; exact ⟨_, by rfl, .inr ⟨7, 2, rfl, by decide⟩⟩
 by_cases e8 : s = [114, 101]
 . subst e8; exact ⟨_, by rfl, .inr ⟨8, 1, rfl, by decide⟩⟩
 by_cases e9 : s = [105, 109]
 . subst e9; exact ⟨_, by rfl, .inr ⟨9, 1, rfl, by decide⟩⟩
 by_cases e10 : s = [99, 97, 100, 100]
 . subst e10; exact ⟨_, by rfl, .inr ⟨10, 2, rfl, by decide⟩⟩
 by_cases e11 : s = [99, 109, 117, 108]
 . subst e11; exact ⟨_, by rfl, .inr ⟨11, 2, rfl, by decide⟩⟩
 refine ⟨none, ?_, .inl ⟨rfl, by simp [Px.jBG, e0, e1, e2, e3, e4, e5, e6, e7, e8, e9, e10, e11]⟩⟩; have d0 : ((⟨s.toArray⟩ : ByteArray) == ⟨#[43]⟩) = false := by rw [show (⟨#[43]⟩ : ByteArray) = ⟨([43] : List UInt8).toArray⟩ from rfl, str_eq]; simpa using e0
 have d1 : ((⟨s.toArray⟩ : ByteArray) == ⟨#[45]⟩) = false := by rw [show (⟨#[45]⟩ : ByteArray) = ⟨([45] : List UInt8).toArray⟩ from rfl, str_eq]; simpa using e1
 have d2 : ((⟨s.toArray⟩ : ByteArray) == ⟨#[42]⟩) = false := by rw [show (⟨#[42]⟩ : ByteArray) = ⟨([42] : List UInt8).toArray⟩ from rfl, str_eq]; simpa using e2
 have d3 : ((⟨s.toArray⟩ : ByteArray) == ⟨#[47]⟩) = false := by rw [show (⟨#[47]⟩ : ByteArray) = ⟨([47] : List UInt8).toArray⟩ from rfl, str_eq]; simpa using e3
 have d4 : ((⟨s.toArray⟩ : ByteArray) == ⟨#[37]⟩) = false := by rw [show (⟨#[37]⟩ : ByteArray) = ⟨([37] : List UInt8).toArray⟩ from rfl, str_eq]; simpa using e4
 have d5 : ((⟨s.toArray⟩ : ByteArray) == ⟨#[61]⟩) = false := by rw [show (⟨#[61]⟩ : ByteArray) = ⟨([61] : List UInt8).toArray⟩ from rfl, str_eq]; simpa using e5
 have d6 : ((⟨s.toArray⟩ : ByteArray) == ⟨#[60]⟩) = false := by rw [show (⟨#[60]⟩ : ByteArray) = ⟨([60] : List UInt8).toArray⟩ from rfl, str_eq]; simpa using e6
 have d7 : ((⟨s.toArray⟩ : ByteArray) == ⟨#[99, 112, 120]⟩) = false := by rw [show (⟨#[99, 112, 120]⟩ : ByteArray) = ⟨([99, 112, 120] : List UInt8).toArray⟩ from rfl, str_eq]; simpa using e7
 have d8 : ((⟨s.toArray⟩ : ByteArray) == ⟨#[114, 101]⟩) = false := by rw [show (⟨#[114, 101]⟩ : ByteArray) = ⟨([114, 101] : List UInt8).toArray⟩ from rfl, str_eq]; simpa using e8
 have d9 : ((⟨s.toArray⟩ : ByteArray) == ⟨#[105, 109]⟩) = false := by rw [show (⟨#[105, 109]⟩ : ByteArray) = ⟨([105, 109] : List UInt8).toArray⟩ from rfl, str_eq]; simpa using e9
 have d10 : ((⟨s.toArray⟩ : ByteArray) == ⟨#[99, 97, 100, 100]⟩) = false := by rw [show (⟨#[99, 97, 100, 100]⟩ : ByteArray) = ⟨([99, 97, 100, 100] : List UInt8).toArray⟩ from rfl, str_eq]; simpa using e10
 have d11 : ((⟨s.toArray⟩ : ByteArray) == ⟨#[99, 109, 117, 108]⟩) = false := by rw [show (⟨#[99, 109, 117, 108]⟩ : ByteArray) = ⟨([99, 109, 117, 108] : List UInt8).toArray⟩ from rfl, str_eq]; simpa using e11
 simp [jBN, Instr.findNow, Instr.sameNow, d0, d1, d2, d3, d4, d5, d6, d7, d8, d9, d10, d11]
theorem run_look (w : World) (B : Nat) (s : List UInt8) (hb : w.heap[B]? = some (.map jBN 12)) :
 (Instr.lookup 97 (.map (some B)) (.string ⟨s.toArray⟩) false).run Tryz.prog w = .ok (.int .i64 (Px.jBG s)) w := by
 obtain ⟨r, hf, h⟩ := jOA s; have hz : (zeroValue 3).run Tryz.prog w = .ok (.int .i64 0) w := by kernel_rfl
 have hck := MapKept.run_checkKey (P := Tryz.prog) (w := w) (kt := 9) (d := .string) (k := .string ⟨s.toArray⟩) Tryz.underlying9 (by simp [MapKept.IsKey]) jBN.isEmpty 9999
 rcases h with ⟨rfl, h0⟩ | ⟨j, n, rfl, hn⟩
 . simp [Instr.lookup, run_underlying Tryz.underlying97, MapKept.run_getObj_map hb, hck, MapKept.run_findKey Tryz.underlying9 hf, hz, Result.andThen, h0]
 . simp [Instr.lookup, run_underlying Tryz.underlying97, MapKept.run_getObj_map hb, hck, MapKept.run_findKey Tryz.underlying9 hf, Result.andThen, hn]
theorem jI8 (k : Nat) (n : Px.Node) (lv : Value) (w : World) (hk : jAC w k lv n.list) :
 Calls Tryz.prog 48 #[jA7 n lv] w fun e w' => e = .returned (.string ⟨(Px.word n).toArray⟩) /\ Below w.heap.size w w' := by
 cases hl : n.list with
 | nil =>
   obtain ⟨p, c, rfl⟩ := hk.len; rw [hl]; have hw : Px.word n = [] := by rw [Px.word, hl]
   rw [hw]; clear hl hw hk; go_enter Tryz.func48, Tryz.ntmps48; unfold jA7; go_wp2; go_ret; exact ⟨rfl, (Below.refl _ _).alloc (Nat.le_refl _) _⟩
 | cons m r =>
   obtain ⟨j, g, o, c, rfl, rfl, h3, h4, h5⟩ := hk.some (by rw [hl]; simp); obtain ⟨kv, hn, hkm⟩ := h5 0 m (by rw [hl]; rfl); have hlen : 0 < n.list.length := by rw [hl]; simp
   have hlz : ((n.list.length : Int) == 0) = false := by simp [hl]; omega
   have hw : Px.word n = if Px.jAF m then [] else m.tok.text := by rw [Px.word, hl]; rfl
   rw [Nat.zero_mul, Nat.add_zero] at hn; obtain ⟨c0, c1, c2, c3, c4, c5⟩ := hn.below (Below.alloc (Below.refl w.heap.size w) (Nat.le_refl _) (.cells #[.int .i64 n.tok.kind, .int .i64 n.tok.pos, .string ⟨n.tok.text.toArray⟩, .int .i64 n.tok.int, .slice (some ⟨g, o, none⟩) n.list.length c, .int .i64 n.takes] 105)); have HW := hid hw; have HN := hid hn; clear hw h5 hl hk hn; cases hm : Px.jAF m with
   | true =>
     have hw2 : Px.word n = [] := by rw [HW.out, hm]; rfl
     rw [hw2]; clear hw2; go_enter Tryz.func48, Tryz.ntmps48; unfold jA7; go_wp2_with fail; refine (jB2 m _ _ _ hm).mono ?_; rintro e w1 ⟨rfl, hb⟩; have HB := hid (jAR hb); clear hb
     go_wp2; go_ret; exact ⟨rfl, HB.out⟩
   | false =>
     have hw2 : Px.word n = m.tok.text := by rw [HW.out, hm]; rfl
     rw [hw2]; clear hw2; go_enter Tryz.func48, Tryz.ntmps48; unfold jA7; go_wp2_with fail; refine (jB2 m _ _ _ hm).mono ?_; rintro e w1 ⟨rfl, hb⟩; obtain ⟨d0, d1, d2, d3, d4, d5⟩ := (jCX w n _ _).below hb; have HB := hid (jAR hb); clear hb
     obtain ⟨e0, e1, e2, e3, e4, e5⟩ := HN.out.below HB.out; go_wp2; go_ret; exact ⟨rfl, HB.out⟩
theorem jHM {b : Nat} {w0 w : World} (h : Below b w0 w) (n : Nat) : Below b w0 (w.drewN n) := ⟨h.os, h.tape, h.output, h.size, h.block⟩
def jF3 (tv : Value) (i stop B : Nat) : Obj := .cells #[tv, .int .i64 i, .int .i64 stop, .map (some B)] 100
structure Reader (w : World) (r : Nat) (tv : Value) (all : List Lx.Tok) (i stop B : Nat) : Prop where
 obj : w.heap[r]? = some (jF3 tv i stop B)
 le : i <= all.length
 short : all.length <= 4096
 stop_le : stop <= 4096
 prims : w.heap[B]? = some (.map jBN 12)
 toks : ∃ p c, tv = .slice p all.length c /\ ∀ k t, all[k]? = some t -> ∃ g, p = some ⟨g, 0, none⟩ /\ g ≠ r /\ g < w.heap.size /\ w.cell? ⟨g, k * 4, none⟩ = some (.int .i64 t.kind) /\ w.cell? ⟨g, k * 4 + 1, none⟩ = some (.int .i64 t.pos) /\ w.cell? ⟨g, k * 4 + 2, none⟩ = some (.string ⟨t.text.toArray⟩) /\ w.cell? ⟨g, k * 4 + 3, none⟩ = some (.int .i64 t.int)
theorem Reader.ne {w : World} {r : Nat} {tv : Value} {all : List Lx.Tok} {i stop B : Nat} (h : Reader w r tv all i stop B) : B ≠ r := by
 intro e; have h1 := h.obj; have h2 := h.prims
 rw [e, h1] at h2; simp [jF3] at h2
theorem Reader.lt {w : World} {r : Nat} {tv : Value} {all : List Lx.Tok} {i stop B : Nat} (h : Reader w r tv all i stop B) : r < w.heap.size := (Array.getElem?_eq_some_iff.1 h.obj).1
theorem Reader.moved {w w' : World} {r : Nat} {tv : Value} {all : List Lx.Tok} {i j stop B : Nat} (h : Reader w r tv all i stop B) (hg : w.grownBy w' (some r)) (ho : w'.heap[r]? = some (jF3 tv j stop B)) (hj : j <= all.length) : Reader w' r tv all j stop B := by
 refine ⟨ho, hj, h.short, h.stop_le, ?_, ?_⟩
 . rw [hg.block B (Array.getElem?_eq_some_iff.1 h.prims).1 (fun e => h.ne (by simpa using e))]; exact h.prims
 . obtain ⟨p, c, hp, ht⟩ := h.toks; refine ⟨p, c, hp, fun k t hk => ?_⟩; obtain ⟨g, hpg, hgr, hgl, c0, c1, c2, c3⟩ := ht k t hk; have e : ∀ o, w'.cell? ⟨g, o, none⟩ = w.cell? ⟨g, o, none⟩ := fun o => World.cell?_of_block (w := w) (a := ⟨g, o, none⟩) (hg.block g hgl (fun e => hgr (by simpa using e)))
   exact ⟨g, hpg, hgr, Nat.lt_of_lt_of_le hgl hg.size, by rw [e, c0], by rw [e, c1], by rw [e, c2], by rw [e, c3]⟩
theorem Reader.below {w w' : World} {r : Nat} {tv : Value} {all : List Lx.Tok} {i stop B : Nat} (h : Reader w r tv all i stop B) (hb : Below w.heap.size w w') : Reader w' r tv all i stop B :=
 h.moved (jBE hb (Nat.le_refl _) (some r)) (by rw [hb.block r h.lt]; exact h.obj) h.le
theorem jB9 {r : Nat} {a b c : World} (h : a.grownBy b (some r)) (k : b.grownBy c (some r)) : a.grownBy c (some r) :=
 ⟨k.os.trans h.os, k.tape.trans h.tape, k.output.trans h.output, Nat.le_trans h.size k.size, fun x hx hr => (k.block x (Nat.lt_of_lt_of_le hx h.size) hr).trans (h.block x hx hr)⟩
theorem Reader.cells {w : World} {r : Nat} {tv : Value} {all : List Lx.Tok} {i stop B : Nat} (h : Reader w r tv all i stop B) :
 w.cell? ⟨r, 0, none⟩ = some tv /\ w.cell? ⟨r, 1, none⟩ = some (.int .i64 i) /\ w.cell? ⟨r, 2, none⟩ = some (.int .i64 stop) /\ w.cell? ⟨r, 3, none⟩ = some (.map (some B)) := by
 have ho := h.obj; refine ⟨?_, ?_, ?_, ?_⟩ <;> simp [World.cell?, ho, jF3]
theorem jF4 (r : Nat) (tv : Value) (all : List Lx.Tok) (i stop B : Nat) (w : World) (h : Reader w r tv all i stop B) :
 Calls Tryz.prog 45 #[.pointer (some ⟨r, 0, none⟩)] w fun e w' => e = .returned (.bool (decide (i < all.length))) /\ Below w.heap.size w w' := by
 obtain ⟨c0, c1, c2, c3⟩ := h.cells; obtain ⟨p, c, rfl, _⟩ := h.toks; clear h; go_enter Tryz.func45, Tryz.ntmps45; go_wp2
 go_quiet (fail)
 go_wp2; go_ret; exact ⟨rfl, jHM (Below.refl _ _) _⟩
def tokV (t : Lx.Tok) : Value := .agg #[.int .i64 t.kind, .int .i64 t.pos, .string ⟨t.text.toArray⟩, .int .i64 t.int]
theorem jKP (r : Nat) (tv : Value) (all : List Lx.Tok) (i stop B : Nat) (w : World) (h : Reader w r tv all i stop B) (hi : i = all.length) :
 Calls Tryz.prog 80 #[.pointer (some ⟨r, 0, none⟩)] w fun e w' => e = jAW stop /\ Below w.heap.size w w' := by
 have h1 := h.below ((Below.refl _ w).alloc (Nat.le_refl _) (.cells #[.int .i64 0, .int .i64 0, .string ⟨#[]⟩, .int .i64 0] 102)); have H1 := hid h1; have hd : decide (i < all.length) = false := by simp; omega
 clear h h1 hi; go_enter Tryz.func80, Tryz.ntmps80; go_wp2_with fail; refine (jF4 r tv all i stop B _ H1.out).mono ?_; rw [hd]; rintro e w1 ⟨rfl, hb⟩; obtain ⟨c0, c1, c2, c3⟩ := (H1.out.below hb).cells; have HB := hid (jAR hb); clear hb
 go_wp2; exact ⟨rfl, rfl, HB.out⟩
theorem jDE (r : Nat) (tv : Value) (all : List Lx.Tok) (i stop B : Nat) (w : World) (h : Reader w r tv all i stop B) (t : Lx.Tok) (ht : all[i]? = some t) :
 Calls Tryz.prog 80 #[.pointer (some ⟨r, 0, none⟩)] w fun e w' => e = .returned (tokV t) /\ Below w.heap.size w w' := by
 have hlt : i < all.length := (List.getElem?_eq_some_iff.1 ht).1; have hle := h.short; have h1 := h.below ((Below.refl _ w).alloc (Nat.le_refl _) (.cells #[.int .i64 0, .int .i64 0, .string ⟨#[]⟩, .int .i64 0] 102)); have H1 := hid h1; have hd : decide (i < all.length) = true := by simpa using hlt
 obtain ⟨p, c, rfl, htk⟩ := h.toks; obtain ⟨g, rfl, hgr, hgl, d0, d1, d2, d3⟩ := htk i t ht; have hgn : ¬ g = w.heap.size := by omega
 have D := hid (And.intro d0 (And.intro d1 (And.intro d2 d3))); clear h h1 htk d0 d1 d2 d3; go_enter Tryz.func80, Tryz.ntmps80; go_wp2_with fail; refine (jF4 r _ all i stop B _ H1.out).mono ?_; rw [hd]; rintro e w1 ⟨rfl, hb⟩; have hR := H1.out.below hb; obtain ⟨c0, c1, c2, c3⟩ := hR.cells
 obtain ⟨d0, d1, d2, d3⟩ : w1.cell? ⟨g, i * 4, none⟩ = some (.int .i64 t.kind) /\ w1.cell? ⟨g, i * 4 + 1, none⟩ = some (.int .i64 t.pos) /\ w1.cell? ⟨g, i * 4 + 2, none⟩ = some (.string ⟨t.text.toArray⟩) /\ w1.cell? ⟨g, i * 4 + 3, none⟩ = some (.int .i64 t.int) := by
  have e : ∀ o, w1.cell? ⟨g, o, none⟩ = w.cell? ⟨g, o, none⟩ := fun o => (jAR hb).cell (p := ⟨g, o, none⟩) hgl
  rw [e, e, e, e]; exact D.out
 obtain ⟨o0, o1, o2, o3⟩ : (w1.cell? ⟨w.heap.size, 0, none⟩ = some (.int .i64 0)) /\ (w1.cell? ⟨w.heap.size, 1, none⟩ = some (.int .i64 0)) /\ (w1.cell? ⟨w.heap.size, 2, none⟩ = some (.string ⟨#[]⟩)) /\ (w1.cell? ⟨w.heap.size, 3, none⟩ = some (.int .i64 0)) := by
  refine ⟨?_, ?_, ?_, ?_⟩ <;> (rw [hb.cell (by simp), World.cell?_alloc_mark]; rfl)
 have hf : ∀ o, w1.frozen? ⟨w.heap.size, o, none⟩ = false := fun o => by rw [hb.frozen (by simp)]; simp only [World.frozen?, heap_alloc_new]; simp
 have HB := hid (jAR hb); have HS := hid hb.size; clear hb hR; go_wp2_with fail
 go_region
 go_wp2; refine bodyPost_ret (v := tokV t) (by simp [results, Tryz.results80, go_sem, tokV, o0, o1, o2, o3]) rfl ⟨rfl, ?_⟩; exact (((((HB.out.setCell (Nat.le_refl _) _).setCell (Nat.le_refl _) _).setCell (Nat.le_refl _) _).setCell (Nat.le_refl _) _)).drew
end Go.Proofs.YtnhndamfbeiljaaGreatDoor
