/-
  A move of a walk over a region that draws, its side conditions reckoned.
-/
import Derived.Test.YtlnjdclmopblcaaDoorProg
import Derived.WalkKit
import Derived.Below
import Derived.Deep.RegionHeld
import Derived.Lib.Hide
set_option linter.unusedVariables false
namespace Go.Proofs.YtlnjdclmopblcaaDoor
open Go Go.RowKit
set_option linter.unusedVariables false
set_option linter.unusedSimpArgs false
theorem wT {P : Program} {ops : Array Oper} {Q : Exit → Act → World → Prop} {md : Region.Mode} {S : World → Prop} (i : Nat) (v : Value) {oi : Oper} {fuel : Nat} {listed : Array Bool} {a : Act} {w : World} (hi : ops[i]? = some oi)
  (hy : YieldsIf P ops S oi v a) (hS : S w) (h : wpAnyH P md ops Q S fuel (listed.setIfInBounds i true) (a.put oi.dst v) w)
  (hs : Region.noSelect ops = true := by kernel_rfl) (hf : Region.free md ops listed i = true := by kernel_rfl) (hr : (Region.ready md ops listed).contains i = true := by kernel_rfl)
  (hQ : ∀ c a w, Q (.panic c) (a.put oi.dst v) w → Q (.panic c) a w := by exact fun _ _ _ h => h) : wpAnyH P md ops Q S (fuel + 1) listed a w :=
  wpAnyH_take hi hs hf hr hQ hy hS h
theorem wR {P : Program} {ops : Array Oper} {Q : Exit → Act → World → Prop} {md : Region.Mode} {S : World → Prop} (i : Nat) {o : Oper} {fuel : Nat} {listed : Array Bool} {a : Act} {w : World} (ho : ops[i]? = some o)
  (h : ∀ K' : Act → World → Prop, Shut (∀ a w, S w → (S w → wpAnyH P md ops Q S fuel (listed.setIfInBounds i true) a w) → K' a w) → if Region.wanted o (yielded ops a.tmps) = true then Oper.wp P o a w K' Q else K' (a.put o.dst undef) w)
  (hr : Region.ready md ops listed = [i] := by kernel_rfl) : wpAnyH P md ops Q S (fuel + 1) listed a w :=
  wpAnyH_ready hr (by simp) (AllReadyH.cons ho h AllReadyH.nil)
theorem wS {P : Program} {ops : Array Oper} {Q : Exit → Act → World → Prop} {md : Region.Mode} {S : World → Prop} (i : Nat) (v : Value) {oi : Oper} {fuel : Nat} {listed : Array Bool} {a : Act} {w : World} (hi : ops[i]? = some oi)
  (hS : S w) (h : wpAnyH P md ops Q S fuel (listed.setIfInBounds i true) (a.put oi.dst v) w) (hy : YieldsIf P ops S oi v a := by exact Or.inl ⟨by rfl, fun w' hSw => by go_simp⟩)
  (hs : Region.noSelect ops = true := by kernel_rfl) (hf : Region.free md ops listed i = true := by kernel_rfl) (hr : (Region.ready md ops listed).contains i = true := by kernel_rfl)
  (hQ : ∀ c a w, Q (.panic c) (a.put oi.dst v) w → Q (.panic c) a w := by exact fun _ _ _ h => h) : wpAnyH P md ops Q S (fuel + 1) listed a w :=
  wpAnyH_take hi hs hf hr hQ hy hS h
theorem wU {P : Program} {ops : Array Oper} {Q : Exit → Act → World → Prop} {md : Region.Mode} {S : World → Prop} (i : Nat) (v : Value) {oi : Oper} {fuel : Nat} {listed : Array Bool} {a : Act} {w : World} (hi : ops[i]? = some oi)
  (hS : S w) (h : wpAnyH P md ops Q S fuel (listed.setIfInBounds i true) (a.put oi.dst v) w) (hy : YieldsIf P ops S oi v a := by exact Or.inl ⟨by go_simp, fun w' hSw => by go_simp⟩)
  (hs : Region.noSelect ops = true := by kernel_rfl) (hf : Region.free md ops listed i = true := by kernel_rfl) (hr : (Region.ready md ops listed).contains i = true := by kernel_rfl)
  (hQ : ∀ c a w, Q (.panic c) (a.put oi.dst v) w → Q (.panic c) a w := by exact fun _ _ _ h => h) : wpAnyH P md ops Q S (fuel + 1) listed a w :=
  wpAnyH_take hi hs hf hr hQ hy hS h
theorem bT {w w1 w2 : World} (h : Hid (Below w.heap.size w w1)) (g : Below w1.heap.size w1 w2) : Hid (Below w.heap.size w w2) := Lib.hid (h.out.trans (g.mono h.out.size))
theorem xC {w : World} {g : Nat} {cs : Array Value} {T : TypeId} {fr : Nat × Nat} (h : w.heap[g]? = some (.cells cs T fr)) (j : Nat) (v : Value) (hv : cs[j]? = some v) : w.cell? ⟨g, j, none⟩ = some v := by
  simp only [World.cell?, h]; simpa using hv
theorem xD {w : World} {g : Nat} {cs : Array Value} {T : TypeId} (h : w.heap[g]? = some (.cells cs T (0, 0))) (o : Nat) : w.frozen? ⟨g, o, none⟩ = false := by
  simp only [World.frozen?, h]; simp
inductive Sets (g : Nat) (w : World) : World → Prop
  | n : Sets g w w
  | s {w' : World} (k : Nat) (v : Value) : Sets g w w' → Sets g w (w'.setCell ⟨g, k, none⟩ v)
theorem Sets.oth {g : Nat} {w w' : World} (h : Sets g w w') {i : Nat} (e : i ≠ g) : w'.heap[i]? = w.heap[i]? := by
  induction h with
  | n => rfl
  | s k v _ ih => exact (Below.heap_setCell _ ⟨g, k, none⟩ v i e).trans ih
theorem Sets.bel {g l : Nat} {u w w' : World} (h : Sets g w w') (hb : Below l u w) (e : l ≤ g) : Below l u w' := by
  induction h with
  | n => exact hb
  | s k v _ ih => exact Below.setCell (p := ⟨g, k, none⟩) ih e v
theorem xO {w w' : World} {i j g : Nat} {o p : Option Obj} (h : RowKit.Hid (w.heap[i]? = o)) (H : RowKit.Hid (w'.heap[j]? = p)) (S : Sets g w w' := by repeat (with_reducible first | exact .n | apply Sets.s)) (e : i ≠ g := by omega) : RowKit.Hid (w'.heap[i]? = o) := Lib.hid ((S.oth e).trans h.out)
theorem xS {u w w' : World} {l j g : Nat} {p : Option Obj} (h : RowKit.Hid (Below l u w)) (H : RowKit.Hid (w'.heap[j]? = p)) (S : Sets g w w' := by repeat (with_reducible first | exact .n | apply Sets.s)) (e : l ≤ g := by omega) : RowKit.Hid (Below l u w') := Lib.hid (S.bel h.out e)
theorem aO {w : World} {g j : Nat} {o o' : Obj} {p : Option Obj} (h : RowKit.Hid (w.heap[g]? = some o)) (H : RowKit.Hid ((w.alloc o').heap[j]? = p)) : RowKit.Hid ((w.alloc o').heap[g]? = some o) := Lib.hid ((Below.heap_alloc w o' g (Array.getElem?_eq_some_iff.1 h.out).1).trans h.out)
theorem aB {v w : World} {j : Nat} {o' : Obj} {p : Option Obj} (h : RowKit.Hid (Below v.heap.size v w)) (H : RowKit.Hid ((w.alloc o').heap[j]? = p)) : RowKit.Hid (Below v.heap.size v (w.alloc o')) := Lib.hid (h.out.alloc h.out.size o')
theorem bE {w w' : World} {g : Nat} {o : Obj} (h : RowKit.Hid (w.heap[g]? = some o)) (hb : Below w.heap.size w w') : RowKit.Hid (w'.heap[g]? = some o) := Lib.hid ((hb.block g (Array.getElem?_eq_some_iff.1 h.out).1).trans h.out)
theorem bS {a l : Nat} {w w' : World} (h : a ≤ w.heap.size) (hb : Below l w w') : a ≤ w'.heap.size := Nat.le_trans h hb.size
theorem aP : (∀ (a : Act) (t : Tmp) (v : Value), a.put (some t) v = { a with tmps := a.tmps.setIfInBounds t v }) ∧ (∀ (a : Act) (v : Value), a.put none v = a) ∧ (∀ {α : Type} {l : List α} {i : Nat} (h : i < l.toArray.size), l.toArray[i] = l[i]'h) ∧
  (∀ {α : Type} (a : α) (l : List α) (i : Nat) (h : i + 1 < (a :: l).length), (a :: l)[i + 1] = l[i]'(Nat.lt_of_succ_lt_succ h)) ∧ (∀ {α : Type} (a : α) (l : List α) (h : 0 < (a :: l).length), (a :: l)[0] = a) ∧ (∀ {α : Type} (l : List α) (i : Nat) (a : α), l.toArray.setIfInBounds i a = (l.set i a).toArray) ∧
  (∀ {α : Type} {x : α} {l : List α} {a : α}, (x :: l).set 0 a = a :: l) ∧ (∀ {α : Type} {x : α} {l : List α} {i : Nat} {a : α}, (x :: l).set (i + 1) a = x :: l.set i a) :=
  ⟨fun _ _ _ => rfl, fun _ _ => rfl, List.getElem_toArray, List.getElem_cons_succ, List.getElem_cons_zero, List.setIfInBounds_toArray, List.set_cons_zero, List.set_cons_succ⟩

theorem xE {w : World} {g : Nat} {cs : Array Value} {T : TypeId} (h : w.heap[g]? = some (.cells cs T (0, 0))) (j : Nat) (v : Value) : (w.setCell ⟨g, j, none⟩ v).heap[g]? = some (.cells (cs.setIfInBounds j v) T (0, 0)) := heap_setCell_same w g j _ _ _ h
theorem xP2 {w : World} {g : Nat} {za zb : Value} {T : TypeId} (h : w.heap[g]? = some (.cells #[za, zb] T (0, 0))) (a b : Value) : ((w.setCell ⟨g, 0, none⟩ a).setCell ⟨g, 1, none⟩ b).heap[g]? = some (.cells #[a, b] T (0, 0)) := by
  have := xE (xE h 0 a) 1 b
  simpa using this
theorem xP4 {w : World} {g : Nat} {za zb zc zd : Value} {T : TypeId} (h : w.heap[g]? = some (.cells #[za, zb, zc, zd] T (0, 0))) (a b c d : Value) : ((((w.setCell ⟨g, 0, none⟩ a).setCell ⟨g, 1, none⟩ b).setCell ⟨g, 2, none⟩ c).setCell ⟨g, 3, none⟩ d).heap[g]? = some (.cells #[a, b, c, d] T (0, 0)) := by
  have := xE (xE (xE (xE h 0 a) 1 b) 2 c) 3 d
  simpa using this
theorem xP10 {w : World} {g : Nat} {za zb zc zd zk zm zn zq zr zs : Value} {T : TypeId} (h : w.heap[g]? = some (.cells #[za, zb, zc, zd, zk, zm, zn, zq, zr, zs] T (0, 0))) (a b c d k m n q r s : Value) : ((((((((((w.setCell ⟨g, 0, none⟩ a).setCell ⟨g, 1, none⟩ b).setCell ⟨g, 2, none⟩ c).setCell ⟨g, 3, none⟩ d).setCell ⟨g, 4, none⟩ k).setCell ⟨g, 5, none⟩ m).setCell ⟨g, 6, none⟩ n).setCell ⟨g, 7, none⟩ q).setCell ⟨g, 8, none⟩ r).setCell ⟨g, 9, none⟩ s).heap[g]? = some (.cells #[a, b, c, d, k, m, n, q, r, s] T (0, 0)) := by
  have := xE (xE (xE (xE (xE (xE (xE (xE (xE (xE h 0 a) 1 b) 2 c) 3 d) 4 k) 5 m) 6 n) 7 q) 8 r) 9 s
  simpa using this
theorem xQ2 {w : World} {g : Nat} {a b : Value} {T : TypeId} {f : Nat × Nat} (h : w.heap[g]? = some (.cells #[a, b] T f)) : w.cell? ⟨g, 0, none⟩ = some a ∧ w.cell? ⟨g, 1, none⟩ = some b := ⟨xC h 0 _ rfl, xC h 1 _ rfl⟩
theorem xF2 {w : World} {g : Nat} {a b : Value} {T : TypeId} (h : w.heap[g]? = some (.cells #[a, b] T (0, 0))) : w.cell? ⟨g, 0, none⟩ = some a ∧ w.cell? ⟨g, 1, none⟩ = some b ∧ ∀ o, w.frozen? ⟨g, o, none⟩ = false := ⟨xC h 0 _ rfl, xC h 1 _ rfl, xD h⟩
theorem xQ3 {w : World} {g : Nat} {a b c : Value} {T : TypeId} {f : Nat × Nat} (h : w.heap[g]? = some (.cells #[a, b, c] T f)) : w.cell? ⟨g, 0, none⟩ = some a ∧ w.cell? ⟨g, 1, none⟩ = some b ∧ w.cell? ⟨g, 2, none⟩ = some c := ⟨xC h 0 _ rfl, xC h 1 _ rfl, xC h 2 _ rfl⟩
theorem xF3 {w : World} {g : Nat} {a b c : Value} {T : TypeId} (h : w.heap[g]? = some (.cells #[a, b, c] T (0, 0))) : w.cell? ⟨g, 0, none⟩ = some a ∧ w.cell? ⟨g, 1, none⟩ = some b ∧ w.cell? ⟨g, 2, none⟩ = some c ∧ ∀ o, w.frozen? ⟨g, o, none⟩ = false := ⟨xC h 0 _ rfl, xC h 1 _ rfl, xC h 2 _ rfl, xD h⟩
theorem xQ4 {w : World} {g : Nat} {a b c d : Value} {T : TypeId} {f : Nat × Nat} (h : w.heap[g]? = some (.cells #[a, b, c, d] T f)) : w.cell? ⟨g, 0, none⟩ = some a ∧ w.cell? ⟨g, 1, none⟩ = some b ∧ w.cell? ⟨g, 2, none⟩ = some c ∧ w.cell? ⟨g, 3, none⟩ = some d := ⟨xC h 0 _ rfl, xC h 1 _ rfl, xC h 2 _ rfl, xC h 3 _ rfl⟩
theorem xF4 {w : World} {g : Nat} {a b c d : Value} {T : TypeId} (h : w.heap[g]? = some (.cells #[a, b, c, d] T (0, 0))) : w.cell? ⟨g, 0, none⟩ = some a ∧ w.cell? ⟨g, 1, none⟩ = some b ∧ w.cell? ⟨g, 2, none⟩ = some c ∧ w.cell? ⟨g, 3, none⟩ = some d ∧ ∀ o, w.frozen? ⟨g, o, none⟩ = false := ⟨xC h 0 _ rfl, xC h 1 _ rfl, xC h 2 _ rfl, xC h 3 _ rfl, xD h⟩
theorem xQ5 {w : World} {g : Nat} {a b c d k : Value} {T : TypeId} {f : Nat × Nat} (h : w.heap[g]? = some (.cells #[a, b, c, d, k] T f)) : w.cell? ⟨g, 0, none⟩ = some a ∧ w.cell? ⟨g, 1, none⟩ = some b ∧ w.cell? ⟨g, 2, none⟩ = some c ∧ w.cell? ⟨g, 3, none⟩ = some d ∧ w.cell? ⟨g, 4, none⟩ = some k := ⟨xC h 0 _ rfl, xC h 1 _ rfl, xC h 2 _ rfl, xC h 3 _ rfl, xC h 4 _ rfl⟩
theorem xF5 {w : World} {g : Nat} {a b c d k : Value} {T : TypeId} (h : w.heap[g]? = some (.cells #[a, b, c, d, k] T (0, 0))) : w.cell? ⟨g, 0, none⟩ = some a ∧ w.cell? ⟨g, 1, none⟩ = some b ∧ w.cell? ⟨g, 2, none⟩ = some c ∧ w.cell? ⟨g, 3, none⟩ = some d ∧ w.cell? ⟨g, 4, none⟩ = some k ∧ ∀ o, w.frozen? ⟨g, o, none⟩ = false := ⟨xC h 0 _ rfl, xC h 1 _ rfl, xC h 2 _ rfl, xC h 3 _ rfl, xC h 4 _ rfl, xD h⟩
theorem xQ6 {w : World} {g : Nat} {a b c d k m : Value} {T : TypeId} {f : Nat × Nat} (h : w.heap[g]? = some (.cells #[a, b, c, d, k, m] T f)) : w.cell? ⟨g, 0, none⟩ = some a ∧ w.cell? ⟨g, 1, none⟩ = some b ∧ w.cell? ⟨g, 2, none⟩ = some c ∧ w.cell? ⟨g, 3, none⟩ = some d ∧ w.cell? ⟨g, 4, none⟩ = some k ∧ w.cell? ⟨g, 5, none⟩ = some m := ⟨xC h 0 _ rfl, xC h 1 _ rfl, xC h 2 _ rfl, xC h 3 _ rfl, xC h 4 _ rfl, xC h 5 _ rfl⟩
theorem xF6 {w : World} {g : Nat} {a b c d k m : Value} {T : TypeId} (h : w.heap[g]? = some (.cells #[a, b, c, d, k, m] T (0, 0))) : w.cell? ⟨g, 0, none⟩ = some a ∧ w.cell? ⟨g, 1, none⟩ = some b ∧ w.cell? ⟨g, 2, none⟩ = some c ∧ w.cell? ⟨g, 3, none⟩ = some d ∧ w.cell? ⟨g, 4, none⟩ = some k ∧ w.cell? ⟨g, 5, none⟩ = some m ∧ ∀ o, w.frozen? ⟨g, o, none⟩ = false := ⟨xC h 0 _ rfl, xC h 1 _ rfl, xC h 2 _ rfl, xC h 3 _ rfl, xC h 4 _ rfl, xC h 5 _ rfl, xD h⟩
theorem xQ7 {w : World} {g : Nat} {a b c d k m n : Value} {T : TypeId} {f : Nat × Nat} (h : w.heap[g]? = some (.cells #[a, b, c, d, k, m, n] T f)) : w.cell? ⟨g, 0, none⟩ = some a ∧ w.cell? ⟨g, 1, none⟩ = some b ∧ w.cell? ⟨g, 2, none⟩ = some c ∧ w.cell? ⟨g, 3, none⟩ = some d ∧ w.cell? ⟨g, 4, none⟩ = some k ∧ w.cell? ⟨g, 5, none⟩ = some m ∧ w.cell? ⟨g, 6, none⟩ = some n := ⟨xC h 0 _ rfl, xC h 1 _ rfl, xC h 2 _ rfl, xC h 3 _ rfl, xC h 4 _ rfl, xC h 5 _ rfl, xC h 6 _ rfl⟩
theorem xF7 {w : World} {g : Nat} {a b c d k m n : Value} {T : TypeId} (h : w.heap[g]? = some (.cells #[a, b, c, d, k, m, n] T (0, 0))) : w.cell? ⟨g, 0, none⟩ = some a ∧ w.cell? ⟨g, 1, none⟩ = some b ∧ w.cell? ⟨g, 2, none⟩ = some c ∧ w.cell? ⟨g, 3, none⟩ = some d ∧ w.cell? ⟨g, 4, none⟩ = some k ∧ w.cell? ⟨g, 5, none⟩ = some m ∧ w.cell? ⟨g, 6, none⟩ = some n ∧ ∀ o, w.frozen? ⟨g, o, none⟩ = false := ⟨xC h 0 _ rfl, xC h 1 _ rfl, xC h 2 _ rfl, xC h 3 _ rfl, xC h 4 _ rfl, xC h 5 _ rfl, xC h 6 _ rfl, xD h⟩
theorem xQ10 {w : World} {g : Nat} {a b c d k m n q r s : Value} {T : TypeId} {f : Nat × Nat} (h : w.heap[g]? = some (.cells #[a, b, c, d, k, m, n, q, r, s] T f)) : w.cell? ⟨g, 0, none⟩ = some a ∧ w.cell? ⟨g, 1, none⟩ = some b ∧ w.cell? ⟨g, 2, none⟩ = some c ∧ w.cell? ⟨g, 3, none⟩ = some d ∧ w.cell? ⟨g, 4, none⟩ = some k ∧ w.cell? ⟨g, 5, none⟩ = some m ∧ w.cell? ⟨g, 6, none⟩ = some n ∧ w.cell? ⟨g, 7, none⟩ = some q ∧ w.cell? ⟨g, 8, none⟩ = some r ∧ w.cell? ⟨g, 9, none⟩ = some s := ⟨xC h 0 _ rfl, xC h 1 _ rfl, xC h 2 _ rfl, xC h 3 _ rfl, xC h 4 _ rfl, xC h 5 _ rfl, xC h 6 _ rfl, xC h 7 _ rfl, xC h 8 _ rfl, xC h 9 _ rfl⟩
theorem xF10 {w : World} {g : Nat} {a b c d k m n q r s : Value} {T : TypeId} (h : w.heap[g]? = some (.cells #[a, b, c, d, k, m, n, q, r, s] T (0, 0))) : w.cell? ⟨g, 0, none⟩ = some a ∧ w.cell? ⟨g, 1, none⟩ = some b ∧ w.cell? ⟨g, 2, none⟩ = some c ∧ w.cell? ⟨g, 3, none⟩ = some d ∧ w.cell? ⟨g, 4, none⟩ = some k ∧ w.cell? ⟨g, 5, none⟩ = some m ∧ w.cell? ⟨g, 6, none⟩ = some n ∧ w.cell? ⟨g, 7, none⟩ = some q ∧ w.cell? ⟨g, 8, none⟩ = some r ∧ w.cell? ⟨g, 9, none⟩ = some s ∧ ∀ o, w.frozen? ⟨g, o, none⟩ = false := ⟨xC h 0 _ rfl, xC h 1 _ rfl, xC h 2 _ rfl, xC h 3 _ rfl, xC h 4 _ rfl, xC h 5 _ rfl, xC h 6 _ rfl, xC h 7 _ rfl, xC h 8 _ rfl, xC h 9 _ rfl, xD h⟩
theorem xQ12 {w : World} {g : Nat} {a b c d k m n q r s t u : Value} {T : TypeId} {f : Nat × Nat} (h : w.heap[g]? = some (.cells #[a, b, c, d, k, m, n, q, r, s, t, u] T f)) : w.cell? ⟨g, 0, none⟩ = some a ∧ w.cell? ⟨g, 1, none⟩ = some b ∧ w.cell? ⟨g, 2, none⟩ = some c ∧ w.cell? ⟨g, 3, none⟩ = some d ∧ w.cell? ⟨g, 4, none⟩ = some k ∧ w.cell? ⟨g, 5, none⟩ = some m ∧ w.cell? ⟨g, 6, none⟩ = some n ∧ w.cell? ⟨g, 7, none⟩ = some q ∧ w.cell? ⟨g, 8, none⟩ = some r ∧ w.cell? ⟨g, 9, none⟩ = some s ∧ w.cell? ⟨g, 10, none⟩ = some t ∧ w.cell? ⟨g, 11, none⟩ = some u := ⟨xC h 0 _ rfl, xC h 1 _ rfl, xC h 2 _ rfl, xC h 3 _ rfl, xC h 4 _ rfl, xC h 5 _ rfl, xC h 6 _ rfl, xC h 7 _ rfl, xC h 8 _ rfl, xC h 9 _ rfl, xC h 10 _ rfl, xC h 11 _ rfl⟩
theorem wD {P : Program} {ops : Array Oper} {Q : Exit → Act → World → Prop} {md : Region.Mode} {S : World → Prop} {fuel : Nat} {listed : Array Bool} {a : Act} {w : World} (h : Q .normal a w) (hr : Region.ready md ops listed = [] := by kernel_rfl) : wpAnyH P md ops Q S fuel listed a w :=
  wpAnyH_done hr h fuel
theorem xK {w : World} {g : Nat} {cs : Array Value} {T : TypeId} {f : Nat × Nat} (h : w.heap[g]? = some (.cells cs T f)) (j : Nat) {v : Value} (hv : cs[j]? = some v) : w.cell? ⟨g, j, none⟩ = some v := xC h j v hv
abbrev jA := @List.getElem?_eq_getElem.{0}
abbrev jB := @Nat.le_refl
abbrev jD := @Below.refl
abbrev jE := @List.length_append.{0}
abbrev jG := @bodyPost_ret
abbrev jI := @List.mem_of_getElem?.{0}
abbrev jJ := @Except.ok.injEq.{0, 0}
abbrev jL := @List.getD_eq_getElem?_getD.{0}
abbrev jN := @Below.setCell
abbrev jP := @Below.heap_setCell
abbrev jS := @Nat.le_trans
abbrev jT := @World.cell?_alloc_mark
abbrev jU := @wp_region_held_drew
abbrev jW := @List.mem_append.{0}
abbrev jY := @List.take_length.{0}
abbrev jZ := @Nat.add_zero
abbrev ja := @List.length_drop.{0}
abbrev jd := @List.setIfInBounds_toArray.{0}
abbrev je := @List.map_cons.{0, 0}
abbrev jf := @List.mem_cons.{0}
abbrev jg := @List.append_assoc.{0}
abbrev jh := @Nat.zero_le
abbrev jl := @decide_eq_false
abbrev jm := @List.getElem?_eq_some_iff.{0}
abbrev jo := @World.ownsRow_nil
abbrev jy := @List.sum_cons.{0}
abbrev j4 := @List.mem_singleton.{0}
abbrev JC := @List.take_add_one.{0}
abbrev JE := @List.set_cons_zero.{0}
abbrev JF := @List.set_cons_succ.{0}
abbrev JG := @List.length_cons.{0}
abbrev JK := @World.block_lt_of_cell?
abbrev JL := @decide_eq_true
abbrev JN := @Nat.zero_add
abbrev JP := @List.eq_nil_of_length_eq_zero.{0}
abbrev JQ := @List.cons_append.{0}
abbrev JS := @Nat.le_of_eq
abbrev JU := @Nat.mul_add
abbrev JV := @Bool.false_and
abbrev JW := @Array.getElem?_eq_some_iff.{0}
abbrev Ja := @List.not_mem_nil.{0}
abbrev Jc := @AllReadyH.cons
abbrev Jg := @List.drop_eq_getElem_cons.{0}
abbrev Jh := @List.length_take.{0}
abbrev Ji := @Bool.and_eq_true
abbrev Jl := @List.append_nil.{0}
abbrev Jn := @Option.some.injEq.{0}
abbrev Jo := @Nat.lt_of_lt_of_le
abbrev Jr := @Prod.mk.injEq.{0, 0}
abbrev Jt := @World.size_alloc
abbrev Ju := @List.all_eq_true.{0}
abbrev Jv := @List.length_map.{0, 0}
abbrev J5 := @Nat.add_sub_cancel_left
abbrev J6 := @List.nil_append.{0}
abbrev J7 := @wpAnyH_take
abbrev qF := @beq_eq_false_iff_ne.{0}
abbrev qK := @Bool.true_and
abbrev qP := @List.flatMap_cons.{0, 0}
abbrev qX := @Nat.mul_one
abbrev qd := @beq_iff_eq.{0}
abbrev qg := @List.drop_eq_nil_of_le.{0}
abbrev qh := @List.append_eq_nil_iff.{0}
abbrev QC := @Below.heap_alloc
abbrev QG := @List.getElem?_map.{0, 0}
abbrev QL := @info_parts
abbrev QN := @List.map_append.{0, 0}
abbrev QR := @List.take_of_length_le.{0}
abbrev QS := @List.mem_flatMap.{0, 0}
abbrev QU := @bne_eq_false_iff_eq.{0}
abbrev QZ := @AllReadyH.nil
abbrev Qa := @List.length_nil.{0}
abbrev Ql := @List.mem_of_mem_tail.{0}
abbrev Qt := @wpAnyH_ready
abbrev Qu := @or_false
abbrev Qv := @decide_eq_true_eq
abbrev Qz := @Nat.add_mul
abbrev zF := @List.length_singleton.{0}
abbrev zG := @Array.getElem?_toList.{0}
abbrev zM := @Option.toList_some.{0}
abbrev zO := @List.map_nil.{0, 0}
abbrev zT := @List.getElem?_cons_zero.{0}
abbrev zh := @List.cons.injEq.{0}
abbrev ZA := @Nat.lt_or_ge
abbrev ZB := @List.mem_map.{0, 0}
abbrev ZF := @List.length_tail.{0}
abbrev ZP := @List.getElem?_append_right.{0}
abbrev ZQ := @List.mem_iff_getElem?.{0}
abbrev Ze := @Nat.mul_le_mul_right
abbrev Zn := @World.ownsRow.cells
abbrev Zo := @List.take_succ_cons.{0}
abbrev Zp := @List.length_flatMap.{0, 0}
abbrev Zz := @Nat.le_add_right
abbrev Z0 := @Array.mk.injEq.{0}
abbrev yI := @World.ownsRow_made
abbrev yh := @List.length_zip.{0, 0}
abbrev Yg := @List.getElem?_zip_eq_some.{0, 0}
abbrev Yh := @List.getElem?_append_left.{0}
abbrev Yo := @List.length_pos_iff.{0}
abbrev Y4 := @Bool.and_true
abbrev Y5 := @Value.agg.injEq
abbrev Y6 := @Option.some.inj.{0}
abbrev Y7 := @Bool.eq_iff_iff
abbrev vQ := @bne_iff_ne.{0}
abbrev Va := @run_underlying
abbrev Vb := @MapKept.run_getObj_map
abbrev Vd := @List.sum_nil.{0}
abbrev Ve := @Bool.not_false
abbrev Vf := @Array.getElem?_eq_none.{0}
abbrev uK := @List.take_append_drop.{0}
abbrev uL := @List.contains_iff_mem.{0}
abbrev UX := @List.mem_of_mem_take.{0}
abbrev UY := @List.mem_of_mem_drop.{0}
abbrev UZ := @List.mem_cons_of_mem.{0}
abbrev Ua := @Array.replicate_zero.{0}
abbrev Ub := @Array.replicate_succ.{0}
abbrev kI := @Obj.cells.injEq
abbrev kJ := @List.nodup_cons.{0}
abbrev KH := @List.append_toArray.{0}
abbrev KI := @Array.length_toList.{0}
abbrev KX := @Nat.zero_mul
abbrev Xh := @List.getElem?_tail.{0}
abbrev GX := @Result.andThen_ok
abbrev GY := @Nat.one_mul
abbrev GZ := @MapKept.bytes_beq
abbrev Ga := @List.size_toArray.{0}
abbrev Gb := @List.push_toArray.{0}
abbrev Gc := @Bool.eq_false_iff
abbrev WS := @List.getElem?_take_of_lt.{0}
abbrev dE := @and_true
abbrev dF := @List.map_toArray.{0, 0}
abbrev dG := @List.getElem_mem.{0}
abbrev dH := @List.getElem?_cons_succ.{0}
abbrev dI := @List.flatMap_eq_nil_iff.{0, 0}
abbrev Em := @Nat.add_comm
end Go.Proofs.YtlnjdclmopblcaaDoor
