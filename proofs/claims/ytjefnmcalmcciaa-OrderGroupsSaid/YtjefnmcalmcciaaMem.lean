/-
  Lists of integers in memory: those that came in, and the call's own.
-/
import Derived.Test.YtjefnmcalmcciaaRows
import Derived.Test.YtjefnmcalmcciaaKahn
import Derived.WalkKit
import Derived.WalkSpells
import Derived.WalkSmall
import Derived.Lib.Hide
import Derived.OwnWalk
import Derived.IntWalk
import Derived.Deep.QuietTactic
import Derived.BigQuiet
import Derived.Deep.AppendLies
import Derived.Deep.DeepCutAuto
import Derived.BigRegion
namespace Go.Proofs.Ytjefnmcalmcciaa
open Go Go.RowKit
set_option linter.unusedVariables false
set_option linter.unusedSimpArgs false

theorem ret_bool {a b : Bool} (h : a = b) : Ending.returned (.bool a) = .returned (.bool b) := by rw [h]
theorem ret_int {k : IntKind} {a b : Int} (h : a = b) : Ending.returned (.int k a) = .returned (.int k b) := by rw [h]

theorem ent_cell {w : World} {g : Nat} {cs : Array Value} {T : TypeId} {fr : Nat × Nat} (h : w.heap[g]? = some (.cells cs T fr)) (j : Nat) (v : Value) (hv : cs[j]? = some v) : w.cell? ⟨g, j, none⟩ = some v := by
  simp only [World.cell?, h]; simpa using hv
theorem ent_free {w : World} {g : Nat} {cs : Array Value} {T : TypeId} (h : w.heap[g]? = some (.cells cs T (0, 0))) (o : Nat) : w.frozen? ⟨g, o, none⟩ = false := by
  simp only [World.frozen?, h]; simp
theorem ent_new (w : World) (cs : Array Value) (T : TypeId) : (w.alloc (.cells cs T)).heap[w.heap.size]? = some (.cells cs T (0, 0)) := heap_alloc_new w _
theorem ent_lt {w : World} {g : Nat} {o : Obj} (h : w.heap[g]? = some o) : g < w.heap.size := (Array.getElem?_eq_some_iff.1 h).1
theorem ent_alloc {w : World} {g : Nat} {o : Obj} (h : w.heap[g]? = some o) (o' : Obj) : (w.alloc o').heap[g]? = some o := (Below.heap_alloc w o' g (ent_lt h)).trans h
theorem ent_below {w w' : World} {g : Nat} {o : Obj} (h : w.heap[g]? = some o) (hb : Below w.heap.size w w') : w'.heap[g]? = some o := (hb.block g (ent_lt h)).trans h
theorem ent_set {w : World} {g : Nat} {cs : Array Value} {T : TypeId} (h : w.heap[g]? = some (.cells cs T (0, 0))) (j : Nat) (v : Value) : (w.setCell ⟨g, j, none⟩ v).heap[g]? = some (.cells (cs.setIfInBounds j v) T (0, 0)) := heap_setCell_same w g j _ _ _ h
theorem ent_other {w : World} {g : Nat} {o : Obj} (h : w.heap[g]? = some o) (b j : Nat) (v : Value) (hne : g ≠ b) : (w.setCell ⟨b, j, none⟩ v).heap[g]? = some o := (Below.heap_setCell w ⟨b, j, none⟩ v g hne).trans h

theorem undrew {w w' : World} (h : Below w.drew.heap.size w.drew w') : Below w.heap.size w w' := ⟨h.os, h.tape, h.output, h.size, h.block⟩
theorem cell_up {w W : World} (h : Below w.heap.size w W) {a : Addr} {z : Value} (hz : w.cell? a = some z) : W.cell? a = some z := (h.cell (World.block_lt_of_cell? w _ hz)).trans hz

/-- A slice of integers. -/
def IntsAt (w : World) (v : Value) (l : List Int) : Prop :=
  (l = [] ∧ ∃ p c, v = .slice p 0 c) ∨
    ∃ b o c, v = .slice (some ⟨b, o, none⟩) l.length c ∧ l.length ≤ c ∧ (c : Int) ≤ 9223372036854775807 ∧ ∀ i x, l[i]? = some x → w.cell? ⟨b, o + i, none⟩ = some (.int .i64 x)
theorem IntsAt.len {w : World} {v : Value} {l : List Int} (h : IntsAt w v l) : ∃ p c, v = .slice p l.length c := by
  rcases h with ⟨rfl, p, c, rfl⟩ | ⟨g, o, c, h, _⟩
  · exact ⟨p, c, rfl⟩
  · exact ⟨_, c, h⟩
theorem IntsAt.below {w w' : World} {v : Value} {l : List Int} (h : IntsAt w v l) (hb : Below w.heap.size w w') : IntsAt w' v l := by
  rcases h with h | ⟨g, o, c, h1, h2, h3, h4⟩
  · exact .inl h
  · exact .inr ⟨g, o, c, h1, h2, h3, fun i x hx => cell_up hb (h4 i x hx)⟩
/-- A slice of slices of integers. -/
def RowsAt (w : World) (v : Value) (ls : List (List Int)) : Prop :=
  (ls = [] ∧ ∃ p c, v = .slice p 0 c) ∨
    ∃ b o c, v = .slice (some ⟨b, o, none⟩) ls.length c ∧ ls.length ≤ c ∧ (c : Int) ≤ 9223372036854775807 ∧ ∀ i l, ls[i]? = some l → ∃ u, w.cell? ⟨b, o + i, none⟩ = some u ∧ IntsAt w u l
theorem RowsAt.len {w : World} {v : Value} {l : List (List Int)} (h : RowsAt w v l) : ∃ p c, v = .slice p l.length c := by
  rcases h with ⟨rfl, p, c, rfl⟩ | ⟨g, o, c, h, _⟩
  · exact ⟨p, c, rfl⟩
  · exact ⟨_, c, h⟩
theorem RowsAt.below {w w' : World} {v : Value} {l : List (List Int)} (h : RowsAt w v l) (hb : Below w.heap.size w w') : RowsAt w' v l := by
  rcases h with h | ⟨g, o, c, h1, h2, h3, h4⟩
  · exact .inl h
  · exact .inr ⟨g, o, c, h1, h2, h3, fun i x hx => by
      obtain ⟨u, hu, hi⟩ := h4 i x hx
      exact ⟨u, cell_up hb hu, hi.below hb⟩⟩
/-- One of the rows: its cell, and what lies there. -/
theorem RowsAt.at {w : World} {p : Option Addr} {n c : Nat} {ls : List (List Int)} (h : RowsAt w (.slice p n c) ls) {i : Nat} {l : List Int} (hi : ls[i]? = some l) :
    ∃ b o q d, p = some ⟨b, o, none⟩ ∧ (c : Int) ≤ 9223372036854775807 ∧ n = ls.length ∧ n ≤ c ∧ w.cell? ⟨b, o + i, none⟩ = some (.slice q l.length d) ∧ IntsAt w (.slice q l.length d) l := by
  rcases h with ⟨rfl, _⟩ | ⟨b, o, c', h1, h2, h3, h4⟩
  · simp at hi
  · obtain ⟨u, hu, hl⟩ := h4 i l hi
    obtain ⟨q, d, rfl⟩ := hl.len
    injection h1 with e1 e2 e3
    subst e3
    exact ⟨b, o, q, d, e1, h3, e2, by omega, hu, hl⟩
theorem IntsAt.at {w : World} {p : Option Addr} {n c : Nat} {l : List Int} (h : IntsAt w (.slice p n c) l) {i : Nat} {x : Int} (hi : l[i]? = some x) :
    ∃ b o, p = some ⟨b, o, none⟩ ∧ (c : Int) ≤ 9223372036854775807 ∧ n = l.length ∧ n ≤ c ∧ w.cell? ⟨b, o + i, none⟩ = some (.int .i64 x) := by
  rcases h with ⟨rfl, _⟩ | ⟨b, o, c', h1, h2, h3, h4⟩
  · simp at hi
  · injection h1 with e1 e2 e3
    subst e3
    exact ⟨b, o, e1, h3, e2, by omega, h4 i x hi⟩

def iv (x : Nat) : Value := .int .i64 (x : Int)
/-- The cells of a list of numbers. -/
def ivs (l : List Nat) : List Value := l.map iv
/-- A block of the call's own that holds the first n values of a function. -/
def FnAt (w : World) (g : Nat) (n : Nat) (f : Nat → Nat) : Prop := w.heap[g]? = some (.cells ((List.range n).map fun k => iv (f k)).toArray 3 (0, 0))
theorem FnAt.cell {w : World} {g n : Nat} {f : Nat → Nat} (h : FnAt w g n f) {k : Nat} (hk : k < n) : w.cell? ⟨g, k, none⟩ = some (.int .i64 (f k : Int)) :=
  ent_cell h k _ (by simp [hk, iv])
theorem FnAt.free {w : World} {g n : Nat} {f : Nat → Nat} (h : FnAt w g n f) (k : Nat) : w.frozen? ⟨g, k, none⟩ = false := ent_free h k
theorem FnAt.set {w : World} {g n : Nat} {f : Nat → Nat} (h : FnAt w g n f) (k x : Nat) : FnAt (w.setCell ⟨g, k, none⟩ (.int .i64 (x : Int))) g n (Gr.upd f k x) := by
  unfold FnAt
  rw [ent_set h k]
  congr 2
  apply Array.ext'
  simp only [Array.toList_setIfInBounds]
  apply List.ext_getElem?
  intro j
  rw [List.getElem?_set]
  by_cases hj : k = j
  · subst hj
    by_cases hkn : k < n
    · simp [hkn, iv, Gr.upd_same]
    · simp [hkn]
  · rw [if_neg hj]
    by_cases hjn : j < n
    · simp [hjn, iv, Gr.upd_ne _ _ (Ne.symm hj)]
    · simp [hjn]
theorem FnAt.set' {w : World} {g n : Nat} {f : Nat → Nat} (h : FnAt w g n f) (k x : Nat) (y : Int) (hy : y = (x : Int)) : FnAt (w.setCell ⟨g, k, none⟩ (.int .i64 y)) g n (Gr.upd f k x) := by subst hy; exact h.set k x
theorem FnAt.other {w : World} {g n : Nat} {f : Nat → Nat} (h : FnAt w g n f) (b j : Nat) (v : Value) (hne : g ≠ b) : FnAt (w.setCell ⟨b, j, none⟩ v) g n f := ent_other h b j v hne
theorem FnAt.below {w w' : World} {g n : Nat} {f : Nat → Nat} (h : FnAt w g n f) (hb : Below w.heap.size w w') : FnAt w' g n f := ent_below h hb

/-- A graph of numbers, as integers. -/
def ints (g : List (List Nat)) : List (List Int) := g.map fun l => l.map fun (x : Nat) => (x : Int)
end Go.Proofs.Ytjefnmcalmcciaa
