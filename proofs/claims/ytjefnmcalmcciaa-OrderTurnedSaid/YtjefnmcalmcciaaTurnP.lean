/-
  OrderTurned: who hangs on whom, the other way round, in memory.
-/
import Derived.Test.YtjefnmcalmcciaaLoneP
import Derived.Test.YtjefnmcalmcciaaMoreP
namespace Go.Proofs.Ytjefnmcalmcciaa
open Go Go.RowKit
set_option linter.unusedVariables false
set_option linter.unusedSimpArgs false

theorem map_set_one (n : Nat) (v : Nat → Value) (k : Nat) (u : Value) : (((List.range n).map fun j => v j).toArray).setIfInBounds k u = ((List.range n).map fun j => Gr.upd v k u j).toArray := by
  apply Array.ext'
  simp only [Array.toList_setIfInBounds]
  apply List.ext_getElem?
  intro j
  rw [List.getElem?_set]
  by_cases hj : k = j
  · subst hj
    by_cases hkn : k < n
    · simp [hkn, Gr.upd_same]
    · simp [hkn]
  · rw [if_neg hj]
    by_cases hjn : j < n
    · simp [hjn, Gr.upd_ne _ _ (Ne.symm hj)]
    · simp [hjn]

structure BackAt (lo B n : Nat) (w : World) (v : Nat → Value) (x : Nat → List Nat) : Prop where
  ent : w.heap[B]? = some (.cells ((List.range n).map fun k => v k).toArray 30 (0, 0))
  fam : Fam lo n w v x
  hB : B < lo
theorem BackAt.cell {lo B n : Nat} {w : World} {v : Nat → Value} {x : Nat → List Nat} (h : BackAt lo B n w v x) {k : Nat} (hk : k < n) : w.cell? ⟨B, k, none⟩ = some (v k) := ent_cell h.ent k _ (by simp [hk])
theorem BackAt.form {lo B n : Nat} {w : World} {v : Nat → Value} {x : Nat → List Nat} (h : BackAt lo B n w v x) {i : Nat} (hi : i < n) : ∃ p c, v i = .slice p (x i).length c := by
  rcases (h.fam.own i hi).2 with ⟨h1, e⟩ | ⟨g, cap, cur, h1, _⟩
  · exact ⟨none, 0, by rw [h1, e]⟩
  · exact ⟨_, cap, h1⟩
theorem BackAt.push {lo B n : Nat} {w w' : World} {o : Obj} {v : Nat → Value} {x : Nat → List Nat} (h : BackAt lo B n w v x) {k : Nat} (hk : k < n) {v' : Value} {y : List Nat}
    (hlo : lo ≤ w.heap.size) (hw : w'.ownsRow lo 3 1 v' y.length (ivs y)) (hgr : (w.alloc o).grownBy w' (v k).ownBlock) (hloc : ∀ b, v'.ownBlock = some b → (v k).ownBlock = some b ∨ w.heap.size ≤ b) :
    BackAt lo B n (w'.setCell ⟨B, k, none⟩ v') (Gr.upd v k v') (Gr.upd x k y) := by
  have hob := (h.fam.own _ hk).lt
  have hkeep : ∀ b, b < w.heap.size → (v k).ownBlock ≠ some b → w'.heap[b]? = w.heap[b]? := fun b hb hne => (hgr.block b (by simp; omega) (fun e => hne e.symm)).trans (Below.heap_alloc w o b hb)
  have e := (hkeep B (by have := h.hB; omega) (fun e => by have := (hob B e).1; have := h.hB; omega)).trans h.ent
  have hf := h.fam.append hk hw hkeep hloc
  refine ⟨?_, hf.same fun i hi b hb => Below.heap_setCell w' _ _ b (fun e2 => by have e3 : b = B := e2; have := ((hf.own i hi).lt b hb).1; have := h.hB; omega), h.hB⟩
  have := ent_set e k v'
  rw [map_set_one] at this
  exact this
theorem BackAt.rows {lo B n : Nat} {w : World} {v : Nat → Value} {x : Nat → List Nat} (h : BackAt lo B n w v x) (hn : n ≤ 1000000) : RowsAt w (.slice (some ⟨B, 0, none⟩) n n) (ints ((List.range n).map x)) := by
  have hl : (ints ((List.range n).map x)).length = n := by simp [ints]
  refine .inr ⟨B, 0, n, by rw [hl], by rw [hl]; exact Nat.le_refl _, by omega, fun i l hi => ?_⟩
  have hin : i < n := by have := Gr.some_lt hi; rwa [hl] at this
  simp only [ints, List.map_map, List.getElem?_map, List.getElem?_range hin, Option.map_some, Option.some.injEq] at hi
  subst hi
  have ho := h.fam.own i hin
  have e : ivs (x i) = zvs (nums (x i)) := by simp [ivs, zvs, nums, iv]
  rw [e] at ho
  exact ⟨v i, by rw [Nat.zero_add]; exact h.cell hin, own_intsI ho⟩

/-- Whose turn has come: of the things ahead of i all, of i the first e. -/
structure Bk (g : List (List Nat)) (x : Nat → List Nat) (i e : Nat) : Prop where
  mem : ∀ a b, a ∈ x b ↔ (a < i ∧ Gr.Hang g a b) ∨ (a = i ∧ ∃ l j, g[i]? = some l ∧ j < e ∧ l[j]? = some b)
  len : ∀ b, (x b).length ≤ Gr.sumN ((g.take i).map List.length) + e
theorem Bk.nil (g : List (List Nat)) : Bk g (fun _ => []) 0 0 := ⟨fun a b => by simp, fun b => by simp⟩
theorem Bk.step {g : List (List Nat)} {x : Nat → List Nat} {i e : Nat} (h : Bk g x i e) {l : List Nat} (hl : g[i]? = some l) {k : Nat} (hk : l[e]? = some k) : Bk g (Gr.upd x k (x k ++ [i])) i (e + 1) := by
  constructor
  · intro a b
    have hm := h.mem a b
    by_cases hb : b = k
    · subst hb
      rw [Gr.upd_same, List.mem_append, hm, List.mem_singleton]
      constructor
      · rintro ((h1 | ⟨h1, l', j, h2, h3, h4⟩) | rfl)
        · exact .inl h1
        · exact .inr ⟨h1, l', j, h2, by omega, h4⟩
        · exact .inr ⟨rfl, l, e, hl, by omega, hk⟩
      · rintro (h1 | ⟨h1, l', j, h2, h3, h4⟩)
        · exact .inl (.inl h1)
        · exact .inr h1
    · rw [Gr.upd_ne _ _ hb, hm]
      constructor
      · rintro (h1 | ⟨h1, l', j, h2, h3, h4⟩)
        · exact .inl h1
        · exact .inr ⟨h1, l', j, h2, by omega, h4⟩
      · rintro (h1 | ⟨h1, l', j, h2, h3, h4⟩)
        · exact .inl h1
        · refine .inr ⟨h1, l', j, h2, ?_, h4⟩
          rcases Nat.lt_or_ge j e with h5 | h5
          · exact h5
          · have : j = e := by omega
            subst this
            rw [hl] at h2
            obtain rfl := Option.some.inj h2
            rw [hk] at h4
            exact absurd (Option.some.inj h4).symm hb
  · intro b
    have := h.len b
    by_cases hb : b = k
    · subst hb; rw [Gr.upd_same, List.length_append, List.length_singleton]; omega
    · rw [Gr.upd_ne _ _ hb]; omega
theorem Bk.next {g : List (List Nat)} {x : Nat → List Nat} {i : Nat} {l : List Nat} (hl : g[i]? = some l) (h : Bk g x i l.length) : Bk g x (i + 1) 0 := by
  constructor
  · intro a b
    rw [h.mem a b]
    constructor
    · rintro (⟨h1, h2⟩ | ⟨rfl, l', j, h2, h3, h4⟩)
      · exact .inl ⟨by omega, h2⟩
      · exact .inl ⟨by omega, l', h2, List.mem_of_getElem? h4⟩
    · rintro (⟨h1, h2⟩ | ⟨rfl, l', j, h2, h3, h4⟩)
      · by_cases e : a = i
        · subst e
          obtain ⟨l', h3, h4⟩ := h2
          obtain ⟨j, hj⟩ := List.mem_iff_getElem?.1 h4
          rw [hl] at h3
          obtain rfl := Option.some.inj h3
          exact .inr ⟨rfl, l, j, hl, Gr.some_lt hj, hj⟩
        · exact .inl ⟨by omega, h2⟩
      · omega
  · intro b
    have h1 := h.len b
    have hi := Gr.some_lt hl
    have e : g[i] = l := by rw [List.getElem?_eq_getElem hi] at hl; exact Option.some.inj hl
    rw [List.take_succ_eq_append_getElem hi, List.map_append, Gr.sumN_append, e]
    simp only [List.map_cons, List.map_nil, Gr.sumN]; omega
theorem Bk.done {g : List (List Nat)} (hg : Gr.Good g) {x : Nat → List Nat} (h : Bk g x g.length 0) : Gr.Good ((List.range g.length).map x) ∧ ∀ i j, Gr.Hang ((List.range g.length).map x) i j ↔ Gr.Hang g j i := by
  have key : ∀ i j, i < g.length → (j ∈ x i ↔ Gr.Hang g j i) := fun i j hi => by
    rw [h.mem j i]
    constructor
    · rintro (⟨_, h2⟩ | ⟨_, l, k, _, h3, _⟩)
      · exact h2
      · omega
    · intro h2; exact .inl ⟨(hg.hang h2).1, h2⟩
  have hang : ∀ i j, Gr.Hang ((List.range g.length).map x) i j ↔ Gr.Hang g j i := by
    intro i j
    constructor
    · rintro ⟨l, hl, hj⟩
      have hi : i < g.length := by have := Gr.some_lt hl; simpa using this
      rw [List.getElem?_map, List.getElem?_range hi] at hl
      obtain rfl := Option.some.inj hl
      exact (key i j hi).1 hj
    · intro h2
      have hi := (hg.hang h2).2
      exact ⟨x i, by rw [List.getElem?_map, List.getElem?_range hi]; rfl, (key i j hi).2 h2⟩
  refine ⟨fun l hl j hj => ?_, hang⟩
  obtain ⟨i, hi, rfl⟩ := List.mem_map.1 hl
  have := (key i j (List.mem_range.1 hi)).1 hj
  have := (hg.hang this).1
  simpa using this
theorem natG_ints (g : List (List Nat)) : natG (ints g) = g := by
  unfold natG ints
  rw [List.map_map]
  conv => rhs; rw [← List.map_id g]
  refine List.map_congr_left fun l _ => ?_
  simp only [Function.comp, id_eq, List.map_map]
  conv => rhs; rw [← List.map_id l]
  exact List.map_congr_left fun x _ => by simp
theorem allB_ints {g : List (List Nat)} (h : Gr.Good g) : allB (ints g).length (ints g) = true := by
  rw [ints_len]
  refine all_yes fun k l hl => row_yes fun j x hx => ?_
  unfold ints at hl
  rw [List.getElem?_map] at hl
  obtain ⟨l0, hl0, rfl⟩ := Option.map_eq_some_iff.1 hl
  rw [List.getElem?_map] at hx
  obtain ⟨y, hy, rfl⟩ := Option.map_eq_some_iff.1 hx
  have := h l0 (List.mem_of_getElem? hl0) y (List.mem_of_getElem? hy)
  unfold okB; simp; omega
end Go.Proofs.Ytjefnmcalmcciaa
