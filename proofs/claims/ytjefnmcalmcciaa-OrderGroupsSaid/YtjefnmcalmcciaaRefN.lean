/-
  The document's answer: what stands while its groups come.
-/
import Derived.Test.YtjefnmcalmcciaaRefW
import Derived.Test.YtjefnmcalmcciaaMoreP
namespace Go.Proofs.Ytjefnmcalmcciaa
open Go Go.RowKit
set_option linter.unusedVariables false
set_option linter.unusedSimpArgs false

theorem own_base {w : World} {b b' e size n : Nat} {v : Value} {xs : List Value} (h : w.ownsRow b e size v n xs) (hb : b' ≤ b) : w.ownsRow b' e size v n xs := by
  refine ⟨h.1, ?_⟩
  rcases h.2 with h2 | ⟨g, cap, cur, h1, h2, h3⟩
  · exact .inl h2
  · exact .inr ⟨g, cap, cur, h1, by omega, h3⟩
/-- Groups so far, in memory of the call's own. -/
structure OutAt (lo : Nat) (w : World) (ov : Value) (L : List (List Nat)) (vs : List Value) : Prop where
  own : w.ownsRow lo 30 1 ov L.length vs
  row : ∀ (k : Nat) (l : List Nat), L[k]? = some l → ∃ u : Value, vs[k]? = some u ∧ w.ownsRow lo 3 1 u l.length (ivs l)
theorem OutAt.nil (lo : Nat) (w : World) : OutAt lo w (.slice none 0 0) [] [] := ⟨World.ownsRow_nil _ _ _ _, fun k l h => by simp at h⟩
theorem OutAt.keep {lo : Nat} {w w' : World} {ov : Value} {L : List (List Nat)} {vs : List Value} (h : OutAt lo w ov L vs) (hk : ∀ (b : Nat) (cs : Array Value) (T : TypeId), (T = 30 ∨ T = 3) → w.heap[b]? = some (Obj.cells cs T (0, 0)) → w'.heap[b]? = w.heap[b]?) : OutAt lo w' ov L vs := by
  refine ⟨own_same h.own fun b hb => ?_, fun k l hl => ?_⟩
  · obtain ⟨cs, hc⟩ := own_type h.own hb; exact hk b cs _ (.inl rfl) hc
  · obtain ⟨u, hu, ho⟩ := h.row k l hl
    exact ⟨u, hu, own_same ho fun b hb => by obtain ⟨cs, hc⟩ := own_type ho hb; exact hk b cs _ (.inr rfl) hc⟩
theorem OutAt.below {lo : Nat} {w w' : World} {ov : Value} {L : List (List Nat)} {vs : List Value} (h : OutAt lo w ov L vs) (hb : Below w.heap.size w w') : OutAt lo w' ov L vs := h.keep fun b cs T _ hc => hb.block b (ent_lt hc)
theorem OutAt.push {lo : Nat} {w w' : World} {ov ov' u : Value} {L : List (List Nat)} {vs : List Value} {l : List Nat} {o : Obj} (h : OutAt lo w ov L vs) (hu : w.ownsRow lo 3 1 u l.length (ivs l))
    (ho : w'.ownsRow lo 30 1 ov' (L.length + 1) (vs ++ [u])) (hgr : (w.alloc o).grownBy w' ov.ownBlock) : OutAt lo w' ov' (L ++ [l]) (vs ++ [u]) := by
  have keep : ∀ {x : Value} {y : List Nat}, w.ownsRow lo 3 1 x y.length (ivs y) → w'.ownsRow lo 3 1 x y.length (ivs y) := by
    intro x y hx
    refine own_same hx fun b hb => ?_
    obtain ⟨cs, hc⟩ := own_type hx hb
    refine (hgr.block b (by have := ent_lt hc; simp; omega) (fun e => ?_)).trans (Below.heap_alloc w o b (ent_lt hc))
    obtain ⟨cs', hc'⟩ := own_type h.own e.symm
    rw [hc] at hc'
    injection hc' with hc'
    injection hc' with _ hc' _
    exact absurd hc' (by decide)
  have hvl : vs.length = L.length := by have := h.own.1; omega
  refine ⟨by rw [List.length_append]; exact ho, fun k l' hk => ?_⟩
  rcases Gr.snoc_some hk with hk | ⟨rfl, rfl⟩
  · obtain ⟨u', hu', ho'⟩ := h.row k l' hk
    exact ⟨u', by rw [List.getElem?_append_left (Gr.some_lt hu')]; exact hu', keep ho'⟩
  · exact ⟨u, by rw [← hvl]; simp, keep hu⟩
theorem OutAt.rows {lo : Nat} {w : World} {ov : Value} {L : List (List Nat)} {vs : List Value} (h : OutAt lo w ov L vs) : RowsAt w ov (ints L) := by
  refine rows_of_own (base := lo) (vs := vs) (by rw [ints_len]; exact h.own) fun k l hk => ?_
  unfold ints at hk
  rw [List.getElem?_map] at hk
  obtain ⟨l0, hl0, rfl⟩ := Option.map_eq_some_iff.1 hk
  obtain ⟨u, hu, ho⟩ := h.row k l0 hl0
  have e : ivs l0 = zvs (nums l0) := by simp [ivs, zvs, nums, iv]
  rw [e] at ho
  exact ⟨u, hu, own_intsI ho⟩

/-- What stands between two groups. -/
def GSt (n : Nat) (w2 : World) (D : Nat) (ov : Value) (L : List (List Nat)) (F : List Nat) (w : World) : Prop :=
  ∃ vs, OutAt w2.heap.size w ov L vs ∧ BoolsAt w D n (fun k => decide (k ∈ F)) ∧ Below w2.heap.size w2 w
theorem GSt.below {n D : Nat} {w2 w w' : World} {ov : Value} {L : List (List Nat)} {F : List Nat} (h : GSt n w2 D ov L F w) (hb : Below w.heap.size w w') : GSt n w2 D ov L F w' := by
  obtain ⟨vs, h1, h2, h3⟩ := h
  exact ⟨vs, h1.below hb, h2.below hb, h3.trans (hb.mono h3.size)⟩
theorem GSt.mark {n D : Nat} {w2 w : World} {ov : Value} {L : List (List Nat)} {F : List Nat} (h : GSt n w2 D ov L F w) (hD : w2.heap.size ≤ D) (x : Nat) : GSt n w2 D ov L (F ++ [x]) (w.setCell ⟨D, x, none⟩ (.bool true)) := by
  obtain ⟨vs, h1, h2, h3⟩ := h
  refine ⟨vs, h1.keep fun b cs T hT hc => Below.heap_setCell w _ _ b (fun e => ?_), (h2.set x).congr fun k hk => ?_, h3.setCell (p := ⟨D, x, none⟩) hD _⟩
  · have e' : b = D := e
    subst e'
    unfold BoolsAt at h2
    rw [hc] at h2
    injection h2 with h2
    injection h2 with _ h2 _
    rcases hT with rfl | rfl <;> exact absurd h2 (by decide)
  · simp only [List.mem_append, List.mem_singleton]
    by_cases h1 : k ∈ F <;> by_cases h2 : k = x <;> simp [h1, h2]
namespace Gr
def mutB (R : Nat → Nat → Bool) (i k : Nat) : Bool := decide (k = i) || (R i k && R k i)
structure Rdy (F : List Nat) (R : Nat → Nat → Bool) (i k : Nat) (rd : Bool) (lst : List Nat) : Prop where
  lst : lst = (List.range k).filter fun x => mutB R i x
  rd : rd = true ↔ i ∉ F ∧ ∀ x, x < k → R i x = true → mutB R i x = true ∨ x ∈ F
theorem Rdy.start (F : List Nat) (R : Nat → Nat → Bool) (i : Nat) : Rdy F R i 0 (!decide (i ∈ F)) [] := ⟨rfl, by simp⟩
theorem Rdy.pass {F : List Nat} {R : Nat → Nat → Bool} {i k : Nat} {rd : Bool} {lst : List Nat} (h : Rdy F R i k rd lst) (hm : mutB R i k = false) (ho : R i k = false ∨ k ∈ F) : Rdy F R i (k + 1) rd lst := by
  refine ⟨by rw [List.range_succ, List.filter_append, List.filter_cons_of_neg (p := fun x => mutB R i x) (by simp [hm]), List.filter_nil, List.append_nil]; exact h.lst, h.rd.trans ⟨fun h1 => ⟨h1.1, fun x hx hr => ?_⟩, fun h1 => ⟨h1.1, fun x hx hr => h1.2 x (by omega) hr⟩⟩⟩
  by_cases e : x = k
  · subst e
    rcases ho with ho | ho
    · rw [hr] at ho; cases ho
    · exact .inr ho
  · exact h1.2 x (by omega) hr
theorem Rdy.mut {F : List Nat} {R : Nat → Nat → Bool} {i k : Nat} {rd : Bool} {lst : List Nat} (h : Rdy F R i k rd lst) (hm : mutB R i k = true) : Rdy F R i (k + 1) rd (lst ++ [k]) := by
  refine ⟨by rw [List.range_succ, List.filter_append, List.filter_cons_of_pos (p := fun x => mutB R i x) hm, List.filter_nil, ← h.lst], h.rd.trans ⟨fun h1 => ⟨h1.1, fun x hx hr => ?_⟩, fun h1 => ⟨h1.1, fun x hx hr => h1.2 x (by omega) hr⟩⟩⟩
  by_cases e : x = k
  · subst e; exact .inl hm
  · exact h1.2 x (by omega) hr
theorem Rdy.no {F : List Nat} {R : Nat → Nat → Bool} {i k : Nat} {rd : Bool} {lst : List Nat} (h : Rdy F R i k rd lst) (hm : mutB R i k = false) (hr : R i k = true) (hk : k ∉ F) : Rdy F R i (k + 1) false lst := by
  refine ⟨by rw [List.range_succ, List.filter_append, List.filter_cons_of_neg (p := fun x => mutB R i x) (by simp [hm]), List.filter_nil, List.append_nil]; exact h.lst, ⟨(fun h1 => by cases h1), fun h1 => ?_⟩⟩
  rcases h1.2 k (Nat.lt_succ_self _) hr with h2 | h2
  · rw [hm] at h2; cases h2
  · exact absurd h2 hk
theorem mutB_iff {g : List (List Nat)} {R : Nat → Nat → Bool} (hR : ∀ a b, a < g.length → b < g.length → (R a b = true ↔ Reach g a b)) {i k : Nat} (hi : i < g.length) (hk : k < g.length) : mutB R i k = true ↔ Mut g i k := by
  unfold mutB Mut
  simp only [Bool.or_eq_true, decide_eq_true_eq, Bool.and_eq_true, hR i k hi hk, hR k i hk hi]
  exact ⟨fun h => h.imp Eq.symm id, fun h => h.imp Eq.symm id⟩
theorem Rdy.done {g : List (List Nat)} (hg : Good g) {F : List Nat} {R : Nat → Nat → Bool} (hR : ∀ a b, a < g.length → b < g.length → (R a b = true ↔ Reach g a b)) {i : Nat} (hi : i < g.length) {rd : Bool} {lst : List Nat} (h : Rdy F R i g.length rd lst) :
    lst = grp g i ∧ (rd = true ↔ i ∉ F ∧ Ready g F i) := by
  refine ⟨h.lst.trans (grp_cut hR hi), h.rd.trans ⟨fun h1 => ⟨h1.1, fun k hk => ?_⟩, fun h1 => ⟨h1.1, fun x hx hr => ?_⟩⟩⟩
  · have hkn := (hg.reach hk).2
    rcases h1.2 k hkn ((hR i k hi hkn).2 hk) with h2 | h2
    · exact .inl ((mutB_iff hR hi hkn).1 h2)
    · exact .inr h2
  · rcases h1.2 x ((hR i x hi hx).1 hr) with h2 | h2
    · exact .inl ((mutB_iff hR hi hx).2 h2)
    · exact .inr h2
theorem exists_open {F : List Nat} {n : Nat} (h : F.length < n) : ∃ i, i < n ∧ i ∉ F := by
  refine Classical.byContradiction fun hc => ?_
  have h1 := subset_len (l := List.range n) (l' := F) List.nodup_range (fun x hx => Classical.byContradiction fun h2 => hc ⟨x, List.mem_range.1 hx, h2⟩)
  rw [List.length_range] at h1
  omega
theorem len_flatten : ∀ {L : List (List Nat)}, (∀ l ∈ L, l ≠ []) → L.length ≤ L.flatten.length
  | [], _ => Nat.le_refl _
  | l :: r, h => by
    have h1 := len_flatten (L := r) (fun x hx => h x (List.mem_cons_of_mem _ hx))
    have h2 := List.length_pos_iff.2 (h l List.mem_cons_self)
    rw [List.flatten_cons, List.length_cons, List.length_append]; omega
theorem Part.len_le {g : List (List Nat)} {L : List (List Nat)} (h : Part g L) : L.length ≤ L.flatten.length := len_flatten fun l hl => by
  obtain ⟨p, hp⟩ := List.mem_iff_getElem?.1 hl
  obtain ⟨i, hi, rfl⟩ := h p l hp
  exact List.ne_nil_of_mem (mem_grp.2 ⟨hi.1, .refl _ _⟩)
theorem Part.le {g : List (List Nat)} (hg : Good g) {L : List (List Nat)} (h : Part g L) : L.flatten.length ≤ g.length := by
  have hnd := h.nodup hg L.length (Nat.le_refl _)
  rw [List.take_length] at hnd
  exact nodup_le _ _ hnd fun x hx => h.lt hx
theorem Part.whole {g : List (List Nat)} (hg : Good g) {L : List (List Nat)} (h : Part g L) (hl : g.length ≤ L.flatten.length) : IsGroups g L := by
  refine ⟨h, fun i hi => Classical.byContradiction fun hn => ?_⟩
  have hnd := h.nodup hg L.length (Nat.le_refl _)
  rw [List.take_length] at hnd
  have := nodup_le g.length (i :: L.flatten) (List.nodup_cons.2 ⟨hn, hnd⟩) (fun x hx => by
    rcases List.mem_cons.1 hx with rfl | hx
    · exact hi
    · exact h.lt hx)
  rw [List.length_cons] at this; omega
end Gr
/-- What stands while one thing is looked at. -/
def KRel (F : List Nat) (R : Nat → Nat → Bool) (i : Nat) (wB : World) (k : Nat) (rdv lv : Value) (w : World) : Prop :=
  ∃ rd lst, rdv = .bool rd ∧ Gr.Rdy F R i k rd lst ∧ w.ownsRow wB.heap.size 3 1 lv lst.length (ivs lst) ∧ Below wB.heap.size wB w
end Go.Proofs.Ytjefnmcalmcciaa
