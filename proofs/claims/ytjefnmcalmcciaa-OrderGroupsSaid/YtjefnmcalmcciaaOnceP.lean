/-
  OrderOnce: that a thing hangs on another one more than once, or on itself; appends of integers.
-/
import Derived.Test.YtjefnmcalmcciaaEq
namespace Go.Proofs.Ytjefnmcalmcciaa
open Go Go.RowKit
set_option linter.unusedVariables false
set_option linter.unusedSimpArgs false

namespace Gr
/-- Graphs in which the same things reach each other have the same groups. -/
theorem groups_congr {g g' L : List (List Nat)} (hl : g.length = g'.length) (h1 : ∀ i j, i ≠ j → (Reach g i j ↔ Reach g' i j)) (h : IsGroups g L) : IsGroups g' L := by
  have hm : ∀ i j, Mut g i j ↔ Mut g' i j := by
    intro i j
    by_cases e : i = j
    · subst e; exact ⟨fun _ => .refl _ _, fun _ => .refl _ _⟩
    · unfold Mut
      rw [h1 i j e, h1 j i (Ne.symm e)]
  have hr : ∀ D i, Ready g D i ↔ Ready g' D i := by
    have one : ∀ {g g' : List (List Nat)}, (∀ i j, i ≠ j → (Reach g i j ↔ Reach g' i j)) → (∀ i j, Mut g i j ↔ Mut g' i j) → ∀ D i, Ready g D i → Ready g' D i := by
      intro g g' h1 hm D i h k hk
      by_cases e : i = k
      · subst e; exact .inl (.refl _ _)
      · rcases h k ((h1 i k e).2 hk) with h2 | h2
        · exact .inl ((hm i k).1 h2)
        · exact .inr h2
    exact fun D i => ⟨one h1 hm D i, one (fun i j e => (h1 i j e).symm) (fun i j => (hm i j).symm) D i⟩
  refine ⟨fun p l hp => ?_, fun i hi => h.2 i (by omega)⟩
  obtain ⟨i, ⟨n1, n2, n3, n4⟩, rfl⟩ := h.1 p l hp
  exact ⟨i, ⟨by omega, n2, (hr _ _).1 n3, fun j hj hjD hjr => n4 j hj hjD ((hr _ _).2 hjr)⟩, grp_congr hl fun k _ => hm i k⟩
theorem reach_once {g g' : List (List Nat)} {a : Nat} (h : ∀ i j, Hang g' i j ↔ Hang g i j ∨ (i = a ∧ j = a)) : ∀ i j, i ≠ j → (Reach g i j ↔ Reach g' i j) := by
  intro i j hij
  constructor
  · intro hr
    clear hij
    induction hr with
    | one hh => exact .one ((h _ _).2 (.inl hh))
    | step hh _ ih => exact .step ((h _ _).2 (.inl hh)) ih
  · intro hr
    have key : ∀ {i j : Nat}, Reach g' i j → i = j ∨ Reach g i j := by
      intro i j hr
      induction hr with
      | one hh =>
        rcases (h _ _).1 hh with h1 | ⟨rfl, rfl⟩
        · exact .inr (.one h1)
        · exact .inl rfl
      | step hh _ ih =>
        rcases (h _ _).1 hh with h1 | ⟨rfl, rfl⟩
        · rcases ih with rfl | ih
          · exact .inr (.one h1)
          · exact .inr (.step h1 ih)
        · exact ih
    rcases key hr with e | h1
    · exact absurd e hij
    · exact h1
end Gr

/-- A row, told twice; at one place with the thing itself. -/
def twice (ls : List (List Int)) (a k : Nat) : List Int := ls.getD k [] ++ ls.getD k [] ++ if k = a then [(k : Int)] else []
def moreL (ls : List (List Int)) (a m : Nat) : List (List Int) := (List.range m).map (twice ls a)
theorem moreL_len (ls : List (List Int)) (a m : Nat) : (moreL ls a m).length = m := by simp [moreL]
theorem moreL_at {ls : List (List Int)} {a m k : Nat} (hk : k < m) : (moreL ls a m)[k]? = some (twice ls a k) := by simp [moreL, hk]
theorem twice_len (ls : List (List Int)) (a k : Nat) : (twice ls a k).length ≤ 2 * (ls.getD k []).length + 1 := by
  unfold twice; simp only [List.length_append]; split <;> simp <;> omega
theorem moreL_sum (ls : List (List Int)) (a : Nat) : ∀ m, m ≤ ls.length → Gr.sumN ((moreL ls a m).map List.length) ≤ 2 * Gr.sumN ((ls.take m).map List.length) + m := by
  intro m
  induction m with
  | zero => intro _; simp [moreL, Gr.sumN]
  | succ m ih =>
    intro hm
    have h1 := ih (by omega)
    have hg : ls[m]? = some (ls.getD m []) := by rw [List.getD_eq_getElem?_getD, List.getElem?_eq_getElem (by omega)]; rfl
    rw [sum_snoc ls m _ hg]
    have h2 := twice_len ls a m
    unfold moreL at *
    rw [List.range_succ, List.map_append, List.map_append, Gr.sumN_append]
    simp only [List.map_cons, List.map_nil, Gr.sumN]
    omega
theorem moreL_mem {ls : List (List Int)} {a : Nat} (ha : a < ls.length) : allB ls.length (moreL ls a ls.length) = allB ls.length ls := by
  have hg : ∀ k, k < ls.length → ls[k]? = some (ls.getD k []) := fun k hk => by rw [List.getD_eq_getElem?_getD, List.getElem?_eq_getElem hk]; rfl
  have hrow : ∀ k, k < ls.length → rowB ls.length (twice ls a k) = rowB ls.length (ls.getD k []) := by
    intro k hk
    unfold twice rowB
    rw [List.all_append, List.all_append]
    by_cases e : k = a
    · rw [if_pos e]
      have : okB ls.length (k : Int) = true := by unfold okB; simp; omega
      simp [this]
    · rw [if_neg e]; simp
  rw [Bool.eq_iff_iff]
  constructor
  · intro h
    refine all_yes fun k l hk => ?_
    have hkl := Gr.some_lt hk
    unfold allB at h
    rw [List.all_eq_true] at h
    have h1 := h _ (List.mem_of_getElem? (moreL_at (ls := ls) (a := a) hkl))
    rw [hrow k hkl] at h1
    rw [hg k hkl] at hk
    rw [← Option.some.inj hk]; exact h1
  · intro h
    refine all_yes fun k l hk => ?_
    have hkl := Gr.some_lt hk
    rw [moreL_len] at hkl
    rw [moreL_at hkl] at hk
    rw [← Option.some.inj hk, hrow k hkl]
    unfold allB at h
    rw [List.all_eq_true] at h
    exact h _ (List.mem_of_getElem? (hg k hkl))
theorem moreL_hang {ls : List (List Int)} {a : Nat} (ha : a < ls.length) (i j : Nat) : Gr.Hang (natG (moreL ls a ls.length)) i j ↔ Gr.Hang (natG ls) i j ∨ (i = a ∧ j = a) := by
  have hg : ∀ k, k < ls.length → ls[k]? = some (ls.getD k []) := fun k hk => by rw [List.getD_eq_getElem?_getD, List.getElem?_eq_getElem hk]; rfl
  have h1 : ∀ k, k < ls.length → (natG (moreL ls a ls.length))[k]? = some ((twice ls a k).map Int.toNat) := fun k hk => by unfold natG; rw [List.getElem?_map, moreL_at hk]; rfl
  have h2 : ∀ k, k < ls.length → (natG ls)[k]? = some ((ls.getD k []).map Int.toNat) := fun k hk => by unfold natG; rw [List.getElem?_map, hg k hk]; rfl
  constructor
  · rintro ⟨l, hl, hj⟩
    have hi : i < ls.length := by have := Gr.some_lt hl; rw [natG_len, moreL_len] at this; exact this
    rw [h1 i hi] at hl
    obtain rfl := Option.some.inj hl
    unfold twice at hj
    rw [List.map_append, List.map_append] at hj
    rcases List.mem_append.1 hj with hj | hj
    · left
      refine ⟨_, h2 i hi, ?_⟩
      rcases List.mem_append.1 hj with hj | hj <;> exact hj
    · by_cases e : i = a
      · rw [if_pos e] at hj
        simp at hj
        exact .inr ⟨e, by omega⟩
      · rw [if_neg e] at hj; simp at hj
  · rintro (⟨l, hl, hj⟩ | ⟨rfl, rfl⟩)
    · have hi : i < ls.length := by have := Gr.some_lt hl; rw [natG_len] at this; exact this
      rw [h2 i hi] at hl
      obtain rfl := Option.some.inj hl
      refine ⟨_, h1 i hi, ?_⟩
      unfold twice
      rw [List.map_append, List.map_append]
      exact List.mem_append.2 (.inl (List.mem_append.2 (.inl hj)))
    · refine ⟨_, h1 _ ha, ?_⟩
      unfold twice
      rw [if_pos rfl]; simp

theorem run_append_zero (w : World) (base : Nat) (t ty e : TypeId) (i : TypeInfo) (size : Nat) (ht : Try.prog.underlying t = some (.slice e)) (hi : Try.prog.info? e = some i)
    (v : Value) (n : Nat) (xs : List Value) (hown : w.ownsRow base e size v n xs) (q : Option Addr) (c : Nat) : (Builtin.append_ #[t, t] ty #[v, .slice q 0 c]).run Try.prog w = .ok v w := by
  have hfc : ∀ q : Option Addr, (Builtin.firstCells i.size 0 (.slice q 0 c)).run Try.prog w = .ok #[] w := by
    intro q
    cases q <;> simp [Builtin.firstCells, loadCells, loadCellsFrom]
  rcases hown.2 with ⟨rfl, rfl⟩ | ⟨g, cap, cur, rfl, hbg, hg, hnc, hcm, hcs, htake⟩
  · simp [Builtin.append_, run_underlying ht, sizeOf, typeInfo, hi, Builtin.lenOf, hfc]
  · simp [Builtin.append_, run_underlying ht, sizeOf, typeInfo, hi, Builtin.lenOf, hfc, hnc, storeCells]
def zvs (l : List Int) : List Value := l.map (.int .i64)
theorem zvs_len (l : List Int) : (zvs l).length = l.length := by simp [zvs]

/-- 'append(d, s...)' of integers onto the call's own. -/
theorem wpList_append_ints (w : World) {ops : Array Oper} {rest : List Oper} {o : Oper} {a : Act} {Q : Exit → Act → World → Prop} (hgd : o.guard = none) (s x : Operand)
    (ho : o.op = .call { callee := .builtin .append, args := #[s, x], argTypes := #[30, 30] })
    (base : Nat) (v : Value) (n : Nat) (d l : List Int) (hs : a.eval s = v) (hn : n = d.length) (hown : w.ownsRow base 3 1 v n (zvs d)) (vx : Value) (hx : a.eval x = vx) (hsrc : IntsAt w vx l)
    (hlen : d.length + l.length ≤ 1000000000) (hbase : base ≤ w.heap.size)
    (h : ∀ v' w', w'.ownsRow base 3 1 v' (d ++ l).length (zvs (d ++ l)) → w.grownBy w' v.ownBlock → (∀ g, v'.ownBlock = some g → v.ownBlock = some g ∨ w.heap.size ≤ g) → wpList Try.prog ops Q rest (a.put o.dst v') w') : wpList Try.prog ops Q (o :: rest) a w := by
  obtain ⟨i0, hi, hz0, hz1, hz2⟩ := info_parts info3
  subst hn
  by_cases hl : l = []
  · subst hl
    obtain ⟨q, c, rfl⟩ := hsrc.len
    refine wpList_plain hgd fun K hK => ?_
    have hr := run_append_zero w base 30 o.type 3 i0 1 Try.underlying30 hi v d.length _ hown q c
    unfold Oper.wp execOp
    simp only [ho, resolve, invoke, builtin, Sem.run_bind, Sem.run_pure, Result.andThen_ok, List.map_toArray, List.map_cons, List.map_nil, hs, hx, List.length_nil, hr]
    exact hK _ _ (h v w (by rw [List.append_nil]; exact hown) ⟨rfl, rfl, rfl, Nat.le_refl _, fun _ _ _ => rfl⟩ (fun g hg => .inl hg))
  · rcases hsrc with ⟨h0, _⟩ | ⟨b, of, c, rfl, h1, h2, h3⟩
    · exact absurd h0 hl
    · have hpos : 0 < l.length := List.length_pos_iff.2 hl
      refine wpList_append_lies w hgd s x 30 ho base 3 i0 (.int .i64 0) 1 8 Try.underlying30 hi hz0 hz1 hz2 rfl (by decide) v d.length (zvs d) hs hown ⟨b, of, none⟩ l.length c (zvs l) hx (by rw [zvs_len, Nat.mul_one]) (fun j u hj => ?_) (fun u hu => ?_) hpos (by unfold maxLen; omega) (by omega) hbase _ rfl ?_
      · simp only [zvs, List.getElem?_map, Option.map_eq_some_iff] at hj
        obtain ⟨y, hy, rfl⟩ := hj
        have := h3 j y hy
        have e : (⟨b, of, none⟩ : Addr).add j = ⟨b, of + j, none⟩ := by unfold Addr.add; split <;> simp_all
        rw [e]; exact this
      · obtain ⟨y, _, rfl⟩ := List.mem_map.1 hu; rfl
      · intro g cap w' h4 h5 h6 h7
        refine h _ _ ?_ h5 (fun g' hg' => by
          have e : g = g' := by simpa [Value.ownBlock] using hg'
          subst e
          rcases h6 with h6 | h6
          · exact .inl h6
          · exact .inr (by omega))
        have e1 : (d ++ l).length = d.length + l.length := by simp
        have e2 : zvs (d ++ l) = zvs d ++ zvs l := by simp [zvs]
        rw [e1, e2]; exact h4
theorem own_intsI {w : World} {base n : Nat} {v : Value} {l : List Int} (h : w.ownsRow base 3 1 v n (zvs l)) : IntsAt w v l := by
  have hl : l.length = n := by have := h.1; rw [zvs_len] at this; omega
  subst hl
  rcases h.2 with ⟨rfl, hn⟩ | ⟨g, cap, cur, rfl, hb, hg, h2, h3, h4⟩
  · exact .inl ⟨List.eq_nil_of_length_eq_zero hn, none, 0, rfl⟩
  · refine .inr ⟨g, 0, cap, rfl, h2, by unfold maxLen at h3; omega, fun i x hx => ?_⟩
    rw [Nat.zero_add]
    exact own_cellAt h (by simp [zvs, hx])
end Go.Proofs.Ytjefnmcalmcciaa
