/-
  OrderLone: rows whose values a list of the call's own holds; slices.Clone.
-/
import Derived.Test.YtjefnmcalmcciaaOnceP
import Derived.Test.YtjefnmcalmcciaaMoreP
import Derived.Lib.SliceRun
import Derived.Deep.RegionHeld3
namespace Go.Proofs.Ytjefnmcalmcciaa
open Go Go.RowKit
set_option linter.unusedVariables false
set_option linter.unusedSimpArgs false

/-- The values of rows that came in. -/
theorem RowsAt.vals {w : World} {v : Value} {ls : List (List Int)} (h : RowsAt w v ls) (hne : ls ≠ []) :
    ∃ (b o c : Nat) (vs : List Value), v = .slice (some ⟨b, o, none⟩) ls.length c ∧ vs.length = ls.length ∧ (∀ (j : Nat) (u : Value), vs[j]? = some u → w.cell? ⟨b, o + j, none⟩ = some u) ∧ (∀ u ∈ vs, u.oneCell' = true) ∧ ∀ (j : Nat) (l : List Int), ls[j]? = some l → ∃ u, vs[j]? = some u ∧ IntsAt w u l := by
  rcases h with ⟨h0, _⟩ | ⟨b, o, c, rfl, h1, h2, h3⟩
  · exact absurd h0 hne
  · refine ⟨b, o, c, (List.range ls.length).map fun j => (w.cell? ⟨b, o + j, none⟩).getD (.bool false), rfl, by simp, fun j u hj => ?_, fun u hu => ?_, fun j l hl => ?_⟩
    · have hjl : j < ls.length := by have := Gr.some_lt hj; simpa using this
      rw [List.getElem?_map, List.getElem?_range hjl] at hj
      obtain ⟨u', hu', _⟩ := h3 j _ (List.getElem?_eq_getElem hjl)
      simp only [Option.map_some, Option.some.injEq] at hj
      rw [hu'] at hj ⊢
      simpa using hj
    · obtain ⟨j, hj, rfl⟩ := List.mem_map.1 hu
      obtain ⟨u', hu', hi⟩ := h3 j _ (List.getElem?_eq_getElem (List.mem_range.1 hj))
      rw [hu']
      obtain ⟨q, d, rfl⟩ := hi.len
      rfl
    · have hjl := Gr.some_lt hl
      obtain ⟨u', hu', hi⟩ := h3 j l hl
      exact ⟨u', by rw [List.getElem?_map, List.getElem?_range hjl]; simp [hu'], hi⟩
theorem rows_of_own {w : World} {base : Nat} {mv : Value} {rows : List (List Int)} {vs : List Value} (h : w.ownsRow base 30 1 mv rows.length vs) (hr : ∀ (k : Nat) (l : List Int), rows[k]? = some l → ∃ u, vs[k]? = some u ∧ IntsAt w u l) : RowsAt w mv rows := by
  rcases h.2 with ⟨rfl, hn⟩ | ⟨g, cap, cur, rfl, hb, hg, h2, h3, h4⟩
  · exact .inl ⟨List.eq_nil_of_length_eq_zero hn, none, 0, rfl⟩
  · refine .inr ⟨g, 0, cap, rfl, h2, by unfold maxLen at h3; omega, fun i l hl => ?_⟩
    obtain ⟨u, hu, ho⟩ := hr i l hl
    exact ⟨u, by rw [Nat.zero_add]; exact own_cellAt h hu, ho⟩

/-- 'append(d, s...)' of rows onto the call's own. -/
theorem wpList_append_rows (w : World) {ops : Array Oper} {rest : List Oper} {o : Oper} {a : Act} {Q : Exit → Act → World → Prop} (hgd : o.guard = none) (s x : Operand)
    (ho : o.op = .call { callee := .builtin .append, args := #[s, x], argTypes := #[22, 22] })
    (base : Nat) (v : Value) (n : Nat) (xs : List Value) (hs : a.eval s = v) (hown : w.ownsRow base 30 1 v n xs) (q : Option Addr) (m c : Nat) (hx : a.eval x = .slice q m c) (news : List Value) (hl : news.length = m)
    (hq : m = 0 ∨ ∃ b o, q = some ⟨b, o, none⟩ ∧ ∀ j u, news[j]? = some u → w.cell? ⟨b, o + j, none⟩ = some u) (h1 : ∀ u ∈ news, u.oneCell' = true)
    (hlen : n + m ≤ 1000000) (hbase : base ≤ w.heap.size)
    (h : ∀ v' w', w'.ownsRow base 30 1 v' (n + m) (xs ++ news) → w.grownBy w' v.ownBlock → (∀ g, v'.ownBlock = some g → v.ownBlock = some g ∨ w.heap.size ≤ g) → wpList Try.prog ops Q rest (a.put o.dst v') w') : wpList Try.prog ops Q (o :: rest) a w := by
  obtain ⟨i1, hj, hy0, hy1, hy2⟩ := info_parts infoInts
  by_cases hm : m = 0
  · subst hm
    obtain rfl := List.eq_nil_of_length_eq_zero hl
    refine wpList_plain hgd fun K hK => ?_
    have hr := run_append_zero w base 22 o.type 30 i1 1 Try.underlying22 hj v n _ hown q c
    unfold Oper.wp execOp
    simp only [ho, resolve, invoke, builtin, Sem.run_bind, Sem.run_pure, Result.andThen_ok, List.map_toArray, List.map_cons, List.map_nil, hs, hx, hr]
    exact hK _ _ (h v w (by rw [List.append_nil]; exact hown) ⟨rfl, rfl, rfl, Nat.le_refl _, fun _ _ _ => rfl⟩ (fun g hg => .inl hg))
  · rcases hq with hq | ⟨b, of, rfl, h3⟩
    · exact absurd hq hm
    · refine wpList_append_lies w hgd s x 22 ho base 30 i1 (.slice none 0 0) 1 24 Try.underlying22 hj hy0 hy1 hy2 rfl (by decide) v n xs hs hown ⟨b, of, none⟩ m c news hx (by rw [hl, Nat.mul_one]) (fun j u hj => ?_) h1 (by omega) (by unfold maxLen; omega) (by omega) hbase _ rfl ?_
      · have := h3 j u hj
        have e : (⟨b, of, none⟩ : Addr).add j = ⟨b, of + j, none⟩ := by unfold Addr.add; split <;> simp_all
        rw [e]; exact this
      · intro g cap w' h4 h5 h6 h7
        exact h _ _ h4 h5 (fun g' hg' => by
          have e : g = g' := by simpa [Value.ownBlock] using hg'
          subst e
          rcases h6 with h6 | h6
          · exact .inl h6
          · exact .inr (by omega))

/-- What a copy of the list is. -/
def CloneAt (base : Nat) (ls : List (List Int)) (w w' : World) (v : Value) : Prop :=
  ∃ vs, w'.ownsRow base 30 1 v ls.length vs ∧ Below w.heap.size w w' ∧ ∀ (j : Nat) (l : List Int), ls[j]? = some l → ∃ u, vs[j]? = some u ∧ IntsAt w u l

set_option maxHeartbeats 4000000 in
set_option maxRecDepth 100000 in
theorem clone_any (v : Value) (ls : List (List Int)) (w : World) (h : RowsAt w v ls) (hs : ls.length ≤ 1000000) :
    Calls Try.prog 17 #[v] w fun e w' => ∃ v', e = .returned v' ∧ CloneAt w.heap.size ls w w' v' := by
  obtain ⟨p, c, rfl⟩ := h.len
  have hq : p = none ∧ ls = [] ∨ ∃ (ad : Addr) (vs : List Value), p = some ad ∧ vs.length = ls.length ∧ (ls.length = 0 ∨ ∃ b o, some ad = some (⟨b, o, none⟩ : Addr) ∧ ∀ j u, vs[j]? = some u → w.cell? ⟨b, o + j, none⟩ = some u) ∧ (∀ u ∈ vs, u.oneCell' = true) ∧ ∀ (j : Nat) (l : List Int), ls[j]? = some l → ∃ u, vs[j]? = some u ∧ IntsAt w u l := by
    by_cases hne : ls = []
    · subst hne
      cases p with
      | none => exact .inl ⟨rfl, rfl⟩
      | some ad => exact .inr ⟨ad, [], rfl, rfl, .inl rfl, (fun u hu => by cases hu), fun j l hl => by simp at hl⟩
    · obtain ⟨b, o, c', vs, e, h1, h2, h3, h4⟩ := RowsAt.vals h hne
      injection e with e _ _
      exact .inr ⟨⟨b, o, none⟩, vs, e, h1, .inr ⟨b, o, rfl, h2⟩, h3, h4⟩
  clear h
  have qT : ∀ (w : World) (a : Option Addr) (n c n' c' : Nat), (binOp .eql 22 (.slice a n c) (.slice none n' c')).run Try.prog w = .ok (.bool a.isNone) w := fun w a n c n' c' => Lib.run_eql_slice_nil w _ _ a n c n' c' Try.underlying22
  rcases hq with ⟨rfl, rfl⟩ | ⟨ad, vs, rfl, h1, h2, h3, h4⟩
  · go_enter Try.func17, Try.ntmps17
    go_wp2
    go_ret
    exact ⟨_, rfl, [], World.ownsRow_nil _ _ _ _, Below.refl _ _, fun j l h => by simp at h⟩
  · have H1 := Lib.hid h1; have H2 := Lib.hid h2; have H3 := Lib.hid h3; have H4 := Lib.hid h4
    clear h1 h2 h3 h4
    go_enter Try.func17, Try.ntmps17
    go_wp2_with (at_builtin; go_loud (refine wpList_append_rows _ rfl (.tmp 5) (.tmp 6) rfl w.heap.size _ 0 [] rfl (World.ownsRow_made w #[] 0 (Nat.le_refl _) (by unfold maxLen; omega) rfl) (some ad) ls.length c rfl vs H1.out (H2.out.imp id (fun ⟨b, o, e1, e2⟩ => ⟨b, o, e1, fun j u hj => cell_alloc (e2 j u hj) _⟩)) H3.out (by omega) (by simp) ?_))
    intro v3 w3 hown3 hgr3 hlo3
    have hb3 : Below w.heap.size w w3 := ((Below.refl _ _).alloc (Nat.le_refl _) (.cells #[] 30)).grown hgr3 (by simp) (fun kk hkk => by
      have : kk = w.heap.size := by simpa [Value.ownBlock] using hkk.symm
      omega)
    have HB3 := Lib.hid hb3; have HO3 := Lib.hid hown3
    clear hown3 hgr3 hlo3 hb3
    go_wp2
    go_ret
    exact ⟨v3, rfl, vs, by simpa using HO3.out, HB3.out, H4.out⟩
end Go.Proofs.Ytjefnmcalmcciaa
