/-
 Rows put behind one another: append with a row of parts.
-/
import Derived.Test.YtpkecbijhckllaaDoorKPLetA
namespace Go.Proofs.YtpkecbijhckllaaDoor
open Go Go.RowKit
set_option linter.unusedVariables false
set_option linter.unusedSimpArgs false
theorem row_vals {α : Type} {sz : Nat} {rep : Value → α → Prop} {w : World} {g : Nat} : ∀ (xs : List α) (o : Nat), (∀ i x, xs[i]? = some x → ∃ u, rep u x ∧ u.cells.size = sz ∧ ∀ j z, u.cells[j]? = some z → w.cell? ⟨g, o + i * sz + j, none⟩ = some z) →
 ∃ vs, Reps rep vs xs ∧ (∀ u ∈ vs, u.cells.size = sz) ∧ ∀ j z, (cellsOf vs)[j]? = some z → w.cell? ⟨g, o + j, none⟩ = some z
 | [], o, _ => ⟨[], trivial, by simp, by simp [cellsOf]⟩
 | x :: xs, o, h => by
  obtain ⟨u, hu1, hu2, hu3⟩ := h 0 x (by simp)
  obtain ⟨vs, hv1, hv2, hv3⟩ := row_vals xs (o + sz) (fun i y hy => by
   obtain ⟨u, a, b, c⟩ := h (i + 1) y (by simpa using hy)
   refine ⟨u, a, b, fun j z hz => ?_⟩
   rw [← c j z hz]
   have e : o + sz + i * sz + j = o + (i + 1) * sz + j := by rw [Nat.add_mul]; omega
   rw [e])
  refine ⟨u :: vs, ⟨hu1, hv1⟩, fun z hz => ?_, fun j z hz => ?_⟩
  · rcases List.mem_cons.1 hz with rfl | hz
    · exact hu2
    · exact hv2 _ hz
  · have e : cellsOf (u :: vs) = u.cells.toList ++ cellsOf vs := by simp [cellsOf]
    rw [e] at hz
    by_cases hj : j < u.cells.size
    · rw [List.getElem?_append_left (by simpa using hj)] at hz
      have := hu3 j z (by simpa using hz)
      simpa using this
    · rw [List.getElem?_append_right (by simpa using hj), Array.length_toList, hu2] at hz
      rw [hu2] at hj
      have h5 := hv3 _ z hz
      have e2 : o + sz + (j - sz) = o + j := by omega
      rw [e2] at h5; exact h5
theorem Reps.append {α : Type} {rep : Value → α → Prop} : ∀ {vs us : List Value} {xs ys : List α}, Reps rep vs xs → Reps rep us ys → Reps rep (vs ++ us) (xs ++ ys)
 | [], _, [], _, _, h => h
 | _ :: _, _, _ :: _, _, h, k => ⟨h.1, Reps.append h.2 k⟩
 | [], _, _ :: _, _, h, _ => h.elim
 | _ :: _, _, [], _, h, _ => h.elim
theorem Reps.all {α : Type} {rep : Value → α → Prop} {q : Value → Prop} (hq : ∀ u x, rep u x → q u) : ∀ {vs : List Value} {xs : List α}, Reps rep vs xs → ∀ u ∈ vs, q u
 | [], [], _, _, h => by cases h
 | v :: vs, x :: xs, h, u, hu => by
  rcases List.mem_cons.1 hu with rfl | hu
  · exact hq _ _ h.1
  · exact Reps.all hq h.2 u hu
 | [], _ :: _, h, _, _ => h.elim
 | _ :: _, [], h, _, _ => h.elim
theorem cellsOf_append (a b : List Value) : cellsOf (a ++ b) = cellsOf a ++ cellsOf b := by simp [cellsOf]
theorem own_row {α : Type} {rep : Value → α → Prop} {sz base E n : Nat} {w : World} {v : Value} {vs : List Value} {xs : List α} (h : w.ownsRow base E sz v n (cellsOf vs)) (hn : n = xs.length) (hr : Reps rep vs xs) (hs : ∀ u ∈ vs, u.cells.size = sz) : RowAt sz rep w v xs := by
 subst hn
 rcases h.2 with ⟨rfl, hn⟩ | ⟨g, cap, cur, rfl, hb, hg, hc1, hc2, hc3, hc4⟩
 · exact .inl ⟨List.eq_nil_of_length_eq_zero hn, none, 0, rfl⟩
 · refine .inr ⟨g, 0, cap, rfl, hc1, by unfold maxLen at hc2; omega, fun i x hx => ?_⟩
   obtain ⟨y, hy, h3⟩ := hr.at hx
   refine ⟨y, h3, hs y (List.mem_of_getElem? hy), fun j z hz => ?_⟩
   have hcell := World.ownsRow.cells h (g := g) rfl (i * sz + j) z (cellsOf_at sz hs hy hz)
   have e : (⟨g, 0, none⟩ : Addr).add (i * sz + j) = ⟨g, 0 + i * sz + j, none⟩ := by unfold Addr.add; split <;> simp_all
   rw [e] at hcell
   exact hcell
/-- An own row stays while its block does. -/
theorem own_same {w w' : World} {base e size n : Nat} {v : Value} {xs : List Value} (h : w.ownsRow base e size v n xs) (hk : ∀ k, v.ownBlock = some k → w'.heap[k]? = w.heap[k]?) : w'.ownsRow base e size v n xs := by
 refine ⟨h.1, ?_⟩
 rcases h.2 with h2 | ⟨g, cap, cur, rfl, hb, hg, hc⟩
 · exact .inl h2
 · exact .inr ⟨g, cap, cur, rfl, hb, by rw [hk g rfl]; exact hg, hc⟩
theorem run_append_zero (w : World) (base : Nat) (t ty e : TypeId) (i : TypeInfo) (size : Nat) (ht : Tryd.prog.underlying t = some (.slice e)) (hi : Tryd.prog.info? e = some i)
 (v : Value) (n : Nat) (xs : List Value) (hown : w.ownsRow base e size v n xs) (q : Option Addr) (c : Nat) : (Builtin.append_ #[t, t] ty #[v, .slice q 0 c]).run Tryd.prog w = .ok v w := by
 have hfc : ∀ q : Option Addr, (Builtin.firstCells i.size 0 (.slice q 0 c)).run Tryd.prog w = .ok #[] w := by
  intro q
  cases q <;> simp [Builtin.firstCells, loadCells, loadCellsFrom]
 rcases hown.2 with ⟨rfl, rfl⟩ | ⟨g, cap, cur, rfl, hbg, hg, hnc, hcm, hcs, htake⟩
 · simp [Builtin.append_, run_underlying ht, sizeOf, typeInfo, hi, Builtin.lenOf, hfc]
 · simp [Builtin.append_, run_underlying ht, sizeOf, typeInfo, hi, Builtin.lenOf, hfc, hnc, storeCells]
/-- 'append(s, row...)' in a region. -/
theorem step_append_row {α : Type} {rep : Value → α → Prop} {w : World} {ops : Array Oper} {o : Oper} {a : Act} {K : Act → World → Prop} {Q : Exit → Act → World → Prop} {X : Prop} (hgd : o.guard = none) (s x : Operand) (t : TypeId)
 (ho : o.op = .call { callee := .builtin .append, args := #[s, x], argTypes := #[t, t] })
 (base : Nat) (e : TypeId) (i : TypeInfo) (z : Value) (size bytes : Nat) (ht : Tryd.prog.underlying t = some (.slice e)) (hi : Tryd.prog.info? e = some i) (hz : i.zero = some z)
 (hsize : i.size = size) (hby : i.bytes = bytes) (hzs : z.cells.size = size) (hsz : 0 < size)
 (v : Value) (n : Nat) (vs : List Value) (hs : a.eval s = v) (hown : w.ownsRow base e size v n (cellsOf vs))
 (vx : Value) (hx : a.eval x = vx) (ys : List α) (hrow : RowAt size rep w vx ys) (hone : ∀ u x, rep u x → ∀ c ∈ u.cells.toList, c.oneCell' = true)
 (h63 : n + ys.length ≤ maxLen) (hbytes : (n + ys.length) * bytes ≤ 140737488355328) (hbase : base ≤ w.heap.size)
 (h : ∀ v' w' us, Reps rep us ys → (∀ u ∈ us, u.cells.size = size) → w'.ownsRow base e size v' (n + ys.length) (cellsOf (vs ++ us)) → w.grownBy w' v.ownBlock → (v'.ownBlock = v.ownBlock ∨ ∀ g, v'.ownBlock = some g → w.heap.size ≤ g) → K (a.put o.dst v') w') :
 if Region.wanted o (yielded ops a.tmps) = true then Oper.wp Tryd.prog o a w K Q else X := by
 have hw : Region.wanted o (yielded ops a.tmps) = true := by simp [Region.wanted, hgd]
 rw [if_pos hw]
 by_cases hys : ys = []
 · subst hys
   obtain ⟨q, c, rfl⟩ := hrow.len
   have hr := run_append_zero w base t o.type e i size ht hi v n _ hown q c
   unfold Oper.wp execOp
   simp only [ho, resolve, invoke, builtin, Sem.run_bind, Sem.run_pure, Result.andThen_ok, List.map_toArray, List.map_cons, List.map_nil, hs, hx, List.length_nil, hr]
   exact h v w [] trivial (fun u hu => by cases hu) (by rw [List.append_nil]; exact hown) ⟨rfl, rfl, rfl, Nat.le_refl _, fun _ _ _ => rfl⟩ (.inl rfl)
 · rcases hrow with ⟨h0, _⟩ | ⟨g, of, c, rfl, _, _, h4⟩
   · exact absurd h0 hys
   · obtain ⟨us, hu1, hu2, hu3⟩ := row_vals ys of h4
     have hpos : 0 < ys.length := List.length_pos_iff.2 hys
     obtain ⟨v', w', hr, h2, h3, h5⟩ := run_append_loc w base t o.type e i z size bytes ht hi hz hsize hby hzs hsz v n _ hown ⟨g, of, none⟩ ys.length c hpos (cellsOf us)
      (by rw [cellsOf_len size hu2, hu1.len]) (fun j u hj => by
       have e : (⟨g, of, none⟩ : Addr).add j = ⟨g, of + j, none⟩ := by unfold Addr.add; split <;> simp_all
       rw [e]; exact hu3 j u hj) (fun u hu => by
       obtain ⟨y, hy, hz⟩ := List.mem_flatMap.1 hu
       exact Reps.all (q := fun u => ∀ c ∈ u.cells.toList, c.oneCell' = true) hone hu1 y hy u hz) h63 hbytes hbase
     unfold Oper.wp execOp
     simp only [ho, resolve, invoke, builtin, Sem.run_bind, Sem.run_pure, Result.andThen_ok, List.map_toArray, List.map_cons, List.map_nil, hs, hx, hr]
     exact h v' w' us hu1 hu2 (by rw [cellsOf_append]; exact h2) h3 h5
end Go.Proofs.YtpkecbijhckllaaDoor
