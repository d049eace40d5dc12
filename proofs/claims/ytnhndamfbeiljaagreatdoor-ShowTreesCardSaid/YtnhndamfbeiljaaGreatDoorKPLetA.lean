/-
  Parts that stay while several lists of the call's own grow; appends inside a region that draws its order.
-/
import Derived.Test.YtnhndamfbeiljaaGreatDoorGCon
namespace Go.Proofs.YtnhndamfbeiljaaGreatDoor
open Go Go.RowKit
set_option linter.unusedVariables false
set_option linter.unusedSimpArgs false

/-- A part that stays while the blocks from lo to hi stay; those that may change (S) are not among them. -/
def KeptS {α : Type} (rep : World → Value → α → Prop) (base : Nat) (w : World) (S : Nat → Prop) (v : Value) (x : α) : Prop :=
  ∃ lo hi, base ≤ lo ∧ hi ≤ w.heap.size ∧ (∀ g, S g → g < lo ∨ hi ≤ g) ∧ ∀ u : World, (∀ b, lo ≤ b → b < hi → u.heap[b]? = w.heap[b]?) → rep u v x
theorem KeptS.step {α : Type} {rep : World → Value → α → Prop} {base : Nat} {w w' : World} {S S' : Nat → Prop} {v : Value} {x : α} (h : KeptS rep base w S v x) (hs : w.heap.size ≤ w'.heap.size)
    (hk : ∀ b, b < w.heap.size → base ≤ b → ¬ S b → w'.heap[b]? = w.heap[b]?) (ho : ∀ g, S' g → S g ∨ w.heap.size ≤ g) : KeptS rep base w' S' v x := by
  obtain ⟨lo, hi, h0, h1, h2, h3⟩ := h
  refine ⟨lo, hi, h0, by omega, fun g hg => ?_, fun u hu => h3 u fun b hb1 hb2 => ?_⟩
  · rcases ho g hg with hg | hg
    · exact h2 g hg
    · omega
  · rw [hu b hb1 hb2]
    exact hk b (by omega) (by omega) (fun e => by have := h2 b e; omega)
theorem KeptS.below {α : Type} {rep : World → Value → α → Prop} {base : Nat} {w w' : World} {S : Nat → Prop} {v : Value} {x : α} (h : KeptS rep base w S v x) (hb : Below w.heap.size w w') : KeptS rep base w' S v x :=
  h.step hb.size (fun b hb1 _ _ => hb.block b hb1) (fun _ h => .inl h)
theorem New.keptS {α : Type} {rep : World → Value → α → Prop} {base : Nat} {w w' : World} {S : Nat → Prop} {v : Value} {x : α} (h : New rep w w' v x) (hb : base ≤ w.heap.size) (ho : ∀ g, S g → g < w.heap.size) : KeptS rep base w' S v x :=
  ⟨w.heap.size, w'.heap.size, hb, Nat.le_refl _, fun g hg => .inl (ho g hg), h⟩

/-- A list of the call's own, read in a later world. -/
theorem rowS {α : Type} {sz : Nat} {rep : World → Value → α → Prop} {w u : World} {base E n : Nat} {S : Nat → Prop} {v : Value} {vs : List Value} {xs : List α} (h : w.ownsRow base E sz v n (cellsOf vs)) (hn : n = xs.length)
    (hr : Reps (KeptS rep base w S) vs xs) (hs : ∀ v ∈ vs, v.cells.size = sz) (hu : ∀ b, base ≤ b → b < w.heap.size → u.heap[b]? = w.heap[b]?) : RowAt sz (rep u) u v xs := by
  subst hn
  rcases h.2 with ⟨rfl, hn⟩ | ⟨g, cap, cur, rfl, hb, hg, hc1, hc2, hc3, hc4⟩
  · exact .inl ⟨List.eq_nil_of_length_eq_zero hn, none, 0, rfl⟩
  · refine .inr ⟨g, 0, cap, rfl, hc1, by unfold maxLen at hc2; omega, fun i x hx => ?_⟩
    obtain ⟨y, hy, lo, hi, h0, h1, _, h3⟩ := hr.at hx
    refine ⟨y, h3 u fun b hb1 hb2 => hu b (by omega) (by omega), hs y (List.mem_of_getElem? hy), fun j z hz => ?_⟩
    have hcell := World.ownsRow.cells h (g := g) rfl (i * sz + j) z (cellsOf_at sz hs hy hz)
    have e : (⟨g, 0, none⟩ : Addr).add (i * sz + j) = ⟨g, 0 + i * sz + j, none⟩ := by unfold Addr.add; split <;> simp_all
    rw [e] at hcell
    have hlt : g < w.heap.size := (Array.getElem?_eq_some_iff.1 hg).1
    rw [World.cell?_of_block (w := w) (hu g hb hlt)]; exact hcell

/-- A list of the call's own stays while its block stays. -/
theorem own_stays {w w' : World} {base : Nat} {e : TypeId} {size : Nat} {v : Value} {n : Nat} {xs : List Value} (h : w.ownsRow base e size v n xs) (hk : ∀ b, v.ownBlock = some b → w'.heap[b]? = w.heap[b]?) : w'.ownsRow base e size v n xs := by
  refine ⟨h.1, ?_⟩
  rcases h.2 with h | ⟨g, cap, cur, rfl, hb, hg, hc1, hc2, hc3, hc4⟩
  · exact .inl h
  · exact .inr ⟨g, cap, cur, rfl, hb, (hk g rfl).trans hg, hc1, hc2, hc3, hc4⟩
theorem own_type_ne {w : World} {base base' n n' size size' : Nat} {e e' : TypeId} {v v' : Value} {xs xs' : List Value} (h : w.ownsRow base e size v n xs) (h' : w.ownsRow base' e' size' v' n' xs') (hT : e ≠ e') (b : Nat) (hb : v.ownBlock = some b) : v'.ownBlock ≠ some b := by
  intro hb'
  rcases h.2 with ⟨rfl, _⟩ | ⟨g, cap, cur, rfl, _, hg, _⟩
  · simp [Value.ownBlock] at hb
  · rcases h'.2 with ⟨rfl, _⟩ | ⟨g', cap', cur', rfl, _, hg', _⟩
    · simp [Value.ownBlock] at hb'
    · simp only [Value.ownBlock, Option.some.injEq] at hb hb'
      subst hb; subst hb'
      rw [hg] at hg'
      simp only [Option.some.injEq, Obj.cells.injEq] at hg'
      exact hT hg'.2.1

theorem step_append_loc {w : World} {ops : Array Oper} {o : Oper} {a : Act} {K : Act → World → Prop} {Q : Exit → Act → World → Prop} {X : Prop} (hgd : o.guard = none) (s x : Operand) (t : TypeId)
    (ho : o.op = .call { callee := .builtin .append, args := #[s, x], argTypes := #[t, t] })
    (base : Nat) (e : TypeId) (i : TypeInfo) (z : Value) (size bytes : Nat) (ht : Tryz.prog.underlying t = some (.slice e)) (hi : Tryz.prog.info? e = some i) (hz : i.zero = some z)
    (hsize : i.size = size) (hby : i.bytes = bytes) (hzs : z.cells.size = size) (hsz : 0 < size)
    (v : Value) (n : Nat) (xs : List Value) (hs : a.eval s = v) (hown : w.ownsRow base e size v n xs)
    (ad : Addr) (m c : Nat) (news : List Value) (hx : a.eval x = .slice (some ad) m c) (hm : 0 < m) (hl : news.length = m * size) (hnews : ∀ j u, news[j]? = some u → w.cell? (ad.add j) = some u) (h1 : ∀ u ∈ news, u.oneCell' = true)
    (h63 : n + m ≤ maxLen) (hbytes : (n + m) * bytes ≤ 140737488355328) (hbase : base ≤ w.heap.size)
    (h : ∀ v' w', w'.ownsRow base e size v' (n + m) (xs ++ news) → w.grownBy w' v.ownBlock → (v'.ownBlock = v.ownBlock ∨ ∀ g, v'.ownBlock = some g → w.heap.size ≤ g) → K (a.put o.dst v') w') :
    if Region.wanted o (yielded ops a.tmps) = true then Oper.wp Tryz.prog o a w K Q else X := by
  have hw : Region.wanted o (yielded ops a.tmps) = true := by simp [Region.wanted, hgd]
  rw [if_pos hw]
  obtain ⟨v', w', hr, h2, h3, h4⟩ := run_append_loc w base t o.type e i z size bytes ht hi hz hsize hby hzs hsz v n xs hown ad m c hm news hl hnews h1 h63 hbytes hbase
  unfold Oper.wp execOp
  simp only [ho, resolve, invoke, builtin, Sem.run_bind, Sem.run_pure, Result.andThen_ok, List.map_toArray, List.map_cons, List.map_nil, hs, hx, hr]
  exact h v' w' h2 h3 h4
theorem own_slice {w : World} {base e size n : Nat} {v : Value} {xs : List Value} (h : w.ownsRow base e size v n xs) : ∃ p cap, v = .slice p n cap := by
  rcases h.2 with ⟨rfl, rfl⟩ | ⟨g, cap, cur, rfl, _⟩
  · exact ⟨none, 0, rfl⟩
  · exact ⟨_, cap, rfl⟩
theorem NodeAt.of_block {w w' : World} {g o : Nat} {n : Px.Node} {lv : Value} (h : NodeAt w g o n lv) (e : w'.heap[g]? = w.heap[g]?) : NodeAt w' g o n lv := by
  have ec : ∀ i, w'.cell? ⟨g, i, none⟩ = w.cell? ⟨g, i, none⟩ := fun i => World.cell?_of_block (w := w) (a := ⟨g, i, none⟩) e
  exact ⟨by rw [ec]; exact h.c0, by rw [ec]; exact h.c1, by rw [ec]; exact h.c2, by rw [ec]; exact h.c3, by rw [ec]; exact h.c4, by rw [ec]; exact h.c5, h.small⟩
end Go.Proofs.YtnhndamfbeiljaaGreatDoor
