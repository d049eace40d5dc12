/-
 Two programs' parts put behind one another in the call's own memory: what stands while it is done.
-/
import Derived.Test.YtpkecbijhckllaaDoorKPJoinsR
import Derived.Test.YtpkecbijhckllaaDoorKPShProg
namespace Go.Proofs.YtpkecbijhckllaaDoor
open Go Go.RowKit
set_option linter.unusedVariables false
set_option linter.unusedSimpArgs false
theorem dataAt_below {f : Nat} {w w' : World} {v : Value} {d : Px.Data} (h : DataAt f w v d) (hb : Below w.heap.size w w') : DataAt f w' v d := by
 obtain ⟨nv, cv, rfl, h1, h2⟩ := h
 exact ⟨nv, cv, rfl, strRow_below h1 hb, h2.mono hb (fun u x _ hu => conAt_below hu hb)⟩
theorem defAt_below {f : Nat} {w w' : World} {v : Value} {d : Px.Def} (h : DefAt f w v d) (hb : Below w.heap.size w w') : DefAt f w' v d := by
 obtain ⟨nv, b0, b1, b2, b3, b4, b5, b6, rfl, h1, h2⟩ := h
 exact ⟨nv, b0, b1, b2, b3, b4, b5, b6, rfl, strRow_below h1 hb, exprAt_below h2 hb⟩
theorem data_one {f : Nat} {w : World} (u : Value) (d : Px.Data) (h : DataAt f w u d) : ∀ c ∈ u.cells.toList, c.oneCell' = true := by
 obtain ⟨p, s, q1, n1, c1, q2, n2, c2, rfl⟩ := dataAt_form f w u d h
 intro c hc
 have e : (Value.agg #[.int .i64 p, .string s, .slice q1 n1 c1, .slice q2 n2 c2]).cells.toList = [.int .i64 p, .string s, .slice q1 n1 c1, .slice q2 n2 c2] := rfl
 rw [e] at hc
 simp only [List.mem_cons, List.not_mem_nil, or_false] at hc
 rcases hc with rfl | rfl | rfl | rfl <;> rfl
theorem def_one {f : Nat} {w : World} (u : Value) (d : Px.Def) (h : DefAt f w u d) : ∀ c ∈ u.cells.toList, c.oneCell' = true := by
 obtain ⟨nv, b0, b1, b2, b3, b4, b5, b6, rfl, h1, h2⟩ := h
 obtain ⟨q, cq, rfl⟩ := h1.len
 obtain ⟨k, p, i, s, q1, n1, c1, q2, n2, c2, q3, n3, c3, he⟩ := exprAt_form f _ _ _ h2
 simp only [Value.agg.injEq, Array.mk.injEq, List.cons.injEq, and_true] at he
 obtain ⟨rfl, rfl, rfl, rfl, rfl, rfl, rfl⟩ := he
 intro c hc
 have e : (Value.agg #[.int .i64 d.pos, .string ⟨d.name.toArray⟩, .slice q d.params.length cq, .int .i64 k, .int .i64 p, .string s, .int .i64 i, .slice q1 n1 c1, .slice q2 n2 c2, .slice q3 n3 c3]).cells.toList = [.int .i64 d.pos, .string ⟨d.name.toArray⟩, .slice q d.params.length cq, .int .i64 k, .int .i64 p, .string s, .int .i64 i, .slice q1 n1 c1, .slice q2 n2 c2, .slice q3 n3 c3] := rfl
 rw [e] at hc
 simp only [List.mem_cons, List.not_mem_nil, or_false] at hc
 rcases hc with rfl | rfl | rfl | rfl | rfl | rfl | rfl | rfl | rfl | rfl <;> rfl
theorem progAt_below {f : Nat} {w w' : World} {v : Value} {d : Px.Prog} (h : ProgAt f w v d) (hb : Below w.heap.size w w') : ProgAt f w' v d := by
 obtain ⟨dv, fv, rfl, h1, h2⟩ := h
 exact ⟨dv, fv, rfl, h1.mono hb (fun u x _ hu => dataAt_below hu hb), h2.mono hb (fun u x _ hu => defAt_below hu hb)⟩
theorem below_dn {B : Nat} {a w : World} (h : Below B a w) (n : Nat) : Below B a (w.drewN n) := h.trans ⟨rfl, rfl, rfl, Nat.le_refl _, fun _ _ => rfl⟩
/-- An own row, if there is one. -/
def OwnO (B E sz : Nat) (w : World) (o : Option (Value × Nat × List Value)) : Prop := ∀ v n vs, o = some (v, n, vs) → w.ownsRow B E sz v n (cellsOf vs)
def blkO (o : Option (Value × Nat × List Value)) : Option Nat := match o with | none => none | some (v, _, _) => v.ownBlock
theorem OwnO.lt {B E sz : Nat} {w : World} {o : Option (Value × Nat × List Value)} (h : OwnO B E sz w o) {k : Nat} (hk : blkO o = some k) : B ≤ k ∧ k < w.heap.size := by
 match o, h, hk with
 | some (v, n, vs), h, hk => exact (h v n vs rfl).lt k hk
theorem OwnO.same {B E sz : Nat} {w w' : World} {o : Option (Value × Nat × List Value)} (h : OwnO B E sz w o) (hk : ∀ k, blkO o = some k → w'.heap[k]? = w.heap[k]?) : OwnO B E sz w' o := by
 intro v n vs ho
 subst ho
 exact own_same (h v n vs rfl) hk
structure Pcs (w0 w : World) (A B : Option (Value × Nat × List Value)) (C : Option Nat) : Prop where
 bel : Below w0.heap.size w0 w
 a : OwnO w0.heap.size 83 4 w A
 b : OwnO w0.heap.size 46 10 w B
 c : ∀ c, C = some c → w0.heap.size ≤ c ∧ w.heap[c]? = some (.cells #[.slice none 0 0, .slice none 0 0] 27 (0, 0))
 ab : ∀ k, blkO A = some k → blkO B ≠ some k
 ac : ∀ k, blkO A = some k → C ≠ some k
 bc : ∀ k, blkO B = some k → C ≠ some k
theorem Pcs.start {w0 w : World} (h : Below w0.heap.size w0 w) : Pcs w0 w none none none :=
 ⟨h, fun _ _ _ e => (by cases e), fun _ _ _ e => (by cases e), fun _ e => (by cases e), fun _ e => (by cases e), fun _ e => (by cases e), fun _ e => (by cases e)⟩
theorem Pcs.clt {w0 w : World} {A B : Option (Value × Nat × List Value)} {C : Option Nat} (h : Pcs w0 w A B C) {c : Nat} (hc : C = some c) : c < w.heap.size := ent_lt (h.c c hc).2
theorem Pcs.size {w0 w : World} {A B : Option (Value × Nat × List Value)} {C : Option Nat} (h : Pcs w0 w A B C) : w0.heap.size ≤ w.heap.size := h.bel.size
theorem Pcs.allocA {w0 w : World} {B : Option (Value × Nat × List Value)} {C : Option Nat} (h : Pcs w0 w none B C) :
 Pcs w0 (w.alloc (.cells #[] 83)) (some (.slice (some ⟨w.heap.size, 0, none⟩) 0 0, 0, [])) B C where
 bel := h.bel.alloc h.size _
 a := fun v n vs e => by
  cases e
  exact World.ownsRow_made w #[] 0 h.size (by unfold maxLen; omega) rfl
 b := h.b.same fun k hk => Below.heap_alloc w _ k (h.b.lt hk).2
 c := fun c hc => ⟨(h.c c hc).1, (Below.heap_alloc w _ c (h.clt hc)).trans (h.c c hc).2⟩
 ab := fun k hk e => by
  have := (h.b.lt e).2
  simp only [blkO, Value.ownBlock, Option.some.injEq] at hk
  omega
 ac := fun k hk e => by
  have := h.clt e
  simp only [blkO, Value.ownBlock, Option.some.injEq] at hk
  omega
 bc := h.bc
theorem Pcs.allocB {w0 w : World} {A : Option (Value × Nat × List Value)} {C : Option Nat} (h : Pcs w0 w A none C) :
 Pcs w0 (w.alloc (.cells #[] 46)) A (some (.slice (some ⟨w.heap.size, 0, none⟩) 0 0, 0, [])) C where
 bel := h.bel.alloc h.size _
 b := fun v n vs e => by
  cases e
  exact World.ownsRow_made w #[] 0 h.size (by unfold maxLen; omega) rfl
 a := h.a.same fun k hk => Below.heap_alloc w _ k (h.a.lt hk).2
 c := fun c hc => ⟨(h.c c hc).1, (Below.heap_alloc w _ c (h.clt hc)).trans (h.c c hc).2⟩
 ab := fun k hk e => by
  have := (h.a.lt hk).2
  simp only [blkO, Value.ownBlock, Option.some.injEq] at e
  omega
 bc := fun k hk e => by
  have := h.clt e
  simp only [blkO, Value.ownBlock, Option.some.injEq] at hk
  omega
 ac := h.ac
theorem Pcs.allocC {w0 w : World} {A B : Option (Value × Nat × List Value)} (h : Pcs w0 w A B none) :
 Pcs w0 (w.alloc (.cells #[.slice none 0 0, .slice none 0 0] 27)) A B (some w.heap.size) where
 bel := h.bel.alloc h.size _
 a := h.a.same fun k hk => Below.heap_alloc w _ k (h.a.lt hk).2
 b := h.b.same fun k hk => Below.heap_alloc w _ k (h.b.lt hk).2
 c := fun c hc => by
  cases hc
  exact ⟨h.size, ent_new w _ _⟩
 ab := h.ab
 ac := fun k hk e => by
  have := (h.a.lt hk).2
  simp only [Option.some.injEq] at e
  omega
 bc := fun k hk e => by
  have := (h.b.lt hk).2
  simp only [Option.some.injEq] at e
  omega
theorem Pcs.growA {w0 w w' : World} {v v' : Value} {n n' : Nat} {vs vs' : List Value} {B : Option (Value × Nat × List Value)} {C : Option Nat} (h : Pcs w0 w (some (v, n, vs)) B C)
 (ho : w'.ownsRow w0.heap.size 83 4 v' n' (cellsOf vs')) (hg : w.grownBy w' v.ownBlock) (hob : v'.ownBlock = v.ownBlock ∨ ∀ g, v'.ownBlock = some g → w.heap.size ≤ g) : Pcs w0 w' (some (v', n', vs')) B C := by
 have hold : ∀ k, k < w.heap.size → v.ownBlock ≠ some k → w'.heap[k]? = w.heap[k]? := fun k h1 h2 => hg.block k h1 (fun e => h2 e.symm)
 have hA : ∀ k, v.ownBlock = some k → w0.heap.size ≤ k ∧ k < w.heap.size := fun k hk => h.a.lt (o := some (v, n, vs)) hk
 refine ⟨h.bel.grown hg h.size (fun k hk => (hA k hk).1), ?_, ?_, ?_, ?_, ?_, h.bc⟩
 · intro v1 n1 vs1 e
   cases e
   exact ho
 · exact h.b.same fun k hk => hold k (h.b.lt hk).2 (fun e => h.ab k e hk)
 · exact fun c hc => ⟨(h.c c hc).1, (hold c (h.clt hc) (fun e => h.ac c e hc)).trans (h.c c hc).2⟩
 · intro k hk e
   rcases hob with hob | hob
   · exact h.ab k (by show v.ownBlock = some k; rw [← hob]; exact hk) e
   · have := hob k hk
     have := (h.b.lt e).2
     omega
 · intro k hk e
   rcases hob with hob | hob
   · exact h.ac k (by show v.ownBlock = some k; rw [← hob]; exact hk) e
   · have := hob k hk
     have := h.clt e
     omega
theorem Pcs.growB {w0 w w' : World} {v v' : Value} {n n' : Nat} {vs vs' : List Value} {A : Option (Value × Nat × List Value)} {C : Option Nat} (h : Pcs w0 w A (some (v, n, vs)) C)
 (ho : w'.ownsRow w0.heap.size 46 10 v' n' (cellsOf vs')) (hg : w.grownBy w' v.ownBlock) (hob : v'.ownBlock = v.ownBlock ∨ ∀ g, v'.ownBlock = some g → w.heap.size ≤ g) : Pcs w0 w' A (some (v', n', vs')) C := by
 have hold : ∀ k, k < w.heap.size → v.ownBlock ≠ some k → w'.heap[k]? = w.heap[k]? := fun k h1 h2 => hg.block k h1 (fun e => h2 e.symm)
 have hA : ∀ k, v.ownBlock = some k → w0.heap.size ≤ k ∧ k < w.heap.size := fun k hk => h.b.lt (o := some (v, n, vs)) hk
 refine ⟨h.bel.grown hg h.size (fun k hk => (hA k hk).1), ?_, ?_, ?_, ?_, h.ac, ?_⟩
 · exact h.a.same fun k hk => hold k (h.a.lt hk).2 (fun e => h.ab k hk e)
 · intro v1 n1 vs1 e
   cases e
   exact ho
 · exact fun c hc => ⟨(h.c c hc).1, (hold c (h.clt hc) (fun e => h.bc c e hc)).trans (h.c c hc).2⟩
 · intro k hk e
   rcases hob with hob | hob
   · exact h.ab k hk (by show v.ownBlock = some k; rw [← hob]; exact e)
   · have := hob k e
     have := (h.a.lt hk).2
     omega
 · intro k hk e
   rcases hob with hob | hob
   · exact h.bc k (by show v.ownBlock = some k; rw [← hob]; exact hk) e
   · have := hob k hk
     have := h.clt e
     omega
/-- One operation, two, three that may come next. -/
theorem ready1 {P : Program} {md : Region.Mode} {ops : Array Oper} {Q : Exit → Act → World → Prop} {S : World → Prop} {fuel : Nat} {listed : Array Bool} {a : Act} {w : World} {i : Nat} {oi : Oper} (hr : Region.ready md ops listed = [i]) (hi : ops[i]? = some oi)
 (h1 : ∀ K' : Act → World → Prop, Shut (∀ a w, S w → (S w → wpAnyH P md ops Q S fuel (listed.setIfInBounds i true) a w) → K' a w) → if Region.wanted oi (yielded ops a.tmps) = true then Oper.wp P oi a w K' Q else K' (a.put oi.dst undef) w) : wpAnyH P md ops Q S (fuel + 1) listed a w :=
 wpAnyH_ready hr (by simp) (AllReadyH.cons hi h1 AllReadyH.nil)
theorem ready2 {P : Program} {md : Region.Mode} {ops : Array Oper} {Q : Exit → Act → World → Prop} {S : World → Prop} {fuel : Nat} {listed : Array Bool} {a : Act} {w : World} {i j : Nat} {oi oj : Oper} (hr : Region.ready md ops listed = [i, j]) (hi : ops[i]? = some oi) (hj : ops[j]? = some oj)
 (h1 : ∀ K' : Act → World → Prop, Shut (∀ a w, S w → (S w → wpAnyH P md ops Q S fuel (listed.setIfInBounds i true) a w) → K' a w) → if Region.wanted oi (yielded ops a.tmps) = true then Oper.wp P oi a w K' Q else K' (a.put oi.dst undef) w)
 (h2 : ∀ K' : Act → World → Prop, Shut (∀ a w, S w → (S w → wpAnyH P md ops Q S fuel (listed.setIfInBounds j true) a w) → K' a w) → if Region.wanted oj (yielded ops a.tmps) = true then Oper.wp P oj a w K' Q else K' (a.put oj.dst undef) w) : wpAnyH P md ops Q S (fuel + 1) listed a w :=
 wpAnyH_ready hr (by simp) (AllReadyH.cons hi h1 (AllReadyH.cons hj h2 AllReadyH.nil))
theorem ready3 {P : Program} {md : Region.Mode} {ops : Array Oper} {Q : Exit → Act → World → Prop} {S : World → Prop} {fuel : Nat} {listed : Array Bool} {a : Act} {w : World} {i j k : Nat} {oi oj ok : Oper} (hr : Region.ready md ops listed = [i, j, k]) (hi : ops[i]? = some oi) (hj : ops[j]? = some oj) (hk : ops[k]? = some ok)
 (h1 : ∀ K' : Act → World → Prop, Shut (∀ a w, S w → (S w → wpAnyH P md ops Q S fuel (listed.setIfInBounds i true) a w) → K' a w) → if Region.wanted oi (yielded ops a.tmps) = true then Oper.wp P oi a w K' Q else K' (a.put oi.dst undef) w)
 (h2 : ∀ K' : Act → World → Prop, Shut (∀ a w, S w → (S w → wpAnyH P md ops Q S fuel (listed.setIfInBounds j true) a w) → K' a w) → if Region.wanted oj (yielded ops a.tmps) = true then Oper.wp P oj a w K' Q else K' (a.put oj.dst undef) w)
 (h3 : ∀ K' : Act → World → Prop, Shut (∀ a w, S w → (S w → wpAnyH P md ops Q S fuel (listed.setIfInBounds k true) a w) → K' a w) → if Region.wanted ok (yielded ops a.tmps) = true then Oper.wp P ok a w K' Q else K' (a.put ok.dst undef) w) : wpAnyH P md ops Q S (fuel + 1) listed a w :=
 wpAnyH_ready hr (by simp) (AllReadyH.cons hi h1 (AllReadyH.cons hj h2 (AllReadyH.cons hk h3 AllReadyH.nil)))
theorem Pcs.addA0 {w0 w : World} {v : Value} {B : Option (Value × Nat × List Value)} {C : Option Nat} (h : Pcs w0 w (some (v, 0, [])) B C) {ops : Array Oper} {o : Oper} {a : Act} {K : Act → World → Prop} {Q : Exit → Act → World → Prop} {X : Prop} {S : World → Prop} {md : Region.Mode} {fuel : Nat} {listed : Array Bool}
 (HSS : ∀ u, Below w0.heap.size w0 u → S u) (hK : Shut (∀ a w, S w → (S w → wpAnyH Tryd.prog md ops Q S fuel listed a w) → K a w)) (hgd : o.guard = none) (s x : Operand)
 (ho : o.op = .call { callee := .builtin .append, args := #[s, x], argTypes := #[24, 24] }) (hs : a.eval s = v) (vx : Value) (hx : a.eval x = vx) (ys : List Px.Data) (hrow : RowAt 4 (DataAt 50 w0) w0 vx ys) (hb : ys.length ≤ 1000)
 (hp : ∀ p c w' us, Hid (Reps (DataAt 50 w0) us ys) → Hid (∀ u ∈ us, u.cells.size = 4) → Hid (Pcs w0 w' (some (.slice p ys.length c, ys.length, us)) B C) → S w' → wpAnyH Tryd.prog md ops Q S fuel listed (a.put o.dst (.slice p ys.length c)) w') :
 if Region.wanted o (yielded ops a.tmps) = true then Oper.wp Tryd.prog o a w K Q else X := by
 obtain ⟨i0, hi, hq0, hq1, hq2⟩ := info_parts infoData
 refine step_append_row hgd s x 24 ho w0.heap.size 83 i0 (.agg #[.int .i64 0, .string ⟨#[]⟩, .slice none 0 0, .slice none 0 0]) 4 72 Tryd.underlying24 hi hq0 hq1 hq2 rfl (by decide) v 0 [] hs (h.a _ _ _ rfl) vx hx ys (RowAt.mono hrow h.bel (fun _ _ _ h => h)) data_one (by unfold maxLen; omega) (by omega) h.size ?_
 intro v' w' us hr hz ho hg hob
 have ho : w'.ownsRow w0.heap.size 83 4 v' ys.length (cellsOf us) := by
  have ho := ho
  rw [Nat.zero_add, List.nil_append] at ho
  exact ho
 obtain ⟨p, c, rfl⟩ := own_slice ho
 have hP := Pcs.growA h ho hg hob
 exact hK.out _ _ (HSS _ hP.bel) (fun hS => by
  have hq := hp _ _ _ _ (Lib.hid hr) (Lib.hid hz) (Lib.hid hP) hS
  rw [Nat.zero_add] at *
  exact hq)
theorem Pcs.addA {w0 w : World} {n : Nat} {vs : List Value} {v : Value} {B : Option (Value × Nat × List Value)} {C : Option Nat} (h : Pcs w0 w (some (v, n, vs)) B C) {ops : Array Oper} {o : Oper} {a : Act} {K : Act → World → Prop} {Q : Exit → Act → World → Prop} {X : Prop} {S : World → Prop} {md : Region.Mode} {fuel : Nat} {listed : Array Bool}
 (HSS : ∀ u, Below w0.heap.size w0 u → S u) (hK : Shut (∀ a w, S w → (S w → wpAnyH Tryd.prog md ops Q S fuel listed a w) → K a w)) (hgd : o.guard = none) (s x : Operand)
 (ho : o.op = .call { callee := .builtin .append, args := #[s, x], argTypes := #[24, 24] }) (hs : a.eval s = v) (vx : Value) (hx : a.eval x = vx) (ys : List Px.Data) (hrow : RowAt 4 (DataAt 50 w0) w0 vx ys) (hb : n + ys.length ≤ 1000)
 (hp : ∀ p c w' us, Hid (Reps (DataAt 50 w0) us ys) → Hid (∀ u ∈ us, u.cells.size = 4) → Hid (Pcs w0 w' (some (.slice p (n + ys.length) c, (n + ys.length), (vs ++ us))) B C) → S w' → wpAnyH Tryd.prog md ops Q S fuel listed (a.put o.dst (.slice p (n + ys.length) c)) w') :
 if Region.wanted o (yielded ops a.tmps) = true then Oper.wp Tryd.prog o a w K Q else X := by
 obtain ⟨i0, hi, hq0, hq1, hq2⟩ := info_parts infoData
 refine step_append_row hgd s x 24 ho w0.heap.size 83 i0 (.agg #[.int .i64 0, .string ⟨#[]⟩, .slice none 0 0, .slice none 0 0]) 4 72 Tryd.underlying24 hi hq0 hq1 hq2 rfl (by decide) v n vs hs (h.a _ _ _ rfl) vx hx ys (RowAt.mono hrow h.bel (fun _ _ _ h => h)) data_one (by unfold maxLen; omega) (by omega) h.size ?_
 intro v' w' us hr hz ho hg hob
 have ho : w'.ownsRow w0.heap.size 83 4 v' (n + ys.length) (cellsOf (vs ++ us)) := by
  have ho := ho
  exact ho
 obtain ⟨p, c, rfl⟩ := own_slice ho
 have hP := Pcs.growA h ho hg hob
 exact hK.out _ _ (HSS _ hP.bel) (fun hS => hp _ _ _ _ (Lib.hid hr) (Lib.hid hz) (Lib.hid hP) hS)
theorem Pcs.addB0 {w0 w : World} {v : Value} {A : Option (Value × Nat × List Value)} {C : Option Nat} (h : Pcs w0 w A (some (v, 0, [])) C) {ops : Array Oper} {o : Oper} {a : Act} {K : Act → World → Prop} {Q : Exit → Act → World → Prop} {X : Prop} {S : World → Prop} {md : Region.Mode} {fuel : Nat} {listed : Array Bool}
 (HSS : ∀ u, Below w0.heap.size w0 u → S u) (hK : Shut (∀ a w, S w → (S w → wpAnyH Tryd.prog md ops Q S fuel listed a w) → K a w)) (hgd : o.guard = none) (s x : Operand)
 (ho : o.op = .call { callee := .builtin .append, args := #[s, x], argTypes := #[25, 25] }) (hs : a.eval s = v) (vx : Value) (hx : a.eval x = vx) (ys : List Px.Def) (hrow : RowAt 10 (DefAt 50 w0) w0 vx ys) (hb : ys.length ≤ 1000)
 (hp : ∀ p c w' us, Hid (Reps (DefAt 50 w0) us ys) → Hid (∀ u ∈ us, u.cells.size = 10) → Hid (Pcs w0 w' A (some (.slice p ys.length c, ys.length, us)) C) → S w' → wpAnyH Tryd.prog md ops Q S fuel listed (a.put o.dst (.slice p ys.length c)) w') :
 if Region.wanted o (yielded ops a.tmps) = true then Oper.wp Tryd.prog o a w K Q else X := by
 obtain ⟨i0, hi, hq0, hq1, hq2⟩ := info_parts infoDef
 refine step_append_row hgd s x 25 ho w0.heap.size 46 i0 (.agg #[.int .i64 0, .string ⟨#[]⟩, .slice none 0 0, .int .i64 0, .int .i64 0, .string ⟨#[]⟩, .int .i64 0, .slice none 0 0, .slice none 0 0, .slice none 0 0]) 10 160 Tryd.underlying25 hi hq0 hq1 hq2 rfl (by decide) v 0 [] hs (h.b _ _ _ rfl) vx hx ys (RowAt.mono hrow h.bel (fun _ _ _ h => h)) def_one (by unfold maxLen; omega) (by omega) h.size ?_
 intro v' w' us hr hz ho hg hob
 have ho : w'.ownsRow w0.heap.size 46 10 v' ys.length (cellsOf us) := by
  have ho := ho
  rw [Nat.zero_add, List.nil_append] at ho
  exact ho
 obtain ⟨p, c, rfl⟩ := own_slice ho
 have hP := Pcs.growB h ho hg hob
 exact hK.out _ _ (HSS _ hP.bel) (fun hS => by
  have hq := hp _ _ _ _ (Lib.hid hr) (Lib.hid hz) (Lib.hid hP) hS
  rw [Nat.zero_add] at *
  exact hq)
theorem Pcs.addB {w0 w : World} {n : Nat} {vs : List Value} {v : Value} {A : Option (Value × Nat × List Value)} {C : Option Nat} (h : Pcs w0 w A (some (v, n, vs)) C) {ops : Array Oper} {o : Oper} {a : Act} {K : Act → World → Prop} {Q : Exit → Act → World → Prop} {X : Prop} {S : World → Prop} {md : Region.Mode} {fuel : Nat} {listed : Array Bool}
 (HSS : ∀ u, Below w0.heap.size w0 u → S u) (hK : Shut (∀ a w, S w → (S w → wpAnyH Tryd.prog md ops Q S fuel listed a w) → K a w)) (hgd : o.guard = none) (s x : Operand)
 (ho : o.op = .call { callee := .builtin .append, args := #[s, x], argTypes := #[25, 25] }) (hs : a.eval s = v) (vx : Value) (hx : a.eval x = vx) (ys : List Px.Def) (hrow : RowAt 10 (DefAt 50 w0) w0 vx ys) (hb : n + ys.length ≤ 1000)
 (hp : ∀ p c w' us, Hid (Reps (DefAt 50 w0) us ys) → Hid (∀ u ∈ us, u.cells.size = 10) → Hid (Pcs w0 w' A (some (.slice p (n + ys.length) c, (n + ys.length), (vs ++ us))) C) → S w' → wpAnyH Tryd.prog md ops Q S fuel listed (a.put o.dst (.slice p (n + ys.length) c)) w') :
 if Region.wanted o (yielded ops a.tmps) = true then Oper.wp Tryd.prog o a w K Q else X := by
 obtain ⟨i0, hi, hq0, hq1, hq2⟩ := info_parts infoDef
 refine step_append_row hgd s x 25 ho w0.heap.size 46 i0 (.agg #[.int .i64 0, .string ⟨#[]⟩, .slice none 0 0, .int .i64 0, .int .i64 0, .string ⟨#[]⟩, .int .i64 0, .slice none 0 0, .slice none 0 0, .slice none 0 0]) 10 160 Tryd.underlying25 hi hq0 hq1 hq2 rfl (by decide) v n vs hs (h.b _ _ _ rfl) vx hx ys (RowAt.mono hrow h.bel (fun _ _ _ h => h)) def_one (by unfold maxLen; omega) (by omega) h.size ?_
 intro v' w' us hr hz ho hg hob
 have ho : w'.ownsRow w0.heap.size 46 10 v' (n + ys.length) (cellsOf (vs ++ us)) := by
  have ho := ho
  exact ho
 obtain ⟨p, c, rfl⟩ := own_slice ho
 have hP := Pcs.growB h ho hg hob
 exact hK.out _ _ (HSS _ hP.bel) (fun hS => hp _ _ _ _ (Lib.hid hr) (Lib.hid hz) (Lib.hid hP) hS)
/-- At the end: the two rows in the program's two cells. -/
theorem Pcs.done {w0 w : World} {va vb : Value} {na nb c : Nat} {us ws : List Value} {ds : List Px.Data} {fs : List Px.Def} (h : Pcs w0 w (some (va, na, us)) (some (vb, nb, ws)) (some c))
 (hna : na = ds.length) (hnb : nb = fs.length) (hda : Reps (DataAt 50 w0) us ds) (hdb : Reps (DefAt 50 w0) ws fs) (hsa : ∀ u ∈ us, u.cells.size = 4) (hsb : ∀ u ∈ ws, u.cells.size = 10) :
 Below w0.heap.size w0 ((w.setCell ⟨c, 0, none⟩ va).setCell ⟨c, 1, none⟩ vb) ∧ ((w.setCell ⟨c, 0, none⟩ va).setCell ⟨c, 1, none⟩ vb).heap[c]? = some (.cells #[va, vb] 27 (0, 0)) ∧
  ProgAt 50 ((w.setCell ⟨c, 0, none⟩ va).setCell ⟨c, 1, none⟩ vb) (.agg #[va, vb]) ⟨ds, fs⟩ := by
 have hc := h.c c rfl
 have hB : Below w0.heap.size w0 ((w.setCell ⟨c, 0, none⟩ va).setCell ⟨c, 1, none⟩ vb) := (h.bel.setCell hc.1 _).setCell hc.1 _
 have hk : ∀ k, k ≠ c → ((w.setCell ⟨c, 0, none⟩ va).setCell ⟨c, 1, none⟩ vb).heap[k]? = w.heap[k]? := fun k hk =>
  (Below.heap_setCell _ ⟨c, 1, none⟩ vb k hk).trans (Below.heap_setCell _ ⟨c, 0, none⟩ va k hk)
 refine ⟨hB, ent_set (ent_set hc.2 0 va) 1 vb, va, vb, rfl, ?_, ?_⟩
 · refine own_row (base := w0.heap.size) (E := 83) (own_same (h.a va na us rfl) fun k hka => hk k (fun e => h.ac k hka (by rw [e]))) hna (Reps.mono (fun v x hv => dataAt_below hv hB) hda) hsa
 · refine own_row (base := w0.heap.size) (E := 46) (own_same (h.b vb nb ws rfl) fun k hka => hk k (fun e => h.bc k hka (by rw [e]))) hnb (Reps.mono (fun v x hv => defAt_below hv hB) hdb) hsb
end Go.Proofs.YtpkecbijhckllaaDoor
