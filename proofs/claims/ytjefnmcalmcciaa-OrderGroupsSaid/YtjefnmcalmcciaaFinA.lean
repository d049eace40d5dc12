/-
  The finder in memory; enter.
-/
import Derived.Test.YtjefnmcalmcciaaThere
namespace Go.Proofs.Ytjefnmcalmcciaa
open Go Go.RowKit
set_option linter.unusedVariables false
set_option linter.unusedSimpArgs false

theorem add0 (g j : Nat) : (⟨g, 0, none⟩ : Addr).add j = ⟨g, j, none⟩ := by unfold Addr.add; split <;> simp_all
theorem own_cellAt {w : World} {base e size n g cap : Nat} {xs : List Value} (h : w.ownsRow base e size (.slice (some ⟨g, 0, none⟩) n cap) n xs) {j : Nat} {u : Value} (hj : xs[j]? = some u) : w.cell? ⟨g, j, none⟩ = some u := by
  have := World.ownsRow.cells h (g := g) rfl j u hj
  rwa [add0] at this
theorem own_free {w : World} {base e size n g cap : Nat} {xs : List Value} (h : w.ownsRow base e size (.slice (some ⟨g, 0, none⟩) n cap) n xs) (j : Nat) : w.frozen? ⟨g, j, none⟩ = false := by
  rcases h.2 with ⟨h1, _⟩ | ⟨g', cap', cur, h1, hb, hg, _⟩
  · cases h1
  · injection h1 with e1 _ _
    injection e1 with e1
    injection e1 with e1 _ _
    subst e1
    exact ent_free hg j
theorem own_take {w : World} {base e size n g cap : Nat} {xs : List Value} (h : w.ownsRow base e size (.slice (some ⟨g, 0, none⟩) n cap) n xs) {k : Nat} (hk : k ≤ n) : w.ownsRow base e size (.slice (some ⟨g, 0, none⟩) k cap) k (xs.take (k * size)) := by
  have hle : k * size ≤ n * size := Nat.mul_le_mul_right _ hk
  refine ⟨by rw [List.length_take, h.1]; omega, ?_⟩
  rcases h.2 with ⟨h1, _⟩ | ⟨g', cap', cur, h1, hb, hg, h2, h3, h4, h5⟩
  · cases h1
  · injection h1 with e1 e2 e3
    injection e1 with e1
    injection e1 with e1 _ _
    subst e1; subst e3
    refine .inr ⟨g, cap, cur, rfl, hb, hg, by omega, h3, h4, ?_⟩
    rw [← h5, List.take_take, Nat.min_eq_left hle]
theorem own_setAt {w : World} {base e size n g cap : Nat} {xs : List Value} (h : w.ownsRow base e size (.slice (some ⟨g, 0, none⟩) n cap) n xs) (j : Nat) (u : Value) (hj : j < xs.length) : (w.setCell ⟨g, j, none⟩ u).ownsRow base e size (.slice (some ⟨g, 0, none⟩) n cap) n (xs.set j u) := by
  refine ⟨by rw [List.length_set]; exact h.1, ?_⟩
  rcases h.2 with ⟨h1, _⟩ | ⟨g', cap', cur, h1, hb, hg, h2, h3, h4, h5⟩
  · cases h1
  · injection h1 with e1 e2 e3
    injection e1 with e1
    injection e1 with e1 _ _
    subst e1; subst e3
    refine .inr ⟨g, cap, cur.setIfInBounds j u, rfl, hb, ent_set hg j u, h2, h3, by simpa using h4, ?_⟩
    rw [Array.toList_setIfInBounds, List.take_set, h5]
theorem own_other {w : World} {base e size n : Nat} {v : Value} {xs : List Value} (h : w.ownsRow base e size v n xs) (b j : Nat) (u : Value) (hne : v.ownBlock ≠ some b) : (w.setCell ⟨b, j, none⟩ u).ownsRow base e size v n xs := by
  refine ⟨h.1, ?_⟩
  rcases h.2 with h2 | ⟨g', cap', cur, rfl, hb, hg, h2⟩
  · exact .inl h2
  · refine .inr ⟨g', cap', cur, rfl, hb, ent_other hg b j u (fun e => hne (by subst e; rfl)), h2⟩
/-- An own row stays while its block does. -/
theorem own_same {w w' : World} {base e size n : Nat} {v : Value} {xs : List Value} (h : w.ownsRow base e size v n xs) (hk : ∀ k, v.ownBlock = some k → w'.heap[k]? = w.heap[k]?) : w'.ownsRow base e size v n xs := by
  refine ⟨h.1, ?_⟩
  rcases h.2 with h2 | ⟨g, cap, cur, rfl, hb, hg, hc⟩
  · exact .inl h2
  · exact .inr ⟨g, cap, cur, rfl, hb, by rw [hk g rfl]; exact hg, hc⟩

/-- The cells of a path. -/
def pathCells (p : List Gr.Step) : List Value := p.flatMap fun x => [iv x.thing, iv x.place, iv x.done]
theorem pathCells_len (p : List Gr.Step) : (pathCells p).length = p.length * 3 := by
  unfold pathCells
  induction p with
  | nil => rfl
  | cons a r ih => rw [List.flatMap_cons, List.length_append, ih]; simp; omega
theorem pathCells_snoc (p : List Gr.Step) (x : Gr.Step) : pathCells (p ++ [x]) = pathCells p ++ [iv x.thing, iv x.place, iv x.done] := by simp [pathCells]
theorem pathCells_take (p : List Gr.Step) (x : Gr.Step) : (pathCells (p ++ [x])).take (p.length * 3) = pathCells p := by
  rw [pathCells_snoc, ← pathCells_len p, List.take_left']; rfl
theorem ivs_len (l : List Nat) : (ivs l).length = l.length := by simp [ivs]
theorem ivs_snoc (l : List Nat) (x : Nat) : ivs (l ++ [x]) = ivs l ++ [iv x] := by simp [ivs]
theorem ivs_take (l : List Nat) (k : Nat) : (ivs l).take (k * 1) = ivs (l.take k) := by rw [Nat.mul_one]; simp [ivs, List.map_take]
theorem ivs_at {l : List Nat} {k x : Nat} (h : l[k]? = some x) : (ivs l)[k]? = some (.int .i64 (x : Int)) := by simp [ivs, iv, h]

structure Apart (F P O L R : Nat) : Prop where
  fp : F ≠ P
  fo : F ≠ O
  fl : F ≠ L
  fr : F ≠ R
  po : P ≠ O
  pl : P ≠ L
  pr : P ≠ R
  ol : O ≠ L
  or' : O ≠ R
  lr : L ≠ R

/-- The finder, and all that it holds. -/
structure FinAt (lo F P O L R : Nat) (tv : Value) (n : Nat) (w : World) (s : Gr.St) : Prop where
  ent : w.heap[F]? = some (.cells #[tv, .slice (some ⟨P, 0, none⟩) s.path.length n, .slice (some ⟨O, 0, none⟩) s.opn.length n, .slice (some ⟨L, 0, none⟩) n n, .slice (some ⟨R, 0, none⟩) n n] 60 (0, 0))
  path : w.ownsRow lo 70 3 (.slice (some ⟨P, 0, none⟩) s.path.length n) s.path.length (pathCells s.path)
  opn : w.ownsRow lo 3 1 (.slice (some ⟨O, 0, none⟩) s.opn.length n) s.opn.length (ivs s.opn)
  low : FnAt w L n s.low
  first : FnAt w R n s.first
  ap : Apart F P O L R
  hF : lo ≤ F
  hP : lo ≤ P
  hO : lo ≤ O
  hL : lo ≤ L
  hR : lo ≤ R
  small : (n : Int) ≤ 1000000000

theorem info3 : (Try.prog.info? 3).map (fun i => (i.zero, i.size, i.bytes)) = some (some (.int .i64 0), 1, 8) := by kernel_rfl
theorem infoStep : (Try.prog.info? 70).map (fun i => (i.zero, i.size, i.bytes)) = some (some (.agg #[.int .i64 0, .int .i64 0, .int .i64 0]), 3, 24) := by kernel_rfl

theorem new_one (w : World) (u : Value) (T : TypeId) (j : Nat) (x : Value) (h : ([u] : List Value)[j]? = some x) : (w.alloc (.cells #[u] T)).cell? ((⟨w.heap.size, 0, none⟩ : Addr).add j) = some x := by
  rw [add0, World.cell?_alloc_mark]
  simpa using h
theorem new_three (w : World) (a b c : Value) (T : TypeId) (j : Nat) (x : Value) (h : ([a, b, c] : List Value)[j]? = some x) : (w.alloc (.cells #[a, b, c] T)).cell? ((⟨w.heap.size, 0, none⟩ : Addr).add j) = some x := by
  rw [add0, World.cell?_alloc_mark]
  simpa using h

set_option maxHeartbeats 2000000 in
set_option maxRecDepth 100000 in
theorem enter_any {lo F P O L R n : Nat} {tv : Value} {w0 w : World} {s : Gr.St} {t : Nat} (h : FinAt lo F P O L R tv n w s) (hlo : lo = w0.heap.size) (hb : Below w0.heap.size w0 w) (ht : t < n) (ho : s.opn.length < n) (hp : s.path.length < n) :
    Calls Try.prog 31 #[.pointer (some ⟨F, 0, none⟩), .int .i64 (t : Int)] w fun e w' => e = .returned (.tuple #[]) ∧ FinAt lo F P O L R tv n w' (s.enter t) ∧ Below w0.heap.size w0 w' := by
  obtain ⟨ent, path, opn, low, first, ap, hF, hP, hO, hL, hR, hsm⟩ := h
  subst hlo
  obtain ⟨i0, hi, hz0, hz1, hz2⟩ := info_parts info3
  obtain ⟨i1, hj, hy0, hy1, hy2⟩ := info_parts infoStep
  have I0 := Lib.hid hi; have I1 := Lib.hid hz1; have J0 := Lib.hid hj; have J1 := Lib.hid hy1
  have EF := Lib.hid ent; have EP := Lib.hid path; have EO := Lib.hid opn; have EL := Lib.hid low; have ER := Lib.hid first; have AP := Lib.hid ap; have HB := Lib.hid hb
  clear ent path opn low first ap hb hi hz0 hz1 hz2 hj hy0 hy1 hy2
  have f1 := ent_cell EF.out 1 _ rfl
  have f2 := ent_cell EF.out 2 _ rfl
  have f3 := ent_cell EF.out 3 _ rfl
  have ff := ent_free EF.out
  have hs1 := ent_lt EF.out
  have hs2 := (EO.out.lt O rfl).2
  have hs3 := (EP.out.lt P rfl).2
  have hs4 := ent_lt EL.out
  have hs5 := ent_lt ER.out
  go_enter Try.func31, Try.ntmps31
  go_wp2_with (at_builtin; go_loud (refine wpList_append_fits _ rfl (.tmp 9) (.tmp 11) 30 rfl w0.heap.size 3 i0 1 Try.underlying30 I0.out I1.out O s.opn.length n _ rfl (EO.out.alloc _) ⟨w.heap.size, 0, none⟩ 1 1 [.int .i64 (t : Int)] rfl rfl ?c1 ?c2 (by omega) ?_))
  case c1 => exact fun j u h => new_one w _ _ j u h
  case c2 => intro u hu; rw [List.mem_singleton.1 hu]; rfl
  intro w2 hown hgr
  -- the world behind the first append
  have hw1 : ∀ b, b < w.heap.size → b ≠ O → w2.heap[b]? = w.heap[b]? := fun b hb1 hb2 => (hgr.block b (by simp; omega) (fun e => hb2 (Option.some.inj e))).trans (Below.heap_alloc w _ b hb1)
  have EF2 := Lib.hid ((hw1 F hs1 AP.out.fo).trans EF.out)
  have EL2 : Hid (FnAt w2 L n s.low) := Lib.hid ((hw1 L hs4 AP.out.ol.symm).trans EL.out)
  have ER2 : Hid (FnAt w2 R n s.first) := Lib.hid ((hw1 R hs5 AP.out.or'.symm).trans ER.out)
  have EP2 := Lib.hid (own_same EP.out (fun k hk => by simp only [Value.ownBlock, Option.some.injEq] at hk; subst hk; exact hw1 _ hs3 AP.out.po))
  have HB2 : Hid (Below w0.heap.size w0 w2) := Lib.hid ((HB.out.alloc HB.out.size _).grown hgr (by have := HB.out.size; simp; omega) (fun k hk => by have := Option.some.inj hk; subst this; exact hO))
  have hown2 : w2.ownsRow w0.heap.size 3 1 (.slice (some ⟨O, 0, none⟩) (s.opn.length + 1) n) (s.opn.length + 1) (ivs (s.opn ++ [t])) := by rw [ivs_snoc]; exact hown
  have EO2 := Lib.hid hown2
  have hz1 : w.heap.size ≤ w2.heap.size := by have := hgr.size; simp at this; omega
  clear hown hown2 hgr hw1 f1 f2 f3 ff EF EP EO EL ER HB
  have e2 := ent_free EF2.out
  have e2c := ent_cell EF2.out 2 _ rfl
  go_upto_region 1 with fail
  clear e2 e2c
  have EF3 := Lib.hid (ent_set EF2.out 2 (.slice (some ⟨O, 0, none⟩) (s.opn.length + 1) n))
  have EL3 := Lib.hid (EL2.out.other F 2 (.slice (some ⟨O, 0, none⟩) (s.opn.length + 1) n) AP.out.fl.symm)
  have ER3 := Lib.hid (ER2.out.other F 2 (.slice (some ⟨O, 0, none⟩) (s.opn.length + 1) n) AP.out.fr.symm)
  have EP3 := Lib.hid (own_other EP2.out F 2 (.slice (some ⟨O, 0, none⟩) (s.opn.length + 1) n) (by simp [Value.ownBlock]; exact AP.out.fp.symm))
  have EO3 := Lib.hid (own_other EO2.out F 2 (.slice (some ⟨O, 0, none⟩) (s.opn.length + 1) n) (by simp [Value.ownBlock]; exact AP.out.fo.symm))
  have HB3 := Lib.hid (HB2.out.setCell (p := ⟨F, 2, none⟩) hF (.slice (some ⟨O, 0, none⟩) (s.opn.length + 1) n))
  clear EF2 EL2 ER2 EP2 EO2 HB2
  have hz3 : w.heap.size ≤ (w2.setCell ⟨F, 2, none⟩ (.slice (some ⟨O, 0, none⟩) (s.opn.length + 1) n)).heap.size := by simpa using hz1
  generalize w2.setCell ⟨F, 2, none⟩ (.slice (some ⟨O, 0, none⟩) (s.opn.length + 1) n) = w3 at *
  have f1 := ent_cell EF3.out 1 _ rfl
  have f2 := ent_cell EF3.out 2 _ rfl
  have f3 := ent_cell EF3.out 3 _ rfl
  have fL := EL3.out.cell ht
  have fLf := EL3.out.free t
  have hti : (t : Int) < n := by omega
  go_upto_region 3 with fail
  clear f1 f2 f3 fL fLf
  have hv : ((s.opn.length : Int) + 1) = ((s.opn.length + 1 : Nat) : Int) := by omega
  have EL4 := Lib.hid (EL3.out.set' t (s.opn.length + 1) _ hv)
  have EF4 := Lib.hid (ent_other EF3.out L t (.int .i64 ((s.opn.length : Int) + 1)) AP.out.fl)
  have ER4 := Lib.hid (ER3.out.other L t (.int .i64 ((s.opn.length : Int) + 1)) AP.out.lr.symm)
  have EP4 := Lib.hid (own_other EP3.out L t (.int .i64 ((s.opn.length : Int) + 1)) (by simp [Value.ownBlock]; exact AP.out.pl))
  have EO4 := Lib.hid (own_other EO3.out L t (.int .i64 ((s.opn.length : Int) + 1)) (by simp [Value.ownBlock]; exact AP.out.ol))
  have HB4 := Lib.hid (HB3.out.setCell (p := ⟨L, t, none⟩) hL (.int .i64 ((s.opn.length : Int) + 1)))
  have hz4 : w.heap.size ≤ (w3.setCell ⟨L, t, none⟩ (.int .i64 ((s.opn.length : Int) + 1))).heap.size := by simpa using hz3
  clear EF3 EL3 ER3 EP3 EO3 HB3 hz3 hz1 hv
  generalize w3.setCell ⟨L, t, none⟩ (.int .i64 ((s.opn.length : Int) + 1)) = w4 at *
  have f1 := ent_cell EF4.out 1 _ rfl
  have ff := ent_free EF4.out
  have hp4 := (EP4.out.lt P rfl).2
  go_wp2_with (at_builtin; go_loud (refine wpList_append_fits _ rfl (.tmp 31) (.tmp 35) 58 rfl w0.heap.size 70 i1 3 Try.underlying58 J0.out J1.out P s.path.length n _ rfl (EP4.out.alloc _) ⟨w4.heap.size, 0, none⟩ 1 1 [.int .i64 (t : Int), .int .i64 ((s.opn.length : Int) + 1), .int .i64 0] rfl rfl ?c1 ?c2 (by omega) ?_))
  case c1 => exact fun j u h => new_three w4 _ _ _ _ j u h
  case c2 => intro u hu; simp only [List.mem_cons, List.not_mem_nil, or_false] at hu; rcases hu with rfl | rfl | rfl <;> rfl
  intro w5 hown hgr
  have hs1 := ent_lt EF4.out
  have hs2 := (EO4.out.lt O rfl).2
  have hs4 := ent_lt EL4.out
  have hs5 := ent_lt ER4.out
  have hw1 : ∀ b, b < w4.heap.size → b ≠ P → w5.heap[b]? = w4.heap[b]? := fun b hb1 hb2 => (hgr.block b (by simp; omega) (fun e => hb2 (Option.some.inj e))).trans (Below.heap_alloc w4 _ b hb1)
  have EF5 := Lib.hid ((hw1 F hs1 AP.out.fp).trans EF4.out)
  have EL5 : Hid (FnAt w5 L n (Gr.upd s.low t (s.opn.length + 1))) := Lib.hid ((hw1 L hs4 AP.out.pl.symm).trans EL4.out)
  have ER5 : Hid (FnAt w5 R n s.first) := Lib.hid ((hw1 R hs5 AP.out.pr.symm).trans ER4.out)
  have EO5 := Lib.hid (own_same EO4.out (fun k hk => by simp only [Value.ownBlock, Option.some.injEq] at hk; subst hk; exact hw1 _ hs2 AP.out.po.symm))
  have HB5 : Hid (Below w0.heap.size w0 w5) := Lib.hid ((HB4.out.alloc HB4.out.size _).grown hgr (by have := HB4.out.size; simp; omega) (fun k hk => by have := Option.some.inj hk; subst this; exact hP))
  have hown2 : w5.ownsRow w0.heap.size 70 3 (.slice (some ⟨P, 0, none⟩) (s.path.length + 1) n) (s.path.length + 1) (pathCells (s.path ++ [⟨t, s.opn.length + 1, 0⟩])) := by rw [pathCells_snoc]; exact hown
  have EP5 := Lib.hid hown2
  clear hown hown2 hgr hw1 f1 ff EF4 EP4 EO4 EL4 ER4 HB4
  have e2 := ent_free EF5.out
  have e2c := ent_cell EF5.out 1 _ rfl
  go_wp2
  go_end0
  have hpl : (s.path ++ [(⟨t, s.opn.length + 1, 0⟩ : Gr.Step)]).length = s.path.length + 1 := by simp
  have hol : (s.opn ++ [t]).length = s.opn.length + 1 := by simp
  refine ⟨rfl, ⟨?_, ?_, ?_, ?_, ?_, AP.out, hF, hP, hO, hL, hR, hsm⟩, HB5.out.setCell (p := ⟨F, 1, none⟩) hF _⟩
  · show _ = some (Obj.cells #[tv, .slice (some ⟨P, 0, none⟩) (s.path ++ [(⟨t, s.opn.length + 1, 0⟩ : Gr.Step)]).length n, .slice (some ⟨O, 0, none⟩) (s.opn ++ [t]).length n, _, _] _ _)
    rw [hpl, hol]
    exact ent_set EF5.out 1 _
  · show World.ownsRow _ _ _ _ (.slice _ (s.path ++ [(⟨t, s.opn.length + 1, 0⟩ : Gr.Step)]).length n) (s.path ++ [(⟨t, s.opn.length + 1, 0⟩ : Gr.Step)]).length _
    rw [hpl]
    exact own_other EP5.out F 1 _ (by simp [Value.ownBlock]; exact AP.out.fp.symm)
  · show World.ownsRow _ _ _ _ (.slice _ (s.opn ++ [t]).length n) (s.opn ++ [t]).length _
    rw [hol]
    exact own_other EO5.out F 1 _ (by simp [Value.ownBlock]; exact AP.out.fo.symm)
  · exact EL5.out.other F 1 _ AP.out.fl.symm
  · exact ER5.out.other F 1 _ AP.out.fr.symm
end Go.Proofs.Ytjefnmcalmcciaa
