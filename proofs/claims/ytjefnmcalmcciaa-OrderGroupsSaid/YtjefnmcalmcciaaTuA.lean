/-
  Turns in memory; rows of the call's own, one for each thing.
-/
import Derived.Test.YtjefnmcalmcciaaHpQ
import Derived.Test.YtjefnmcalmcciaaFinF
namespace Go.Proofs.Ytjefnmcalmcciaa
open Go Go.RowKit
set_option linter.unusedVariables false
set_option linter.unusedSimpArgs false

/-- Lists of numbers, each in memory of its own. -/
structure Fam (lo N : Nat) (w : World) (v : Nat → Value) (x : Nat → List Nat) : Prop where
  own : ∀ i, i < N → w.ownsRow lo 3 1 (v i) (x i).length (ivs (x i))
  ne : ∀ i j, i < N → j < N → i ≠ j → ∀ b, (v i).ownBlock = some b → (v j).ownBlock ≠ some b
theorem Fam.same {lo N : Nat} {w w' : World} {v : Nat → Value} {x : Nat → List Nat} (h : Fam lo N w v x) (hk : ∀ i, i < N → ∀ b, (v i).ownBlock = some b → w'.heap[b]? = w.heap[b]?) : Fam lo N w' v x :=
  ⟨fun i hi => own_same (h.own i hi) (hk i hi), h.ne⟩
theorem Fam.append {lo N : Nat} {w w' : World} {v : Nat → Value} {x : Nat → List Nat} (h : Fam lo N w v x) {i : Nat} (hi : i < N) {v' : Value} {y : List Nat} (hw : w'.ownsRow lo 3 1 v' y.length (ivs y))
    (hgr : ∀ b, b < w.heap.size → (v i).ownBlock ≠ some b → w'.heap[b]? = w.heap[b]?) (hloc : ∀ b, v'.ownBlock = some b → (v i).ownBlock = some b ∨ w.heap.size ≤ b) : Fam lo N w' (Gr.upd v i v') (Gr.upd x i y) := by
  refine ⟨fun j hj => ?_, fun j k hj hk hjk b hb => ?_⟩
  · by_cases e : j = i
    · subst e; rw [Gr.upd_same, Gr.upd_same]; exact hw
    · rw [Gr.upd_ne _ _ e, Gr.upd_ne _ _ e]
      exact own_same (h.own j hj) fun b hb => hgr b ((h.own j hj).lt b hb).2 (fun e2 => h.ne j i hj hi e b hb e2)
  · by_cases e : j = i
    · subst e
      rw [Gr.upd_same] at hb
      rw [Gr.upd_ne _ _ (Ne.symm hjk)]
      rcases hloc b hb with h1 | h1
      · exact h.ne j k hj hk hjk b h1
      · intro h2
        have := ((h.own k hk).lt b h2).2
        omega
    · rw [Gr.upd_ne _ _ e] at hb
      by_cases e2 : k = i
      · subst e2
        rw [Gr.upd_same]
        intro h2
        rcases hloc b h2 with h1 | h1
        · exact h.ne j k hj hk hjk b hb h1
        · have := ((h.own j hj).lt b hb).2
          omega
      · rw [Gr.upd_ne _ _ e2]
        exact h.ne j k hj hk hjk b hb

structure TurnsAt (lo B Th Us Wt n : Nat) (nv : Value) (w : World) (v : Nat → Value) (x : Nat → List Nat) (wt : Nat → Nat) : Prop where
  ent : w.heap[B]? = some (.cells #[.slice (some ⟨Th, 0, none⟩) n n, .slice (some ⟨Us, 0, none⟩) n n, .slice (some ⟨Wt, 0, none⟩) n n, nv] 51 (0, 0))
  th : w.heap[Th]? = some (.cells ((List.range n).map fun k => v (2 * k)).toArray 30 (0, 0))
  us : w.heap[Us]? = some (.cells ((List.range n).map fun k => v (2 * k + 1)).toArray 30 (0, 0))
  wt : FnAt w Wt n wt
  fam : Fam lo (2 * n) w v x
  bt : B ≠ Th
  bu : B ≠ Us
  bw : B ≠ Wt
  tu : Th ≠ Us
  tw : Th ≠ Wt
  uw : Us ≠ Wt
  hB : B < lo
  hT : Th < lo
  hU : Us < lo
  hW : Wt < lo

theorem TurnsAt.thCell {lo B Th Us Wt n : Nat} {nv : Value} {w : World} {v : Nat → Value} {x : Nat → List Nat} {wt : Nat → Nat} (h : TurnsAt lo B Th Us Wt n nv w v x wt) {k : Nat} (hk : k < n) : w.cell? ⟨Th, k, none⟩ = some (v (2 * k)) :=
  ent_cell h.th k _ (by simp [hk])
theorem TurnsAt.usCell {lo B Th Us Wt n : Nat} {nv : Value} {w : World} {v : Nat → Value} {x : Nat → List Nat} {wt : Nat → Nat} (h : TurnsAt lo B Th Us Wt n nv w v x wt) {k : Nat} (hk : k < n) : w.cell? ⟨Us, k, none⟩ = some (v (2 * k + 1)) :=
  ent_cell h.us k _ (by simp [hk])
theorem TurnsAt.form {lo B Th Us Wt n : Nat} {nv : Value} {w : World} {v : Nat → Value} {x : Nat → List Nat} {wt : Nat → Nat} (h : TurnsAt lo B Th Us Wt n nv w v x wt) {i : Nat} (hi : i < 2 * n) : ∃ p c, v i = .slice p (x i).length c := by
  rcases (h.fam.own i hi).2 with ⟨h1, e⟩ | ⟨g, cap, cur, h1, _⟩
  · exact ⟨none, 0, by rw [h1, e]⟩
  · exact ⟨_, cap, h1⟩

theorem map_set_even (n : Nat) (v : Nat → Value) (k : Nat) (u : Value) : (((List.range n).map fun j => v (2 * j)).toArray).setIfInBounds k u = ((List.range n).map fun j => Gr.upd v (2 * k) u (2 * j)).toArray := by
  apply Array.ext'
  simp only [Array.toList_setIfInBounds]
  apply List.ext_getElem?
  intro j
  rw [List.getElem?_set]
  by_cases hj : k = j
  · subst hj
    by_cases hkn : k < n
    · simp [hkn, Gr.upd_same]
    · simp [hkn]
  · rw [if_neg hj]
    by_cases hjn : j < n
    · simp [hjn, Gr.upd_ne _ _ (show 2 * j ≠ 2 * k by omega)]
    · simp [hjn]
theorem map_set_odd (n : Nat) (v : Nat → Value) (k : Nat) (u : Value) : (((List.range n).map fun j => v (2 * j + 1)).toArray).setIfInBounds k u = ((List.range n).map fun j => Gr.upd v (2 * k + 1) u (2 * j + 1)).toArray := by
  apply Array.ext'
  simp only [Array.toList_setIfInBounds]
  apply List.ext_getElem?
  intro j
  rw [List.getElem?_set]
  by_cases hj : k = j
  · subst hj
    by_cases hkn : k < n
    · simp [hkn, Gr.upd_same]
    · simp [hkn]
  · rw [if_neg hj]
    by_cases hjn : j < n
    · simp [hjn, Gr.upd_ne _ _ (show 2 * j + 1 ≠ 2 * k + 1 by omega)]
    · simp [hjn]

/-- Behind an append to one of the rows, and its cell's store. -/
theorem TurnsAt.push {lo B Th Us Wt n : Nat} {nv : Value} {w w' : World} {o : Obj} {v : Nat → Value} {x : Nat → List Nat} {wt : Nat → Nat} (h : TurnsAt lo B Th Us Wt n nv w v x wt) (even : Bool) {k : Nat} (hk : k < n) {v' : Value} {y : List Nat}
    (hlo : lo ≤ w.heap.size) (hw : w'.ownsRow lo 3 1 v' y.length (ivs y)) (hgr : ((w.alloc o).drew).grownBy w' (v (cond even (2 * k) (2 * k + 1))).ownBlock)
    (hloc : ∀ b, v'.ownBlock = some b → (v (cond even (2 * k) (2 * k + 1))).ownBlock = some b ∨ w.heap.size ≤ b) :
    TurnsAt lo B Th Us Wt n nv (w'.setCell ⟨cond even Th Us, k, none⟩ v') (Gr.upd v (cond even (2 * k) (2 * k + 1)) v') (Gr.upd x (cond even (2 * k) (2 * k + 1)) y) wt := by
  have hi : cond even (2 * k) (2 * k + 1) < 2 * n := by cases even <;> simp <;> omega
  have hob := (h.fam.own _ hi).lt
  have hkeep : ∀ b, b < w.heap.size → (v (cond even (2 * k) (2 * k + 1))).ownBlock ≠ some b → w'.heap[b]? = w.heap[b]? := fun b hb hne => (hgr.block b (by show b < (w.alloc o).heap.size; simp; omega) (fun e => hne e.symm)).trans (Below.heap_alloc w o b hb)
  have hlow : ∀ b, b < lo → w'.heap[b]? = w.heap[b]? := fun b hb => hkeep b (by omega) (fun e => by have := (hob b e).1; omega)
  have hsame : ∀ b, b ≠ cond even Th Us → (w'.setCell ⟨cond even Th Us, k, none⟩ v').heap[b]? = w'.heap[b]? := fun b hb => Below.heap_setCell w' _ _ b hb
  have eB : B ≠ cond even Th Us := by cases even; exact h.bu; exact h.bt
  have eW : Wt ≠ cond even Th Us := by cases even; exact h.uw.symm; exact h.tw.symm
  have eL : cond even Th Us < lo := by cases even; exact h.hU; exact h.hT
  refine ⟨?_, ?_, ?_, ?_, ?_, h.bt, h.bu, h.bw, h.tu, h.tw, h.uw, h.hB, h.hT, h.hU, h.hW⟩
  · rw [hsame B eB, hlow B h.hB]; exact h.ent
  · cases even with
    | true =>
      have e := (hlow Th h.hT).trans h.th
      have := ent_set e k v'
      rw [map_set_even] at this
      exact this
    | false =>
      show (w'.setCell ⟨Us, k, none⟩ v').heap[Th]? = some (.cells ((List.range n).map fun j => Gr.upd v (2 * k + 1) v' (2 * j)).toArray 30 (0, 0))
      have e : (fun j => Gr.upd v (2 * k + 1) v' (2 * j)) = fun j => v (2 * j) := funext fun j => Gr.upd_ne _ _ (by omega)
      rw [e]
      exact ent_other ((hlow Th h.hT).trans h.th) Us k v' h.tu
  · cases even with
    | true =>
      show (w'.setCell ⟨Th, k, none⟩ v').heap[Us]? = some (.cells ((List.range n).map fun j => Gr.upd v (2 * k) v' (2 * j + 1)).toArray 30 (0, 0))
      have e : (fun j => Gr.upd v (2 * k) v' (2 * j + 1)) = fun j => v (2 * j + 1) := funext fun j => Gr.upd_ne _ _ (by omega)
      rw [e]
      exact ent_other ((hlow Us h.hU).trans h.us) Th k v' h.tu.symm
    | false =>
      have e := (hlow Us h.hU).trans h.us
      have := ent_set e k v'
      rw [map_set_odd] at this
      exact this
  · exact (show FnAt w' Wt n wt from (hlow Wt h.hW).trans h.wt).other _ k v' eW
  · have hf := h.fam.append hi hw hkeep hloc
    refine hf.same fun i hii b hb => hsame b ?_
    have := ((hf.own i hii).lt b hb).1
    omega
theorem TurnsAt.wait {lo B Th Us Wt n : Nat} {nv : Value} {w : World} {v : Nat → Value} {x : Nat → List Nat} {wt : Nat → Nat} (h : TurnsAt lo B Th Us Wt n nv w v x wt) (k a : Nat) (y : Int) (hy : y = (a : Int)) :
    TurnsAt lo B Th Us Wt n nv (w.setCell ⟨Wt, k, none⟩ (.int .i64 y)) v x (Gr.upd wt k a) :=
  ⟨ent_other h.ent Wt k _ h.bw, ent_other h.th Wt k _ h.tw, ent_other h.us Wt k _ h.uw, h.wt.set' k a y hy, h.fam.same (fun i hi b hb => Below.heap_setCell w _ _ b (by have := ((h.fam.own i hi).lt b hb).1; have := h.hW; show b ≠ Wt; omega)), h.bt, h.bu, h.bw, h.tu, h.tw, h.uw, h.hB, h.hT, h.hU, h.hW⟩
theorem TurnsAt.drew {lo B Th Us Wt n : Nat} {nv : Value} {w : World} {v : Nat → Value} {x : Nat → List Nat} {wt : Nat → Nat} (h : TurnsAt lo B Th Us Wt n nv w v x wt) : TurnsAt lo B Th Us Wt n nv w.drew v x wt :=
  ⟨h.ent, h.th, h.us, h.wt, ⟨h.fam.own, h.fam.ne⟩, h.bt, h.bu, h.bw, h.tu, h.tw, h.uw, h.hB, h.hT, h.hU, h.hW⟩
end Go.Proofs.Ytjefnmcalmcciaa
