/-
  Several texts in one: WAll0, WAllStr, WAllTypeE, WAllPat, WAllExpr, WAllTree.
-/
import Derived.Test.YtnhndamfbeiljaaGreatDoorGSwB
import Derived.Deep.DeepCutAuto
import Derived.Deep.OwnRows
import Derived.Laws.EntriesVeiled
namespace Go.Proofs.YtnhndamfbeiljaaGreatDoor
open Go Go.RowKit
set_option linter.unusedVariables false
set_option linter.unusedSimpArgs false
namespace Sw
theorem makeNodes (n : Nat) (hn : n ≤ 1000000000) (w : World) : (Instr.makeSlice 120 (.int .i64 (n : Int)) (.int .i64 (n : Int))).run Tryz.prog w = .ok (.slice (some ⟨w.heap.size, 0, none⟩) n n) (w.alloc (.cells (madeCells #[(.nilFunc : Value)] n) 125)) :=
  run_make_row' (P := Tryz.prog) 120 125 .nilFunc 8 Tryz.underlying120 (by kernel_rfl) rfl .i64 .i64 n (by omega) (by omega) w
theorem reps_of {α : Type} {rep : Value → α → Prop} : ∀ {vs : List Value} {xs : List α}, vs.length = xs.length → (∀ (j : Nat) (v : Value) (x : α), vs[j]? = some v → xs[j]? = some x → rep v x) → Reps rep vs xs
  | [], [], _, _ => trivial
  | v :: vs, x :: xs, hl, h => ⟨h 0 v x rfl rfl, reps_of (by simpa using hl) fun j a b ha hb => h (j + 1) a b (by simpa using ha) (by simpa using hb)⟩
  | [], _ :: _, hl, _ => by simp at hl
  | _ :: _, [], hl, _ => by simp at hl
theorem own_low {w : World} {base base' : Nat} {E : TypeId} {v : Value} {n : Nat} {xs : List Value} (h : w.ownsRow base E 1 v n xs) (hb : base' ≤ base) : w.ownsRow base' E 1 v n xs := by
  refine ⟨h.1, ?_⟩
  rcases h.2 with h | ⟨g, cap, cur, rfl, a1, a2⟩
  · exact .inl h
  · exact .inr ⟨g, cap, cur, rfl, by omega, a2⟩
end Sw
end Go.Proofs.YtnhndamfbeiljaaGreatDoor

namespace Go.Proofs.YtnhndamfbeiljaaGreatDoor
open Go Go.RowKit
set_option linter.unusedVariables false
set_option linter.unusedSimpArgs false
namespace Sw
/-- The form of a part's value. -/
def IsStr (u : Value) : Prop := ∃ (t0 : ByteArray), u = .string t0
set_option maxHeartbeats 4000000 in
set_option maxRecDepth 100000 in
theorem allStr_any {α : Type} (rep : Value → α → Prop) (hsh : ∀ u x, rep u x → IsStr u) (av : Value) (xs : List α) (g : Nat) (w : World) (h : RowAt 1 rep w av xs) (hn : xs.length ≤ 1000000) :
    Calls Tryz.prog 99 #[av, .func (.func g) #[] #[]] w fun e w' => ∃ rv vs, e = .returned rv ∧ Below w.heap.size w w' ∧ w'.ownsRow w.heap.size 125 1 rv xs.length vs ∧ Reps (Clo 132 173 9 g rep w') vs xs := by
  obtain ⟨q, c, rfl⟩ := h.len
  have H := Lib.hid h
  have HSH := Lib.hid hsh
  have HN := Lib.hid hn
  clear h hsh hn
  go_enter Tryz.func99, Tryz.ntmps99
  have mk := makeNodes xs.length (by have := HN.out; omega)
  go_wp2_with fail
  clear mk
  have EW := Lib.hid (ent_alloc (ent_new w #[.func (.func g) #[] #[]] 173) (.cells (madeCells #[(.nilFunc : Value)] xs.length) 125))
  have EG := Lib.hid (ent_new (w.alloc (.cells #[.func (.func g) #[] #[]] 173)) (madeCells #[(.nilFunc : Value)] xs.length) 125)
  rw [World.size_alloc] at EG
  have HB := Lib.hid ((((Below.refl w.heap.size w).alloc (Nat.le_refl _) (.cells #[.func (.func g) #[] #[]] 173)).alloc (by simp) (.cells (madeCells #[(.nilFunc : Value)] xs.length) 125)))
  have HS0 := Lib.hid (size_madeCells #[(.nilFunc : Value)] xs.length)
  go_loopw [13] (fun i wr => ∃ (k : Nat) (cs : Array Value), i = .int .i64 k ∧ k ≤ xs.length ∧ Hid (cs.size = xs.length) ∧ Hid (wr.heap[w.heap.size]? = some (.cells #[.func (.func g) #[] #[]] 173 (0, 0))) ∧ Hid (wr.heap[w.heap.size + 1]? = some (.cells cs 125 (0, 0))) ∧
    Hid (∀ j, j < k → ∃ pb u, cs[j]? = some (.func (.func 132) #[] #[.pointer (some ⟨w.heap.size, 0, none⟩), .pointer (some ⟨pb, 0, none⟩)]) ∧ w.heap.size + 2 ≤ pb ∧ wr.heap[pb]? = some (.cells u.cells 9 (0, 0)) ∧ ∀ x, xs[j]? = some x → rep u x) ∧
    Hid (Below w.heap.size w wr)) (fun i _ => xs.length - (intOf i).toNat)
  case atStart => exact ⟨0, _, rfl, Nat.zero_le _, HS0, EW, EG, Lib.hid (fun j hj => absurd hj (Nat.not_lt_zero j)), HB⟩
  case round =>
    clear EW EG HB HS0
    obtain ⟨k, cs, rfl, hk, HS, EW, EG, HC, HB⟩ := hrel
    have hs1 := ent_lt EG.out
    by_cases hlt : k < xs.length
    · obtain ⟨x, hx⟩ : ∃ x, xs[k]? = some x := ⟨_, List.getElem?_eq_getElem hlt⟩
      rcases H.out with ⟨h0, _⟩ | ⟨b, of, c', hv, g1, g2, g3⟩
      · rw [h0] at hlt; simp at hlt
      injection hv with hq1 _ hq2
      subst hq1; subst hq2
      obtain ⟨u, hu, _, hcell⟩ := g3 k x hx
      obtain ⟨t0, rfl⟩ := HSH.out u x hu
      have HU := Lib.hid hu
      have HX := Lib.hid hx
      have up : ∀ j' z, (.string t0 : Value).cells[j']? = some z → wr.cell? ⟨b, of + k * 1 + j', none⟩ = some z := fun j' z hz => (HB.out.cell (World.block_lt_of_cell? w _ (hcell j' z hz))).trans (hcell j' z hz)
      have x0 : wr.cell? ⟨b, of + k, none⟩ = some (.string t0) := by simpa using up 0 (.string t0) rfl
      have hk1 : (k : Int) < (xs.length : Int) := by omega
      have hk2 : (xs.length : Int) ≤ (c : Int) := by omega
      have hk3 := g2
      clear g1 g2 g3 hcell hu up hx
      go_upto_region 5 with fail
      have HE := Lib.hid (ent_new wr #[.string t0] 9)
      have hsz : (wr.alloc (.cells #[.string t0] 9)).heap.size = wr.heap.size + 1 := by simp
      have HBA := Lib.hid (show Below wr.heap.size wr (wr.alloc (.cells #[.string t0] 9)) from (Below.refl _ _).alloc (Nat.le_refl _) _)
      clear x0
      generalize wr.alloc (.cells #[.string t0] 9) = w3 at HE HBA hsz ⊢
      have EG3 := Lib.hid (ent_below EG.out HBA.out)
      have EW3 := Lib.hid (ent_below EW.out HBA.out)
      have hkc : k < cs.size := by have := HS.out; omega
      obtain ⟨z, hz⟩ : ∃ z, cs[k]? = some z := ⟨_, Array.getElem?_eq_getElem hkc⟩
      have y0 := ent_cell EG3.out k z hz
      have yf := ent_free EG3.out k
      have HZ := Lib.hid hkc
      clear hkc hz
      go_wp2_with fail
      go_roundw
      case rel =>
        refine ⟨k + 1, _, by go_num, by omega, Lib.hid ((Array.size_setIfInBounds).trans HS.out), Lib.hid (ent_other EW3.out _ _ _ (by omega)), Lib.hid (ent_set EG3.out k _), Lib.hid (fun j hj => ?_), Lib.hid ((HB.out.trans (HBA.out.mono HB.out.size)).setCell (p := ⟨w.heap.size + 1, k, none⟩) (by simp) _)⟩
        by_cases hjk : j = k
        · subst hjk
          exact ⟨wr.heap.size, .string t0, set_get _ _ _ HZ.out, by omega, ent_other HE.out _ _ _ (by omega), fun y hy => by rw [HX.out] at hy; cases hy; exact HU.out⟩
        · obtain ⟨pb, u, a1, a2, a3, a4⟩ := HC.out j (by omega)
          exact ⟨pb, u, (set_other _ _ _ _ (fun e => hjk e.symm)).trans a1, a2, ent_other (ent_below a3 HBA.out) _ _ _ (by omega), a4⟩
      case measure => simp [intOf]; omega
    · obtain rfl : k = xs.length := by omega
      go_wp2_with fail
      go_ret
      have hcl : cs.toList.length = xs.length := HS.out
      refine ⟨_, cs.toList, rfl, HB.out, ⟨by rw [hcl]; simp, .inr ⟨w.heap.size + 1, xs.length, cs, rfl, by omega, EG.out, Nat.le_refl _, by have := HN.out; unfold maxLen; omega, by rw [HS.out]; simp, by rw [List.take_of_length_le (by rw [hcl]; omega)]⟩⟩, reps_of hcl fun j v x hv hx => ?_⟩
      have hj : j < xs.length := (List.getElem?_eq_some_iff.1 hx).1
      obtain ⟨pb, u, a1, a2, a3, a4⟩ := HC.out j hj
      rw [Array.getElem?_toList, a1] at hv
      cases hv
      exact ⟨_, pb, u, rfl, EW.out, a3, a4 x hx⟩
end Sw
end Go.Proofs.YtnhndamfbeiljaaGreatDoor

namespace Go.Proofs.YtnhndamfbeiljaaGreatDoor
open Go Go.RowKit
set_option linter.unusedVariables false
set_option linter.unusedSimpArgs false
namespace Sw
/-- The form of a part's value. -/
def IsTypeE (u : Value) : Prop := ∃ (i0 : Int) (t1 : ByteArray) (q2 : Option Addr) (n2 c2 : Nat), u = .agg #[.int .i64 i0, .string t1, .slice q2 n2 c2]
set_option maxHeartbeats 4000000 in
set_option maxRecDepth 100000 in
theorem allTypeE_any {α : Type} (rep : Value → α → Prop) (hsh : ∀ u x, rep u x → IsTypeE u) (av : Value) (xs : List α) (g : Nat) (w : World) (h : RowAt 3 rep w av xs) (hn : xs.length ≤ 1000000) :
    Calls Tryz.prog 102 #[av, .func (.func g) #[] #[]] w fun e w' => ∃ rv vs, e = .returned rv ∧ Below w.heap.size w w' ∧ w'.ownsRow w.heap.size 125 1 rv xs.length vs ∧ Reps (Clo 134 75 42 g rep w') vs xs := by
  obtain ⟨q, c, rfl⟩ := h.len
  have H := Lib.hid h
  have HSH := Lib.hid hsh
  have HN := Lib.hid hn
  clear h hsh hn
  go_enter Tryz.func102, Tryz.ntmps102
  have mk := makeNodes xs.length (by have := HN.out; omega)
  go_wp2_with fail
  clear mk
  have EW := Lib.hid (ent_alloc (ent_new w #[.func (.func g) #[] #[]] 75) (.cells (madeCells #[(.nilFunc : Value)] xs.length) 125))
  have EG := Lib.hid (ent_new (w.alloc (.cells #[.func (.func g) #[] #[]] 75)) (madeCells #[(.nilFunc : Value)] xs.length) 125)
  rw [World.size_alloc] at EG
  have HB := Lib.hid ((((Below.refl w.heap.size w).alloc (Nat.le_refl _) (.cells #[.func (.func g) #[] #[]] 75)).alloc (by simp) (.cells (madeCells #[(.nilFunc : Value)] xs.length) 125)))
  have HS0 := Lib.hid (size_madeCells #[(.nilFunc : Value)] xs.length)
  go_loopw [13] (fun i wr => ∃ (k : Nat) (cs : Array Value), i = .int .i64 k ∧ k ≤ xs.length ∧ Hid (cs.size = xs.length) ∧ Hid (wr.heap[w.heap.size]? = some (.cells #[.func (.func g) #[] #[]] 75 (0, 0))) ∧ Hid (wr.heap[w.heap.size + 1]? = some (.cells cs 125 (0, 0))) ∧
    Hid (∀ j, j < k → ∃ pb u, cs[j]? = some (.func (.func 134) #[] #[.pointer (some ⟨w.heap.size, 0, none⟩), .pointer (some ⟨pb, 0, none⟩)]) ∧ w.heap.size + 2 ≤ pb ∧ wr.heap[pb]? = some (.cells u.cells 42 (0, 0)) ∧ ∀ x, xs[j]? = some x → rep u x) ∧
    Hid (Below w.heap.size w wr)) (fun i _ => xs.length - (intOf i).toNat)
  case atStart => exact ⟨0, _, rfl, Nat.zero_le _, HS0, EW, EG, Lib.hid (fun j hj => absurd hj (Nat.not_lt_zero j)), HB⟩
  case round =>
    clear EW EG HB HS0
    obtain ⟨k, cs, rfl, hk, HS, EW, EG, HC, HB⟩ := hrel
    have hs1 := ent_lt EG.out
    by_cases hlt : k < xs.length
    · obtain ⟨x, hx⟩ : ∃ x, xs[k]? = some x := ⟨_, List.getElem?_eq_getElem hlt⟩
      rcases H.out with ⟨h0, _⟩ | ⟨b, of, c', hv, g1, g2, g3⟩
      · rw [h0] at hlt; simp at hlt
      injection hv with hq1 _ hq2
      subst hq1; subst hq2
      obtain ⟨u, hu, _, hcell⟩ := g3 k x hx
      obtain ⟨i0, t1, q2, n2, c2, rfl⟩ := HSH.out u x hu
      have HU := Lib.hid hu
      have HX := Lib.hid hx
      have up : ∀ j' z, (.agg #[.int .i64 i0, .string t1, .slice q2 n2 c2] : Value).cells[j']? = some z → wr.cell? ⟨b, of + k * 3 + j', none⟩ = some z := fun j' z hz => (HB.out.cell (World.block_lt_of_cell? w _ (hcell j' z hz))).trans (hcell j' z hz)
      have x0 : wr.cell? ⟨b, of + k * 3, none⟩ = some (.int .i64 i0) := up 0 (.int .i64 i0) rfl
      have x1 : wr.cell? ⟨b, of + k * 3 + 1, none⟩ = some (.string t1) := up 1 (.string t1) rfl
      have x2 : wr.cell? ⟨b, of + k * 3 + 2, none⟩ = some (.slice q2 n2 c2) := up 2 (.slice q2 n2 c2) rfl
      have hk1 : (k : Int) < (xs.length : Int) := by omega
      have hk2 : (xs.length : Int) ≤ (c : Int) := by omega
      have hk3 := g2
      clear g1 g2 g3 hcell hu up hx
      go_upto_region 5 with fail
      have HE := Lib.hid (ent_new wr #[.int .i64 i0, .string t1, .slice q2 n2 c2] 42)
      have hsz : (wr.alloc (.cells #[.int .i64 i0, .string t1, .slice q2 n2 c2] 42)).heap.size = wr.heap.size + 1 := by simp
      have HBA := Lib.hid (show Below wr.heap.size wr (wr.alloc (.cells #[.int .i64 i0, .string t1, .slice q2 n2 c2] 42)) from (Below.refl _ _).alloc (Nat.le_refl _) _)
      clear x0 x1 x2
      generalize wr.alloc (.cells #[.int .i64 i0, .string t1, .slice q2 n2 c2] 42) = w3 at HE HBA hsz ⊢
      have EG3 := Lib.hid (ent_below EG.out HBA.out)
      have EW3 := Lib.hid (ent_below EW.out HBA.out)
      have hkc : k < cs.size := by have := HS.out; omega
      obtain ⟨z, hz⟩ : ∃ z, cs[k]? = some z := ⟨_, Array.getElem?_eq_getElem hkc⟩
      have y0 := ent_cell EG3.out k z hz
      have yf := ent_free EG3.out k
      have HZ := Lib.hid hkc
      clear hkc hz
      go_wp2_with fail
      go_roundw
      case rel =>
        refine ⟨k + 1, _, by go_num, by omega, Lib.hid ((Array.size_setIfInBounds).trans HS.out), Lib.hid (ent_other EW3.out _ _ _ (by omega)), Lib.hid (ent_set EG3.out k _), Lib.hid (fun j hj => ?_), Lib.hid ((HB.out.trans (HBA.out.mono HB.out.size)).setCell (p := ⟨w.heap.size + 1, k, none⟩) (by simp) _)⟩
        by_cases hjk : j = k
        · subst hjk
          exact ⟨wr.heap.size, .agg #[.int .i64 i0, .string t1, .slice q2 n2 c2], set_get _ _ _ HZ.out, by omega, ent_other HE.out _ _ _ (by omega), fun y hy => by rw [HX.out] at hy; cases hy; exact HU.out⟩
        · obtain ⟨pb, u, a1, a2, a3, a4⟩ := HC.out j (by omega)
          exact ⟨pb, u, (set_other _ _ _ _ (fun e => hjk e.symm)).trans a1, a2, ent_other (ent_below a3 HBA.out) _ _ _ (by omega), a4⟩
      case measure => simp [intOf]; omega
    · obtain rfl : k = xs.length := by omega
      go_wp2_with fail
      go_ret
      have hcl : cs.toList.length = xs.length := HS.out
      refine ⟨_, cs.toList, rfl, HB.out, ⟨by rw [hcl]; simp, .inr ⟨w.heap.size + 1, xs.length, cs, rfl, by omega, EG.out, Nat.le_refl _, by have := HN.out; unfold maxLen; omega, by rw [HS.out]; simp, by rw [List.take_of_length_le (by rw [hcl]; omega)]⟩⟩, reps_of hcl fun j v x hv hx => ?_⟩
      have hj : j < xs.length := (List.getElem?_eq_some_iff.1 hx).1
      obtain ⟨pb, u, a1, a2, a3, a4⟩ := HC.out j hj
      rw [Array.getElem?_toList, a1] at hv
      cases hv
      exact ⟨_, pb, u, rfl, EW.out, a3, a4 x hx⟩
set_option maxHeartbeats 1000000 in
theorem oneTypeE_any {α : Type} (rep : Value → α → Prop) (hsh : ∀ u x, rep u x → IsTypeE u) (v : Value) (x : α) (g : Nat) (w : World) (h : rep v x) :
    Calls Tryz.prog 60 #[v, .func (.func g) #[] #[]] w fun e w' => ∃ rv u, e = .returned rv ∧ Below w.heap.size w w' ∧ w'.ownsRow w.heap.size 125 1 rv 1 [u] ∧ Clo 134 75 42 g rep w' u x := by
  obtain ⟨i0, t1, q2, n2, c2, rfl⟩ := hsh v x h
  have H := Lib.hid h
  have HSH := Lib.hid hsh
  clear h hsh
  go_enter Tryz.func60, Tryz.ntmps60
  go_wp2_with fail
  have EB := Lib.hid (ent_new (w.alloc (.cells #[.int .i64 i0, .string t1, .slice q2 n2 c2] 42)) #[.int .i64 i0, .string t1, .slice q2 n2 c2] 42)
  have HB := Lib.hid (((Below.refl w.heap.size w).alloc (Nat.le_refl _) (.cells #[.int .i64 i0, .string t1, .slice q2 n2 c2] 42)).alloc (by simp) (.cells #[.int .i64 i0, .string t1, .slice q2 n2 c2] 42))
  rw [World.size_alloc] at EB
  generalize (w.alloc (.cells #[.int .i64 i0, .string t1, .slice q2 n2 c2] 42)).alloc (.cells #[.int .i64 i0, .string t1, .slice q2 n2 c2] 42) = w1 at EB HB ⊢
  refine (allTypeE_any rep HSH.out _ [x] g w1 (.inr ⟨w.heap.size + 1, 0, 1, rfl, Nat.le_refl _, by omega, fun i y hi => ?_⟩) (by simp)).mono ?_
  · have hi0 : i = 0 := by
      have := (List.getElem?_eq_some_iff.1 hi).1
      simp at this; exact this
    subst hi0
    simp at hi
    subst hi
    exact ⟨_, H.out, rfl, fun j z hz => by simpa using ent_cell EB.out j z hz⟩
  rintro e w2 ⟨rv, vs, rfl, hb, hown, hr⟩
  match vs, hr with
  | [u], hr =>
    go_wp2_with fail
    go_ret
    exact ⟨rv, u, rfl, HB.out.trans (hb.mono HB.out.size), own_low hown HB.out.size, hr.1⟩
end Sw
end Go.Proofs.YtnhndamfbeiljaaGreatDoor

namespace Go.Proofs.YtnhndamfbeiljaaGreatDoor
open Go Go.RowKit
set_option linter.unusedVariables false
set_option linter.unusedSimpArgs false
namespace Sw
/-- The form of a part's value. -/
def IsPat (u : Value) : Prop := ∃ (i0 : Int) (i1 : Int) (t2 : ByteArray) (i3 : Int) (q4 : Option Addr) (n4 c4 : Nat), u = .agg #[.int .i64 i0, .int .i64 i1, .string t2, .int .i64 i3, .slice q4 n4 c4]
set_option maxHeartbeats 4000000 in
set_option maxRecDepth 100000 in
theorem allPat_any {α : Type} (rep : Value → α → Prop) (hsh : ∀ u x, rep u x → IsPat u) (av : Value) (xs : List α) (g : Nat) (w : World) (h : RowAt 5 rep w av xs) (hn : xs.length ≤ 1000000) :
    Calls Tryz.prog 137 #[av, .func (.func g) #[] #[]] w fun e w' => ∃ rv vs, e = .returned rv ∧ Below w.heap.size w w' ∧ w'.ownsRow w.heap.size 125 1 rv xs.length vs ∧ Reps (Clo 149 150 84 g rep w') vs xs := by
  obtain ⟨q, c, rfl⟩ := h.len
  have H := Lib.hid h
  have HSH := Lib.hid hsh
  have HN := Lib.hid hn
  clear h hsh hn
  go_enter Tryz.func137, Tryz.ntmps137
  have mk := makeNodes xs.length (by have := HN.out; omega)
  go_wp2_with fail
  clear mk
  have EW := Lib.hid (ent_alloc (ent_new w #[.func (.func g) #[] #[]] 150) (.cells (madeCells #[(.nilFunc : Value)] xs.length) 125))
  have EG := Lib.hid (ent_new (w.alloc (.cells #[.func (.func g) #[] #[]] 150)) (madeCells #[(.nilFunc : Value)] xs.length) 125)
  rw [World.size_alloc] at EG
  have HB := Lib.hid ((((Below.refl w.heap.size w).alloc (Nat.le_refl _) (.cells #[.func (.func g) #[] #[]] 150)).alloc (by simp) (.cells (madeCells #[(.nilFunc : Value)] xs.length) 125)))
  have HS0 := Lib.hid (size_madeCells #[(.nilFunc : Value)] xs.length)
  go_loopw [13] (fun i wr => ∃ (k : Nat) (cs : Array Value), i = .int .i64 k ∧ k ≤ xs.length ∧ Hid (cs.size = xs.length) ∧ Hid (wr.heap[w.heap.size]? = some (.cells #[.func (.func g) #[] #[]] 150 (0, 0))) ∧ Hid (wr.heap[w.heap.size + 1]? = some (.cells cs 125 (0, 0))) ∧
    Hid (∀ j, j < k → ∃ pb u, cs[j]? = some (.func (.func 149) #[] #[.pointer (some ⟨w.heap.size, 0, none⟩), .pointer (some ⟨pb, 0, none⟩)]) ∧ w.heap.size + 2 ≤ pb ∧ wr.heap[pb]? = some (.cells u.cells 84 (0, 0)) ∧ ∀ x, xs[j]? = some x → rep u x) ∧
    Hid (Below w.heap.size w wr)) (fun i _ => xs.length - (intOf i).toNat)
  case atStart => exact ⟨0, _, rfl, Nat.zero_le _, HS0, EW, EG, Lib.hid (fun j hj => absurd hj (Nat.not_lt_zero j)), HB⟩
  case round =>
    clear EW EG HB HS0
    obtain ⟨k, cs, rfl, hk, HS, EW, EG, HC, HB⟩ := hrel
    have hs1 := ent_lt EG.out
    by_cases hlt : k < xs.length
    · obtain ⟨x, hx⟩ : ∃ x, xs[k]? = some x := ⟨_, List.getElem?_eq_getElem hlt⟩
      rcases H.out with ⟨h0, _⟩ | ⟨b, of, c', hv, g1, g2, g3⟩
      · rw [h0] at hlt; simp at hlt
      injection hv with hq1 _ hq2
      subst hq1; subst hq2
      obtain ⟨u, hu, _, hcell⟩ := g3 k x hx
      obtain ⟨i0, i1, t2, i3, q4, n4, c4, rfl⟩ := HSH.out u x hu
      have HU := Lib.hid hu
      have HX := Lib.hid hx
      have up : ∀ j' z, (.agg #[.int .i64 i0, .int .i64 i1, .string t2, .int .i64 i3, .slice q4 n4 c4] : Value).cells[j']? = some z → wr.cell? ⟨b, of + k * 5 + j', none⟩ = some z := fun j' z hz => (HB.out.cell (World.block_lt_of_cell? w _ (hcell j' z hz))).trans (hcell j' z hz)
      have x0 : wr.cell? ⟨b, of + k * 5, none⟩ = some (.int .i64 i0) := up 0 (.int .i64 i0) rfl
      have x1 : wr.cell? ⟨b, of + k * 5 + 1, none⟩ = some (.int .i64 i1) := up 1 (.int .i64 i1) rfl
      have x2 : wr.cell? ⟨b, of + k * 5 + 2, none⟩ = some (.string t2) := up 2 (.string t2) rfl
      have x3 : wr.cell? ⟨b, of + k * 5 + 3, none⟩ = some (.int .i64 i3) := up 3 (.int .i64 i3) rfl
      have x4 : wr.cell? ⟨b, of + k * 5 + 4, none⟩ = some (.slice q4 n4 c4) := up 4 (.slice q4 n4 c4) rfl
      have hk1 : (k : Int) < (xs.length : Int) := by omega
      have hk2 : (xs.length : Int) ≤ (c : Int) := by omega
      have hk3 := g2
      clear g1 g2 g3 hcell hu up hx
      go_upto_region 5 with fail
      have HE := Lib.hid (ent_new wr #[.int .i64 i0, .int .i64 i1, .string t2, .int .i64 i3, .slice q4 n4 c4] 84)
      have hsz : (wr.alloc (.cells #[.int .i64 i0, .int .i64 i1, .string t2, .int .i64 i3, .slice q4 n4 c4] 84)).heap.size = wr.heap.size + 1 := by simp
      have HBA := Lib.hid (show Below wr.heap.size wr (wr.alloc (.cells #[.int .i64 i0, .int .i64 i1, .string t2, .int .i64 i3, .slice q4 n4 c4] 84)) from (Below.refl _ _).alloc (Nat.le_refl _) _)
      clear x0 x1 x2 x3 x4
      generalize wr.alloc (.cells #[.int .i64 i0, .int .i64 i1, .string t2, .int .i64 i3, .slice q4 n4 c4] 84) = w3 at HE HBA hsz ⊢
      have EG3 := Lib.hid (ent_below EG.out HBA.out)
      have EW3 := Lib.hid (ent_below EW.out HBA.out)
      have hkc : k < cs.size := by have := HS.out; omega
      obtain ⟨z, hz⟩ : ∃ z, cs[k]? = some z := ⟨_, Array.getElem?_eq_getElem hkc⟩
      have y0 := ent_cell EG3.out k z hz
      have yf := ent_free EG3.out k
      have HZ := Lib.hid hkc
      clear hkc hz
      go_wp2_with fail
      go_roundw
      case rel =>
        refine ⟨k + 1, _, by go_num, by omega, Lib.hid ((Array.size_setIfInBounds).trans HS.out), Lib.hid (ent_other EW3.out _ _ _ (by omega)), Lib.hid (ent_set EG3.out k _), Lib.hid (fun j hj => ?_), Lib.hid ((HB.out.trans (HBA.out.mono HB.out.size)).setCell (p := ⟨w.heap.size + 1, k, none⟩) (by simp) _)⟩
        by_cases hjk : j = k
        · subst hjk
          exact ⟨wr.heap.size, .agg #[.int .i64 i0, .int .i64 i1, .string t2, .int .i64 i3, .slice q4 n4 c4], set_get _ _ _ HZ.out, by omega, ent_other HE.out _ _ _ (by omega), fun y hy => by rw [HX.out] at hy; cases hy; exact HU.out⟩
        · obtain ⟨pb, u, a1, a2, a3, a4⟩ := HC.out j (by omega)
          exact ⟨pb, u, (set_other _ _ _ _ (fun e => hjk e.symm)).trans a1, a2, ent_other (ent_below a3 HBA.out) _ _ _ (by omega), a4⟩
      case measure => simp [intOf]; omega
    · obtain rfl : k = xs.length := by omega
      go_wp2_with fail
      go_ret
      have hcl : cs.toList.length = xs.length := HS.out
      refine ⟨_, cs.toList, rfl, HB.out, ⟨by rw [hcl]; simp, .inr ⟨w.heap.size + 1, xs.length, cs, rfl, by omega, EG.out, Nat.le_refl _, by have := HN.out; unfold maxLen; omega, by rw [HS.out]; simp, by rw [List.take_of_length_le (by rw [hcl]; omega)]⟩⟩, reps_of hcl fun j v x hv hx => ?_⟩
      have hj : j < xs.length := (List.getElem?_eq_some_iff.1 hx).1
      obtain ⟨pb, u, a1, a2, a3, a4⟩ := HC.out j hj
      rw [Array.getElem?_toList, a1] at hv
      cases hv
      exact ⟨_, pb, u, rfl, EW.out, a3, a4 x hx⟩
set_option maxHeartbeats 1000000 in
theorem onePat_any {α : Type} (rep : Value → α → Prop) (hsh : ∀ u x, rep u x → IsPat u) (v : Value) (x : α) (g : Nat) (w : World) (h : rep v x) :
    Calls Tryz.prog 108 #[v, .func (.func g) #[] #[]] w fun e w' => ∃ rv u, e = .returned rv ∧ Below w.heap.size w w' ∧ w'.ownsRow w.heap.size 125 1 rv 1 [u] ∧ Clo 149 150 84 g rep w' u x := by
  obtain ⟨i0, i1, t2, i3, q4, n4, c4, rfl⟩ := hsh v x h
  have H := Lib.hid h
  have HSH := Lib.hid hsh
  clear h hsh
  go_enter Tryz.func108, Tryz.ntmps108
  go_wp2_with fail
  have EB := Lib.hid (ent_new (w.alloc (.cells #[.int .i64 i0, .int .i64 i1, .string t2, .int .i64 i3, .slice q4 n4 c4] 84)) #[.int .i64 i0, .int .i64 i1, .string t2, .int .i64 i3, .slice q4 n4 c4] 84)
  have HB := Lib.hid (((Below.refl w.heap.size w).alloc (Nat.le_refl _) (.cells #[.int .i64 i0, .int .i64 i1, .string t2, .int .i64 i3, .slice q4 n4 c4] 84)).alloc (by simp) (.cells #[.int .i64 i0, .int .i64 i1, .string t2, .int .i64 i3, .slice q4 n4 c4] 84))
  rw [World.size_alloc] at EB
  generalize (w.alloc (.cells #[.int .i64 i0, .int .i64 i1, .string t2, .int .i64 i3, .slice q4 n4 c4] 84)).alloc (.cells #[.int .i64 i0, .int .i64 i1, .string t2, .int .i64 i3, .slice q4 n4 c4] 84) = w1 at EB HB ⊢
  refine (allPat_any rep HSH.out _ [x] g w1 (.inr ⟨w.heap.size + 1, 0, 1, rfl, Nat.le_refl _, by omega, fun i y hi => ?_⟩) (by simp)).mono ?_
  · have hi0 : i = 0 := by
      have := (List.getElem?_eq_some_iff.1 hi).1
      simp at this; exact this
    subst hi0
    simp at hi
    subst hi
    exact ⟨_, H.out, rfl, fun j z hz => by simpa using ent_cell EB.out j z hz⟩
  rintro e w2 ⟨rv, vs, rfl, hb, hown, hr⟩
  match vs, hr with
  | [u], hr =>
    go_wp2_with fail
    go_ret
    exact ⟨rv, u, rfl, HB.out.trans (hb.mono HB.out.size), own_low hown HB.out.size, hr.1⟩
end Sw
end Go.Proofs.YtnhndamfbeiljaaGreatDoor

namespace Go.Proofs.YtnhndamfbeiljaaGreatDoor
open Go Go.RowKit
set_option linter.unusedVariables false
set_option linter.unusedSimpArgs false
namespace Sw
/-- The form of a part's value. -/
def IsExpr (u : Value) : Prop := ∃ (i0 : Int) (i1 : Int) (t2 : ByteArray) (i3 : Int) (q4 : Option Addr) (n4 c4 : Nat) (q5 : Option Addr) (n5 c5 : Nat) (q6 : Option Addr) (n6 c6 : Nat), u = .agg #[.int .i64 i0, .int .i64 i1, .string t2, .int .i64 i3, .slice q4 n4 c4, .slice q5 n5 c5, .slice q6 n6 c6]
set_option maxHeartbeats 4000000 in
set_option maxRecDepth 100000 in
theorem allExpr_any {α : Type} (rep : Value → α → Prop) (hsh : ∀ u x, rep u x → IsExpr u) (av : Value) (xs : List α) (g : Nat) (w : World) (h : RowAt 7 rep w av xs) (hn : xs.length ≤ 1000000) :
    Calls Tryz.prog 65 #[av, .func (.func g) #[] #[]] w fun e w' => ∃ rv vs, e = .returned rv ∧ Below w.heap.size w w' ∧ w'.ownsRow w.heap.size 125 1 rv xs.length vs ∧ Reps (Clo 104 79 47 g rep w') vs xs := by
  obtain ⟨q, c, rfl⟩ := h.len
  have H := Lib.hid h
  have HSH := Lib.hid hsh
  have HN := Lib.hid hn
  clear h hsh hn
  go_enter Tryz.func65, Tryz.ntmps65
  have mk := makeNodes xs.length (by have := HN.out; omega)
  go_wp2_with fail
  clear mk
  have EW := Lib.hid (ent_alloc (ent_new w #[.func (.func g) #[] #[]] 79) (.cells (madeCells #[(.nilFunc : Value)] xs.length) 125))
  have EG := Lib.hid (ent_new (w.alloc (.cells #[.func (.func g) #[] #[]] 79)) (madeCells #[(.nilFunc : Value)] xs.length) 125)
  rw [World.size_alloc] at EG
  have HB := Lib.hid ((((Below.refl w.heap.size w).alloc (Nat.le_refl _) (.cells #[.func (.func g) #[] #[]] 79)).alloc (by simp) (.cells (madeCells #[(.nilFunc : Value)] xs.length) 125)))
  have HS0 := Lib.hid (size_madeCells #[(.nilFunc : Value)] xs.length)
  go_loopw [13] (fun i wr => ∃ (k : Nat) (cs : Array Value), i = .int .i64 k ∧ k ≤ xs.length ∧ Hid (cs.size = xs.length) ∧ Hid (wr.heap[w.heap.size]? = some (.cells #[.func (.func g) #[] #[]] 79 (0, 0))) ∧ Hid (wr.heap[w.heap.size + 1]? = some (.cells cs 125 (0, 0))) ∧
    Hid (∀ j, j < k → ∃ pb u, cs[j]? = some (.func (.func 104) #[] #[.pointer (some ⟨w.heap.size, 0, none⟩), .pointer (some ⟨pb, 0, none⟩)]) ∧ w.heap.size + 2 ≤ pb ∧ wr.heap[pb]? = some (.cells u.cells 47 (0, 0)) ∧ ∀ x, xs[j]? = some x → rep u x) ∧
    Hid (Below w.heap.size w wr)) (fun i _ => xs.length - (intOf i).toNat)
  case atStart => exact ⟨0, _, rfl, Nat.zero_le _, HS0, EW, EG, Lib.hid (fun j hj => absurd hj (Nat.not_lt_zero j)), HB⟩
  case round =>
    clear EW EG HB HS0
    obtain ⟨k, cs, rfl, hk, HS, EW, EG, HC, HB⟩ := hrel
    have hs1 := ent_lt EG.out
    by_cases hlt : k < xs.length
    · obtain ⟨x, hx⟩ : ∃ x, xs[k]? = some x := ⟨_, List.getElem?_eq_getElem hlt⟩
      rcases H.out with ⟨h0, _⟩ | ⟨b, of, c', hv, g1, g2, g3⟩
      · rw [h0] at hlt; simp at hlt
      injection hv with hq1 _ hq2
      subst hq1; subst hq2
      obtain ⟨u, hu, _, hcell⟩ := g3 k x hx
      obtain ⟨i0, i1, t2, i3, q4, n4, c4, q5, n5, c5, q6, n6, c6, rfl⟩ := HSH.out u x hu
      have HU := Lib.hid hu
      have HX := Lib.hid hx
      have up : ∀ j' z, (.agg #[.int .i64 i0, .int .i64 i1, .string t2, .int .i64 i3, .slice q4 n4 c4, .slice q5 n5 c5, .slice q6 n6 c6] : Value).cells[j']? = some z → wr.cell? ⟨b, of + k * 7 + j', none⟩ = some z := fun j' z hz => (HB.out.cell (World.block_lt_of_cell? w _ (hcell j' z hz))).trans (hcell j' z hz)
      have x0 : wr.cell? ⟨b, of + k * 7, none⟩ = some (.int .i64 i0) := up 0 (.int .i64 i0) rfl
      have x1 : wr.cell? ⟨b, of + k * 7 + 1, none⟩ = some (.int .i64 i1) := up 1 (.int .i64 i1) rfl
      have x2 : wr.cell? ⟨b, of + k * 7 + 2, none⟩ = some (.string t2) := up 2 (.string t2) rfl
      have x3 : wr.cell? ⟨b, of + k * 7 + 3, none⟩ = some (.int .i64 i3) := up 3 (.int .i64 i3) rfl
      have x4 : wr.cell? ⟨b, of + k * 7 + 4, none⟩ = some (.slice q4 n4 c4) := up 4 (.slice q4 n4 c4) rfl
      have x5 : wr.cell? ⟨b, of + k * 7 + 5, none⟩ = some (.slice q5 n5 c5) := up 5 (.slice q5 n5 c5) rfl
      have x6 : wr.cell? ⟨b, of + k * 7 + 6, none⟩ = some (.slice q6 n6 c6) := up 6 (.slice q6 n6 c6) rfl
      have hk1 : (k : Int) < (xs.length : Int) := by omega
      have hk2 : (xs.length : Int) ≤ (c : Int) := by omega
      have hk3 := g2
      clear g1 g2 g3 hcell hu up hx
      go_upto_region 5 with fail
      have HE := Lib.hid (ent_new wr #[.int .i64 i0, .int .i64 i1, .string t2, .int .i64 i3, .slice q4 n4 c4, .slice q5 n5 c5, .slice q6 n6 c6] 47)
      have hsz : (wr.alloc (.cells #[.int .i64 i0, .int .i64 i1, .string t2, .int .i64 i3, .slice q4 n4 c4, .slice q5 n5 c5, .slice q6 n6 c6] 47)).heap.size = wr.heap.size + 1 := by simp
      have HBA := Lib.hid (show Below wr.heap.size wr (wr.alloc (.cells #[.int .i64 i0, .int .i64 i1, .string t2, .int .i64 i3, .slice q4 n4 c4, .slice q5 n5 c5, .slice q6 n6 c6] 47)) from (Below.refl _ _).alloc (Nat.le_refl _) _)
      clear x0 x1 x2 x3 x4 x5 x6
      generalize wr.alloc (.cells #[.int .i64 i0, .int .i64 i1, .string t2, .int .i64 i3, .slice q4 n4 c4, .slice q5 n5 c5, .slice q6 n6 c6] 47) = w3 at HE HBA hsz ⊢
      have EG3 := Lib.hid (ent_below EG.out HBA.out)
      have EW3 := Lib.hid (ent_below EW.out HBA.out)
      have hkc : k < cs.size := by have := HS.out; omega
      obtain ⟨z, hz⟩ : ∃ z, cs[k]? = some z := ⟨_, Array.getElem?_eq_getElem hkc⟩
      have y0 := ent_cell EG3.out k z hz
      have yf := ent_free EG3.out k
      have HZ := Lib.hid hkc
      clear hkc hz
      go_wp2_with fail
      go_roundw
      case rel =>
        refine ⟨k + 1, _, by go_num, by omega, Lib.hid ((Array.size_setIfInBounds).trans HS.out), Lib.hid (ent_other EW3.out _ _ _ (by omega)), Lib.hid (ent_set EG3.out k _), Lib.hid (fun j hj => ?_), Lib.hid ((HB.out.trans (HBA.out.mono HB.out.size)).setCell (p := ⟨w.heap.size + 1, k, none⟩) (by simp) _)⟩
        by_cases hjk : j = k
        · subst hjk
          exact ⟨wr.heap.size, .agg #[.int .i64 i0, .int .i64 i1, .string t2, .int .i64 i3, .slice q4 n4 c4, .slice q5 n5 c5, .slice q6 n6 c6], set_get _ _ _ HZ.out, by omega, ent_other HE.out _ _ _ (by omega), fun y hy => by rw [HX.out] at hy; cases hy; exact HU.out⟩
        · obtain ⟨pb, u, a1, a2, a3, a4⟩ := HC.out j (by omega)
          exact ⟨pb, u, (set_other _ _ _ _ (fun e => hjk e.symm)).trans a1, a2, ent_other (ent_below a3 HBA.out) _ _ _ (by omega), a4⟩
      case measure => simp [intOf]; omega
    · obtain rfl : k = xs.length := by omega
      go_wp2_with fail
      go_ret
      have hcl : cs.toList.length = xs.length := HS.out
      refine ⟨_, cs.toList, rfl, HB.out, ⟨by rw [hcl]; simp, .inr ⟨w.heap.size + 1, xs.length, cs, rfl, by omega, EG.out, Nat.le_refl _, by have := HN.out; unfold maxLen; omega, by rw [HS.out]; simp, by rw [List.take_of_length_le (by rw [hcl]; omega)]⟩⟩, reps_of hcl fun j v x hv hx => ?_⟩
      have hj : j < xs.length := (List.getElem?_eq_some_iff.1 hx).1
      obtain ⟨pb, u, a1, a2, a3, a4⟩ := HC.out j hj
      rw [Array.getElem?_toList, a1] at hv
      cases hv
      exact ⟨_, pb, u, rfl, EW.out, a3, a4 x hx⟩
set_option maxHeartbeats 1000000 in
theorem oneExpr_any {α : Type} (rep : Value → α → Prop) (hsh : ∀ u x, rep u x → IsExpr u) (v : Value) (x : α) (g : Nat) (w : World) (h : rep v x) :
    Calls Tryz.prog 63 #[v, .func (.func g) #[] #[]] w fun e w' => ∃ rv u, e = .returned rv ∧ Below w.heap.size w w' ∧ w'.ownsRow w.heap.size 125 1 rv 1 [u] ∧ Clo 104 79 47 g rep w' u x := by
  obtain ⟨i0, i1, t2, i3, q4, n4, c4, q5, n5, c5, q6, n6, c6, rfl⟩ := hsh v x h
  have H := Lib.hid h
  have HSH := Lib.hid hsh
  clear h hsh
  go_enter Tryz.func63, Tryz.ntmps63
  go_wp2_with fail
  have EB := Lib.hid (ent_new (w.alloc (.cells #[.int .i64 i0, .int .i64 i1, .string t2, .int .i64 i3, .slice q4 n4 c4, .slice q5 n5 c5, .slice q6 n6 c6] 47)) #[.int .i64 i0, .int .i64 i1, .string t2, .int .i64 i3, .slice q4 n4 c4, .slice q5 n5 c5, .slice q6 n6 c6] 47)
  have HB := Lib.hid (((Below.refl w.heap.size w).alloc (Nat.le_refl _) (.cells #[.int .i64 i0, .int .i64 i1, .string t2, .int .i64 i3, .slice q4 n4 c4, .slice q5 n5 c5, .slice q6 n6 c6] 47)).alloc (by simp) (.cells #[.int .i64 i0, .int .i64 i1, .string t2, .int .i64 i3, .slice q4 n4 c4, .slice q5 n5 c5, .slice q6 n6 c6] 47))
  rw [World.size_alloc] at EB
  generalize (w.alloc (.cells #[.int .i64 i0, .int .i64 i1, .string t2, .int .i64 i3, .slice q4 n4 c4, .slice q5 n5 c5, .slice q6 n6 c6] 47)).alloc (.cells #[.int .i64 i0, .int .i64 i1, .string t2, .int .i64 i3, .slice q4 n4 c4, .slice q5 n5 c5, .slice q6 n6 c6] 47) = w1 at EB HB ⊢
  refine (allExpr_any rep HSH.out _ [x] g w1 (.inr ⟨w.heap.size + 1, 0, 1, rfl, Nat.le_refl _, by omega, fun i y hi => ?_⟩) (by simp)).mono ?_
  · have hi0 : i = 0 := by
      have := (List.getElem?_eq_some_iff.1 hi).1
      simp at this; exact this
    subst hi0
    simp at hi
    subst hi
    exact ⟨_, H.out, rfl, fun j z hz => by simpa using ent_cell EB.out j z hz⟩
  rintro e w2 ⟨rv, vs, rfl, hb, hown, hr⟩
  match vs, hr with
  | [u], hr =>
    go_wp2_with fail
    go_ret
    exact ⟨rv, u, rfl, HB.out.trans (hb.mono HB.out.size), own_low hown HB.out.size, hr.1⟩
end Sw
end Go.Proofs.YtnhndamfbeiljaaGreatDoor

namespace Go.Proofs.YtnhndamfbeiljaaGreatDoor
open Go Go.RowKit
set_option linter.unusedVariables false
set_option linter.unusedSimpArgs false
namespace Sw
/-- The form of a part's value. -/
def IsTree (u : Value) : Prop := ∃ (t0 : ByteArray) (i1 : Int) (i2 : Int) (i3 : Int) (q4 : Option Addr) (n4 c4 : Nat), u = .agg #[.string t0, .int .i64 i1, .int .i64 i2, .int .i64 i3, .slice q4 n4 c4]
set_option maxHeartbeats 4000000 in
set_option maxRecDepth 100000 in
theorem allTree_any {α : Type} (rep : Value → α → Prop) (hsh : ∀ u x, rep u x → IsTree u) (av : Value) (xs : List α) (g : Nat) (w : World) (h : RowAt 5 rep w av xs) (hn : xs.length ≤ 1000000) :
    Calls Tryz.prog 111 #[av, .func (.func g) #[] #[]] w fun e w' => ∃ rv vs, e = .returned rv ∧ Below w.heap.size w w' ∧ w'.ownsRow w.heap.size 125 1 rv xs.length vs ∧ Reps (Clo 142 88 58 g rep w') vs xs := by
  obtain ⟨q, c, rfl⟩ := h.len
  have H := Lib.hid h
  have HSH := Lib.hid hsh
  have HN := Lib.hid hn
  clear h hsh hn
  go_enter Tryz.func111, Tryz.ntmps111
  have mk := makeNodes xs.length (by have := HN.out; omega)
  go_wp2_with fail
  clear mk
  have EW := Lib.hid (ent_alloc (ent_new w #[.func (.func g) #[] #[]] 88) (.cells (madeCells #[(.nilFunc : Value)] xs.length) 125))
  have EG := Lib.hid (ent_new (w.alloc (.cells #[.func (.func g) #[] #[]] 88)) (madeCells #[(.nilFunc : Value)] xs.length) 125)
  rw [World.size_alloc] at EG
  have HB := Lib.hid ((((Below.refl w.heap.size w).alloc (Nat.le_refl _) (.cells #[.func (.func g) #[] #[]] 88)).alloc (by simp) (.cells (madeCells #[(.nilFunc : Value)] xs.length) 125)))
  have HS0 := Lib.hid (size_madeCells #[(.nilFunc : Value)] xs.length)
  go_loopw [13] (fun i wr => ∃ (k : Nat) (cs : Array Value), i = .int .i64 k ∧ k ≤ xs.length ∧ Hid (cs.size = xs.length) ∧ Hid (wr.heap[w.heap.size]? = some (.cells #[.func (.func g) #[] #[]] 88 (0, 0))) ∧ Hid (wr.heap[w.heap.size + 1]? = some (.cells cs 125 (0, 0))) ∧
    Hid (∀ j, j < k → ∃ pb u, cs[j]? = some (.func (.func 142) #[] #[.pointer (some ⟨w.heap.size, 0, none⟩), .pointer (some ⟨pb, 0, none⟩)]) ∧ w.heap.size + 2 ≤ pb ∧ wr.heap[pb]? = some (.cells u.cells 58 (0, 0)) ∧ ∀ x, xs[j]? = some x → rep u x) ∧
    Hid (Below w.heap.size w wr)) (fun i _ => xs.length - (intOf i).toNat)
  case atStart => exact ⟨0, _, rfl, Nat.zero_le _, HS0, EW, EG, Lib.hid (fun j hj => absurd hj (Nat.not_lt_zero j)), HB⟩
  case round =>
    clear EW EG HB HS0
    obtain ⟨k, cs, rfl, hk, HS, EW, EG, HC, HB⟩ := hrel
    have hs1 := ent_lt EG.out
    by_cases hlt : k < xs.length
    · obtain ⟨x, hx⟩ : ∃ x, xs[k]? = some x := ⟨_, List.getElem?_eq_getElem hlt⟩
      rcases H.out with ⟨h0, _⟩ | ⟨b, of, c', hv, g1, g2, g3⟩
      · rw [h0] at hlt; simp at hlt
      injection hv with hq1 _ hq2
      subst hq1; subst hq2
      obtain ⟨u, hu, _, hcell⟩ := g3 k x hx
      obtain ⟨t0, i1, i2, i3, q4, n4, c4, rfl⟩ := HSH.out u x hu
      have HU := Lib.hid hu
      have HX := Lib.hid hx
      have up : ∀ j' z, (.agg #[.string t0, .int .i64 i1, .int .i64 i2, .int .i64 i3, .slice q4 n4 c4] : Value).cells[j']? = some z → wr.cell? ⟨b, of + k * 5 + j', none⟩ = some z := fun j' z hz => (HB.out.cell (World.block_lt_of_cell? w _ (hcell j' z hz))).trans (hcell j' z hz)
      have x0 : wr.cell? ⟨b, of + k * 5, none⟩ = some (.string t0) := up 0 (.string t0) rfl
      have x1 : wr.cell? ⟨b, of + k * 5 + 1, none⟩ = some (.int .i64 i1) := up 1 (.int .i64 i1) rfl
      have x2 : wr.cell? ⟨b, of + k * 5 + 2, none⟩ = some (.int .i64 i2) := up 2 (.int .i64 i2) rfl
      have x3 : wr.cell? ⟨b, of + k * 5 + 3, none⟩ = some (.int .i64 i3) := up 3 (.int .i64 i3) rfl
      have x4 : wr.cell? ⟨b, of + k * 5 + 4, none⟩ = some (.slice q4 n4 c4) := up 4 (.slice q4 n4 c4) rfl
      have hk1 : (k : Int) < (xs.length : Int) := by omega
      have hk2 : (xs.length : Int) ≤ (c : Int) := by omega
      have hk3 := g2
      clear g1 g2 g3 hcell hu up hx
      go_upto_region 5 with fail
      have HE := Lib.hid (ent_new wr #[.string t0, .int .i64 i1, .int .i64 i2, .int .i64 i3, .slice q4 n4 c4] 58)
      have hsz : (wr.alloc (.cells #[.string t0, .int .i64 i1, .int .i64 i2, .int .i64 i3, .slice q4 n4 c4] 58)).heap.size = wr.heap.size + 1 := by simp
      have HBA := Lib.hid (show Below wr.heap.size wr (wr.alloc (.cells #[.string t0, .int .i64 i1, .int .i64 i2, .int .i64 i3, .slice q4 n4 c4] 58)) from (Below.refl _ _).alloc (Nat.le_refl _) _)
      clear x0 x1 x2 x3 x4
      generalize wr.alloc (.cells #[.string t0, .int .i64 i1, .int .i64 i2, .int .i64 i3, .slice q4 n4 c4] 58) = w3 at HE HBA hsz ⊢
      have EG3 := Lib.hid (ent_below EG.out HBA.out)
      have EW3 := Lib.hid (ent_below EW.out HBA.out)
      have hkc : k < cs.size := by have := HS.out; omega
      obtain ⟨z, hz⟩ : ∃ z, cs[k]? = some z := ⟨_, Array.getElem?_eq_getElem hkc⟩
      have y0 := ent_cell EG3.out k z hz
      have yf := ent_free EG3.out k
      have HZ := Lib.hid hkc
      clear hkc hz
      go_wp2_with fail
      go_roundw
      case rel =>
        refine ⟨k + 1, _, by go_num, by omega, Lib.hid ((Array.size_setIfInBounds).trans HS.out), Lib.hid (ent_other EW3.out _ _ _ (by omega)), Lib.hid (ent_set EG3.out k _), Lib.hid (fun j hj => ?_), Lib.hid ((HB.out.trans (HBA.out.mono HB.out.size)).setCell (p := ⟨w.heap.size + 1, k, none⟩) (by simp) _)⟩
        by_cases hjk : j = k
        · subst hjk
          exact ⟨wr.heap.size, .agg #[.string t0, .int .i64 i1, .int .i64 i2, .int .i64 i3, .slice q4 n4 c4], set_get _ _ _ HZ.out, by omega, ent_other HE.out _ _ _ (by omega), fun y hy => by rw [HX.out] at hy; cases hy; exact HU.out⟩
        · obtain ⟨pb, u, a1, a2, a3, a4⟩ := HC.out j (by omega)
          exact ⟨pb, u, (set_other _ _ _ _ (fun e => hjk e.symm)).trans a1, a2, ent_other (ent_below a3 HBA.out) _ _ _ (by omega), a4⟩
      case measure => simp [intOf]; omega
    · obtain rfl : k = xs.length := by omega
      go_wp2_with fail
      go_ret
      have hcl : cs.toList.length = xs.length := HS.out
      refine ⟨_, cs.toList, rfl, HB.out, ⟨by rw [hcl]; simp, .inr ⟨w.heap.size + 1, xs.length, cs, rfl, by omega, EG.out, Nat.le_refl _, by have := HN.out; unfold maxLen; omega, by rw [HS.out]; simp, by rw [List.take_of_length_le (by rw [hcl]; omega)]⟩⟩, reps_of hcl fun j v x hv hx => ?_⟩
      have hj : j < xs.length := (List.getElem?_eq_some_iff.1 hx).1
      obtain ⟨pb, u, a1, a2, a3, a4⟩ := HC.out j hj
      rw [Array.getElem?_toList, a1] at hv
      cases hv
      exact ⟨_, pb, u, rfl, EW.out, a3, a4 x hx⟩
set_option maxHeartbeats 1000000 in
theorem oneTree_any {α : Type} (rep : Value → α → Prop) (hsh : ∀ u x, rep u x → IsTree u) (v : Value) (x : α) (g : Nat) (w : World) (h : rep v x) :
    Calls Tryz.prog 76 #[v, .func (.func g) #[] #[]] w fun e w' => ∃ rv u, e = .returned rv ∧ Below w.heap.size w w' ∧ w'.ownsRow w.heap.size 125 1 rv 1 [u] ∧ Clo 142 88 58 g rep w' u x := by
  obtain ⟨t0, i1, i2, i3, q4, n4, c4, rfl⟩ := hsh v x h
  have H := Lib.hid h
  have HSH := Lib.hid hsh
  clear h hsh
  go_enter Tryz.func76, Tryz.ntmps76
  go_wp2_with fail
  have EB := Lib.hid (ent_new (w.alloc (.cells #[.string t0, .int .i64 i1, .int .i64 i2, .int .i64 i3, .slice q4 n4 c4] 58)) #[.string t0, .int .i64 i1, .int .i64 i2, .int .i64 i3, .slice q4 n4 c4] 58)
  have HB := Lib.hid (((Below.refl w.heap.size w).alloc (Nat.le_refl _) (.cells #[.string t0, .int .i64 i1, .int .i64 i2, .int .i64 i3, .slice q4 n4 c4] 58)).alloc (by simp) (.cells #[.string t0, .int .i64 i1, .int .i64 i2, .int .i64 i3, .slice q4 n4 c4] 58))
  rw [World.size_alloc] at EB
  generalize (w.alloc (.cells #[.string t0, .int .i64 i1, .int .i64 i2, .int .i64 i3, .slice q4 n4 c4] 58)).alloc (.cells #[.string t0, .int .i64 i1, .int .i64 i2, .int .i64 i3, .slice q4 n4 c4] 58) = w1 at EB HB ⊢
  refine (allTree_any rep HSH.out _ [x] g w1 (.inr ⟨w.heap.size + 1, 0, 1, rfl, Nat.le_refl _, by omega, fun i y hi => ?_⟩) (by simp)).mono ?_
  · have hi0 : i = 0 := by
      have := (List.getElem?_eq_some_iff.1 hi).1
      simp at this; exact this
    subst hi0
    simp at hi
    subst hi
    exact ⟨_, H.out, rfl, fun j z hz => by simpa using ent_cell EB.out j z hz⟩
  rintro e w2 ⟨rv, vs, rfl, hb, hown, hr⟩
  match vs, hr with
  | [u], hr =>
    go_wp2_with fail
    go_ret
    exact ⟨rv, u, rfl, HB.out.trans (hb.mono HB.out.size), own_low hown HB.out.size, hr.1⟩
end Sw
end Go.Proofs.YtnhndamfbeiljaaGreatDoor
