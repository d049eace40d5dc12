/-
  Several texts in one: WAllCon, WAllAlt, WAllBind, WAllData, WAllDef.
-/
import Derived.Test.YtnhndamfbeiljaaGreatDoorGSwC
namespace Go.Proofs.YtnhndamfbeiljaaGreatDoor
open Go Go.RowKit
set_option linter.unusedVariables false
set_option linter.unusedSimpArgs false
namespace Sw
/-- The form of a part's value. -/
def IsCon (u : Value) : Prop := ∃ (i0 : Int) (t1 : ByteArray) (q2 : Option Addr) (n2 c2 : Nat), u = .agg #[.int .i64 i0, .string t1, .slice q2 n2 c2]
set_option maxHeartbeats 4000000 in
set_option maxRecDepth 100000 in
theorem allCon_any {α : Type} (rep : Value → α → Prop) (hsh : ∀ u x, rep u x → IsCon u) (av : Value) (xs : List α) (g : Nat) (w : World) (h : RowAt 3 rep w av xs) (hn : xs.length ≤ 1000000) :
    Calls Tryz.prog 58 #[av, .func (.func g) #[] #[]] w fun e w' => ∃ rv vs, e = .returned rv ∧ Below w.heap.size w w' ∧ w'.ownsRow w.heap.size 125 1 rv xs.length vs ∧ Reps (Clo 101 130 40 g rep w') vs xs := by
  obtain ⟨q, c, rfl⟩ := h.len
  have H := Lib.hid h
  have HSH := Lib.hid hsh
  have HN := Lib.hid hn
  clear h hsh hn
  go_enter Tryz.func58, Tryz.ntmps58
  have mk := makeNodes xs.length (by have := HN.out; omega)
  go_wp2_with fail
  clear mk
  have EW := Lib.hid (ent_alloc (ent_new w #[.func (.func g) #[] #[]] 130) (.cells (madeCells #[(.nilFunc : Value)] xs.length) 125))
  have EG := Lib.hid (ent_new (w.alloc (.cells #[.func (.func g) #[] #[]] 130)) (madeCells #[(.nilFunc : Value)] xs.length) 125)
  rw [World.size_alloc] at EG
  have HB := Lib.hid ((((Below.refl w.heap.size w).alloc (Nat.le_refl _) (.cells #[.func (.func g) #[] #[]] 130)).alloc (by simp) (.cells (madeCells #[(.nilFunc : Value)] xs.length) 125)))
  have HS0 := Lib.hid (size_madeCells #[(.nilFunc : Value)] xs.length)
  go_loopw [13] (fun i wr => ∃ (k : Nat) (cs : Array Value), i = .int .i64 k ∧ k ≤ xs.length ∧ Hid (cs.size = xs.length) ∧ Hid (wr.heap[w.heap.size]? = some (.cells #[.func (.func g) #[] #[]] 130 (0, 0))) ∧ Hid (wr.heap[w.heap.size + 1]? = some (.cells cs 125 (0, 0))) ∧
    Hid (∀ j, j < k → ∃ pb u, cs[j]? = some (.func (.func 101) #[] #[.pointer (some ⟨w.heap.size, 0, none⟩), .pointer (some ⟨pb, 0, none⟩)]) ∧ w.heap.size + 2 ≤ pb ∧ wr.heap[pb]? = some (.cells u.cells 40 (0, 0)) ∧ ∀ x, xs[j]? = some x → rep u x) ∧
    Hid (Below w.heap.size w wr)) (fun i _ => xs.length - (intOf i).toNat)
  case atStart => exact ⟨0, _, rfl, Nat.zero_le _, HS0, EW, EG, Lib.hid (fun j hj => absurd hj (Nat.not_lt_zero j)), HB⟩
  case round =>
    clear EW EG HB HS0
    obtain ⟨k, cs, rfl, hk, HS, EW, EG, HC, HB⟩ := hrel
    have hs1 := ent_lt EG.out
    by_cases hlt : k < xs.length
    · obtain ⟨x, hx⟩ : ∃ x, xs[k]? = some x := ⟨_, List.getElem?_eq_getElem hlt⟩
      rcases H.out with ⟨h0, _⟩ | ⟨b, of, c', hv, g1, g2, g3⟩
      · rw [h0] at hlt; simp at hlt
      injection hv with hq1 _ hq2
      subst hq1; subst hq2
      obtain ⟨u, hu, _, hcell⟩ := g3 k x hx
      obtain ⟨i0, t1, q2, n2, c2, rfl⟩ := HSH.out u x hu
      have HU := Lib.hid hu
      have HX := Lib.hid hx
      have up : ∀ j' z, (.agg #[.int .i64 i0, .string t1, .slice q2 n2 c2] : Value).cells[j']? = some z → wr.cell? ⟨b, of + k * 3 + j', none⟩ = some z := fun j' z hz => (HB.out.cell (World.block_lt_of_cell? w _ (hcell j' z hz))).trans (hcell j' z hz)
      have x0 : wr.cell? ⟨b, of + k * 3, none⟩ = some (.int .i64 i0) := up 0 (.int .i64 i0) rfl
      have x1 : wr.cell? ⟨b, of + k * 3 + 1, none⟩ = some (.string t1) := up 1 (.string t1) rfl
      have x2 : wr.cell? ⟨b, of + k * 3 + 2, none⟩ = some (.slice q2 n2 c2) := up 2 (.slice q2 n2 c2) rfl
      have hk1 : (k : Int) < (xs.length : Int) := by omega
      have hk2 : (xs.length : Int) ≤ (c : Int) := by omega
      have hk3 := g2
      clear g1 g2 g3 hcell hu up hx
      go_upto_region 5 with fail
      have HE := Lib.hid (ent_new wr #[.int .i64 i0, .string t1, .slice q2 n2 c2] 40)
      have hsz : (wr.alloc (.cells #[.int .i64 i0, .string t1, .slice q2 n2 c2] 40)).heap.size = wr.heap.size + 1 := by simp
      have HBA := Lib.hid (show Below wr.heap.size wr (wr.alloc (.cells #[.int .i64 i0, .string t1, .slice q2 n2 c2] 40)) from (Below.refl _ _).alloc (Nat.le_refl _) _)
      clear x0 x1 x2
      generalize wr.alloc (.cells #[.int .i64 i0, .string t1, .slice q2 n2 c2] 40) = w3 at HE HBA hsz ⊢
      have EG3 := Lib.hid (ent_below EG.out HBA.out)
      have EW3 := Lib.hid (ent_below EW.out HBA.out)
      have hkc : k < cs.size := by have := HS.out; omega
      obtain ⟨z, hz⟩ : ∃ z, cs[k]? = some z := ⟨_, Array.getElem?_eq_getElem hkc⟩
      have y0 := ent_cell EG3.out k z hz
      have yf := ent_free EG3.out k
      have HZ := Lib.hid hkc
      clear hkc hz
      go_wp2_with fail
      go_roundw
      case rel =>
        refine ⟨k + 1, _, by go_num, by omega, Lib.hid ((Array.size_setIfInBounds).trans HS.out), Lib.hid (ent_other EW3.out _ _ _ (by omega)), Lib.hid (ent_set EG3.out k _), Lib.hid (fun j hj => ?_), Lib.hid ((HB.out.trans (HBA.out.mono HB.out.size)).setCell (p := ⟨w.heap.size + 1, k, none⟩) (by simp) _)⟩
        by_cases hjk : j = k
        · subst hjk
          exact ⟨wr.heap.size, .agg #[.int .i64 i0, .string t1, .slice q2 n2 c2], set_get _ _ _ HZ.out, by omega, ent_other HE.out _ _ _ (by omega), fun y hy => by rw [HX.out] at hy; cases hy; exact HU.out⟩
        · obtain ⟨pb, u, a1, a2, a3, a4⟩ := HC.out j (by omega)
          exact ⟨pb, u, (set_other _ _ _ _ (fun e => hjk e.symm)).trans a1, a2, ent_other (ent_below a3 HBA.out) _ _ _ (by omega), a4⟩
      case measure => simp [intOf]; omega
    · obtain rfl : k = xs.length := by omega
      go_wp2_with fail
      go_ret
      have hcl : cs.toList.length = xs.length := HS.out
      refine ⟨_, cs.toList, rfl, HB.out, ⟨by rw [hcl]; simp, .inr ⟨w.heap.size + 1, xs.length, cs, rfl, by omega, EG.out, Nat.le_refl _, by have := HN.out; unfold maxLen; omega, by rw [HS.out]; simp, by rw [List.take_of_length_le (by rw [hcl]; omega)]⟩⟩, reps_of hcl fun j v x hv hx => ?_⟩
      have hj : j < xs.length := (List.getElem?_eq_some_iff.1 hx).1
      obtain ⟨pb, u, a1, a2, a3, a4⟩ := HC.out j hj
      rw [Array.getElem?_toList, a1] at hv
      cases hv
      exact ⟨_, pb, u, rfl, EW.out, a3, a4 x hx⟩
end Sw
end Go.Proofs.YtnhndamfbeiljaaGreatDoor

namespace Go.Proofs.YtnhndamfbeiljaaGreatDoor
open Go Go.RowKit
set_option linter.unusedVariables false
set_option linter.unusedSimpArgs false
namespace Sw
/-- The form of a part's value. -/
def IsAlt (u : Value) : Prop := ∃ (i0 : Int) (i1 : Int) (t2 : ByteArray) (i3 : Int) (q4 : Option Addr) (n4 c4 : Nat) (i5 : Int) (i6 : Int) (t7 : ByteArray) (i8 : Int) (q9 : Option Addr) (n9 c9 : Nat) (q10 : Option Addr) (n10 c10 : Nat) (q11 : Option Addr) (n11 c11 : Nat), u = .agg #[.int .i64 i0, .int .i64 i1, .string t2, .int .i64 i3, .slice q4 n4 c4, .int .i64 i5, .int .i64 i6, .string t7, .int .i64 i8, .slice q9 n9 c9, .slice q10 n10 c10, .slice q11 n11 c11]
set_option maxHeartbeats 4000000 in
set_option maxRecDepth 100000 in
theorem allAlt_any {α : Type} (rep : Value → α → Prop) (hsh : ∀ u x, rep u x → IsAlt u) (av : Value) (xs : List α) (g : Nat) (w : World) (h : RowAt 12 rep w av xs) (hn : xs.length ≤ 1000000) :
    Calls Tryz.prog 69 #[av, .func (.func g) #[] #[]] w fun e w' => ∃ rv vs, e = .returned rv ∧ Below w.heap.size w w' ∧ w'.ownsRow w.heap.size 125 1 rv xs.length vs ∧ Reps (Clo 107 145 86 g rep w') vs xs := by
  obtain ⟨q, c, rfl⟩ := h.len
  have H := Lib.hid h
  have HSH := Lib.hid hsh
  have HN := Lib.hid hn
  clear h hsh hn
  go_enter Tryz.func69, Tryz.ntmps69
  have mk := makeNodes xs.length (by have := HN.out; omega)
  go_wp2_with fail
  clear mk
  have EW := Lib.hid (ent_alloc (ent_new w #[.func (.func g) #[] #[]] 145) (.cells (madeCells #[(.nilFunc : Value)] xs.length) 125))
  have EG := Lib.hid (ent_new (w.alloc (.cells #[.func (.func g) #[] #[]] 145)) (madeCells #[(.nilFunc : Value)] xs.length) 125)
  rw [World.size_alloc] at EG
  have HB := Lib.hid ((((Below.refl w.heap.size w).alloc (Nat.le_refl _) (.cells #[.func (.func g) #[] #[]] 145)).alloc (by simp) (.cells (madeCells #[(.nilFunc : Value)] xs.length) 125)))
  have HS0 := Lib.hid (size_madeCells #[(.nilFunc : Value)] xs.length)
  go_loopw [13] (fun i wr => ∃ (k : Nat) (cs : Array Value), i = .int .i64 k ∧ k ≤ xs.length ∧ Hid (cs.size = xs.length) ∧ Hid (wr.heap[w.heap.size]? = some (.cells #[.func (.func g) #[] #[]] 145 (0, 0))) ∧ Hid (wr.heap[w.heap.size + 1]? = some (.cells cs 125 (0, 0))) ∧
    Hid (∀ j, j < k → ∃ pb u, cs[j]? = some (.func (.func 107) #[] #[.pointer (some ⟨w.heap.size, 0, none⟩), .pointer (some ⟨pb, 0, none⟩)]) ∧ w.heap.size + 2 ≤ pb ∧ wr.heap[pb]? = some (.cells u.cells 86 (0, 0)) ∧ ∀ x, xs[j]? = some x → rep u x) ∧
    Hid (Below w.heap.size w wr)) (fun i _ => xs.length - (intOf i).toNat)
  case atStart => exact ⟨0, _, rfl, Nat.zero_le _, HS0, EW, EG, Lib.hid (fun j hj => absurd hj (Nat.not_lt_zero j)), HB⟩
  case round =>
    clear EW EG HB HS0
    obtain ⟨k, cs, rfl, hk, HS, EW, EG, HC, HB⟩ := hrel
    have hs1 := ent_lt EG.out
    by_cases hlt : k < xs.length
    · obtain ⟨x, hx⟩ : ∃ x, xs[k]? = some x := ⟨_, List.getElem?_eq_getElem hlt⟩
      rcases H.out with ⟨h0, _⟩ | ⟨b, of, c', hv, g1, g2, g3⟩
      · rw [h0] at hlt; simp at hlt
      injection hv with hq1 _ hq2
      subst hq1; subst hq2
      obtain ⟨u, hu, _, hcell⟩ := g3 k x hx
      obtain ⟨i0, i1, t2, i3, q4, n4, c4, i5, i6, t7, i8, q9, n9, c9, q10, n10, c10, q11, n11, c11, rfl⟩ := HSH.out u x hu
      have HU := Lib.hid hu
      have HX := Lib.hid hx
      have up : ∀ j' z, (.agg #[.int .i64 i0, .int .i64 i1, .string t2, .int .i64 i3, .slice q4 n4 c4, .int .i64 i5, .int .i64 i6, .string t7, .int .i64 i8, .slice q9 n9 c9, .slice q10 n10 c10, .slice q11 n11 c11] : Value).cells[j']? = some z → wr.cell? ⟨b, of + k * 12 + j', none⟩ = some z := fun j' z hz => (HB.out.cell (World.block_lt_of_cell? w _ (hcell j' z hz))).trans (hcell j' z hz)
      have x0 : wr.cell? ⟨b, of + k * 12, none⟩ = some (.int .i64 i0) := up 0 (.int .i64 i0) rfl
      have x1 : wr.cell? ⟨b, of + k * 12 + 1, none⟩ = some (.int .i64 i1) := up 1 (.int .i64 i1) rfl
      have x2 : wr.cell? ⟨b, of + k * 12 + 2, none⟩ = some (.string t2) := up 2 (.string t2) rfl
      have x3 : wr.cell? ⟨b, of + k * 12 + 3, none⟩ = some (.int .i64 i3) := up 3 (.int .i64 i3) rfl
      have x4 : wr.cell? ⟨b, of + k * 12 + 4, none⟩ = some (.slice q4 n4 c4) := up 4 (.slice q4 n4 c4) rfl
      have x5 : wr.cell? ⟨b, of + k * 12 + 5, none⟩ = some (.int .i64 i5) := up 5 (.int .i64 i5) rfl
      have x6 : wr.cell? ⟨b, of + k * 12 + 6, none⟩ = some (.int .i64 i6) := up 6 (.int .i64 i6) rfl
      have x7 : wr.cell? ⟨b, of + k * 12 + 7, none⟩ = some (.string t7) := up 7 (.string t7) rfl
      have x8 : wr.cell? ⟨b, of + k * 12 + 8, none⟩ = some (.int .i64 i8) := up 8 (.int .i64 i8) rfl
      have x9 : wr.cell? ⟨b, of + k * 12 + 9, none⟩ = some (.slice q9 n9 c9) := up 9 (.slice q9 n9 c9) rfl
      have x10 : wr.cell? ⟨b, of + k * 12 + 10, none⟩ = some (.slice q10 n10 c10) := up 10 (.slice q10 n10 c10) rfl
      have x11 : wr.cell? ⟨b, of + k * 12 + 11, none⟩ = some (.slice q11 n11 c11) := up 11 (.slice q11 n11 c11) rfl
      have hk1 : (k : Int) < (xs.length : Int) := by omega
      have hk2 : (xs.length : Int) ≤ (c : Int) := by omega
      have hk3 := g2
      clear g1 g2 g3 hcell hu up hx
      go_upto_region 5 with fail
      have HE := Lib.hid (ent_new wr #[.int .i64 i0, .int .i64 i1, .string t2, .int .i64 i3, .slice q4 n4 c4, .int .i64 i5, .int .i64 i6, .string t7, .int .i64 i8, .slice q9 n9 c9, .slice q10 n10 c10, .slice q11 n11 c11] 86)
      have hsz : (wr.alloc (.cells #[.int .i64 i0, .int .i64 i1, .string t2, .int .i64 i3, .slice q4 n4 c4, .int .i64 i5, .int .i64 i6, .string t7, .int .i64 i8, .slice q9 n9 c9, .slice q10 n10 c10, .slice q11 n11 c11] 86)).heap.size = wr.heap.size + 1 := by simp
      have HBA := Lib.hid (show Below wr.heap.size wr (wr.alloc (.cells #[.int .i64 i0, .int .i64 i1, .string t2, .int .i64 i3, .slice q4 n4 c4, .int .i64 i5, .int .i64 i6, .string t7, .int .i64 i8, .slice q9 n9 c9, .slice q10 n10 c10, .slice q11 n11 c11] 86)) from (Below.refl _ _).alloc (Nat.le_refl _) _)
      clear x0 x1 x2 x3 x4 x5 x6 x7 x8 x9 x10 x11
      generalize wr.alloc (.cells #[.int .i64 i0, .int .i64 i1, .string t2, .int .i64 i3, .slice q4 n4 c4, .int .i64 i5, .int .i64 i6, .string t7, .int .i64 i8, .slice q9 n9 c9, .slice q10 n10 c10, .slice q11 n11 c11] 86) = w3 at HE HBA hsz ⊢
      have EG3 := Lib.hid (ent_below EG.out HBA.out)
      have EW3 := Lib.hid (ent_below EW.out HBA.out)
      have hkc : k < cs.size := by have := HS.out; omega
      obtain ⟨z, hz⟩ : ∃ z, cs[k]? = some z := ⟨_, Array.getElem?_eq_getElem hkc⟩
      have y0 := ent_cell EG3.out k z hz
      have yf := ent_free EG3.out k
      have HZ := Lib.hid hkc
      clear hkc hz
      go_wp2_with fail
      go_roundw
      case rel =>
        refine ⟨k + 1, _, by go_num, by omega, Lib.hid ((Array.size_setIfInBounds).trans HS.out), Lib.hid (ent_other EW3.out _ _ _ (by omega)), Lib.hid (ent_set EG3.out k _), Lib.hid (fun j hj => ?_), Lib.hid ((HB.out.trans (HBA.out.mono HB.out.size)).setCell (p := ⟨w.heap.size + 1, k, none⟩) (by simp) _)⟩
        by_cases hjk : j = k
        · subst hjk
          exact ⟨wr.heap.size, .agg #[.int .i64 i0, .int .i64 i1, .string t2, .int .i64 i3, .slice q4 n4 c4, .int .i64 i5, .int .i64 i6, .string t7, .int .i64 i8, .slice q9 n9 c9, .slice q10 n10 c10, .slice q11 n11 c11], set_get _ _ _ HZ.out, by omega, ent_other HE.out _ _ _ (by omega), fun y hy => by rw [HX.out] at hy; cases hy; exact HU.out⟩
        · obtain ⟨pb, u, a1, a2, a3, a4⟩ := HC.out j (by omega)
          exact ⟨pb, u, (set_other _ _ _ _ (fun e => hjk e.symm)).trans a1, a2, ent_other (ent_below a3 HBA.out) _ _ _ (by omega), a4⟩
      case measure => simp [intOf]; omega
    · obtain rfl : k = xs.length := by omega
      go_wp2_with fail
      go_ret
      have hcl : cs.toList.length = xs.length := HS.out
      refine ⟨_, cs.toList, rfl, HB.out, ⟨by rw [hcl]; simp, .inr ⟨w.heap.size + 1, xs.length, cs, rfl, by omega, EG.out, Nat.le_refl _, by have := HN.out; unfold maxLen; omega, by rw [HS.out]; simp, by rw [List.take_of_length_le (by rw [hcl]; omega)]⟩⟩, reps_of hcl fun j v x hv hx => ?_⟩
      have hj : j < xs.length := (List.getElem?_eq_some_iff.1 hx).1
      obtain ⟨pb, u, a1, a2, a3, a4⟩ := HC.out j hj
      rw [Array.getElem?_toList, a1] at hv
      cases hv
      exact ⟨_, pb, u, rfl, EW.out, a3, a4 x hx⟩
end Sw
end Go.Proofs.YtnhndamfbeiljaaGreatDoor

namespace Go.Proofs.YtnhndamfbeiljaaGreatDoor
open Go Go.RowKit
set_option linter.unusedVariables false
set_option linter.unusedSimpArgs false
namespace Sw
/-- The form of a part's value. -/
def IsBind (u : Value) : Prop := ∃ (t0 : ByteArray) (i1 : Int) (i2 : Int) (t3 : ByteArray) (i4 : Int) (q5 : Option Addr) (n5 c5 : Nat) (q6 : Option Addr) (n6 c6 : Nat) (q7 : Option Addr) (n7 c7 : Nat), u = .agg #[.string t0, .int .i64 i1, .int .i64 i2, .string t3, .int .i64 i4, .slice q5 n5 c5, .slice q6 n6 c6, .slice q7 n7 c7]
set_option maxHeartbeats 4000000 in
set_option maxRecDepth 100000 in
theorem allBind_any {α : Type} (rep : Value → α → Prop) (hsh : ∀ u x, rep u x → IsBind u) (av : Value) (xs : List α) (g : Nat) (w : World) (h : RowAt 8 rep w av xs) (hn : xs.length ≤ 1000000) :
    Calls Tryz.prog 106 #[av, .func (.func g) #[] #[]] w fun e w' => ∃ rv vs, e = .returned rv ∧ Below w.heap.size w w' ∧ w'.ownsRow w.heap.size 125 1 rv xs.length vs ∧ Reps (Clo 136 143 142 g rep w') vs xs := by
  obtain ⟨q, c, rfl⟩ := h.len
  have H := Lib.hid h
  have HSH := Lib.hid hsh
  have HN := Lib.hid hn
  clear h hsh hn
  go_enter Tryz.func106, Tryz.ntmps106
  have mk := makeNodes xs.length (by have := HN.out; omega)
  go_wp2_with fail
  clear mk
  have EW := Lib.hid (ent_alloc (ent_new w #[.func (.func g) #[] #[]] 143) (.cells (madeCells #[(.nilFunc : Value)] xs.length) 125))
  have EG := Lib.hid (ent_new (w.alloc (.cells #[.func (.func g) #[] #[]] 143)) (madeCells #[(.nilFunc : Value)] xs.length) 125)
  rw [World.size_alloc] at EG
  have HB := Lib.hid ((((Below.refl w.heap.size w).alloc (Nat.le_refl _) (.cells #[.func (.func g) #[] #[]] 143)).alloc (by simp) (.cells (madeCells #[(.nilFunc : Value)] xs.length) 125)))
  have HS0 := Lib.hid (size_madeCells #[(.nilFunc : Value)] xs.length)
  go_loopw [13] (fun i wr => ∃ (k : Nat) (cs : Array Value), i = .int .i64 k ∧ k ≤ xs.length ∧ Hid (cs.size = xs.length) ∧ Hid (wr.heap[w.heap.size]? = some (.cells #[.func (.func g) #[] #[]] 143 (0, 0))) ∧ Hid (wr.heap[w.heap.size + 1]? = some (.cells cs 125 (0, 0))) ∧
    Hid (∀ j, j < k → ∃ pb u, cs[j]? = some (.func (.func 136) #[] #[.pointer (some ⟨w.heap.size, 0, none⟩), .pointer (some ⟨pb, 0, none⟩)]) ∧ w.heap.size + 2 ≤ pb ∧ wr.heap[pb]? = some (.cells u.cells 142 (0, 0)) ∧ ∀ x, xs[j]? = some x → rep u x) ∧
    Hid (Below w.heap.size w wr)) (fun i _ => xs.length - (intOf i).toNat)
  case atStart => exact ⟨0, _, rfl, Nat.zero_le _, HS0, EW, EG, Lib.hid (fun j hj => absurd hj (Nat.not_lt_zero j)), HB⟩
  case round =>
    clear EW EG HB HS0
    obtain ⟨k, cs, rfl, hk, HS, EW, EG, HC, HB⟩ := hrel
    have hs1 := ent_lt EG.out
    by_cases hlt : k < xs.length
    · obtain ⟨x, hx⟩ : ∃ x, xs[k]? = some x := ⟨_, List.getElem?_eq_getElem hlt⟩
      rcases H.out with ⟨h0, _⟩ | ⟨b, of, c', hv, g1, g2, g3⟩
      · rw [h0] at hlt; simp at hlt
      injection hv with hq1 _ hq2
      subst hq1; subst hq2
      obtain ⟨u, hu, _, hcell⟩ := g3 k x hx
      obtain ⟨t0, i1, i2, t3, i4, q5, n5, c5, q6, n6, c6, q7, n7, c7, rfl⟩ := HSH.out u x hu
      have HU := Lib.hid hu
      have HX := Lib.hid hx
      have up : ∀ j' z, (.agg #[.string t0, .int .i64 i1, .int .i64 i2, .string t3, .int .i64 i4, .slice q5 n5 c5, .slice q6 n6 c6, .slice q7 n7 c7] : Value).cells[j']? = some z → wr.cell? ⟨b, of + k * 8 + j', none⟩ = some z := fun j' z hz => (HB.out.cell (World.block_lt_of_cell? w _ (hcell j' z hz))).trans (hcell j' z hz)
      have x0 : wr.cell? ⟨b, of + k * 8, none⟩ = some (.string t0) := up 0 (.string t0) rfl
      have x1 : wr.cell? ⟨b, of + k * 8 + 1, none⟩ = some (.int .i64 i1) := up 1 (.int .i64 i1) rfl
      have x2 : wr.cell? ⟨b, of + k * 8 + 2, none⟩ = some (.int .i64 i2) := up 2 (.int .i64 i2) rfl
      have x3 : wr.cell? ⟨b, of + k * 8 + 3, none⟩ = some (.string t3) := up 3 (.string t3) rfl
      have x4 : wr.cell? ⟨b, of + k * 8 + 4, none⟩ = some (.int .i64 i4) := up 4 (.int .i64 i4) rfl
      have x5 : wr.cell? ⟨b, of + k * 8 + 5, none⟩ = some (.slice q5 n5 c5) := up 5 (.slice q5 n5 c5) rfl
      have x6 : wr.cell? ⟨b, of + k * 8 + 6, none⟩ = some (.slice q6 n6 c6) := up 6 (.slice q6 n6 c6) rfl
      have x7 : wr.cell? ⟨b, of + k * 8 + 7, none⟩ = some (.slice q7 n7 c7) := up 7 (.slice q7 n7 c7) rfl
      have hk1 : (k : Int) < (xs.length : Int) := by omega
      have hk2 : (xs.length : Int) ≤ (c : Int) := by omega
      have hk3 := g2
      clear g1 g2 g3 hcell hu up hx
      go_upto_region 5 with fail
      have HE := Lib.hid (ent_new wr #[.string t0, .int .i64 i1, .int .i64 i2, .string t3, .int .i64 i4, .slice q5 n5 c5, .slice q6 n6 c6, .slice q7 n7 c7] 142)
      have hsz : (wr.alloc (.cells #[.string t0, .int .i64 i1, .int .i64 i2, .string t3, .int .i64 i4, .slice q5 n5 c5, .slice q6 n6 c6, .slice q7 n7 c7] 142)).heap.size = wr.heap.size + 1 := by simp
      have HBA := Lib.hid (show Below wr.heap.size wr (wr.alloc (.cells #[.string t0, .int .i64 i1, .int .i64 i2, .string t3, .int .i64 i4, .slice q5 n5 c5, .slice q6 n6 c6, .slice q7 n7 c7] 142)) from (Below.refl _ _).alloc (Nat.le_refl _) _)
      clear x0 x1 x2 x3 x4 x5 x6 x7
      generalize wr.alloc (.cells #[.string t0, .int .i64 i1, .int .i64 i2, .string t3, .int .i64 i4, .slice q5 n5 c5, .slice q6 n6 c6, .slice q7 n7 c7] 142) = w3 at HE HBA hsz ⊢
      have EG3 := Lib.hid (ent_below EG.out HBA.out)
      have EW3 := Lib.hid (ent_below EW.out HBA.out)
      have hkc : k < cs.size := by have := HS.out; omega
      obtain ⟨z, hz⟩ : ∃ z, cs[k]? = some z := ⟨_, Array.getElem?_eq_getElem hkc⟩
      have y0 := ent_cell EG3.out k z hz
      have yf := ent_free EG3.out k
      have HZ := Lib.hid hkc
      clear hkc hz
      go_wp2_with fail
      go_roundw
      case rel =>
        refine ⟨k + 1, _, by go_num, by omega, Lib.hid ((Array.size_setIfInBounds).trans HS.out), Lib.hid (ent_other EW3.out _ _ _ (by omega)), Lib.hid (ent_set EG3.out k _), Lib.hid (fun j hj => ?_), Lib.hid ((HB.out.trans (HBA.out.mono HB.out.size)).setCell (p := ⟨w.heap.size + 1, k, none⟩) (by simp) _)⟩
        by_cases hjk : j = k
        · subst hjk
          exact ⟨wr.heap.size, .agg #[.string t0, .int .i64 i1, .int .i64 i2, .string t3, .int .i64 i4, .slice q5 n5 c5, .slice q6 n6 c6, .slice q7 n7 c7], set_get _ _ _ HZ.out, by omega, ent_other HE.out _ _ _ (by omega), fun y hy => by rw [HX.out] at hy; cases hy; exact HU.out⟩
        · obtain ⟨pb, u, a1, a2, a3, a4⟩ := HC.out j (by omega)
          exact ⟨pb, u, (set_other _ _ _ _ (fun e => hjk e.symm)).trans a1, a2, ent_other (ent_below a3 HBA.out) _ _ _ (by omega), a4⟩
      case measure => simp [intOf]; omega
    · obtain rfl : k = xs.length := by omega
      go_wp2_with fail
      go_ret
      have hcl : cs.toList.length = xs.length := HS.out
      refine ⟨_, cs.toList, rfl, HB.out, ⟨by rw [hcl]; simp, .inr ⟨w.heap.size + 1, xs.length, cs, rfl, by omega, EG.out, Nat.le_refl _, by have := HN.out; unfold maxLen; omega, by rw [HS.out]; simp, by rw [List.take_of_length_le (by rw [hcl]; omega)]⟩⟩, reps_of hcl fun j v x hv hx => ?_⟩
      have hj : j < xs.length := (List.getElem?_eq_some_iff.1 hx).1
      obtain ⟨pb, u, a1, a2, a3, a4⟩ := HC.out j hj
      rw [Array.getElem?_toList, a1] at hv
      cases hv
      exact ⟨_, pb, u, rfl, EW.out, a3, a4 x hx⟩
end Sw
end Go.Proofs.YtnhndamfbeiljaaGreatDoor

namespace Go.Proofs.YtnhndamfbeiljaaGreatDoor
open Go Go.RowKit
set_option linter.unusedVariables false
set_option linter.unusedSimpArgs false
namespace Sw
/-- The form of a part's value. -/
def IsData (u : Value) : Prop := ∃ (i0 : Int) (t1 : ByteArray) (q2 : Option Addr) (n2 c2 : Nat) (q3 : Option Addr) (n3 c3 : Nat), u = .agg #[.int .i64 i0, .string t1, .slice q2 n2 c2, .slice q3 n3 c3]
set_option maxHeartbeats 4000000 in
set_option maxRecDepth 100000 in
theorem allData_any {α : Type} (rep : Value → α → Prop) (hsh : ∀ u x, rep u x → IsData u) (av : Value) (xs : List α) (g : Nat) (w : World) (h : RowAt 4 rep w av xs) (hn : xs.length ≤ 1000000) :
    Calls Tryz.prog 94 #[av, .func (.func g) #[] #[]] w fun e w' => ∃ rv vs, e = .returned rv ∧ Below w.heap.size w w' ∧ w'.ownsRow w.heap.size 125 1 rv xs.length vs ∧ Reps (Clo 129 73 36 g rep w') vs xs := by
  obtain ⟨q, c, rfl⟩ := h.len
  have H := Lib.hid h
  have HSH := Lib.hid hsh
  have HN := Lib.hid hn
  clear h hsh hn
  go_enter Tryz.func94, Tryz.ntmps94
  have mk := makeNodes xs.length (by have := HN.out; omega)
  go_wp2_with fail
  clear mk
  have EW := Lib.hid (ent_alloc (ent_new w #[.func (.func g) #[] #[]] 73) (.cells (madeCells #[(.nilFunc : Value)] xs.length) 125))
  have EG := Lib.hid (ent_new (w.alloc (.cells #[.func (.func g) #[] #[]] 73)) (madeCells #[(.nilFunc : Value)] xs.length) 125)
  rw [World.size_alloc] at EG
  have HB := Lib.hid ((((Below.refl w.heap.size w).alloc (Nat.le_refl _) (.cells #[.func (.func g) #[] #[]] 73)).alloc (by simp) (.cells (madeCells #[(.nilFunc : Value)] xs.length) 125)))
  have HS0 := Lib.hid (size_madeCells #[(.nilFunc : Value)] xs.length)
  go_loopw [13] (fun i wr => ∃ (k : Nat) (cs : Array Value), i = .int .i64 k ∧ k ≤ xs.length ∧ Hid (cs.size = xs.length) ∧ Hid (wr.heap[w.heap.size]? = some (.cells #[.func (.func g) #[] #[]] 73 (0, 0))) ∧ Hid (wr.heap[w.heap.size + 1]? = some (.cells cs 125 (0, 0))) ∧
    Hid (∀ j, j < k → ∃ pb u, cs[j]? = some (.func (.func 129) #[] #[.pointer (some ⟨w.heap.size, 0, none⟩), .pointer (some ⟨pb, 0, none⟩)]) ∧ w.heap.size + 2 ≤ pb ∧ wr.heap[pb]? = some (.cells u.cells 36 (0, 0)) ∧ ∀ x, xs[j]? = some x → rep u x) ∧
    Hid (Below w.heap.size w wr)) (fun i _ => xs.length - (intOf i).toNat)
  case atStart => exact ⟨0, _, rfl, Nat.zero_le _, HS0, EW, EG, Lib.hid (fun j hj => absurd hj (Nat.not_lt_zero j)), HB⟩
  case round =>
    clear EW EG HB HS0
    obtain ⟨k, cs, rfl, hk, HS, EW, EG, HC, HB⟩ := hrel
    have hs1 := ent_lt EG.out
    by_cases hlt : k < xs.length
    · obtain ⟨x, hx⟩ : ∃ x, xs[k]? = some x := ⟨_, List.getElem?_eq_getElem hlt⟩
      rcases H.out with ⟨h0, _⟩ | ⟨b, of, c', hv, g1, g2, g3⟩
      · rw [h0] at hlt; simp at hlt
      injection hv with hq1 _ hq2
      subst hq1; subst hq2
      obtain ⟨u, hu, _, hcell⟩ := g3 k x hx
      obtain ⟨i0, t1, q2, n2, c2, q3, n3, c3, rfl⟩ := HSH.out u x hu
      have HU := Lib.hid hu
      have HX := Lib.hid hx
      have up : ∀ j' z, (.agg #[.int .i64 i0, .string t1, .slice q2 n2 c2, .slice q3 n3 c3] : Value).cells[j']? = some z → wr.cell? ⟨b, of + k * 4 + j', none⟩ = some z := fun j' z hz => (HB.out.cell (World.block_lt_of_cell? w _ (hcell j' z hz))).trans (hcell j' z hz)
      have x0 : wr.cell? ⟨b, of + k * 4, none⟩ = some (.int .i64 i0) := up 0 (.int .i64 i0) rfl
      have x1 : wr.cell? ⟨b, of + k * 4 + 1, none⟩ = some (.string t1) := up 1 (.string t1) rfl
      have x2 : wr.cell? ⟨b, of + k * 4 + 2, none⟩ = some (.slice q2 n2 c2) := up 2 (.slice q2 n2 c2) rfl
      have x3 : wr.cell? ⟨b, of + k * 4 + 3, none⟩ = some (.slice q3 n3 c3) := up 3 (.slice q3 n3 c3) rfl
      have hk1 : (k : Int) < (xs.length : Int) := by omega
      have hk2 : (xs.length : Int) ≤ (c : Int) := by omega
      have hk3 := g2
      clear g1 g2 g3 hcell hu up hx
      go_upto_region 5 with fail
      have HE := Lib.hid (ent_new wr #[.int .i64 i0, .string t1, .slice q2 n2 c2, .slice q3 n3 c3] 36)
      have hsz : (wr.alloc (.cells #[.int .i64 i0, .string t1, .slice q2 n2 c2, .slice q3 n3 c3] 36)).heap.size = wr.heap.size + 1 := by simp
      have HBA := Lib.hid (show Below wr.heap.size wr (wr.alloc (.cells #[.int .i64 i0, .string t1, .slice q2 n2 c2, .slice q3 n3 c3] 36)) from (Below.refl _ _).alloc (Nat.le_refl _) _)
      clear x0 x1 x2 x3
      generalize wr.alloc (.cells #[.int .i64 i0, .string t1, .slice q2 n2 c2, .slice q3 n3 c3] 36) = w3 at HE HBA hsz ⊢
      have EG3 := Lib.hid (ent_below EG.out HBA.out)
      have EW3 := Lib.hid (ent_below EW.out HBA.out)
      have hkc : k < cs.size := by have := HS.out; omega
      obtain ⟨z, hz⟩ : ∃ z, cs[k]? = some z := ⟨_, Array.getElem?_eq_getElem hkc⟩
      have y0 := ent_cell EG3.out k z hz
      have yf := ent_free EG3.out k
      have HZ := Lib.hid hkc
      clear hkc hz
      go_wp2_with fail
      go_roundw
      case rel =>
        refine ⟨k + 1, _, by go_num, by omega, Lib.hid ((Array.size_setIfInBounds).trans HS.out), Lib.hid (ent_other EW3.out _ _ _ (by omega)), Lib.hid (ent_set EG3.out k _), Lib.hid (fun j hj => ?_), Lib.hid ((HB.out.trans (HBA.out.mono HB.out.size)).setCell (p := ⟨w.heap.size + 1, k, none⟩) (by simp) _)⟩
        by_cases hjk : j = k
        · subst hjk
          exact ⟨wr.heap.size, .agg #[.int .i64 i0, .string t1, .slice q2 n2 c2, .slice q3 n3 c3], set_get _ _ _ HZ.out, by omega, ent_other HE.out _ _ _ (by omega), fun y hy => by rw [HX.out] at hy; cases hy; exact HU.out⟩
        · obtain ⟨pb, u, a1, a2, a3, a4⟩ := HC.out j (by omega)
          exact ⟨pb, u, (set_other _ _ _ _ (fun e => hjk e.symm)).trans a1, a2, ent_other (ent_below a3 HBA.out) _ _ _ (by omega), a4⟩
      case measure => simp [intOf]; omega
    · obtain rfl : k = xs.length := by omega
      go_wp2_with fail
      go_ret
      have hcl : cs.toList.length = xs.length := HS.out
      refine ⟨_, cs.toList, rfl, HB.out, ⟨by rw [hcl]; simp, .inr ⟨w.heap.size + 1, xs.length, cs, rfl, by omega, EG.out, Nat.le_refl _, by have := HN.out; unfold maxLen; omega, by rw [HS.out]; simp, by rw [List.take_of_length_le (by rw [hcl]; omega)]⟩⟩, reps_of hcl fun j v x hv hx => ?_⟩
      have hj : j < xs.length := (List.getElem?_eq_some_iff.1 hx).1
      obtain ⟨pb, u, a1, a2, a3, a4⟩ := HC.out j hj
      rw [Array.getElem?_toList, a1] at hv
      cases hv
      exact ⟨_, pb, u, rfl, EW.out, a3, a4 x hx⟩
set_option maxHeartbeats 1000000 in
theorem oneData_any {α : Type} (rep : Value → α → Prop) (hsh : ∀ u x, rep u x → IsData u) (v : Value) (x : α) (g : Nat) (w : World) (h : rep v x) :
    Calls Tryz.prog 54 #[v, .func (.func g) #[] #[]] w fun e w' => ∃ rv u, e = .returned rv ∧ Below w.heap.size w w' ∧ w'.ownsRow w.heap.size 125 1 rv 1 [u] ∧ Clo 129 73 36 g rep w' u x := by
  obtain ⟨i0, t1, q2, n2, c2, q3, n3, c3, rfl⟩ := hsh v x h
  have H := Lib.hid h
  have HSH := Lib.hid hsh
  clear h hsh
  go_enter Tryz.func54, Tryz.ntmps54
  go_wp2_with fail
  have EB := Lib.hid (ent_new (w.alloc (.cells #[.int .i64 i0, .string t1, .slice q2 n2 c2, .slice q3 n3 c3] 36)) #[.int .i64 i0, .string t1, .slice q2 n2 c2, .slice q3 n3 c3] 36)
  have HB := Lib.hid (((Below.refl w.heap.size w).alloc (Nat.le_refl _) (.cells #[.int .i64 i0, .string t1, .slice q2 n2 c2, .slice q3 n3 c3] 36)).alloc (by simp) (.cells #[.int .i64 i0, .string t1, .slice q2 n2 c2, .slice q3 n3 c3] 36))
  rw [World.size_alloc] at EB
  generalize (w.alloc (.cells #[.int .i64 i0, .string t1, .slice q2 n2 c2, .slice q3 n3 c3] 36)).alloc (.cells #[.int .i64 i0, .string t1, .slice q2 n2 c2, .slice q3 n3 c3] 36) = w1 at EB HB ⊢
  refine (allData_any rep HSH.out _ [x] g w1 (.inr ⟨w.heap.size + 1, 0, 1, rfl, Nat.le_refl _, by omega, fun i y hi => ?_⟩) (by simp)).mono ?_
  · have hi0 : i = 0 := by
      have := (List.getElem?_eq_some_iff.1 hi).1
      simp at this; exact this
    subst hi0
    simp at hi
    subst hi
    exact ⟨_, H.out, rfl, fun j z hz => by simpa using ent_cell EB.out j z hz⟩
  rintro e w2 ⟨rv, vs, rfl, hb, hown, hr⟩
  match vs, hr with
  | [u], hr =>
    go_wp2_with fail
    go_ret
    exact ⟨rv, u, rfl, HB.out.trans (hb.mono HB.out.size), own_low hown HB.out.size, hr.1⟩
end Sw
end Go.Proofs.YtnhndamfbeiljaaGreatDoor

namespace Go.Proofs.YtnhndamfbeiljaaGreatDoor
open Go Go.RowKit
set_option linter.unusedVariables false
set_option linter.unusedSimpArgs false
namespace Sw
/-- The form of a part's value. -/
def IsDef (u : Value) : Prop := ∃ (i0 : Int) (t1 : ByteArray) (q2 : Option Addr) (n2 c2 : Nat) (i3 : Int) (i4 : Int) (t5 : ByteArray) (i6 : Int) (q7 : Option Addr) (n7 c7 : Nat) (q8 : Option Addr) (n8 c8 : Nat) (q9 : Option Addr) (n9 c9 : Nat), u = .agg #[.int .i64 i0, .string t1, .slice q2 n2 c2, .int .i64 i3, .int .i64 i4, .string t5, .int .i64 i6, .slice q7 n7 c7, .slice q8 n8 c8, .slice q9 n9 c9]
set_option maxHeartbeats 4000000 in
set_option maxRecDepth 100000 in
theorem allDef_any {α : Type} (rep : Value → α → Prop) (hsh : ∀ u x, rep u x → IsDef u) (av : Value) (xs : List α) (g : Nat) (w : World) (h : RowAt 10 rep w av xs) (hn : xs.length ≤ 1000000) :
    Calls Tryz.prog 103 #[av, .func (.func g) #[] #[]] w fun e w' => ∃ rv vs, e = .returned rv ∧ Below w.heap.size w w' ∧ w'.ownsRow w.heap.size 125 1 rv xs.length vs ∧ Reps (Clo 135 77 49 g rep w') vs xs := by
  obtain ⟨q, c, rfl⟩ := h.len
  have H := Lib.hid h
  have HSH := Lib.hid hsh
  have HN := Lib.hid hn
  clear h hsh hn
  go_enter Tryz.func103, Tryz.ntmps103
  have mk := makeNodes xs.length (by have := HN.out; omega)
  go_wp2_with fail
  clear mk
  have EW := Lib.hid (ent_alloc (ent_new w #[.func (.func g) #[] #[]] 77) (.cells (madeCells #[(.nilFunc : Value)] xs.length) 125))
  have EG := Lib.hid (ent_new (w.alloc (.cells #[.func (.func g) #[] #[]] 77)) (madeCells #[(.nilFunc : Value)] xs.length) 125)
  rw [World.size_alloc] at EG
  have HB := Lib.hid ((((Below.refl w.heap.size w).alloc (Nat.le_refl _) (.cells #[.func (.func g) #[] #[]] 77)).alloc (by simp) (.cells (madeCells #[(.nilFunc : Value)] xs.length) 125)))
  have HS0 := Lib.hid (size_madeCells #[(.nilFunc : Value)] xs.length)
  go_loopw [13] (fun i wr => ∃ (k : Nat) (cs : Array Value), i = .int .i64 k ∧ k ≤ xs.length ∧ Hid (cs.size = xs.length) ∧ Hid (wr.heap[w.heap.size]? = some (.cells #[.func (.func g) #[] #[]] 77 (0, 0))) ∧ Hid (wr.heap[w.heap.size + 1]? = some (.cells cs 125 (0, 0))) ∧
    Hid (∀ j, j < k → ∃ pb u, cs[j]? = some (.func (.func 135) #[] #[.pointer (some ⟨w.heap.size, 0, none⟩), .pointer (some ⟨pb, 0, none⟩)]) ∧ w.heap.size + 2 ≤ pb ∧ wr.heap[pb]? = some (.cells u.cells 49 (0, 0)) ∧ ∀ x, xs[j]? = some x → rep u x) ∧
    Hid (Below w.heap.size w wr)) (fun i _ => xs.length - (intOf i).toNat)
  case atStart => exact ⟨0, _, rfl, Nat.zero_le _, HS0, EW, EG, Lib.hid (fun j hj => absurd hj (Nat.not_lt_zero j)), HB⟩
  case round =>
    clear EW EG HB HS0
    obtain ⟨k, cs, rfl, hk, HS, EW, EG, HC, HB⟩ := hrel
    have hs1 := ent_lt EG.out
    by_cases hlt : k < xs.length
    · obtain ⟨x, hx⟩ : ∃ x, xs[k]? = some x := ⟨_, List.getElem?_eq_getElem hlt⟩
      rcases H.out with ⟨h0, _⟩ | ⟨b, of, c', hv, g1, g2, g3⟩
      · rw [h0] at hlt; simp at hlt
      injection hv with hq1 _ hq2
      subst hq1; subst hq2
      obtain ⟨u, hu, _, hcell⟩ := g3 k x hx
      obtain ⟨i0, t1, q2, n2, c2, i3, i4, t5, i6, q7, n7, c7, q8, n8, c8, q9, n9, c9, rfl⟩ := HSH.out u x hu
      have HU := Lib.hid hu
      have HX := Lib.hid hx
      have up : ∀ j' z, (.agg #[.int .i64 i0, .string t1, .slice q2 n2 c2, .int .i64 i3, .int .i64 i4, .string t5, .int .i64 i6, .slice q7 n7 c7, .slice q8 n8 c8, .slice q9 n9 c9] : Value).cells[j']? = some z → wr.cell? ⟨b, of + k * 10 + j', none⟩ = some z := fun j' z hz => (HB.out.cell (World.block_lt_of_cell? w _ (hcell j' z hz))).trans (hcell j' z hz)
      have x0 : wr.cell? ⟨b, of + k * 10, none⟩ = some (.int .i64 i0) := up 0 (.int .i64 i0) rfl
      have x1 : wr.cell? ⟨b, of + k * 10 + 1, none⟩ = some (.string t1) := up 1 (.string t1) rfl
      have x2 : wr.cell? ⟨b, of + k * 10 + 2, none⟩ = some (.slice q2 n2 c2) := up 2 (.slice q2 n2 c2) rfl
      have x3 : wr.cell? ⟨b, of + k * 10 + 3, none⟩ = some (.int .i64 i3) := up 3 (.int .i64 i3) rfl
      have x4 : wr.cell? ⟨b, of + k * 10 + 4, none⟩ = some (.int .i64 i4) := up 4 (.int .i64 i4) rfl
      have x5 : wr.cell? ⟨b, of + k * 10 + 5, none⟩ = some (.string t5) := up 5 (.string t5) rfl
      have x6 : wr.cell? ⟨b, of + k * 10 + 6, none⟩ = some (.int .i64 i6) := up 6 (.int .i64 i6) rfl
      have x7 : wr.cell? ⟨b, of + k * 10 + 7, none⟩ = some (.slice q7 n7 c7) := up 7 (.slice q7 n7 c7) rfl
      have x8 : wr.cell? ⟨b, of + k * 10 + 8, none⟩ = some (.slice q8 n8 c8) := up 8 (.slice q8 n8 c8) rfl
      have x9 : wr.cell? ⟨b, of + k * 10 + 9, none⟩ = some (.slice q9 n9 c9) := up 9 (.slice q9 n9 c9) rfl
      have hk1 : (k : Int) < (xs.length : Int) := by omega
      have hk2 : (xs.length : Int) ≤ (c : Int) := by omega
      have hk3 := g2
      clear g1 g2 g3 hcell hu up hx
      go_upto_region 5 with fail
      have HE := Lib.hid (ent_new wr #[.int .i64 i0, .string t1, .slice q2 n2 c2, .int .i64 i3, .int .i64 i4, .string t5, .int .i64 i6, .slice q7 n7 c7, .slice q8 n8 c8, .slice q9 n9 c9] 49)
      have hsz : (wr.alloc (.cells #[.int .i64 i0, .string t1, .slice q2 n2 c2, .int .i64 i3, .int .i64 i4, .string t5, .int .i64 i6, .slice q7 n7 c7, .slice q8 n8 c8, .slice q9 n9 c9] 49)).heap.size = wr.heap.size + 1 := by simp
      have HBA := Lib.hid (show Below wr.heap.size wr (wr.alloc (.cells #[.int .i64 i0, .string t1, .slice q2 n2 c2, .int .i64 i3, .int .i64 i4, .string t5, .int .i64 i6, .slice q7 n7 c7, .slice q8 n8 c8, .slice q9 n9 c9] 49)) from (Below.refl _ _).alloc (Nat.le_refl _) _)
      clear x0 x1 x2 x3 x4 x5 x6 x7 x8 x9
      generalize wr.alloc (.cells #[.int .i64 i0, .string t1, .slice q2 n2 c2, .int .i64 i3, .int .i64 i4, .string t5, .int .i64 i6, .slice q7 n7 c7, .slice q8 n8 c8, .slice q9 n9 c9] 49) = w3 at HE HBA hsz ⊢
      have EG3 := Lib.hid (ent_below EG.out HBA.out)
      have EW3 := Lib.hid (ent_below EW.out HBA.out)
      have hkc : k < cs.size := by have := HS.out; omega
      obtain ⟨z, hz⟩ : ∃ z, cs[k]? = some z := ⟨_, Array.getElem?_eq_getElem hkc⟩
      have y0 := ent_cell EG3.out k z hz
      have yf := ent_free EG3.out k
      have HZ := Lib.hid hkc
      clear hkc hz
      go_wp2_with fail
      go_roundw
      case rel =>
        refine ⟨k + 1, _, by go_num, by omega, Lib.hid ((Array.size_setIfInBounds).trans HS.out), Lib.hid (ent_other EW3.out _ _ _ (by omega)), Lib.hid (ent_set EG3.out k _), Lib.hid (fun j hj => ?_), Lib.hid ((HB.out.trans (HBA.out.mono HB.out.size)).setCell (p := ⟨w.heap.size + 1, k, none⟩) (by simp) _)⟩
        by_cases hjk : j = k
        · subst hjk
          exact ⟨wr.heap.size, .agg #[.int .i64 i0, .string t1, .slice q2 n2 c2, .int .i64 i3, .int .i64 i4, .string t5, .int .i64 i6, .slice q7 n7 c7, .slice q8 n8 c8, .slice q9 n9 c9], set_get _ _ _ HZ.out, by omega, ent_other HE.out _ _ _ (by omega), fun y hy => by rw [HX.out] at hy; cases hy; exact HU.out⟩
        · obtain ⟨pb, u, a1, a2, a3, a4⟩ := HC.out j (by omega)
          exact ⟨pb, u, (set_other _ _ _ _ (fun e => hjk e.symm)).trans a1, a2, ent_other (ent_below a3 HBA.out) _ _ _ (by omega), a4⟩
      case measure => simp [intOf]; omega
    · obtain rfl : k = xs.length := by omega
      go_wp2_with fail
      go_ret
      have hcl : cs.toList.length = xs.length := HS.out
      refine ⟨_, cs.toList, rfl, HB.out, ⟨by rw [hcl]; simp, .inr ⟨w.heap.size + 1, xs.length, cs, rfl, by omega, EG.out, Nat.le_refl _, by have := HN.out; unfold maxLen; omega, by rw [HS.out]; simp, by rw [List.take_of_length_le (by rw [hcl]; omega)]⟩⟩, reps_of hcl fun j v x hv hx => ?_⟩
      have hj : j < xs.length := (List.getElem?_eq_some_iff.1 hx).1
      obtain ⟨pb, u, a1, a2, a3, a4⟩ := HC.out j hj
      rw [Array.getElem?_toList, a1] at hv
      cases hv
      exact ⟨_, pb, u, rfl, EW.out, a3, a4 x hx⟩
set_option maxHeartbeats 1000000 in
theorem oneDef_any {α : Type} (rep : Value → α → Prop) (hsh : ∀ u x, rep u x → IsDef u) (v : Value) (x : α) (g : Nat) (w : World) (h : rep v x) :
    Calls Tryz.prog 62 #[v, .func (.func g) #[] #[]] w fun e w' => ∃ rv u, e = .returned rv ∧ Below w.heap.size w w' ∧ w'.ownsRow w.heap.size 125 1 rv 1 [u] ∧ Clo 135 77 49 g rep w' u x := by
  obtain ⟨i0, t1, q2, n2, c2, i3, i4, t5, i6, q7, n7, c7, q8, n8, c8, q9, n9, c9, rfl⟩ := hsh v x h
  have H := Lib.hid h
  have HSH := Lib.hid hsh
  clear h hsh
  go_enter Tryz.func62, Tryz.ntmps62
  go_wp2_with fail
  have EB := Lib.hid (ent_new (w.alloc (.cells #[.int .i64 i0, .string t1, .slice q2 n2 c2, .int .i64 i3, .int .i64 i4, .string t5, .int .i64 i6, .slice q7 n7 c7, .slice q8 n8 c8, .slice q9 n9 c9] 49)) #[.int .i64 i0, .string t1, .slice q2 n2 c2, .int .i64 i3, .int .i64 i4, .string t5, .int .i64 i6, .slice q7 n7 c7, .slice q8 n8 c8, .slice q9 n9 c9] 49)
  have HB := Lib.hid (((Below.refl w.heap.size w).alloc (Nat.le_refl _) (.cells #[.int .i64 i0, .string t1, .slice q2 n2 c2, .int .i64 i3, .int .i64 i4, .string t5, .int .i64 i6, .slice q7 n7 c7, .slice q8 n8 c8, .slice q9 n9 c9] 49)).alloc (by simp) (.cells #[.int .i64 i0, .string t1, .slice q2 n2 c2, .int .i64 i3, .int .i64 i4, .string t5, .int .i64 i6, .slice q7 n7 c7, .slice q8 n8 c8, .slice q9 n9 c9] 49))
  rw [World.size_alloc] at EB
  generalize (w.alloc (.cells #[.int .i64 i0, .string t1, .slice q2 n2 c2, .int .i64 i3, .int .i64 i4, .string t5, .int .i64 i6, .slice q7 n7 c7, .slice q8 n8 c8, .slice q9 n9 c9] 49)).alloc (.cells #[.int .i64 i0, .string t1, .slice q2 n2 c2, .int .i64 i3, .int .i64 i4, .string t5, .int .i64 i6, .slice q7 n7 c7, .slice q8 n8 c8, .slice q9 n9 c9] 49) = w1 at EB HB ⊢
  refine (allDef_any rep HSH.out _ [x] g w1 (.inr ⟨w.heap.size + 1, 0, 1, rfl, Nat.le_refl _, by omega, fun i y hi => ?_⟩) (by simp)).mono ?_
  · have hi0 : i = 0 := by
      have := (List.getElem?_eq_some_iff.1 hi).1
      simp at this; exact this
    subst hi0
    simp at hi
    subst hi
    exact ⟨_, H.out, rfl, fun j z hz => by simpa using ent_cell EB.out j z hz⟩
  rintro e w2 ⟨rv, vs, rfl, hb, hown, hr⟩
  match vs, hr with
  | [u], hr =>
    go_wp2_with fail
    go_ret
    exact ⟨rv, u, rfl, HB.out.trans (hb.mono HB.out.size), own_low hown HB.out.size, hr.1⟩
end Sw
end Go.Proofs.YtnhndamfbeiljaaGreatDoor
