/-
  The chapter's example; small.
-/
import Derived.Test.YtjefnmcalmcciaaGroups
namespace Go.Proofs.Ytjefnmcalmcciaa
open Go Go.RowKit
set_option linter.unusedVariables false
set_option linter.unusedSimpArgs false

namespace Gr
theorem ex_hang {i j : Nat} (h : Hang [[1], [2], [1]] i j) : (i = 0 ∧ j = 1) ∨ (i = 1 ∧ j = 2) ∨ (i = 2 ∧ j = 1) := by
  obtain ⟨l, hl, hj⟩ := h
  have hi := some_lt hl
  simp at hi
  have : i = 0 ∨ i = 1 ∨ i = 2 := by omega
  rcases this with rfl | rfl | rfl <;> (simp at hl; subst hl; simp at hj; subst hj; simp)
theorem ex_reach {i j : Nat} (h : Reach [[1], [2], [1]] i j) : j = 1 ∨ j = 2 := by
  induction h with
  | one h => rcases ex_hang h with ⟨_, h⟩ | ⟨_, h⟩ | ⟨_, h⟩ <;> omega
  | step _ _ ih => exact ih
theorem ex12 : Mut [[1], [2], [1]] 1 2 := .inr ⟨.one ⟨[2], rfl, by simp⟩, .one ⟨[1], rfl, by simp⟩⟩
theorem ex_mut {i : Nat} (hi : i < 3) : Mut [[1], [2], [1]] 1 i ↔ i ≠ 0 := by
  constructor
  · rintro (h | ⟨h, _⟩)
    · omega
    · rcases ex_reach h with h | h <;> omega
  · intro h
    have : i = 1 ∨ i = 2 := by omega
    rcases this with rfl | rfl
    · exact .refl _ _
    · exact ex12
theorem ex_grp1 : grp [[1], [2], [1]] 1 = [1, 2] := by
  have e : grp [[1], [2], [1]] 1 = [0, 1, 2].filter fun i => decide (i ≠ 0) := by
    unfold grp
    refine List.filter_congr fun i hi => ?_
    rw [Bool.eq_iff_iff, dec_iff, decide_eq_true_iff]
    exact ex_mut (by simpa using hi)
  rw [e]; rfl
theorem ex_grp0 : grp [[1], [2], [1]] 0 = [0] := by
  have e : grp [[1], [2], [1]] 0 = [0, 1, 2].filter fun i => decide (i = 0) := by
    unfold grp
    refine List.filter_congr fun i hi => ?_
    rw [Bool.eq_iff_iff, dec_iff, decide_eq_true_iff]
    constructor
    · rintro (h | ⟨_, h⟩)
      · exact h.symm
      · rcases ex_reach h with h | h <;> omega
    · rintro rfl; exact .refl _ _
  rw [e]; rfl
theorem ex_groups : IsGroups [[1], [2], [1]] [[1, 2], [0]] := by
  refine ⟨fun p l hl => ?_, fun i hi => ?_⟩
  · have hp := some_lt hl
    simp at hp
    have : p = 0 ∨ p = 1 := by omega
    rcases this with rfl | rfl
    · simp at hl; subst hl
      refine ⟨1, ⟨by simp, by simp, fun k hk => .inl ((ex_mut (by rcases ex_reach hk with h | h <;> omega)).2 (by rcases ex_reach hk with h | h <;> omega)), fun j hj _ hr => ?_⟩, ex_grp1.symm⟩
      have : j = 0 := by omega
      subst this
      rcases hr 1 (.one ⟨[1], rfl, by simp⟩) with h | h
      · rcases h with h | ⟨_, h⟩
        · omega
        · rcases ex_reach h with h | h <;> omega
      · simp at h
    · simp at hl; subst hl
      refine ⟨0, ⟨by simp, by simp, fun k hk => .inr (by rcases ex_reach hk with rfl | rfl <;> simp), fun j hj => by omega⟩, ex_grp0.symm⟩
  · simp at hi
    have : i = 0 ∨ i = 1 ∨ i = 2 := by omega
    rcases this with rfl | rfl | rfl <;> simp
end Gr

theorem ints_one {w : World} {g : Nat} {x : Int} (h : w.heap[g]? = some (.cells #[.int .i64 x] 3 (0, 0))) : IntsAt w (.slice (some ⟨g, 0, none⟩) 1 1) [x] := by
  refine .inr ⟨g, 0, 1, rfl, by simp, by omega, fun i y hy => ?_⟩
  have hi := Gr.some_lt hy
  simp at hi
  subst hi
  simp at hy; subst hy
  exact ent_cell h 0 _ rfl
theorem ex_rows (w : World) : RowsAt ((((w.alloc (.cells #[.int .i64 1] 3)).alloc (.cells #[.int .i64 2] 3)).alloc (.cells #[.int .i64 1] 3)).alloc (.cells #[.slice (some ⟨w.heap.size, 0, none⟩) 1 1, .slice (some ⟨w.heap.size + 1, 0, none⟩) 1 1, .slice (some ⟨w.heap.size + 1 + 1, 0, none⟩) 1 1] 30))
    (.slice (some ⟨w.heap.size + 1 + 1 + 1, 0, none⟩) 3 3) [[1], [2], [1]] := by
  obtain ⟨h0, h1, h2, h3⟩ := four_all w (.cells #[.int .i64 1] 3) (.cells #[.int .i64 2] 3) (.cells #[.int .i64 1] 3) (.cells #[.slice (some ⟨w.heap.size, 0, none⟩) 1 1, .slice (some ⟨w.heap.size + 1, 0, none⟩) 1 1, .slice (some ⟨w.heap.size + 1 + 1, 0, none⟩) 1 1] 30)
  refine .inr ⟨_, 0, 3, rfl, by simp, by omega, fun i l hl => ?_⟩
  have hi := Gr.some_lt hl
  simp at hi
  have : i = 0 ∨ i = 1 ∨ i = 2 := by omega
  rcases this with rfl | rfl | rfl
  · simp at hl; subst hl
    exact ⟨_, ent_cell h3 0 _ rfl, ints_one h0⟩
  · simp at hl; subst hl
    exact ⟨_, ent_cell h3 1 _ rfl, ints_one h1⟩
  · simp at hl; subst hl
    exact ⟨_, ent_cell h3 2 _ rfl, ints_one h2⟩
theorem ex_all : allB ([[1], [2], [1]] : List (List Int)).length [[1], [2], [1]] = true := by decide
theorem ex_nat : natG [[1], [2], [1]] = [[1], [2], [1]] := by decide

set_option maxHeartbeats 4000000 in
set_option maxRecDepth 100000 in
theorem lives_any (w : World) : Calls Try.prog 9 #[] w fun e w' => e = .returned (.bool true) ∧ Below w.heap.size w w' := by
  go_enter Try.func9, Try.ntmps9
  go_wp2_with fail
  refine (Groups_any _ [[1], [2], [1]] _ (ex_rows w) (by simp) (by simp [Gr.sumN])).mono ?_
  rintro e w2 (⟨h, _⟩ | ⟨_, L, lv, rfl, hgr, hrow, _, hb⟩)
  · rw [ex_all] at h; cases h
  · rw [ex_nat] at hgr
    obtain rfl := hgr.uniq Gr.ex_groups
    have hb2 : Below w.heap.size w w2 := (((((Below.refl _ _).alloc (Nat.le_refl _) _).alloc (by simp) _).alloc (by simp; omega) _).alloc (by simp; omega) _).trans (hb.mono (by simp; omega))
    have HB := Lib.hid hb2
    obtain ⟨p, c, rfl⟩ := hrow.len
    obtain ⟨b, o, q, d, rfl, hc1, _, hc2, h0, i0⟩ := hrow.at (i := 0) (l := [1, 2]) rfl
    obtain ⟨b', o', q', d', e1, _, _, _, h1, i1⟩ := hrow.at (i := 1) (l := [0]) rfl
    injection e1 with e1
    injection e1 with e1 e2 _
    subst e1; subst e2
    obtain ⟨b2, o2, rfl, hd1, _, hd2, c0⟩ := i0.at (i := 0) (x := 1) rfl
    obtain ⟨b3, o3, e3, _, _, _, c1⟩ := i0.at (i := 1) (x := 2) rfl
    injection e3 with e3
    injection e3 with e3 e4 _
    subst e3; subst e4
    obtain ⟨b4, o4, rfl, hf1, _, hf2, c2⟩ := i1.at (i := 0) (x := 0) rfl
    rw [Nat.add_zero] at h0 c0 c2
    have hl : (ints [[1, 2], [0]]).length = 2 := rfl
    have hl1 : ([1, 2] : List Int).length = 2 := rfl
    have hl2 : ([0] : List Int).length = 1 := rfl
    rw [hl] at hc2 ⊢
    rw [hl1] at h0 hd2
    rw [hl2] at h1 hf2
    clear hgr hrow hb hb2 i0 i1 hl hl1 hl2
    go_wp2
    go_ret
    exact ⟨rfl, HB.out⟩

theorem sum_snoc (ls : List (List Int)) (k : Nat) (l : List Int) (h : ls[k]? = some l) : Gr.sumN ((ls.take (k + 1)).map List.length) = Gr.sumN ((ls.take k).map List.length) + l.length := by
  have hk := Gr.some_lt h
  have e : ls[k] = l := by rw [List.getElem?_eq_getElem hk] at h; exact Option.some.inj h
  rw [List.take_succ_eq_append_getElem hk, List.map_append, Gr.sumN_append, e]
  simp only [List.map_cons, List.map_nil, Gr.sumN]; omega
end Go.Proofs.Ytjefnmcalmcciaa
