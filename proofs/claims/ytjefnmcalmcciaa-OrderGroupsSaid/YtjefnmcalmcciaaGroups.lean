/-
  Groups, whole.
-/
import Derived.Test.YtjefnmcalmcciaaTuD
namespace Go.Proofs.Ytjefnmcalmcciaa
open Go Go.RowKit
set_option linter.unusedVariables false
set_option linter.unusedSimpArgs false

/-- Integers as a graph of numbers. -/
def natG (ls : List (List Int)) : List (List Nat) := ls.map fun l => l.map Int.toNat
theorem natG_len (ls : List (List Int)) : (natG ls).length = ls.length := by simp [natG]
theorem ok_all {n : Nat} {ls : List (List Int)} (h : allB n ls = true) : ∀ l ∈ ls, ∀ x ∈ l, 0 ≤ x ∧ x < n := by
  unfold allB at h
  rw [List.all_eq_true] at h
  intro l hl x hx
  have h1 := h l hl
  unfold rowB at h1
  rw [List.all_eq_true] at h1
  have h2 := h1 x hx
  unfold okB at h2
  simp at h2
  exact h2
theorem ints_natG {n : Nat} {ls : List (List Int)} (h : allB n ls = true) : ints (natG ls) = ls := by
  have h1 := ok_all h
  unfold ints natG
  rw [List.map_map]
  conv => rhs; rw [← List.map_id ls]
  refine List.map_congr_left fun l hl => ?_
  simp only [Function.comp, id_eq, List.map_map]
  conv => rhs; rw [← List.map_id l]
  refine List.map_congr_left fun x hx => ?_
  have := h1 l hl x hx
  simp only [Function.comp, id_eq]; omega
theorem good_natG {ls : List (List Int)} (h : allB ls.length ls = true) : Gr.Good (natG ls) := by
  have h1 := ok_all h
  intro l hl j hj
  unfold natG at hl
  obtain ⟨l0, hl0, rfl⟩ := List.mem_map.1 hl
  obtain ⟨x, hx, rfl⟩ := List.mem_map.1 hj
  have := h1 l0 hl0 x hx
  rw [natG_len]; omega
theorem sum_natG (ls : List (List Int)) : Gr.sumN ((natG ls).map List.length) = Gr.sumN (ls.map List.length) := by
  unfold natG
  rw [List.map_map]
  congr 1
  exact List.map_congr_left fun l _ => by simp
theorem sum_ge {ls : List (List Nat)} {l : List Nat} (h : l ∈ ls) : l.length ≤ Gr.sumN (ls.map List.length) := by
  obtain ⟨k, hk⟩ := List.mem_iff_getElem?.1 h
  have := sumN_take hk
  omega

def GroupsPost (ls : List (List Int)) (w0 : World) (e : Ending) (w : World) : Prop :=
  (allB ls.length ls = false ∧ e = .returned (.tuple #[.slice none 0 0, .int .i64 1]) ∧ Below w0.heap.size w0 w) ∨
  (allB ls.length ls = true ∧ ∃ L lv, e = .returned (.tuple #[lv, .int .i64 0]) ∧ Gr.IsGroups (natG ls) L ∧ RowsAt w lv (ints L) ∧ L.length ≤ ls.length ∧ Below w0.heap.size w0 w)

set_option maxHeartbeats 4000000 in
set_option maxRecDepth 100000 in
theorem Groups_any (v : Value) (ls : List (List Int)) (w : World) (h : RowsAt w v ls) (hs : ls.length ≤ 100000000) (hl : Gr.sumN (ls.map List.length) ≤ 100000000) :
    Calls Try.prog 11 #[v] w (GroupsPost ls w) := by
  obtain ⟨p, c, rfl⟩ := h.len
  have HR := Lib.hid h
  clear h
  go_enter Try.func11, Try.ntmps11
  go_wp2_with fail
  refine (allThere_any _ ls _ HR.out (by omega)).mono ?_
  rintro e w1 ⟨rfl, rfl⟩
  cases hall : allB ls.length ls with
  | false =>
    go_wp2
    go_ret2
    exact .inl ⟨hall, rfl, Below.refl _ _⟩
  | true =>
    have HALL := Lib.hid hall
    have hg : RowsAt w (.slice p (natG ls).length c) (ints (natG ls)) := by rw [natG_len, ints_natG hall]; exact HR.out
    have HG := Lib.hid hg; have HGOOD := Lib.hid (good_natG hall)
    have hsum : Gr.sumN ((natG ls).map List.length) ≤ 100000000 := by rw [sum_natG]; exact hl
    have hnl : ls.length = (natG ls).length := (natG_len ls).symm
    rw [hnl] at hs ⊢
    have HNL := Lib.hid hnl
    clear hg hall hnl hl
    go_wp2_with fail
    refine (firsts_any HG.out HGOOD.out (fun l hl => by have := sum_ge hl; omega) (by omega)).mono ?_
    rintro e w2 ⟨R, f, rfl, hf, hR, hfst, hb⟩
    have HB := Lib.hid hb; have HF := Lib.hid hf; have HFST := Lib.hid hfst
    clear hf hfst hb
    go_wp2_with fail
    refine (inTurn_any (HG.out.below HB.out) HF.out HFST.out HGOOD.out hsum hs).mono ?_
    rintro e w3 ⟨L, lv, rfl, hgr, hrow, hb3, hlen⟩
    have HB3 := Lib.hid (HB.out.trans (hb3.mono HB.out.size)); have HGR := Lib.hid hgr; have HROW := Lib.hid hrow
    obtain ⟨q, d, rfl⟩ := hrow.len
    clear hgr hrow hb3
    go_wp2
    go_ret2
    exact .inr ⟨HALL.out, L, _, rfl, HGR.out, HROW.out, by rw [HNL.out]; exact hlen, HB3.out⟩
end Go.Proofs.Ytjefnmcalmcciaa
