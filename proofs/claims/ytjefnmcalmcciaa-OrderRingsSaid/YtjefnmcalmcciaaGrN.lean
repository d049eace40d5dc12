/-
  Groups, whole; what comes lies in new memory. (Written by gen/onew.py out of XGroups.)
-/
import Derived.Test.YtjefnmcalmcciaaTuN
import Derived.Test.YtjefnmcalmcciaaGroups
namespace Go.Proofs.Ytjefnmcalmcciaa
open Go Go.RowKit
set_option linter.unusedVariables false
set_option linter.unusedSimpArgs false

theorem RowsNew.at {lo : Nat} {w : World} {v : Value} {ls : List (List Int)} (h : RowsNew lo w v ls) : RowsAt w v ls := h w fun _ _ _ => rfl
def GroupsPostN (ls : List (List Int)) (w0 : World) (e : Ending) (w : World) : Prop :=
  (allB ls.length ls = false ∧ e = .returned (.tuple #[.slice none 0 0, .int .i64 1]) ∧ Below w0.heap.size w0 w) ∨
  (allB ls.length ls = true ∧ ∃ L lv, e = .returned (.tuple #[lv, .int .i64 0]) ∧ Gr.IsGroups (natG ls) L ∧ RowsNew w0.heap.size w lv (ints L) ∧ L.length ≤ ls.length ∧ Below w0.heap.size w0 w)

set_option maxHeartbeats 4000000 in
set_option maxRecDepth 100000 in
theorem Groups_new (v : Value) (ls : List (List Int)) (w : World) (h : RowsAt w v ls) (hs : ls.length ≤ 100000000) (hl : Gr.sumN (ls.map List.length) ≤ 100000000) :
    Calls Try.prog 11 #[v] w (GroupsPostN ls w) := by
  obtain ⟨p, c, rfl⟩ := h.len
  have HR := Lib.hid h
  clear h
  go_enter Try.func11, Try.ntmps11
  go_wp2_with fail
  refine (allThere_any _ ls _ HR.out (by omega)).mono ?_
  rintro e w1 ⟨rfl, rfl⟩
  cases hall : allB ls.length ls with
  | false =>
    go_wp2
    go_ret2
    exact .inl ⟨hall, rfl, Below.refl _ _⟩
  | true =>
    have HALL := Lib.hid hall
    have hg : RowsAt w (.slice p (natG ls).length c) (ints (natG ls)) := by rw [natG_len, ints_natG hall]; exact HR.out
    have HG := Lib.hid hg; have HGOOD := Lib.hid (good_natG hall)
    have hsum : Gr.sumN ((natG ls).map List.length) ≤ 100000000 := by rw [sum_natG]; exact hl
    have hnl : ls.length = (natG ls).length := (natG_len ls).symm
    rw [hnl] at hs ⊢
    have HNL := Lib.hid hnl
    clear hg hall hnl hl
    go_wp2_with fail
    refine (firsts_any HG.out HGOOD.out (fun l hl => by have := sum_ge hl; omega) (by omega)).mono ?_
    rintro e w2 ⟨R, f, rfl, hf, hR, hfst, hb⟩
    have HB := Lib.hid hb; have HF := Lib.hid hf; have HFST := Lib.hid hfst
    clear hf hfst hb
    go_wp2_with fail
    refine (inTurn_new (HG.out.below HB.out) HF.out HFST.out HGOOD.out hsum hs).mono ?_
    rintro e w3 ⟨L, lv, rfl, hgr, hrow, hb3, hlen⟩
    have HB3 := Lib.hid (HB.out.trans (hb3.mono HB.out.size)); have HGR := Lib.hid hgr; have HROW := Lib.hid hrow
    obtain ⟨q, d, rfl⟩ := hrow.at.len
    clear hgr hrow hb3
    go_wp2
    go_ret2
    exact .inr ⟨HALL.out, L, _, rfl, HGR.out, (fun W hW => HROW.out W fun b hb hl => hW b (Nat.le_trans HB.out.size hb) hl), by rw [HNL.out]; exact hlen, HB3.out⟩
end Go.Proofs.Ytjefnmcalmcciaa
