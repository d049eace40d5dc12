/-
  Several texts in one: PPow, WRowN.
-/
import Derived.Test.YtdgmijnoohplgaaGreatDoorGOwn
import Derived.Stop.LaidErr
import Derived.Test.YtdgmijnoohplgaaGreatDoorKWNumbersW
namespace Go.Proofs.YtdgmijnoohplgaaGreatDoor
open Go Go.RowKit

theorem gPowW : Tryz.prog.globalNamed "internal/strconv.uint64pow10" = some 0 := by kernel_rfl
theorem gPowTypeW : (Tryz.prog.globals[0]?).map (·.type) = some 204 := by kernel_rfl
theorem cellsPowW : Tryz.prog.cellsOf 204 = 20 := by kernel_rfl
theorem cellsU64W : Tryz.prog.cellsOf 195 = 1 := by kernel_rfl
theorem pow_tableW {W : World} (h : laidMetH Tryz.prog laidList W) : Lib.TabIs Tryz.prog W "internal/strconv.uint64pow10" .u64 Lib.pow10Tab := by
  have h2 := laidMet.tail (laidMet.tail h)
  exact Lib.tabIs_of_head gPowW gPowTypeW Tryz.underlying204 Tryz.underlying195 cellsU64W cellsPowW h2
end Go.Proofs.YtdgmijnoohplgaaGreatDoor

namespace Go.Proofs.YtdgmijnoohplgaaGreatDoor
open Go Go.RowKit
set_option linter.unusedVariables false
set_option linter.unusedSimpArgs false

theorem showNumbers_row (w : World) (a0 : ByteArray) (w0 : a0.size ≤ maxLen) (a1 : Option Addr) (len1 cap1 : Nat) (z1 : List Int) (w1 : IsRow .i64 w a1 len1 cap1 z1) (hL : laidMetH Tryz.prog laidList w) :
    Calls Tryz.prog 6 #[.string a0, .slice a1 len1 cap1] w fun e w' => e = .returned (.bool true) ∧ Below w.heap.size w w' := by
  have hs : a0 = ⟨a0.data.toList.toArray⟩ := by cases a0; simp
  rw [hs]
  rcases w1 with ⟨rfl, rfl, rfl, _⟩ | ⟨x, rfl, h1, h2, h3, h4, h5⟩
  · exact Sw.showNumbers_walk w (pow_tableW hL) _ _ [] ⟨by simp, .inl ⟨rfl, none, 0, rfl⟩⟩
  by_cases h0 : len1 = 0
  · subst h0
    exact Sw.showNumbers_walk w (pow_tableW hL) _ _ [] ⟨by simp, .inl ⟨rfl, some x, cap1, rfl⟩⟩
  obtain ⟨b, off, rfl, hbo⟩ := ints_at (zs := z1) (k := .i64) (w := w) (a := x) h4 (by omega)
  have hl : (z1.take len1).length = len1 := by rw [List.length_take]; omega
  refine Sw.showNumbers_walk w (pow_tableW hL) _ _ (z1.take len1) ⟨fun n hn => ?_, .inr ⟨b, off, cap1, by rw [hl], by omega, by omega, fun i n hi => ?_⟩⟩
  · exact bounds_i64 (h5 n (List.mem_of_mem_take hn))
  · have hi1 := (List.getElem?_eq_some_iff.1 hi).1
    have hiz : z1[i]? = some n := by
      rw [hl] at hi1
      rw [List.getElem?_take, if_pos hi1] at hi; exact hi
    have hjz := (List.getElem?_eq_some_iff.1 hiz).1
    rw [hbo i hjz, List.getD_eq_getElem?_getD, hiz]; rfl
end Go.Proofs.YtdgmijnoohplgaaGreatDoor
