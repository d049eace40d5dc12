/-
  Several texts in one: PPow.
-/
import Derived.Test.YtnhndamfbeiljaaGreatDoorGOwn
import Derived.Stop.LaidErr
namespace Go.Proofs.YtnhndamfbeiljaaGreatDoor
open Go Go.RowKit
set_option linter.unusedVariables false
set_option linter.unusedSimpArgs false

theorem gPowW : Tryz.prog.globalNamed "internal/strconv.uint64pow10" = some 0 := by kernel_rfl
theorem gPowTypeW : (Tryz.prog.globals[0]?).map (·.type) = some 204 := by kernel_rfl
theorem cellsPowW : Tryz.prog.cellsOf 204 = 20 := by kernel_rfl
theorem cellsU64W : Tryz.prog.cellsOf 195 = 1 := by kernel_rfl
theorem pow_tableW {W : World} (h : laidMetH Tryz.prog laidList W) : Lib.TabIs Tryz.prog W "internal/strconv.uint64pow10" .u64 Lib.pow10Tab := by
  have h2 := laidMet.tail (laidMet.tail h)
  exact Lib.tabIs_of_head gPowW gPowTypeW Tryz.underlying204 Tryz.underlying195 cellsU64W cellsPowW h2
end Go.Proofs.YtnhndamfbeiljaaGreatDoor
