/-
  DERIVED. GIVEN WITH THE SEED: THE CARDS: each row of YtlnjdclmopblcaaDoorRows.lean that lists a variable, with what it lists TIED to the program's text (the seventh form; the later family's looks); each row that meets fmt, with fmt's text TOLD by the authors' own Lean function (tested against real Go, not proved from fmt's source: count such statements apart). THE CARD IS WHAT COUNTS. Prove the row's statement (the work); the ties are given (YtlnjdclmopblcaaDoorTie.lean); close each card by the builder's one call (the guide's Derived/Test/ToyasCard.lean, 'card_holds'). Laid BY PROGRAM, IN A SANDBOX (cutbox-door.mjs). By AI agents, Wed Nov 11 2026. No macro, syntax, notation, axiom, sorry.
-/
import Derived.Test.YtlnjdclmopblcaaDoorRows
import GoSem.ClaimSeven
namespace Go.Proofs.YtlnjdclmopblcaaDoor
namespace Rows

/-- THE TIED CARD OF 'reverielaw11.FreshTwice'. -/
def freshTwiceCard : Claim7 := { stood := { row := freshTwiceRow, standIns := [], harness := (true, "2b176a4ff049b0e3a50310ee6f2059063ff756099ccebae68df3dda307167c43"), looks := false }, kinds := [], alts := [], laidByText := true, laidKinds := [.data, .data, .data], laidTests := true, laidLooks := .later }
def FreshTwiceCardSaid : Prop := Claim7.holds Tryd.pinned (.plain (OpenSpec.ofChange freshTwiceSpec)) freshTwiceCard

/-- THE SECOND FORM's CARD OF 'reverielaw11.FreshTwice'. -/
def freshTwiceUptoCard : Claim7 := { stood := { row := freshTwiceUptoRow, standIns := [], harness := (true, "2b176a4ff049b0e3a50310ee6f2059063ff756099ccebae68df3dda307167c43"), looks := false }, kinds := [], alts := [], laidByText := true, laidKinds := [.data, .data, .data], laidTests := true, laidLooks := .later }
def FreshTwiceUptoCardSaid : Prop := Claim7.holds Tryd.pinned (.plain (OpenSpec.upto freshTwiceSpec)) freshTwiceUptoCard
end Rows
end Go.Proofs.YtlnjdclmopblcaaDoor
