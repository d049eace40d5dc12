/-
  No cell of these rows narrows 'for every input' (looked for: loops, veiled, ifaces, maps, wideKeys, modest, calm, conditions, laid).
  DERIVED. THE GIVEN ROWS OF THIS SEAT. 4 by the template 'for every input the law returns true; each argument reads behind the call as it read before'; 0 by the template 'total and deterministic' (their statements: YtgoacbomphlhjaaTotals.lean).
  GIVEN WITH THE SEED: the statements are not yours to turn. If you find one false, say at which input.
  Laid BY PROGRAM, IN A SANDBOX (cutbox-rows.mjs): the forced cells as the released guide's own fill.sh prints them over the translation 7840d9b3c6df90bf… (all of the seat's roots in one cut). By AI agents, Wed Nov 11 2026. No macro, syntax, notation, axiom, sorry.
-/
import Derived.Test.YtgoacbomphlhjaaChecked
import GoSem.Claim
import GoSem.ClaimJoined
import GoSem.ClaimMapViews
import Derived.JoinedTies
import Derived.KernelRfl
namespace Go.Proofs.Ytgoacbomphlhjaa
/- THE CELL 'sum', in the pinned program and in every row, IS THE sha256 OF THE DUMP (.gsa) THAT YtgoacbomphlhjaaProg.lean LOADS. Nothing in Lean hashes anything: it is a label: what it is worth is what the hold of that sum in a sandbox is worth. -/
noncomputable def Try.pinned : Pinned := { name := "ytgoacbomphlhjaa", sum := "7840d9b3c6df90bf444d488ad2b2750cb65f9f33b3385e6570a7dc82b71cecce", checked := Try.checked }
namespace Rows
def none {H : Type} : Left H := { results := [], args := [] }

/-- 'reverielaw04.ScopeChecks': WHATEVER THE INPUT: true; the input reads as it did. -/
def scopeChecksSpec : ChangeSpec := { name := "scopeChecks", fn := fun _ => fun
  | [d] => { results := [.lit (.bool true)], args := [d] }
  | _ => none }
def scopeChecksRow : OpenClaim := { program := "ytgoacbomphlhjaa", sum := "7840d9b3c6df90bf444d488ad2b2750cb65f9f33b3385e6570a7dc82b71cecce", func := "reverie/reverielaw04.ScopeChecks", spec := "scopeChecks", unfollowed := true, recurses := true, apart := false }
def ScopeChecksSaid : Prop := scopeChecksRow.holds Try.pinned (OpenSpec.ofChange scopeChecksSpec)

/-- ITS FALSE NEIGHBOUR: 'it returns false'. Refute it at one input. -/
def scopeChecksWrong : ChangeSpec := { name := "scopeChecks", fn := fun _ => fun
  | [d] => { results := [.lit (.bool false)], args := [d] }
  | _ => none }
def ScopeChecksWrongFalsely : Prop := scopeChecksRow.holds Try.pinned (OpenSpec.ofChange scopeChecksWrong)

/-- 'reverielaw04.ScopeFree': WHATEVER THE INPUT: true; the input reads as it did. -/
def scopeFreeSpec : ChangeSpec := { name := "scopeFree", fn := fun _ => fun
  | [d] => { results := [.lit (.bool true)], args := [d] }
  | _ => none }
def scopeFreeRow : OpenClaim := { program := "ytgoacbomphlhjaa", sum := "7840d9b3c6df90bf444d488ad2b2750cb65f9f33b3385e6570a7dc82b71cecce", func := "reverie/reverielaw04.ScopeFree", spec := "scopeFree", unfollowed := true, recurses := true, apart := false }
def ScopeFreeSaid : Prop := scopeFreeRow.holds Try.pinned (OpenSpec.ofChange scopeFreeSpec)

/-- ITS FALSE NEIGHBOUR: 'it returns false'. Refute it at one input. -/
def scopeFreeWrong : ChangeSpec := { name := "scopeFree", fn := fun _ => fun
  | [d] => { results := [.lit (.bool false)], args := [d] }
  | _ => none }
def ScopeFreeWrongFalsely : Prop := scopeFreeRow.holds Try.pinned (OpenSpec.ofChange scopeFreeWrong)

/-- 'reverielaw04.ScopeRight': WHATEVER THE INPUT: true; the input reads as it did. -/
def scopeRightSpec : ChangeSpec := { name := "scopeRight", fn := fun _ => fun
  | [d] => { results := [.lit (.bool true)], args := [d] }
  | _ => none }
def scopeRightRow : OpenClaim := { program := "ytgoacbomphlhjaa", sum := "7840d9b3c6df90bf444d488ad2b2750cb65f9f33b3385e6570a7dc82b71cecce", func := "reverie/reverielaw04.ScopeRight", spec := "scopeRight", unfollowed := true, recurses := true, apart := false }
def ScopeRightSaid : Prop := scopeRightRow.holds Try.pinned (OpenSpec.ofChange scopeRightSpec)

/-- ITS FALSE NEIGHBOUR: 'it returns false'. Refute it at one input. -/
def scopeRightWrong : ChangeSpec := { name := "scopeRight", fn := fun _ => fun
  | [d] => { results := [.lit (.bool false)], args := [d] }
  | _ => none }
def ScopeRightWrongFalsely : Prop := scopeRightRow.holds Try.pinned (OpenSpec.ofChange scopeRightWrong)

/-- 'reverielaw04.ScopeKnown': WHATEVER THE INPUT: true; the input reads as it did. -/
def scopeKnownSpec : ChangeSpec := { name := "scopeKnown", fn := fun _ => fun
  | [d] => { results := [.lit (.bool true)], args := [d] }
  | _ => none }
def scopeKnownRow : OpenClaim := { program := "ytgoacbomphlhjaa", sum := "7840d9b3c6df90bf444d488ad2b2750cb65f9f33b3385e6570a7dc82b71cecce", func := "reverie/reverielaw04.ScopeKnown", spec := "scopeKnown", unfollowed := true, recurses := true, apart := false }
def ScopeKnownSaid : Prop := scopeKnownRow.holds Try.pinned (OpenSpec.ofChange scopeKnownSpec)

/-- ITS FALSE NEIGHBOUR: 'it returns false'. Refute it at one input. -/
def scopeKnownWrong : ChangeSpec := { name := "scopeKnown", fn := fun _ => fun
  | [d] => { results := [.lit (.bool false)], args := [d] }
  | _ => none }
def ScopeKnownWrongFalsely : Prop := scopeKnownRow.holds Try.pinned (OpenSpec.ofChange scopeKnownWrong)

/- THE SECOND FORM. 'bulk': how many values and letters a reading holds, each counted each time it is reached (what is shared counts as often as it is met; a slice's spare places count too). A statement '..UptoSaid' is the law's where the arguments, and the package variables that the reading takes, are together of bulk at most 1048576: NARROWER than '..Said'. Prove '..Said' where nothing that the law and all that it calls make is longer than what came in: it says more and counts as full. Else prove '..UptoSaid'. A law counts once. -/
mutual
def uptoBulk {H : Type} : DataW H → Nat
  | .lit (.string bytes) => bytes.length + 1
  | .lit _ => 1
  | .nil => 1
  | .ptr d => uptoBulk d + 1
  | .slice elems spare => uptoBulkAll elems + uptoBulkAll spare + 1
  | .agg parts => uptoBulkAll parts + 1
  | .iface _ d => uptoBulk d + 1
  | .map entries => uptoBulkEntries entries + 1
  | .held _ => 1
def uptoBulkAll {H : Type} : List (DataW H) → Nat
  | [] => 0
  | d :: r => uptoBulk d + uptoBulkAll r
def uptoBulkEntries {H : Type} : List (Lit × DataW H) → Nat
  | [] => 0
  | x :: r => uptoBulkEntry x + uptoBulkEntries r
def uptoBulkEntry {H : Type} : Lit × DataW H → Nat
  | (.string bytes, d) => bytes.length + uptoBulk d + 1
  | (_, d) => uptoBulk d + 1
 end
def uptoSmall : (H : Type) → List (DataW H) → Bool := fun _ ds => decide (uptoBulkAll ds ≤ 1048576)
def OpenSpec.upto (s : _root_.Go.ChangeSpec) : _root_.Go.OpenSpec := { _root_.Go.OpenSpec.ofChange s with cond := some uptoSmall }

/-- 'reverielaw04.ScopeChecks', WHERE WHAT IT READS IS OF BULK AT MOST 1048576: true; the input reads as it did. -/
def scopeChecksUptoRow : OpenClaim := { program := "ytgoacbomphlhjaa", sum := "7840d9b3c6df90bf444d488ad2b2750cb65f9f33b3385e6570a7dc82b71cecce", func := "reverie/reverielaw04.ScopeChecks", spec := "scopeChecks", unfollowed := true, recurses := true, apart := false, narrowed := true }
def ScopeChecksUptoSaid : Prop := scopeChecksUptoRow.holds Try.pinned (OpenSpec.upto scopeChecksSpec)

/-- 'reverielaw04.ScopeFree', WHERE WHAT IT READS IS OF BULK AT MOST 1048576: true; the input reads as it did. -/
def scopeFreeUptoRow : OpenClaim := { program := "ytgoacbomphlhjaa", sum := "7840d9b3c6df90bf444d488ad2b2750cb65f9f33b3385e6570a7dc82b71cecce", func := "reverie/reverielaw04.ScopeFree", spec := "scopeFree", unfollowed := true, recurses := true, apart := false, narrowed := true }
def ScopeFreeUptoSaid : Prop := scopeFreeUptoRow.holds Try.pinned (OpenSpec.upto scopeFreeSpec)

/-- 'reverielaw04.ScopeRight', WHERE WHAT IT READS IS OF BULK AT MOST 1048576: true; the input reads as it did. -/
def scopeRightUptoRow : OpenClaim := { program := "ytgoacbomphlhjaa", sum := "7840d9b3c6df90bf444d488ad2b2750cb65f9f33b3385e6570a7dc82b71cecce", func := "reverie/reverielaw04.ScopeRight", spec := "scopeRight", unfollowed := true, recurses := true, apart := false, narrowed := true }
def ScopeRightUptoSaid : Prop := scopeRightUptoRow.holds Try.pinned (OpenSpec.upto scopeRightSpec)

/-- 'reverielaw04.ScopeKnown', WHERE WHAT IT READS IS OF BULK AT MOST 1048576: true; the input reads as it did. -/
def scopeKnownUptoRow : OpenClaim := { program := "ytgoacbomphlhjaa", sum := "7840d9b3c6df90bf444d488ad2b2750cb65f9f33b3385e6570a7dc82b71cecce", func := "reverie/reverielaw04.ScopeKnown", spec := "scopeKnown", unfollowed := true, recurses := true, apart := false, narrowed := true }
def ScopeKnownUptoSaid : Prop := scopeKnownUptoRow.holds Try.pinned (OpenSpec.upto scopeKnownSpec)

end Rows
end Go.Proofs.Ytgoacbomphlhjaa
