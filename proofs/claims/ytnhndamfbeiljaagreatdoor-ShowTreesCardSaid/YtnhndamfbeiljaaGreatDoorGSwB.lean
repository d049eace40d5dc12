/-
  Several texts in one: WLeaf, WBase.
-/
import Derived.Test.YtnhndamfbeiljaaGreatDoorGSwA
import Derived.Test.YtnhndamfbeiljaaGreatDoorGShw
import Derived.Deep.RegionWith
import Derived.Deep.RegionHeld3
import Derived.Test.YtnhndamfbeiljaaGreatDoorKPDef
namespace Go.Proofs.YtnhndamfbeiljaaGreatDoor
open Go Go.RowKit
set_option linter.unusedVariables false
set_option linter.unusedSimpArgs false
namespace Sw

theorem end_any {lo B : Nat} {w : World} {T : List UInt8} {vs : List Value} (h : SV lo B w T vs) (hlen : T.length ≤ 90000000) :
    Calls Tryz.prog 95 #[.pointer (some ⟨B, 0, none⟩)] w (Wrote lo B w (T ++ [41]) vs) := by
  go_enter Tryz.func95, Tryz.ntmps95
  go_wp2_with fail
  refine (wrote_byte h 41 (by omega)).mono ?_
  rintro e w1 ⟨rfl, h1, hb, hk, hkk⟩
  go_wp2_with fail
  go_end0
  exact ⟨rfl, h1, hb, hk, hkk⟩
theorem blank_any {lo B : Nat} {w : World} {T : List UInt8} {vs : List Value} (h : SV lo B w T vs) (hlen : T.length ≤ 90000000) :
    Calls Tryz.prog 98 #[.pointer (some ⟨B, 0, none⟩)] w (Wrote lo B w (T ++ [32]) vs) := by
  go_enter Tryz.func98, Tryz.ntmps98
  go_wp2_with fail
  refine (wrote_byte h 32 (by omega)).mono ?_
  rintro e w1 ⟨rfl, h1, hb, hk, hkk⟩
  go_wp2_with fail
  go_end0
  exact ⟨rfl, h1, hb, hk, hkk⟩
theorem word_any {lo B : Nat} {w : World} {T : List UInt8} {vs : List Value} (h : SV lo B w T vs) (s : List UInt8) (hlen : T.length + s.length ≤ 90000000) :
    Calls Tryz.prog 71 #[.pointer (some ⟨B, 0, none⟩), .string ⟨s.toArray⟩] w (Wrote lo B w (T ++ wd s) vs) := by
  have HL := Lib.hid hlen
  clear hlen
  go_enter Tryz.func71, Tryz.ntmps71
  by_cases hs : s = []
  · subst hs
    go_wp2_with fail
    refine (wrote_string h [63] (by have := HL.out; simp at this ⊢; omega)).mono ?_
    rintro e w1 ⟨⟨v, rfl⟩, h1, hb, hk, hkk⟩
    go_wp2_with fail
    go_end0
    exact ⟨rfl, h1, hb, hk, hkk⟩
  · have hne : (s == []) = false := by simpa using hs
    have hne2 : s.isEmpty = false := by simpa using hs
    have HS := Lib.hid hs
    go_wp2_with fail
    refine (wrote_string h s (by have := HL.out; omega)).mono ?_
    rintro e w1 ⟨⟨v, rfl⟩, h1, hb, hk, hkk⟩
    go_wp2_with fail
    go_end0
    exact ⟨rfl, by rw [wd, if_neg HS.out]; exact h1, hb, hk, hkk⟩
theorem decimal_any (n : Int) (h0 : -9223372036854775808 ≤ n) (h1 : n ≤ 9223372036854775807) (w : World) (htab : Lib.TabIs Tryz.prog w "internal/strconv.uint64pow10" .u64 Lib.pow10Tab) :
    Calls Tryz.prog 77 #[.int .i64 n] w fun e w' => e = .returned (.string ⟨(Lib.itoa n).toArray⟩) ∧ Below w.heap.size w w' := by
  go_enter Tryz.func77, Tryz.ntmps77
  go_wp2_with fail
  have hc : Calls Tryz.prog 73 #[.int .i64 n, .int .i64 10] w fun e w' => e = .returned (.string ⟨(Lib.itoa n).toArray⟩) ∧ Below w.heap.size w w' := by
    refine (Tryz.strconv_FormatInt_10 n h0 h1 w htab).mono ?_
    rintro e w' ⟨rfl, k, os, rfl⟩
    exact ⟨rfl, Lib.below_grow _ _ (Nat.le_refl _) _ _⟩
  refine hc.mono ?_
  rintro e w1 ⟨rfl, hb⟩
  go_wp2_with fail
  go_ret
  exact ⟨rfl, hb⟩
end Sw
end Go.Proofs.YtnhndamfbeiljaaGreatDoor

namespace Go.Proofs.YtnhndamfbeiljaaGreatDoor
open Go Go.RowKit
set_option linter.unusedVariables false
set_option linter.unusedSimpArgs false
namespace Sw

/-- A tree's value. -/
def TreeAt : Nat → World → Value → Tr → Prop
  | 0, _, _, _ => False
  | f + 1, u, v, .mk nm i re im args => ∃ av, v = .agg #[.string ⟨nm.toArray⟩, .int .i64 i, .int .i64 re, .int .i64 im, av] ∧ (-9223372036854775808 ≤ i ∧ i ≤ 9223372036854775807) ∧ (-9223372036854775808 ≤ re ∧ re ≤ 9223372036854775807) ∧ (-9223372036854775808 ≤ im ∧ im ≤ 9223372036854775807) ∧ RowAt 5 (TreeAt f u) u av args
/-- A binding's value. -/
def PairAt (f : Nat) (u : World) (v : Value) (x : List UInt8 × Px.Expr) : Prop :=
  ∃ b0 b1 b2 b3 b4 b5 b6 : Value, v = .agg #[.string ⟨x.1.toArray⟩, b0, b1, b2, b3, b4, b5, b6] ∧ ExprAt f u (.agg #[b0, b1, b2, b3, b4, b5, b6]) x.2
def StrIs (v : Value) (s : List UInt8) : Prop := v = .string ⟨s.toArray⟩

/-- Numbers of 64 bits. -/
def I64 (i : Int) : Prop := -9223372036854775808 ≤ i ∧ i ≤ 9223372036854775807
def OkPat : Nat → Px.Pat → Prop
  | 0, _ => False
  | f + 1, .mk k _ _ i args => (k = 2 → I64 i) ∧ ∀ a ∈ args, OkPat f a
def OkExp : Nat → Px.Expr → Prop
  | 0, _ => False
  | f + 1, .mk k _ _ i ns xs al => (k = 0 → I64 i) ∧ (k = 4 → ns.length ≤ 1000000 ∧ xs.length ≤ 1000000) ∧ (∀ x ∈ xs, OkExp f x) ∧ ∀ a ∈ al, OkPat f a.1 ∧ OkExp f a.2
def PatG (f : Nat) (u : World) (v : Value) (p : Px.Pat) : Prop := PatAt f u v p ∧ OkPat f p
def ExprG (f : Nat) (u : World) (v : Value) (x : Px.Expr) : Prop := ExprAt f u v x ∧ OkExp f x
def AltG (f : Nat) (u : World) (v : Value) (a : Px.Pat × Px.Expr) : Prop := AltOf (PatAt f u) (ExprAt f u) v a ∧ OkPat f a.1 ∧ OkExp f a.2
def PairG (f : Nat) (u : World) (v : Value) (b : List UInt8 × Px.Expr) : Prop := PairAt f u v b ∧ OkExp f b.2
def DefG (f : Nat) (u : World) (v : Value) (d : Px.Def) : Prop := DefAt f u v d ∧ OkExp f d.body
/-- What a node's value is. -/
def NodeV (w0 w : World) (v : Value) : Nd → Prop
  | .blank => v = .func (.func 98) #[] #[]
  | .fin => v = .func (.func 95) #[] #[]
  | .word s => Clo 132 173 9 71 StrIs w v s
  | .typ f t => Clo 134 75 42 30 (TypeAt f w0) w v t
  | .pat f p => Clo 149 150 84 75 (PatG f w0) w v p
  | .expr f x => Clo 104 79 47 34 (ExprG f w0) w v x
  | .alt f a => Clo 107 145 86 70 (AltG f w0) w v a
  | .pair f b => Clo 136 143 142 68 (PairG f w0) w v b
  | .names l => CloL 133 33 173 71 (fun u q => RowAt 1 StrIs w0 q l) w v
  | .pairs f l => CloL 105 137 143 68 (fun u q => RowK 142 8 (PairG f w0) u q l) w v
  | .con f c => Clo 101 130 40 59 (ConAt f w0) w v c
  | .data f d => Clo 129 73 36 28 (DataAt f w0) w v d
  | .defn f d => Clo 135 77 49 32 (DefG f w0) w v d
  | .tree f t => Clo 142 88 58 39 (TreeAt f w0) w v t
theorem NodeV.keep {w0 w w' : World} {v : Value} (hk : Keep w w') : ∀ {n : Nd}, NodeV w0 w v n → NodeV w0 w' v n := by
  intro n h
  cases n with
  | blank => exact h
  | fin => exact h
  | names l =>
    obtain ⟨pb, wb, q, n, c, h1, h2, h3, h4⟩ := h
    exact ⟨pb, wb, q, n, c, h1, hk.2 _ _ _ h2 (by decide) (by decide) (by decide), hk.2 _ _ _ h3 (by decide) (by decide) (by decide), h4⟩
  | pairs f l =>
    obtain ⟨pb, wb, q, n, c, h1, h2, h3, h4⟩ := h
    exact ⟨pb, wb, q, n, c, h1, hk.2 _ _ _ h2 (by decide) (by decide) (by decide), hk.2 _ _ _ h3 (by decide) (by decide) (by decide), h4.keep hk (by decide) (by decide) (by decide)⟩
  | _ => exact Clo.keep h hk (by decide) (by decide) (by decide) (by decide) (by decide) (by decide)
end Sw
end Go.Proofs.YtnhndamfbeiljaaGreatDoor
