/-
  Several texts in one: ULaid, UNodes.
-/
import Derived.Test.YtcblppojnailpaaDoorCards
import Derived.Test.YtcblppojnailpaaDoorTie
import Derived.WalkKit
import Derived.ProofKit
import Derived.OpenShut
import Derived.ShutString
import Derived.ChangeOld
import Derived.Deep.DeepHandedRow
import Derived.Deep.DeepWitnessRowRef
import Derived.Lib.LaidTab
import Derived.Lib.AppendIntMem
import Derived.Stop.LaidErr
import Derived.Test.YtcblppojnailpaaDoorH14
import Derived.Deep.Slices
import Derived.Deep.Fields
import Derived.ChangeMaps5
import Derived.HandedShaped
import Derived.SizedLaws
namespace Go.Proofs.YtcblppojnailpaaDoor
open Go.ChangeShapes Go.WideShapes Go.ChangeAt Go.RowKit
theorem own : ownKnob Tryd.prog.godebug = none := by kernel_rfl
theorem laidOut : laidOutB Tryd.prog = true := by kernel_rfl
theorem gPow : Tryd.prog.globalNamed "internal/strconv.uint64pow10" = some 0 := by kernel_rfl
theorem gPowType : (Tryd.prog.globals[0]?).map (·.type) = some 143 := by kernel_rfl
theorem cellsPow : Tryd.prog.cellsOf 143 = 20 := by kernel_rfl
theorem cellsU64 : Tryd.prog.cellsOf 137 = 1 := by kernel_rfl
def laidList : List (String × DataW Unit) := [("math/bits.deBruijn32tab", Rows.laid_math_bits_deBruijn32tab), ("math/bits.deBruijn64tab", Rows.laid_math_bits_deBruijn64tab), ("internal/strconv.uint64pow10", Rows.laid_internal_strconv_uint64pow10)]
noncomputable def laidWorld (os : Os) : World :=
 let w0 := World.holding Tryd.prog os ⟨#[], #[], []⟩
 { w0 with heap := ((w0.heap.modify 0 fun
  | .cells _ t frozen => .cells #[.int .u64 1, .int .u64 10, .int .u64 100, .int .u64 1000, .int .u64 10000, .int .u64 100000, .int .u64 1000000, .int .u64 10000000, .int .u64 100000000, .int .u64 1000000000, .int .u64 10000000000, .int .u64 100000000000, .int .u64 1000000000000, .int .u64 10000000000000, .int .u64 100000000000000, .int .u64 1000000000000000, .int .u64 10000000000000000, .int .u64 100000000000000000, .int .u64 1000000000000000000, .int .u64 10000000000000000000] t frozen
  | o => o).modify 1 fun
  | .cells _ t frozen => .cells #[.int .u8 0, .int .u8 1, .int .u8 28, .int .u8 2, .int .u8 29, .int .u8 14, .int .u8 24, .int .u8 3, .int .u8 30, .int .u8 22, .int .u8 20, .int .u8 15, .int .u8 25, .int .u8 17, .int .u8 4, .int .u8 8, .int .u8 31, .int .u8 27, .int .u8 13, .int .u8 23, .int .u8 21, .int .u8 19, .int .u8 16, .int .u8 7, .int .u8 26, .int .u8 12, .int .u8 18, .int .u8 6, .int .u8 11, .int .u8 5, .int .u8 10, .int .u8 9] t frozen
  | o => o).modify 2 fun
  | .cells _ t frozen => .cells #[.int .u8 0, .int .u8 1, .int .u8 56, .int .u8 2, .int .u8 57, .int .u8 49, .int .u8 28, .int .u8 3, .int .u8 61, .int .u8 58, .int .u8 42, .int .u8 50, .int .u8 38, .int .u8 29, .int .u8 17, .int .u8 4, .int .u8 62, .int .u8 47, .int .u8 59, .int .u8 36, .int .u8 45, .int .u8 43, .int .u8 51, .int .u8 22, .int .u8 53, .int .u8 39, .int .u8 33, .int .u8 30, .int .u8 24, .int .u8 18, .int .u8 12, .int .u8 5, .int .u8 63, .int .u8 55, .int .u8 48, .int .u8 27, .int .u8 60, .int .u8 41, .int .u8 37, .int .u8 16, .int .u8 46, .int .u8 35, .int .u8 44, .int .u8 21, .int .u8 52, .int .u8 32, .int .u8 23, .int .u8 11, .int .u8 54, .int .u8 26, .int .u8 40, .int .u8 15, .int .u8 34, .int .u8 20, .int .u8 31, .int .u8 10, .int .u8 25, .int .u8 14, .int .u8 19, .int .u8 9, .int .u8 13, .int .u8 8, .int .u8 7, .int .u8 6] t frozen
  | o => o }
set_option maxRecDepth 100000 in
theorem laidWorld_met (os : Os) (args : Array Value) : laidMet Tryd.prog laidList ((laidWorld os).forCall (fun _ _ => 0) ⟨#[], args, []⟩).memory :=
 laidMet_of_run' 8 (by kernel_rfl) (by kernel_rfl)
theorem pow_table {W : World} (h : laidMetH Tryd.prog laidList W) : Lib.TabIs Tryd.prog W "internal/strconv.uint64pow10" .u64 Lib.pow10Tab := by
 have h2 := laidMet.tail (laidMet.tail h)
 exact Lib.tabIs_of_head gPow gPowType Tryd.underlying143 Tryd.underlying137 cellsU64 cellsPow h2
end Go.Proofs.YtcblppojnailpaaDoor
namespace Go.Proofs.YtcblppojnailpaaDoor
open Go Go.RowKit Go.ChangeShapes Go.WideShapes
set_option linter.unusedVariables false
set_option linter.unusedSimpArgs false
theorem cell_at {cs : List Value} {i : Nat} {u : Value} (h : (cs.drop i).take 1 = [u]) : cs[i]? = some u := by
 have : ((cs.drop i).take 1)[0]? = some u := by rw [h]; rfl
 rw [List.getElem?_take, List.getElem?_drop] at this
 simpa using this
theorem open_node {H : Type} {enc : TypeId × Value → H} {w : World} {base n : Nat} {sp : Nat → Bool} {held : Bool} {cs : List Value} {y : DataW H × List MemPlace}
 (h : DataW.trod enc Tryd.prog w base sp held n 61 cs = some y) :
 ∃ x : Ux.Nod, cs = [.int .i8 x.var, .int .u8 (x.name : Int), .int .u8 (x.args : Int)] ∧ -128 ≤ x.var ∧ x.var ≤ 127 ∧ x.name ≤ 255 ∧ x.args ≤ 255 := by
 obtain ⟨xs, m, _, _, hl, hx, hf⟩ := DataW.trod_struct Tryd.underlying61 h
 have hl3 : cs.length = 3 := hl.trans (by kernel_rfl)
 have get : ∀ i, i < 3 → ∃ z, xs[i]? = some z := fun i hi => ⟨_, List.getElem?_eq_getElem (by rw [hx]; exact hi)⟩
 obtain ⟨z0, e0⟩ := get 0 (by omega)
 obtain ⟨z1, e1⟩ := get 1 (by omega)
 obtain ⟨z2, e2⟩ := get 2 (by omega)
 have ki : Tryd.prog.cellsOf 59 = 1 := by kernel_rfl
 have ku : Tryd.prog.cellsOf 5 = 1 := by kernel_rfl
 have g0 : DataW.trod enc Tryd.prog w base sp held m 59 ((cs.drop 0).take (Tryd.prog.cellsOf 59)) = some z0 := (hf 0 _ rfl).trans e0
 rw [ki] at g0
 have g1 : DataW.trod enc Tryd.prog w base sp held m 5 ((cs.drop 1).take (Tryd.prog.cellsOf 5)) = some z1 := (hf 1 _ rfl).trans e1
 rw [ku] at g1
 have g2 : DataW.trod enc Tryd.prog w base sp held m 5 ((cs.drop 2).take (Tryd.prog.cellsOf 5)) = some z2 := (hf 2 _ rfl).trans e2
 rw [ku] at g2
 obtain ⟨a, c0, _, w0⟩ := DataW.trod_int Tryd.underlying59 g0
 obtain ⟨b, c1, _, w1⟩ := DataW.trod_int Tryd.underlying5 g1
 obtain ⟨c, c2, _, w2⟩ := DataW.trod_int Tryd.underlying5 g2
 have d0 : cs[0]? = some (.int .i8 a) := cell_at c0
 have d1 : cs[1]? = some (.int .u8 b) := cell_at c1
 have d2 : cs[2]? = some (.int .u8 c) := cell_at c2
 have b0 := bounds_i8 w0
 have b1 := bounds_u8 w1
 have b2 := bounds_u8 w2
 clear hf hx e0 e1 e2 g0 g1 g2 c0 c1 c2 h
 obtain ⟨q0, q1, q2, rfl⟩ : ∃ q0 q1 q2, cs = [q0, q1, q2] := by
  rcases cs with _ | ⟨q0, _ | ⟨q1, _ | ⟨q2, _ | ⟨q3, r⟩⟩⟩⟩ <;> simp at hl3
  exact ⟨q0, q1, q2, rfl⟩
 simp only [List.getElem?_cons_zero, List.getElem?_cons_succ, Option.some.injEq] at d0 d1 d2
 subst d0 d1 d2
 refine ⟨⟨a, b.toNat, c.toNat⟩, ?_, b0.1, b0.2, by show b.toNat ≤ 255; omega, by show c.toNat ≤ 255; omega⟩
 have hb : ((b.toNat : Nat) : Int) = b := by omega
 have hc : ((c.toNat : Nat) : Int) = c := by omega
 simp only [hb, hc]
theorem pick_row {α : Type} [Inhabited α] (n : Nat) (Q : Nat → α → Prop) (h : ∀ i, i < n → ∃ x, Q i x) : ∃ l : List α, l.length = n ∧ ∀ i x, l[i]? = some x → Q i x := by
 induction n with
 | zero => exact ⟨[], rfl, fun i x hx => by simp at hx⟩
 | succ n ih =>
   obtain ⟨l, hl, hq⟩ := ih fun i hi => h i (by omega)
   obtain ⟨x, hx⟩ := h n (by omega)
   refine ⟨l ++ [x], by simp [hl], fun i y hy => ?_⟩
   by_cases hi : i < n
   · rw [List.getElem?_append_left (by omega)] at hy; exact hq i y hy
   · have hin : i = n := by
      have := (List.getElem?_eq_some_iff.1 hy).1
      simp at this; omega
     subst hin
     rw [List.getElem?_append_right (by omega), hl] at hy
     simp at hy; subst hy; exact hx
instance : Inhabited Ux.Nod := ⟨⟨0, 0, 0⟩⟩
theorem open_nodes {H : Type} {enc : TypeId × Value → H} {W : World} {a0 : Option Addr} {len0 cap0 : Nat} {d0 : DataW H} {p0 : List MemPlace} {Ts : List TypeId} {Ds : List (DataW H)} (jj : Nat) (hjt : Ts[jj]? = some 33) (hjd : Ds[jj]? = some d0)
 (h : DataW.Trod enc Tryd.prog W 0 (fun _ => true) true 33 (.slice a0 len0 cap0) d0 p0) (hreach : (DataW.weightsEach Tryd.prog Ts Ds).all (· ≤ reachBytes) = true) :
 ∃ l : List Ux.Nod, RowAt 3 NodV W (.slice a0 len0 cap0) l := by
 obtain ⟨fuel, hf⟩ := h
 rcases Deep.open_slice Tryd.underlying33 hf with ⟨hcs, _⟩ | ⟨a, len, cap, m, n, D, Pl, hcs, _, hl, hm, hmm, hx, hall⟩
 · simp [Value.cells] at hcs
   obtain ⟨rfl, rfl, rfl⟩ := hcs
   exact ⟨[], .inl ⟨rfl, none, 0, rfl⟩⟩
 · simp [Value.cells] at hcs
   obtain ⟨rfl, rfl, rfl⟩ := hcs
   simp only [if_true] at hmm
   subst hmm
   simp only [Prod.mk.injEq] at hx
   have hd : d0 = _ := hx.1
   have hcap : m ≤ 1000000000000000 := by
    have this := sized_slice hreach (j := jj) (t := 33) (e := 61) hjt (by rw [hjd, hd]) Tryd.underlying33
    rw [show Tryd.prog.bytesOf 61 = 3 by kernel_rfl] at this
    simp only [List.length_map, List.length_range, reachBytes] at this
    omega
   rw [show Tryd.prog.cellsOf 61 = 3 by kernel_rfl] at hall
   obtain ⟨l, hll, hlq⟩ := pick_row len0 (fun i (x : Ux.Nod) => (-128 ≤ x.var ∧ x.var ≤ 127 ∧ x.name ≤ 255 ∧ x.args ≤ 255) ∧ ∀ j z, ([.int .i8 x.var, .int .u8 (x.name : Int), .int .u8 (x.args : Int)] : List Value)[j]? = some z → W.cell? (a.add (i * 3 + j)) = some z) (fun i hi => by
    obtain ⟨cs', hc, ht⟩ := hall i (by omega)
    obtain ⟨x, rfl, hok⟩ := open_node ht
    refine ⟨x, hok, fun j z hz => ?_⟩
    obtain ⟨_, hlen, hcell⟩ := World.cells?_some hc
    have hj : j < 3 := by have := (List.getElem?_eq_some_iff.1 hz).1; simpa using this
    have := hcell j hj
    rw [hz] at this
    rw [Addr.add_add] at this
    exact this)
   by_cases h0 : len0 = 0
   · subst h0
     have : l = [] := List.length_eq_zero_iff.1 hll
     subst this
     exact ⟨[], .inl ⟨rfl, some a, m, rfl⟩⟩
   · obtain ⟨x, hx0⟩ : ∃ x, l[0]? = some x := ⟨_, List.getElem?_eq_getElem (by omega)⟩
     have hc0 := (hlq 0 x hx0).2 0 _ rfl
     obtain ⟨b, o, spot⟩ := a
     have hspot : spot = none := by simpa [Addr.add] using World.cell?_spot hc0
     subst hspot
     refine ⟨l, .inr ⟨b, o, m, by rw [hll], by omega, by omega, fun i y hy => ⟨_, ⟨rfl, (hlq i y hy).1⟩, rfl, fun j z hz => ?_⟩⟩⟩
     have hz' : ([.int .i8 y.var, .int .u8 (y.name : Int), .int .u8 (y.args : Int)] : List Value)[j]? = some z := by simpa [Value.cells] using hz
     have := (hlq i y hy).2 j z hz'
     have e : ((⟨b, o, none⟩ : Addr).add (i * 3 + j)) = ⟨b, o + i * 3 + j, none⟩ := by simp [Addr.add, Nat.add_assoc]
     rw [e] at this
     exact this
end Go.Proofs.YtcblppojnailpaaDoor
