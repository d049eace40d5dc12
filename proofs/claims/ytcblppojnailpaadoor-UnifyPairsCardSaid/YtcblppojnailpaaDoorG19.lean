/-
  A row of rows of the laws' nodes that came in.
-/
import Derived.Test.YtcblppojnailpaaDoorG18
import Derived.Test.YtcblppojnailpaaDoorG16
namespace Go.Proofs.YtcblppojnailpaaDoor
open Go Go.RowKit Go.ChangeShapes Go.WideShapes
set_option linter.unusedVariables false
set_option linter.unusedSimpArgs false
theorem open_nodes_at {H : Type} {enc : TypeId × Value → H} {W : World} {fuel : Nat} {cs : List Value} {y : DataW H × List MemPlace}
 (hf : DataW.trod enc Tryd.prog W 0 (fun _ => true) true fuel 33 cs = some y) :
 ∃ (z : Value) (l : List Ux.Nod), cs = [z] ∧ RowAt 3 NodV W z l := by
 rcases Deep.open_slice Tryd.underlying33 hf with ⟨hcs, _⟩ | ⟨a, len0, cap, m, n, D, Pl, hcs, _, hl, hm, hmm, hx, hall⟩
 · exact ⟨_, [], hcs, .inl ⟨rfl, none, 0, rfl⟩⟩
 · simp only [if_true] at hmm
   subst hmm
   refine ⟨.slice (some a) len0 m, ?_⟩
   rw [show Tryd.prog.cellsOf 61 = 3 by kernel_rfl] at hall
   obtain ⟨l, hll, hlq⟩ := pick_row len0 (fun i (x : Ux.Nod) => (-128 ≤ x.var ∧ x.var ≤ 127 ∧ x.name ≤ 255 ∧ x.args ≤ 255) ∧ ∀ j z, ([.int .i8 x.var, .int .u8 (x.name : Int), .int .u8 (x.args : Int)] : List Value)[j]? = some z → W.cell? (a.add (i * 3 + j)) = some z) (fun i hi => by
    obtain ⟨cs', hc, ht⟩ := hall i (by omega)
    obtain ⟨x, rfl, hok⟩ := open_node ht
    refine ⟨x, hok, fun j z hz => ?_⟩
    obtain ⟨_, hlen, hcell⟩ := World.cells?_some hc
    have hj : j < 3 := by have := (List.getElem?_eq_some_iff.1 hz).1; simpa using this
    have := hcell j hj
    rw [hz] at this
    rw [Addr.add_add] at this
    exact this)
   by_cases h0 : len0 = 0
   · subst h0
     have : l = [] := List.length_eq_zero_iff.1 hll
     subst this
     exact ⟨[], hcs, .inl ⟨rfl, some a, m, rfl⟩⟩
   · obtain ⟨x, hx0⟩ : ∃ x, l[0]? = some x := ⟨_, List.getElem?_eq_getElem (by omega)⟩
     have hc0 := (hlq 0 x hx0).2 0 _ rfl
     obtain ⟨b, o, spot⟩ := a
     have hspot : spot = none := by simpa [Addr.add] using World.cell?_spot hc0
     subst hspot
     refine ⟨l, hcs, .inr ⟨b, o, m, by rw [hll], by omega, by unfold maxLen at hm; omega, fun i y hy => ⟨_, ⟨rfl, (hlq i y hy).1⟩, rfl, fun j z hz => ?_⟩⟩⟩
     have hz' : ([.int .i8 y.var, .int .u8 (y.name : Int), .int .u8 (y.args : Int)] : List Value)[j]? = some z := by simpa [Value.cells] using hz
     have := (hlq i y hy).2 j z hz'
     have e : ((⟨b, o, none⟩ : Addr).add (i * 3 + j)) = ⟨b, o + i * 3 + j, none⟩ := by simp [Addr.add, Nat.add_assoc]
     rw [e] at this
     exact this
theorem open_rows {H : Type} {enc : TypeId × Value → H} {W : World} {a0 : Option Addr} {len0 cap0 : Nat} {d0 : DataW H} {p0 : List MemPlace}
 (h : DataW.Trod enc Tryd.prog W 0 (fun _ => true) true 22 (.slice a0 len0 cap0) d0 p0) :
 ∃ ll : List (List Ux.Nod), RowsR W (.slice a0 len0 cap0) ll := by
 obtain ⟨fuel, hf⟩ := h
 rcases Deep.open_slice Tryd.underlying22 hf with ⟨hcs, _⟩ | ⟨a, len, cap, m, n, D, Pl, hcs, _, hl, hm, hmm, hx, hall⟩
 · simp [Value.cells] at hcs
   obtain ⟨rfl, rfl, rfl⟩ := hcs
   exact ⟨[], .inl ⟨rfl, none, 0, rfl⟩⟩
 · simp [Value.cells] at hcs
   obtain ⟨rfl, rfl, rfl⟩ := hcs
   simp only [if_true] at hmm
   subst hmm
   rw [show Tryd.prog.cellsOf 33 = 1 by kernel_rfl] at hall
   obtain ⟨l, hll, hlq⟩ := pick_row len0 (fun i (x : List Ux.Nod) => ∃ z, RowAt 3 NodV W z x ∧ W.cell? (a.add i) = some z) (fun i hi => by
    obtain ⟨cs', hc, ht⟩ := hall i (by omega)
    obtain ⟨z, l, rfl, hr⟩ := open_nodes_at ht
    obtain ⟨_, hlen, hcell⟩ := World.cells?_some hc
    have := hcell 0 (by omega)
    rw [Addr.add_add] at this
    exact ⟨l, z, hr, by simpa using this⟩)
   by_cases h0 : len0 = 0
   · subst h0
     have : l = [] := List.length_eq_zero_iff.1 hll
     subst this
     exact ⟨[], .inl ⟨rfl, some a, m, rfl⟩⟩
   · obtain ⟨x, hx0⟩ : ∃ x, l[0]? = some x := ⟨_, List.getElem?_eq_getElem (by omega)⟩
     obtain ⟨z0, _, hc0⟩ := hlq 0 x hx0
     obtain ⟨b, o, spot⟩ := a
     have hspot : spot = none := by simpa [Addr.add] using World.cell?_spot hc0
     subst hspot
     refine ⟨l, .inr ⟨b, o, m, by rw [hll], by omega, by unfold maxLen at hm; omega, fun i y hy => ?_⟩⟩
     obtain ⟨z, hz, hc⟩ := hlq i y hy
     obtain ⟨zq, zc, rfl⟩ := hz.len
     refine ⟨_, hz, rfl, fun j u hu => ?_⟩
     have e : ((⟨b, o, none⟩ : Addr).add i) = ⟨b, o + i, none⟩ := by simp [Addr.add]
     rw [e] at hc
     match j, hu with
     | 0, hu =>
       have hu' : u = .slice zq y.length zc := by simpa [Value.cells] using hu.symm
       rw [hu']; simpa using hc
     | j + 1, hu => simp [Value.cells] at hu
end Go.Proofs.YtcblppojnailpaaDoor
