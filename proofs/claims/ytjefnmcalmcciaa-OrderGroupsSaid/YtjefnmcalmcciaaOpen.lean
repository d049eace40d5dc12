/-
  Slices of slices of integers that came in; how long they are.
-/
import Derived.Test.YtjefnmcalmcciaaSmall
import Derived.ProofKit
import Derived.OpenShut
import Derived.HandedShaped
import Derived.SizedLaws
import Derived.Deep.Matrix
import Derived.Carry
namespace Go.Proofs.Ytjefnmcalmcciaa
open Go.ChangeShapes Go.WideShapes Go.ChangeAt Go.RowKit
set_option linter.unusedVariables false
set_option linter.unusedSimpArgs false

theorem own : ownKnob Try.prog.godebug = none := by kernel_rfl
theorem laidOut : laidOutB Try.prog = true := by kernel_rfl

theorem addr_plain {w : World} {a : Addr} {v : Value} (h : w.cell? (a.add 0) = some v) : ∃ b off, a = ⟨b, off, none⟩ ∧ ∀ j, a.add j = ⟨b, off + j, none⟩ := by
  obtain ⟨b, off, spot⟩ := a
  have hs : spot = none := by simpa [Addr.add] using World.cell?_spot h
  subst hs
  exact ⟨b, off, rfl, fun j => by unfold Addr.add; split <;> simp_all⟩

/-- What the elements weigh is among what the whole weighs. -/
theorem weights_all {H : Type} {P : Program} {e : TypeId} : ∀ {l : List (DataW H)} {d : DataW H}, d ∈ l → ∀ n ∈ d.weights P e, n ∈ DataW.weightsAll P e l
  | [], _, h, _, _ => by cases h
  | x :: r, d, h, n, hn => by
    rw [DataW.weightsAll]
    rcases List.mem_cons.1 h with rfl | h
    · exact List.mem_append.2 (.inl hn)
    · exact List.mem_append.2 (.inr (weights_all h n hn))
theorem weights_elem {H : Type} {P : Program} {t e : TypeId} (hu : P.underlying t = some (.slice e)) {elems spare : List (DataW H)} {d : DataW H} (hd : d ∈ elems) : ∀ n ∈ d.weights P e, n ∈ (DataW.slice elems spare).weights P t := by
  intro n hn
  rw [DataW.weights, hu]
  exact List.mem_cons_of_mem _ (List.mem_append.2 (.inl (weights_all hd n hn)))

theorem open_rows {H : Type} {enc : TypeId × Value → H} {W : World} {a0 : Option Addr} {len0 cap0 : Nat} {d0 : DataW H} {p0 : List MemPlace} {ts : List TypeId} {ds : List (DataW H)}
    (h : DataW.Trod enc Try.prog W 0 (fun _ => true) true 22 (.slice a0 len0 cap0) d0 p0) (hreach : (DataW.weightsEach Try.prog (22 :: ts) (d0 :: ds)).all (· ≤ reachBytes) = true) :
    ∃ ls : List (List Int), RowsAt W (.slice a0 len0 cap0) ls ∧ ls.length ≤ 140737488351232 ∧ ∀ l ∈ ls, l.length ≤ 140737488351232 := by
  obtain ⟨fuel, hf⟩ := h
  rcases Deep.open_int_rows Try.underlying22 Try.underlying30 Try.underlying3 (by kernel_rfl) (by kernel_rfl) hf with ⟨hcs, _⟩ | ⟨a, len, cap, A, L, C, Z, hcs, _, hl, hm, hx, hrow⟩
  · simp [Value.cells] at hcs
    obtain ⟨rfl, rfl, rfl⟩ := hcs
    exact ⟨[], .inl ⟨rfl, none, 0, rfl⟩, by simp, fun l hl => by cases hl⟩
  · simp [Value.cells] at hcs
    obtain ⟨rfl, rfl, rfl⟩ := hcs
    simp only [Prod.mk.injEq] at hx
    obtain ⟨hd, _⟩ := hx
    unfold maxLen at hm
    have hw := List.all_eq_true.1 hreach
    have hcap : cap0 ≤ 140737488351232 := by
      have h1 := sized_slice hreach (j := 0) (t := 22) (e := 30) rfl (by rw [hd]; rfl) Try.underlying22
      rw [show Try.prog.bytesOf 30 = 24 by kernel_rfl] at h1
      simp only [List.length_map, List.length_range, reachBytes] at h1
      omega
    have hinner : ∀ r, r < len0 → L r ≤ 140737488351232 := by
      intro r hr
      obtain ⟨_, h1, _, h3, _, h5, _⟩ := hrow r (by omega)
      cases hA : A r with
      | none => have := h5 hA; omega
      | some a' =>
        have hmem : Deep.intRow (H := H) .i64 (A r) (L r) (Z r) ∈ (List.range len0).map fun r => Deep.intRow .i64 (A r) (L r) (Z r) := List.mem_map.2 ⟨r, List.mem_range.2 hr, rfl⟩
        have hwt : ((lits (H := H) .i64 ((Z r).take (L r))).length + (lits (H := H) .i64 ((Z r).drop (L r))).length) * Try.prog.bytesOf 3 ∈ (Deep.intRow (H := H) .i64 (A r) (L r) (Z r)).weights Try.prog 30 := by
          rw [hA]
          simp [Deep.intRow, DataW.weights, Try.underlying30]
        have h7 := weights_elem Try.underlying22 (spare := (List.range (cap0 - len0)).map fun j => Deep.intRow (H := H) .i64 (A (len0 + j)) (L (len0 + j)) (Z (len0 + j))) hmem _ hwt
        rw [← hd] at h7
        have h8 := hw _ (DataW.weights_mem_each (ts := 22 :: ts) (ds := d0 :: ds) (j := 0) rfl rfl _ h7)
        rw [show Try.prog.bytesOf 3 = 8 by kernel_rfl] at h8
        simp only [lits, List.length_map, List.length_take, List.length_drop, reachBytes, decide_eq_true_eq] at h8
        omega
    refine ⟨(List.range len0).map fun r => (Z r).take (L r), ?_, by simp; omega, fun l hl => ?_⟩
    · by_cases h0 : len0 = 0
      · subst h0
        exact .inl ⟨rfl, _, _, rfl⟩
      · obtain ⟨b, off, rfl, hadd⟩ := addr_plain (hrow 0 (by omega)).1
        refine .inr ⟨b, off, cap0, by simp, by simpa using hl, by omega, fun i l hi => ?_⟩
        have hil : i < len0 := by have := Gr.some_lt hi; simpa using this
        have hl2 : l = (Z i).take (L i) := by simpa [hil] using hi.symm
        subst hl2
        obtain ⟨h1, h2, h3, h4, h5, h6, h7⟩ := hrow i (by omega)
        rw [hadd] at h1
        refine ⟨_, h1, ?_⟩
        have hzl : ((Z i).take (L i)).length = L i := by rw [List.length_take]; omega
        unfold maxLen at h3
        by_cases hL0 : L i = 0
        · exact .inl ⟨List.eq_nil_of_length_eq_zero (by rw [hzl, hL0]), _, _, by rw [hL0]⟩
        · cases hA : A i with
          | none => have := h6 hA; omega
          | some a' =>
            obtain ⟨_, hc⟩ := h7 a' hA
            obtain ⟨b2, o2, rfl, hadd2⟩ := addr_plain (hc 0 (by omega))
            refine .inr ⟨b2, o2, C i, by rw [hzl], by rw [hzl]; exact h2, by omega, fun j x hj => ?_⟩
            have hjl : j < L i := by have := Gr.some_lt hj; rw [hzl] at this; exact this
            rw [← hadd2, hc j (by omega)]
            rw [List.getElem?_take, if_pos hjl] at hj
            rw [List.getD_eq_getElem?_getD, hj]; rfl
    · obtain ⟨r, hr, rfl⟩ := List.mem_map.1 hl
      have := hinner r (List.mem_range.1 hr)
      have h3 := List.length_take_le (L r) (Z r)
      omega
end Go.Proofs.Ytjefnmcalmcciaa
