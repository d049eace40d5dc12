/-
  slices.Min; settle.
-/
import Derived.Test.YtjefnmcalmcciaaFinA
namespace Go.Proofs.Ytjefnmcalmcciaa
open Go Go.RowKit
set_option linter.unusedVariables false
set_option linter.unusedSimpArgs false

/-- The numbers of a list, as integers. -/
def nums (l : List Nat) : List Int := l.map fun (x : Nat) => (x : Int)
theorem nums_len (l : List Nat) : (nums l).length = l.length := by simp [nums]
theorem nums_at {l : List Nat} {i x : Nat} (h : l[i]? = some x) : (nums l)[i]? = some (x : Int) := by simp [nums, h]

def MinOf (l : List Nat) (k m : Nat) : Prop := m ∈ l.take k ∧ ∀ x ∈ l.take k, m ≤ x
theorem MinOf.next {l : List Nat} {k m x : Nat} (h : MinOf l k m) (hx : l[k]? = some x) : MinOf l (k + 1) (min m x) := by
  have hk := Gr.some_lt hx
  have e : l[k] = x := by rw [List.getElem?_eq_getElem hk] at hx; exact Option.some.inj hx
  unfold MinOf at *
  rw [List.take_succ_eq_append_getElem hk, e]
  refine ⟨?_, fun y hy => ?_⟩
  · rcases Nat.le_total m x with hm | hm
    · rw [Nat.min_eq_left hm]; exact List.mem_append.2 (.inl h.1)
    · rw [Nat.min_eq_right hm]; simp
  · rcases List.mem_append.1 hy with hy | hy
    · have := h.2 y hy; omega
    · rw [List.mem_singleton.1 hy]; omega

set_option maxHeartbeats 2000000 in
theorem min_any (v : Value) (l : List Nat) (w : World) (h : IntsAt w v (nums l)) (hne : 0 < l.length) (hs : l.length ≤ 1000000000) :
    Calls Try.prog 34 #[v] w fun e w' => (∃ m : Nat, e = .returned (.int .i64 (m : Int)) ∧ Gr.IsMin l m) ∧ w = w' := by
  obtain ⟨p, c, rfl⟩ := h.len
  rw [nums_len] at *
  obtain ⟨x0, hx0⟩ : ∃ x, l[0]? = some x := ⟨_, List.getElem?_eq_getElem hne⟩
  obtain ⟨b, o, rfl, hc, _, hnc, hcell⟩ := h.at (nums_at hx0)
  rw [Nat.add_zero] at hcell
  have HR := Lib.hid h
  have H0 := Lib.hid hx0
  clear h hx0
  go_enter Try.func34, Try.ntmps34
  have hl1 : ¬ ((l.length : Int) < 1) := by omega
  go_wp2
  go_loop [3, 4] (fun m i => ∃ k q : Nat, i = .int .i64 k ∧ k ≤ l.length ∧ m = .int .i64 q ∧ Hid (MinOf l k q)) (fun _ i => l.length - (intOf i).toNat)
  case atStart => exact ⟨1, x0, rfl, hne, rfl, Lib.hid (by
    have e : l.take 1 = [x0] := by
      rw [List.take_succ_eq_append_getElem hne]
      have := H0.out
      rw [List.getElem?_eq_getElem hne] at this
      simp [Option.some.inj this]
    unfold MinOf; rw [e]; simp)⟩
  case round =>
    obtain ⟨k, q, rfl, hk, rfl, HM⟩ := hrel
    by_cases hlt : k < l.length
    · obtain ⟨x, hx⟩ : ∃ x, l[k]? = some x := ⟨_, List.getElem?_eq_getElem hlt⟩
      obtain ⟨b2, o2, he2, _, _, _, hcell2⟩ := HR.out.at (nums_at hx)
      injection he2 with he2
      injection he2 with e1 e2 _
      subst e1; subst e2
      have HN := Lib.hid (HM.out.next hx)
      clear hx
      go_wp2
      all_goals
        go_round
        case rel => exact ⟨k + 1, min q x, by go_num, by omega, by first | rfl | (simp; omega) | (congr 1; omega), HN⟩
        case measure => simp [intOf]; omega
    · have hm := HM.out
      rw [show k = l.length by omega] at hm
      unfold MinOf at hm
      rw [List.take_length] at hm
      have HMM := Lib.hid hm
      clear hm
      go_wp2
      go_ret
      exact ⟨⟨q, rfl, HMM.out⟩, rfl⟩
end Go.Proofs.Ytjefnmcalmcciaa
