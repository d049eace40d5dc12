/-
  allThere.
-/
import Derived.Test.YtjefnmcalmcciaaMem
namespace Go.Proofs.Ytjefnmcalmcciaa
open Go Go.RowKit
set_option linter.unusedVariables false
set_option linter.unusedSimpArgs false

def okB (n : Nat) (x : Int) : Bool := decide (0 ≤ x) && decide (x < n)
def rowB (n : Nat) (l : List Int) : Bool := l.all (okB n)
def allB (n : Nat) (ls : List (List Int)) : Bool := ls.all (rowB n)
theorem row_no {n : Nat} {l : List Int} {e : Nat} {x : Int} (h : l[e]? = some x) (hx : x < 0 ∨ (n : Int) ≤ x) : rowB n l = false := by
  unfold rowB
  rw [List.all_eq_false]
  refine ⟨x, List.mem_of_getElem? h, ?_⟩
  unfold okB
  rcases hx with hx | hx
  · simp; omega
  · simp; omega
theorem all_no {n : Nat} {ls : List (List Int)} {k : Nat} {l : List Int} (h : ls[k]? = some l) (hl : rowB n l = false) : allB n ls = false := by
  unfold allB
  rw [List.all_eq_false]
  exact ⟨l, List.mem_of_getElem? h, by simp [hl]⟩
theorem all_yes {n : Nat} {ls : List (List Int)} (h : ∀ (k : Nat) (l : List Int), ls[k]? = some l → rowB n l = true) : allB n ls = true := by
  unfold allB
  rw [List.all_eq_true]
  intro l hl
  obtain ⟨k, hk⟩ := List.mem_iff_getElem?.1 hl
  exact h k l hk
theorem row_yes {n : Nat} {l : List Int} (h : ∀ (k : Nat) (x : Int), l[k]? = some x → okB n x = true) : rowB n l = true := by
  unfold rowB
  rw [List.all_eq_true]
  intro x hx
  obtain ⟨k, hk⟩ := List.mem_iff_getElem?.1 hx
  exact h k x hk

set_option maxHeartbeats 2000000 in
theorem allThere_any (v : Value) (ls : List (List Int)) (w : World) (h : RowsAt w v ls) (hs : ls.length ≤ 9223372036854775806) :
    Calls Try.prog 18 #[v] w fun e w' => e = .returned (.bool (allB ls.length ls)) ∧ w = w' := by
  obtain ⟨p, c, rfl⟩ := h.len
  have HR := Lib.hid h
  clear h
  go_enter Try.func18, Try.ntmps18
  go_wp2
  go_loop [9] (fun i => ∃ k : Nat, i = .int .i64 k ∧ k ≤ ls.length ∧ Hid (∀ (j : Nat) (l : List Int), j < k → ls[j]? = some l → rowB ls.length l = true)) (fun i => ls.length - (intOf i).toNat)
  case atStart => exact ⟨0, rfl, Nat.zero_le _, Lib.hid (fun j l hj => absurd hj (Nat.not_lt_zero j))⟩
  case round =>
    obtain ⟨k, rfl, hk, HK⟩ := hrel
    by_cases hlt : k < ls.length
    · obtain ⟨l, hl⟩ : ∃ l, ls[k]? = some l := ⟨_, List.getElem?_eq_getElem hlt⟩
      obtain ⟨b, o, q, d, rfl, hc, _, hnc, hcell, hrow⟩ := HR.out.at hl
      have HL := Lib.hid hl; have HW := Lib.hid hrow
      clear hl hrow
      go_wp2
      go_loop [15] (fun i => ∃ e : Nat, i = .int .i64 e ∧ e ≤ l.length ∧ Hid (∀ (j : Nat) (x : Int), j < e → l[j]? = some x → okB ls.length x = true)) (fun i => l.length - (intOf i).toNat)
      case atStart => exact ⟨0, rfl, Nat.zero_le _, Lib.hid (fun j l hj => absurd hj (Nat.not_lt_zero j))⟩
      case round =>
        obtain ⟨e, rfl, he, HE⟩ := hrel
        by_cases hel : e < l.length
        · obtain ⟨x, hx⟩ : ∃ x, l[e]? = some x := ⟨_, List.getElem?_eq_getElem hel⟩
          obtain ⟨b2, o2, rfl, hc2, _, hnc2, hcell2⟩ := HW.out.at hx
          have HX := Lib.hid hx
          clear hx
          by_cases hx0 : x < 0
          · have hno := row_no (n := ls.length) HX.out (.inl hx0)
            have HN := Lib.hid (all_no HL.out hno)
            clear hno
            go_wp2
            go_ret
            exact ⟨ret_bool (by rw [HN.out]), rfl⟩
          · by_cases hxn : (ls.length : Int) ≤ x
            · have hno := row_no (n := ls.length) HX.out (.inr hxn)
              have HN := Lib.hid (all_no HL.out hno)
              clear hno
              go_wp2
              go_ret
              exact ⟨ret_bool (by rw [HN.out]), rfl⟩
            · have hok : okB ls.length x = true := by unfold okB; simp; omega
              have HOK := Lib.hid hok
              clear hok
              go_wp2
              go_round
              case rel => exact ⟨e + 1, by go_num, by omega, Lib.hid (fun j y hj hy => by
                by_cases hje : j = e
                · subst hje; rw [HX.out] at hy; rw [← Option.some.inj hy]; exact HOK.out
                · exact HE.out j y (by omega) hy)⟩
              case measure => simp [intOf]; omega
        · have hee : e = l.length := by omega
          have hrow : rowB ls.length l = true := row_yes fun j x hj => HE.out j x (by have := Gr.some_lt hj; omega) hj
          have HROW := Lib.hid hrow
          clear hrow
          go_wp2
          go_round
          case rel => exact ⟨k + 1, by go_num, by omega, Lib.hid (fun j y hj hy => by
            by_cases hje : j = k
            · subst hje; rw [HL.out] at hy; rw [← Option.some.inj hy]; exact HROW.out
            · exact HK.out j y (by omega) hy)⟩
          case measure => simp [intOf]; omega
    · have hall : allB ls.length ls = true := all_yes fun j l hj => HK.out j l (by have := Gr.some_lt hj; omega) hj
      have HA := Lib.hid hall
      clear hall
      go_wp2
      go_ret
      exact ⟨ret_bool (by rw [HA.out]), rfl⟩
end Go.Proofs.Ytjefnmcalmcciaa
