/-
  small.
-/
import Derived.Test.YtjefnmcalmcciaaLives
namespace Go.Proofs.Ytjefnmcalmcciaa
open Go Go.RowKit
set_option linter.unusedVariables false
set_option linter.unusedSimpArgs false

def smallB (ls : List (List Int)) : Bool := decide (ls.length ≤ 40) && decide (Gr.sumN (ls.map List.length) ≤ 400)
theorem small_yes {ls : List (List Int)} (h : smallB ls = true) : ls.length ≤ 40 ∧ Gr.sumN (ls.map List.length) ≤ 400 := by
  unfold smallB at h; simpa using h
theorem sum_bound {ls : List (List Int)} {M : Nat} (h : ∀ l ∈ ls, l.length ≤ M) (k : Nat) (hk : k ≤ ls.length) : Gr.sumN ((ls.take k).map List.length) ≤ k * M := by
  induction k with
  | zero => simp [Gr.sumN]
  | succ k ih =>
    obtain ⟨l, hl⟩ : ∃ l, ls[k]? = some l := ⟨_, List.getElem?_eq_getElem (by omega)⟩
    rw [sum_snoc ls k l hl]
    have h1 := ih (by omega)
    have h2 := h l (List.mem_of_getElem? hl)
    rw [Nat.add_mul]; omega

set_option maxHeartbeats 4000000 in
theorem small_any (v : Value) (ls : List (List Int)) (w : World) (h : RowsAt w v ls) (hs : ls.length ≤ 140737488351232) (hl : ∀ l ∈ ls, l.length ≤ 140737488351232) :
    Calls Try.prog 10 #[v] w fun e w' => e = .returned (.bool (smallB ls)) ∧ w = w' := by
  obtain ⟨p, c, rfl⟩ := h.len
  have HR := Lib.hid h; have HL := Lib.hid hl
  clear h hl
  by_cases hn : ls.length ≤ 40
  · have hni : (ls.length : Int) ≤ 40 := by omega
    go_enter Try.func10, Try.ntmps10
    go_wp2
    go_loop [3, 8] (fun s i => ∃ k : Nat, i = .int .i64 k ∧ k ≤ ls.length ∧ s = .int .i64 (Gr.sumN ((ls.take k).map List.length) : Nat)) (fun _ i => ls.length - (intOf i).toNat)
    case atStart => exact ⟨0, rfl, Nat.zero_le _, by simp [Gr.sumN]⟩
    case round =>
      obtain ⟨k, rfl, hk, rfl⟩ := hrel
      by_cases hlt : k < ls.length
      · obtain ⟨l, hl⟩ : ∃ l, ls[k]? = some l := ⟨_, List.getElem?_eq_getElem hlt⟩
        obtain ⟨b, o, q, d, rfl, hc, _, hnc, hcell, hrow⟩ := HR.out.at hl
        have hll := HL.out l (List.mem_of_getElem? hl)
        have hb := sum_bound HL.out k hk
        have hsn := sum_snoc ls k l hl
        have hS : Gr.sumN ((ls.take k).map List.length) ≤ 5629499534049280 := by
          have : k * 140737488351232 ≤ 40 * 140737488351232 := Nat.mul_le_mul_right _ (by omega)
          omega
        have HSN := Lib.hid hsn
        obtain ⟨S, hSS⟩ : ∃ S, S = Gr.sumN ((ls.take k).map List.length) := ⟨_, rfl⟩
        rw [← hSS] at HSN hS ⊢
        have hnl : (ls.length : Int) ≤ 9223372036854775807 := by omega
        clear hb hsn hl hrow hSS
        go_wp2
        go_round
        case rel => exact ⟨k + 1, by go_num, by omega, by rw [HSN.out]; go_num⟩
        case measure => simp [intOf]; omega
      · have hkk : k = ls.length := by omega
        have e : Gr.sumN ((ls.take k).map List.length) = Gr.sumN (ls.map List.length) := by rw [hkk, List.take_length]
        rw [e]
        have hb : smallB ls = decide (Gr.sumN (ls.map List.length) ≤ 400) := by unfold smallB; simp [hn]
        have HB := Lib.hid hb
        clear hb e hkk
        generalize Gr.sumN (ls.map List.length) = S at *
        go_wp2
        go_ret
        exact ⟨ret_bool (by rw [HB.out]; rw [Bool.eq_iff_iff]; simp <;> omega), rfl⟩
  · have hni : ¬ ((ls.length : Int) ≤ 40) := by omega
    have hnd : decide ((ls.length : Int) ≤ 40) = false := by simpa using hni
    have hb : smallB ls = false := by unfold smallB; simp [hn]
    have HB := Lib.hid hb
    clear hb
    go_enter Try.func10, Try.ntmps10
    go_wp2
    go_loop [3, 8] (fun s i => ∃ (k : Nat) (z : Int), i = .int .i64 k ∧ k ≤ ls.length ∧ s = .int .i64 z) (fun _ i => ls.length - (intOf i).toNat)
    case atStart => exact ⟨0, 0, rfl, Nat.zero_le _, rfl⟩
    case round =>
      obtain ⟨k, z, rfl, hk, rfl⟩ := hrel
      by_cases hlt : k < ls.length
      · obtain ⟨l, hl⟩ : ∃ l, ls[k]? = some l := ⟨_, List.getElem?_eq_getElem hlt⟩
        obtain ⟨b, o, q, d, rfl, hc, _, hnc, hcell, hrow⟩ := HR.out.at hl
        have hnl : (ls.length : Int) ≤ 9223372036854775807 := by omega
        clear hl hrow
        go_wp2
        go_round
        case rel => exact ⟨k + 1, _, by go_num, by omega, rfl⟩
        case measure => simp [intOf]; omega
      · go_wp2
        go_ret
        exact ⟨ret_bool (by rw [HB.out]), rfl⟩
end Go.Proofs.Ytjefnmcalmcciaa
