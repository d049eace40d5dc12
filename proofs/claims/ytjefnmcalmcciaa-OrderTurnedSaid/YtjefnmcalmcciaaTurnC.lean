/-
  OrderTurned: slices.ContainsFunc with what is asked.
-/
import Derived.Test.YtjefnmcalmcciaaTurnP
namespace Go.Proofs.Ytjefnmcalmcciaa
open Go Go.RowKit
set_option linter.unusedVariables false
set_option linter.unusedSimpArgs false

set_option maxHeartbeats 4000000 in
theorem asked_any (b : Nat) (v h : Value) (l m : List Int) (w : World) (hc : w.cell? ⟨b, 0, none⟩ = some v) (h1 : IntsAt w v l) (h2 : IntsAt w h m) (hs1 : l.length ≤ 1000000000) (hs2 : m.length ≤ 1000000000) :
    Calls Try.prog 14 #[h, .pointer (some ⟨b, 0, none⟩)] w fun e w' => e = .returned (.bool (decide (l = m))) ∧ ∃ k, w' = w.drewN k := by
  have H1 := Lib.hid h1; have H2 := Lib.hid h2
  clear h1 h2
  go_enter Try.func14, Try.ntmps14
  go_wp2_with fail
  refine (equal_any _ _ l m _ H1.out H2.out hs1 hs2).mono ?_
  rintro e w2 ⟨rfl, hq⟩
  go_wp2_with fail
  go_ret
  exact ⟨rfl, hq⟩
theorem ret_decide {a b : Bool} (h : a = b) : Ending.returned (.bool a) = .returned (.bool b) := by rw [h]
set_option maxHeartbeats 4000000 in
theorem index_any (b : Nat) (v s : Value) (l : List Int) (ls : List (List Int)) (w : World) (hc : w.cell? ⟨b, 0, none⟩ = some v) (h1 : IntsAt w v l) (h2 : RowsAt w s ls) (hs1 : l.length ≤ 1000000000) (hs : ls.length ≤ 1000000000) (hs2 : ∀ m ∈ ls, m.length ≤ 1000000000) (hmem : l ∈ ls) :
    Calls Try.prog 22 #[s, .func (.func 14) #[] #[.pointer (some ⟨b, 0, none⟩)]] w fun e w' => (∃ i : Nat, e = .returned (.int .i64 i)) ∧ ∃ k, w' = w.drewN k := by
  obtain ⟨p2, c2, rfl⟩ := h2.len
  have H1 := Lib.hid h1; have H2 := Lib.hid h2; have HS := Lib.hid hs2; have HM := Lib.hid hmem
  clear h1 h2 hs2 hmem
  go_enter Try.func22, Try.ntmps22
  have cf : ∀ args w, (callFunc 14 args).run Try.prog w = .ok (.enter 14 args) w := by intro args w; kernel_rfl
  go_wp2
  go_loopw [8] (fun i wr => ∃ k m : Nat, i = .int .i64 k ∧ k ≤ ls.length ∧ Hid (∀ j, j < k → ls[j]? ≠ some l) ∧ wr = w.drewN m) (fun i _ => ls.length - (intOf i).toNat)
  case atStart => exact ⟨0, 0, rfl, Nat.zero_le _, Lib.hid (fun j hj => absurd hj (Nat.not_lt_zero _)), rfl⟩
  case round =>
    obtain ⟨k, m, rfl, hk, HK, hwr⟩ := hrel
    subst hwr
    by_cases hlt : k < ls.length
    · obtain ⟨y, hy⟩ : ∃ y, ls[k]? = some y := ⟨_, List.getElem?_eq_getElem hlt⟩
      obtain ⟨b2, o2, q2, d2, rfl, hc2, hz2, hd2, e2, i2⟩ := H2.out.at hy
      have I2 := Lib.hid i2; have HY := Lib.hid hy
      have hyl := HS.out y (List.mem_of_getElem? hy)
      clear hz2 i2 hy
      go_wp2_with fail
      refine (asked_any b v _ l y (w.drewN m) hc (ints_drewN H1.out _) (ints_drewN I2.out _) hs1 hyl).mono ?_
      rintro e w2 ⟨rfl, nq, rfl⟩
      obtain ⟨mm, hmm⟩ := drewN_add w m nq
      rw [hmm]
      clear hmm
      by_cases hly : l = y
      · rw [show decide (l = y) = true by simp [hly]]
        clear hly
        go_wp2
        go_ret
        exact ⟨⟨k, rfl⟩, _, rfl⟩
      · rw [show decide (l = y) = false by simp [hly]]
        have HN : Hid (∀ j, j < k + 1 → ls[j]? ≠ some l) := Lib.hid (fun j hj => by
          by_cases e : j = k
          · subst e; rw [HY.out]; exact fun hc => hly (Option.some.inj hc).symm
          · exact HK.out j (by omega))
        clear hly
        go_wp2
        go_roundw
        case rel => exact ⟨k + 1, mm, by go_num, by omega, HN, rfl⟩
        case measure => simp [intOf]; omega
    · exfalso
      obtain ⟨j, hj⟩ := List.mem_iff_getElem?.1 HM.out
      exact HK.out j (by have := Gr.some_lt hj; omega) hj
set_option maxHeartbeats 4000000 in
theorem contains_any (b : Nat) (v s : Value) (l : List Int) (ls : List (List Int)) (w : World) (hc : w.cell? ⟨b, 0, none⟩ = some v) (h1 : IntsAt w v l) (h2 : RowsAt w s ls) (hs1 : l.length ≤ 1000000000) (hs : ls.length ≤ 1000000000) (hs2 : ∀ m ∈ ls, m.length ≤ 1000000000) (hmem : l ∈ ls) :
    Calls Try.prog 13 #[s, .func (.func 14) #[] #[.pointer (some ⟨b, 0, none⟩)]] w fun e w' => e = .returned (.bool true) ∧ ∃ k, w' = w.drewN k := by
  have H1 := Lib.hid h1; have H2 := Lib.hid h2; have HS := Lib.hid hs2; have HM := Lib.hid hmem; have HC := Lib.hid hc
  clear h1 h2 hs2 hmem hc
  go_enter Try.func13, Try.ntmps13
  go_wp2_with fail
  refine (index_any b v s l ls _ HC.out H1.out H2.out hs1 hs HS.out HM.out).mono ?_
  rintro e w2 ⟨⟨i, rfl⟩, hq⟩
  have hi : (0 : Int) ≤ (i : Int) := by omega
  go_wp2_with fail
  go_ret
  exact ⟨rfl, hq⟩
end Go.Proofs.Ytjefnmcalmcciaa
