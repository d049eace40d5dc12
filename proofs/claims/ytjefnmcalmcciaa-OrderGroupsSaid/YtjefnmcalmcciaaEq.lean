/-
  slices.Equal, slices.EqualFunc.
-/
import Derived.Test.YtjefnmcalmcciaaSmall
namespace Go.Proofs.Ytjefnmcalmcciaa
open Go Go.RowKit
set_option linter.unusedVariables false
set_option linter.unusedSimpArgs false

theorem ints_drewN {w : World} {v : Value} {l : List Int} (h : IntsAt w v l) (k : Nat) : IntsAt (w.drewN k) v l := h
theorem rows_drewN {w : World} {v : Value} {l : List (List Int)} (h : RowsAt w v l) (k : Nat) : RowsAt (w.drewN k) v l := h
theorem drewN_add (w : World) (a b : Nat) : ∃ c, (w.drewN a).drewN b = w.drewN c := ⟨a + b, by simp⟩

set_option maxHeartbeats 4000000 in
theorem equal_any (v1 v2 : Value) (l1 l2 : List Int) (w : World) (h1 : IntsAt w v1 l1) (h2 : IntsAt w v2 l2) (hs1 : l1.length ≤ 1000000000) (hs2 : l2.length ≤ 1000000000) :
    Calls Try.prog 15 #[v1, v2] w fun e w' => e = .returned (.bool (decide (l1 = l2))) ∧ ∃ k, w' = w.drewN k := by
  obtain ⟨p1, c1, rfl⟩ := h1.len
  obtain ⟨p2, c2, rfl⟩ := h2.len
  have H1 := Lib.hid h1; have H2 := Lib.hid h2
  clear h1 h2
  by_cases hlen : l1.length = l2.length
  · have hq : ((l1.length : Int) != (l2.length : Int)) = false := by simp; omega
    have HLEN := Lib.hid hlen
    have hli : (l2.length : Int) = (l1.length : Int) := by omega
    clear hq
    go_enter Try.func15, Try.ntmps15
    clear hlen
    go_wp2
    go_loopw [13] (fun i wr => ∃ k m : Nat, i = .int .i64 k ∧ k ≤ l1.length ∧ Hid (∀ j, j < k → l1[j]? = l2[j]?) ∧ wr = w.drewN m) (fun i _ => l1.length - (intOf i).toNat)
    case atStart => exact ⟨0, 0, rfl, Nat.zero_le _, Lib.hid (fun j hj => absurd hj (Nat.not_lt_zero j)), rfl⟩
    case round =>
      obtain ⟨k, m, rfl, hk, HK, hwr⟩ := hrel
      subst hwr
      by_cases hlt : k < l1.length
      · obtain ⟨x, hx⟩ : ∃ x, l1[k]? = some x := ⟨_, List.getElem?_eq_getElem hlt⟩
        obtain ⟨y, hy⟩ : ∃ y, l2[k]? = some y := ⟨_, List.getElem?_eq_getElem (by have := HLEN.out; omega)⟩
        obtain ⟨b1, o1, rfl, hc1, hz1, hd1, e1⟩ := H1.out.at hx
        obtain ⟨b2, o2, rfl, hc2, hz2, hd2, e2⟩ := H2.out.at hy
        have HX := Lib.hid hx; have HY := Lib.hid hy
        have hlt2 : k < l2.length := by have := HLEN.out; omega
        have hki : (k : Int) < l1.length := by omega
        clear hz1 hz2 hx hy
        by_cases hxy : x = y
        · have hq : ((x : Int) != (y : Int)) = false := by simp [hxy]
          have HXY := Lib.hid hxy
          subst hxy
          go_wp2_with fail
          go_quiet (fail)
          go_wp2
          go_roundw
          case rel => exact ⟨k + 1, _, by go_num, by omega, Lib.hid (fun j hj => by
            by_cases e : j = k
            · subst e; rw [HX.out, HY.out]
            · exact HK.out j (by omega)), rfl⟩
          case measure => simp [intOf]; omega
        · have hq : ((x : Int) != (y : Int)) = true := by simp [hxy]
          have hne : ¬ l1 = l2 := fun e => hxy (by have := HX.out; rw [e, HY.out] at this; exact (Option.some.inj this).symm)
          have HNE := Lib.hid hne
          clear hne
          go_wp2_with fail
          go_quiet (fail)
          go_wp2
          go_ret
          exact ⟨ret_bool (by have := HNE.out; simp [this]), drewN_add _ _ _⟩
      · have he : l1 = l2 := by
          apply List.ext_getElem?
          intro j
          by_cases hj : j < k
          · exact HK.out j hj
          · have := HLEN.out
            rw [List.getElem?_eq_none (by omega), List.getElem?_eq_none (by omega)]
        have HE := Lib.hid he
        clear he
        go_wp2
        go_ret
        exact ⟨ret_bool (by have := HE.out; simp [this]), _, rfl⟩
  · have hq : ((l1.length : Int) != (l2.length : Int)) = true := by simp; omega
    have hq2 : ¬ ((l1.length : Int) = (l2.length : Int)) := by omega
    have hne : ¬ l1 = l2 := fun e => hlen (by rw [e])
    have HNE := Lib.hid hne
    clear hne hlen
    go_enter Try.func15, Try.ntmps15
    go_wp2
    go_ret
    exact ⟨ret_bool (by have := HNE.out; simp [this]), 0, rfl⟩

set_option maxHeartbeats 4000000 in
theorem equalFunc_same (v1 v2 : Value) (ls : List (List Int)) (w : World) (h1 : RowsAt w v1 ls) (h2 : RowsAt w v2 ls) (hs : ls.length ≤ 1000000000) (hl : ∀ l ∈ ls, l.length ≤ 1000000000) :
    Calls Try.prog 16 #[v1, v2, .func (.func 15) #[] #[]] w fun e w' => e = .returned (.bool true) ∧ ∃ k, w' = w.drewN k := by
  obtain ⟨p1, c1, rfl⟩ := h1.len
  obtain ⟨p2, c2, rfl⟩ := h2.len
  have H1 := Lib.hid h1; have H2 := Lib.hid h2; have HL := Lib.hid hl
  clear h1 h2 hl
  have cf : ∀ args w, (callFunc 15 args).run Try.prog w = .ok (.enter 15 args) w := by intro args w; kernel_rfl
  go_enter Try.func16, Try.ntmps16
  go_wp2
  go_loopw [17] (fun i wr => ∃ k m : Nat, i = .int .i64 k ∧ k ≤ ls.length ∧ wr = w.drewN m) (fun i _ => ls.length - (intOf i).toNat)
  case atStart => exact ⟨0, 0, rfl, Nat.zero_le _, rfl⟩
  case round =>
    obtain ⟨k, m, rfl, hk, hwr⟩ := hrel
    subst hwr
    by_cases hlt : k < ls.length
    · obtain ⟨l, hx⟩ : ∃ l, ls[k]? = some l := ⟨_, List.getElem?_eq_getElem hlt⟩
      obtain ⟨b1, o1, q1, d1, rfl, hc1, hz1, hd1, e1, i1⟩ := H1.out.at hx
      obtain ⟨b2, o2, q2, d2, rfl, hc2, hz2, hd2, e2, i2⟩ := H2.out.at hx
      have I1 := Lib.hid i1; have I2 := Lib.hid i2
      have hll := HL.out l (List.mem_of_getElem? hx)
      clear hz1 hz2 hx i1 i2
      go_wp2_with fail
      refine (equal_any _ _ l l _ (ints_drewN I1.out _) (ints_drewN I2.out _) hll hll).mono ?_
      rintro e w2 ⟨rfl, nq, rfl⟩
      rw [show decide (l = l) = true by simp]
      obtain ⟨mm, hmm⟩ := drewN_add w m nq
      rw [hmm]
      clear hmm
      go_wp2
      go_roundw
      case rel => exact ⟨k + 1, mm, by go_num, by omega, rfl⟩
      case measure => simp [intOf]; omega
    · go_wp2
      go_ret
      exact ⟨rfl, _, rfl⟩
end Go.Proofs.Ytjefnmcalmcciaa
