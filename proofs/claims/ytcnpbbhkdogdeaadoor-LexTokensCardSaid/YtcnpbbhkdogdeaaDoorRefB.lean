/-
  The document's answers, layer 1: Take, Skip.
-/
import Derived.Test.YtcnpbbhkdogdeaaDoorRefA
namespace Go.Proofs.YtcnpbbhkdogdeaaDoor
open Go Go.RowKit

set_option maxHeartbeats 1000000 in
theorem take_any (l L : List UInt8) (a : Nat) (w : World) (ha : a ≤ l.length) (hm : l.length ≤ 1000000) (hL : L.length ≤ 1000000) (h0 : memB 0 L = false) :
    Calls Tryd.prog 30 #[.string ⟨l.toArray⟩, .int .i64 a, .string ⟨L.toArray⟩] w fun e w' => e = .returned (.int .i64 (Lx.cnt (fun c => memB c L) (l.drop a))) ∧ w = w' := by
  go_enter Tryd.func30, Tryd.ntmps30
  go_wp2_with fail
  go_loop [7] (fun i => ∃ k : Nat, a + k ≤ l.length ∧ i = .int .i64 k ∧ Hid (k + Lx.cnt (fun c => memB c L) (l.drop (a + k)) = Lx.cnt (fun c => memB c L) (l.drop a))) (fun i => l.length - (intOf i).toNat)
  case atStart => exact ⟨0, by omega, rfl, by show 0 + _ = _; rw [Nat.zero_add, Nat.add_zero]⟩
  case round =>
    obtain ⟨k, hk, rfl, hc⟩ := hrel
    cases hb : memB (Lx.at0 l (a + k)) L
    · have hs := Lx.cnt_stop (fun c => memB c L) l (a + k) hb
      have Hc : Hid (Lx.cnt (fun c => memB c L) (l.drop a) = k) := by have := hc.out; rw [hs] at this; exact Lib.hid (by omega)
      clear hs hc
      rw [Hc.out]
      have Hb := Lib.hid hb; clear hb
      by_cases hlt : a + k < l.length
      · go_wp2_with fail
        refine (in_any _ L _ hL).mono ?_; rintro e w1 ⟨rfl, rfl⟩
        rw [str_at l (a + k) (str_lt l (a + k) hlt), Hb.out]
        go_wp2_with fail
        go_ret
        exact ⟨by rw [Hc.out]; rfl, rfl⟩
      · go_wp2_with fail
        go_ret
        exact ⟨by rw [Hc.out]; rfl, rfl⟩
    · obtain ⟨hlt, hs⟩ := Lx.cnt_step (fun c => memB c L) l (a + k) h0 hb
      have Hc : Hid ((k + 1) + Lx.cnt (fun c => memB c L) (l.drop (a + (k + 1))) = Lx.cnt (fun c => memB c L) (l.drop a)) := by have := hc.out; rw [hs] at this; rw [← Nat.add_assoc a]; exact Lib.hid (by omega)
      clear hs hc
      generalize Lx.cnt (fun c => memB c L) (l.drop a) = T at *
      have Hb := Lib.hid hb; clear hb
      go_wp2_with fail
      refine (in_any _ L _ hL).mono ?_; rintro e w1 ⟨rfl, rfl⟩
      rw [str_at l (a + k) (str_lt l (a + k) hlt), Hb.out]
      go_wp2_with fail
      go_round
      case rel => exact ⟨k + 1, by omega, by go_num, Hc⟩
      case measure => simp [intOf]; omega

set_option maxHeartbeats 1000000 in
theorem refSkip_any (l : List UInt8) (a : Nat) (w : World) (ha : a ≤ l.length) (hm : l.length ≤ 1000000) :
    Calls Tryd.prog 17 #[.string ⟨l.toArray⟩, .int .i64 a] w fun e w' => e = .returned (.int .i64 ((a + Lx.skipC false (l.drop a) : Nat) : Int)) ∧ w = w' := by
  generalize hT : a + Lx.skipC false (l.drop a) = T
  have HT := Lib.hid hT; clear hT
  go_enter Tryd.func17, Tryd.ntmps17
  go_wp2_with fail
  go_loop [1] (fun i => ∃ k : Nat, k ≤ l.length ∧ i = .int .i64 k ∧ Hid (k + Lx.skipC false (l.drop k) = T)) (fun i => l.length - (intOf i).toNat)
  case atStart => exact ⟨a, ha, rfl, HT⟩
  case round =>
    clear HT ha a
    obtain ⟨k, hk, rfl, hc⟩ := hrel
    by_cases hlt : k < l.length
    · have e := str_at l k (str_lt l k hlt)
      have He := Lib.hid e; clear e
      cases hb : Lx.blankB (Lx.at0 l k)
      · by_cases hs : (Lx.at0 l k).toNat = 59
        · obtain ⟨_, h2⟩ := Lx.skip_semi l k hs
          have h3 := Lx.skip_note l k hlt (by omega)
          have Hc : Hid (k + Lx.skipC true (l.drop k) = T) := by have := hc.out; exact Lib.hid (by omega)
          have h1 : ((((ByteArray.mk l.toArray)[k]'(str_lt l k hlt)).toNat : Int) != 59) = false := by rw [He.out]; simp [hs]
          have Hb := Lib.hid hb; have Hs := Lib.hid hs
          clear hb hs h2 h3 hc
          go_wp2_with fail
          refine (in_blank _ _).mono ?_; rintro e w1 ⟨rfl, rfl⟩
          have hbl : Lx.blankB ((ByteArray.mk l.toArray)[k]'(str_lt l k hlt)) = false := by rw [He.out, Hb.out]
          rw [hbl]
          clear hbl
          go_wp2_with fail
          clear h1
          go_loop [1] (fun i => ∃ j : Nat, k ≤ j ∧ j ≤ l.length ∧ i = .int .i64 j ∧ Hid (j + Lx.skipC true (l.drop j) = T)) (fun i => l.length - (intOf i).toNat)
          case atStart => exact ⟨k, by omega, by omega, rfl, Hc⟩
          case round =>
            clear Hc
            obtain ⟨j, hkj, hj, rfl, hd⟩ := hrel
            by_cases hjl : j < l.length
            · have e := str_at l j (str_lt l j hjl)
              by_cases h10 : (Lx.at0 l j).toNat = 10
              · have h1 : ((((ByteArray.mk l.toArray)[j]'(str_lt l j hjl)).toNat : Int) != 10) = false := by rw [e]; simp [h10]
                have h4 := Lx.skip_line l j (fun _ => h10)
                have Hd : Hid (j + Lx.skipC false (l.drop j) = T) := by have := hd.out; rw [h4] at this; exact Lib.hid this
                have hjk : k < j := by
                  rcases Nat.lt_or_ge k j with h | h
                  · exact h
                  · obtain rfl : k = j := by omega
                    have := Hs.out; omega
                clear h4 hd e h10
                go_wp2
                go_round
                case rel => exact ⟨j, by omega, rfl, Hd⟩
                case measure => simp [intOf]; omega
              · have h1 : ((((ByteArray.mk l.toArray)[j]'(str_lt l j hjl)).toNat : Int) != 10) = true := by rw [e]; simp; omega
                have h4 := Lx.skip_note l j hjl h10
                have Hd : Hid ((j + 1) + Lx.skipC true (l.drop (j + 1)) = T) := by have := hd.out; exact Lib.hid (by omega)
                clear h4 hd e h10
                go_wp2
                go_round
                case rel => exact ⟨j + 1, by omega, by omega, by go_num, Hd⟩
                case measure => simp [intOf]; omega
            · have h4 := Lx.skip_line l j (fun h => absurd h hjl)
              have Hd : Hid (j + Lx.skipC false (l.drop j) = T) := by have := hd.out; rw [h4] at this; exact Lib.hid this
              clear h4 hd
              go_wp2
              go_round
              case rel => exact ⟨j, by omega, rfl, Hd⟩
              case measure => simp [intOf]; omega
        · have h2 := Lx.skip_end l k hb hs
          have Hc : Hid (T = k) := by have := hc.out; exact Lib.hid (by omega)
          have h1 : ((((ByteArray.mk l.toArray)[k]'(str_lt l k hlt)).toNat : Int) != 59) = true := by rw [He.out]; simp; omega
          have Hb := Lib.hid hb
          clear hb hs h2 hc
          go_wp2_with fail
          refine (in_blank _ _).mono ?_; rintro e w1 ⟨rfl, rfl⟩
          have hbl : Lx.blankB ((ByteArray.mk l.toArray)[k]'(str_lt l k hlt)) = false := by rw [He.out, Hb.out]
          rw [hbl]
          clear hbl
          go_wp2_with fail
          go_ret
          exact ⟨by rw [Hc.out]; rfl, rfl⟩
      · obtain ⟨_, h2⟩ := Lx.skip_blank l k hb
        have Hc : Hid ((k + 1) + Lx.skipC false (l.drop (k + 1)) = T) := by have := hc.out; exact Lib.hid (by omega)
        have Hb := Lib.hid hb
        clear hb h2 hc
        go_wp2_with fail
        refine (in_blank _ _).mono ?_; rintro e w1 ⟨rfl, rfl⟩
        have hbl : Lx.blankB ((ByteArray.mk l.toArray)[k]'(str_lt l k hlt)) = true := by rw [He.out, Hb.out]
        rw [hbl]
        clear hbl
        go_wp2_with fail
        go_round
        case rel => exact ⟨k + 1, by omega, by go_num, Hc⟩
        case measure => simp [intOf]; omega
    · have h2 : Lx.skipC false (l.drop k) = 0 := by rw [List.drop_eq_nil_of_le (by omega)]; rfl
      have Hc : Hid (T = k) := by have := hc.out; exact Lib.hid (by omega)
      clear h2 hc
      go_wp2_with fail
      go_ret
      exact ⟨by rw [Hc.out]; rfl, rfl⟩
end Go.Proofs.YtcnpbbhkdogdeaaDoor
