/-
  OrderGroups: its walk.
-/
import Derived.Test.YtjefnmcalmcciaaRefG
namespace Go.Proofs.Ytjefnmcalmcciaa
open Go Go.RowKit
set_option linter.unusedVariables false
set_option linter.unusedSimpArgs false

set_option maxHeartbeats 4000000 in
set_option maxRecDepth 100000 in
theorem orderGroups_walk (w : World) (v : Value) (ls : List (List Int)) (hr : RowsAt w v ls) (hs : ls.length ≤ 140737488351232) (hl : ∀ l ∈ ls, l.length ≤ 140737488351232) :
    Calls Try.prog 3 #[v] w fun e w' => e = .returned (.bool true) ∧ Below w.heap.size w w' := by
  obtain ⟨p0, c0, rfl⟩ := hr.len
  have HR := Lib.hid hr; have HL := Lib.hid hl
  clear hr hl
  go_enter Try.func3, Try.ntmps3
  go_wp2_with fail
  refine (lives_any _).mono ?_
  rintro e w1 ⟨rfl, hb1⟩
  have HB1 := Lib.hid hb1; clear hb1
  go_wp2_with fail
  refine (small_any _ ls _ (HR.out.below HB1.out) hs HL.out).mono ?_
  rintro e w1' ⟨rfl, rfl⟩
  cases hsm : smallB ls with
  | false =>
    go_wp2_with fail
    refine (lives_any _).mono ?_
    rintro e w2 ⟨rfl, hb2⟩
    have HB2 := Lib.hid (HB1.out.trans (hb2.mono HB1.out.size)); clear hb2
    go_wp2_with fail
    go_ret
    exact ⟨rfl, HB2.out⟩
  | true =>
    obtain ⟨hn40, hs400⟩ := small_yes hsm
    have hll : ∀ l ∈ ls, l.length ≤ 1000000000 := fun l hl => by
      obtain ⟨k, hk⟩ := List.mem_iff_getElem?.1 hl
      have h1 := sum_snoc ls k l hk
      have h2 : Gr.sumN ((ls.take (k + 1)).map List.length) ≤ Gr.sumN (ls.map List.length) := by
        conv => rhs; rw [← List.take_append_drop (k + 1) ls, List.map_append, Gr.sumN_append]
        omega
      omega
    have HLL := Lib.hid hll
    clear hsm hll
    go_wp2_with fail
    refine (Groups_any _ ls _ (HR.out.below HB1.out) (by omega) (by omega)).mono ?_
    intro e w2 hp2
    obtain ⟨L1, q1, d1, e1, rfl, hrow1, hcase, hb2⟩ : ∃ L1 q1 d1 e1, e = .returned (.tuple #[.slice q1 (List.length L1) d1, .int .i64 e1]) ∧ RowsAt w2 (.slice q1 (List.length L1) d1) L1 ∧ ((allB ls.length ls = false ∧ L1 = [] ∧ e1 = 1) ∨ (allB ls.length ls = true ∧ e1 = 0 ∧ ∃ L, L1 = ints L ∧ Gr.IsGroups (natG ls) L)) ∧ Below w1.heap.size w1 w2 := by
      rcases hp2 with ⟨h1, rfl, h2⟩ | ⟨h1, L, lv, rfl, h2, h3, h4, h5⟩
      · exact ⟨[], none, 0, 1, rfl, .inl ⟨rfl, none, 0, rfl⟩, .inl ⟨h1, rfl, rfl⟩, h2⟩
      · obtain ⟨q, d, rfl⟩ := h3.len
        exact ⟨ints L, q, d, 0, rfl, h3, .inr ⟨h1, rfl, L, rfl, h2⟩, h5⟩
    have HB2 := Lib.hid (HB1.out.trans (hb2.mono HB1.out.size)); have HROW1 := Lib.hid hrow1; have HC := Lib.hid hcase
    clear hp2 hb2 hrow1 hcase
    go_wp2_with fail
    refine (refGroups_any _ ls _ (HR.out.below HB2.out) (by omega) HLL.out).mono ?_
    intro e w3 hp3
    obtain ⟨q3, d3, rfl, hrow3, hb3⟩ : ∃ q3 d3, e = .returned (.tuple #[.slice q3 L1.length d3, .int .i64 e1]) ∧ RowsAt w3 (.slice q3 L1.length d3) L1 ∧ Below w2.heap.size w2 w3 := by
      rcases hp3 with ⟨h1, rfl, h2⟩ | ⟨h1, L, lv, rfl, h2, h3, h4⟩
      · rcases HC.out with ⟨_, rfl, rfl⟩ | ⟨h5, _⟩
        · exact ⟨none, 0, rfl, .inl ⟨rfl, none, 0, rfl⟩, h2⟩
        · rw [h1] at h5; cases h5
      · rcases HC.out with ⟨h5, _⟩ | ⟨_, rfl, L0, rfl, h6⟩
        · rw [h1] at h5; cases h5
        · obtain rfl := h2.uniq h6
          obtain ⟨q, d, rfl⟩ := h3.len
          exact ⟨q, d, rfl, h3, h4⟩
    have hlen : L1.length ≤ 40 := by
      rcases HC.out with ⟨_, rfl, _⟩ | ⟨h5, _, L0, rfl, h6⟩
      · simp
      · have h7 := h6.1.len_le; have h8 := h6.1.le (good_natG h5)
        rw [natG_len] at h8
        rw [ints_len]; omega
    have hlr : ∀ l ∈ L1, l.length ≤ 1000000000 := by
      rcases HC.out with ⟨_, rfl, _⟩ | ⟨_, _, L0, rfl, h7⟩
      · intro l hl; cases hl
      · intro l hl
        obtain ⟨l0, hl0, rfl⟩ := List.mem_map.1 hl
        obtain ⟨pp, hpp⟩ := List.mem_iff_getElem?.1 hl0
        obtain ⟨i, _, rfl⟩ := h7.1 pp l0 hpp
        have := Gr.nodup_le (natG ls).length _ (Gr.grp_nodup (natG ls) i) (fun x hx => (Gr.mem_grp.1 hx).1)
        rw [natG_len] at this
        simp; omega
    have HLR := Lib.hid hlr
    have HR1 := Lib.hid (HROW1.out.below hb3); have HR3 := Lib.hid hrow3
    have HB3 := Lib.hid (HB2.out.trans (hb3.mono HB2.out.size))
    clear hp3 hrow3 hb3 HROW1 HC hlr
    go_wp2_with fail
    go_loopw [39] (fun i wx => ∃ k m : Nat, i = .int .i64 k ∧ k ≤ L1.length ∧ wx = w3.drewN m) (fun i _ => L1.length - (intOf i).toNat)
    case atStart => exact ⟨0, 0, rfl, Nat.zero_le _, rfl⟩
    case round =>
      obtain ⟨k, m, rfl, hk, hwx⟩ := hrel
      subst hwx
      by_cases hkl : k < L1.length
      · obtain ⟨l, hlk⟩ : ∃ l, L1[k]? = some l := ⟨_, List.getElem?_eq_getElem hkl⟩
        obtain ⟨ba, oa, qa, da, ea, hca, hza, hda, fa, ia⟩ := HR1.out.at hlk
        obtain ⟨bb, ob, qb, db, eb, hcb, hzb, hdb, fb, ib⟩ := HR3.out.at hlk
        subst ea; subst eb
        have IA := Lib.hid ia; have IB := Lib.hid ib
        have hll := HLR.out l (List.mem_of_getElem? hlk)
        have hki : (k : Int) < L1.length := by omega
        have hbq : ((l.length : Int) != (l.length : Int)) = false := by simp
        clear ia ib hlk hza hzb
        go_wp2_with fail
        go_quiet (fail)
        go_wp2_with fail
        go_loopw [58] (fun i wx => ∃ e m : Nat, i = .int .i64 e ∧ e ≤ l.length ∧ wx = w3.drewN m) (fun i _ => l.length - (intOf i).toNat)
        case atStart => exact ⟨0, _, rfl, Nat.zero_le _, rfl⟩
        case round =>
          obtain ⟨e, m2, rfl, he, hwx⟩ := hrel
          subst hwx
          by_cases hel : e < l.length
          · obtain ⟨x, hx⟩ : ∃ x, l[e]? = some x := ⟨_, List.getElem?_eq_getElem hel⟩
            obtain ⟨b3, o3, e3, hc3, hz3, hd3, f3⟩ := IA.out.at hx
            obtain ⟨b4, o4, e4, hc4, hz4, hd4, f4⟩ := IB.out.at hx
            subst e3; subst e4
            have hei : (e : Int) < l.length := by omega
            have hxq : ((x : Int) != (x : Int)) = false := by simp
            clear hx hz3 hz4
            go_wp2_with fail
            go_quiet (fail)
            go_wp2
            go_roundw
            case rel => exact ⟨e + 1, _, by go_num, by omega, rfl⟩
            case measure => simp [intOf]; omega
          · go_wp2
            go_roundw
            case rel => exact ⟨k + 1, m2, by go_num, by omega, rfl⟩
            case measure => simp [intOf]; omega
      · go_wp2
        go_ret
        exact ⟨rfl, below_drewN HB3.out _⟩
end Go.Proofs.Ytjefnmcalmcciaa
