/-
  OrderEach: its walk.
-/
import Derived.Test.YtjefnmcalmcciaaEachP
namespace Go.Proofs.Ytjefnmcalmcciaa
open Go Go.RowKit Go.Maps
set_option linter.unusedVariables false
set_option linter.unusedSimpArgs false

theorem lawInt : Maps.Keyed Try.prog 3 := Maps.int_keyed Try.underlying3
theorem zeroInt (w : World) : (zeroValue 3).run Try.prog w = .ok (.int .i64 0) w := by kernel_rfl
theorem int_wf {x : Int} (h1 : -9223372036854775808 ≤ x) (h2 : x ≤ 9223372036854775807) : (Lit.int .i64 x).wf = true := by
  simp [Lit.wf, IntKind.min, IntKind.max, IntKind.bits, IntKind.signed]; omega

/-- The map, so far. -/
def MapAt (L : List (List Nat)) (w2 : World) (Bm : Nat) (ks : List Nat) (w : World) : Prop :=
  ∃ (D : DataW Unit), w.ownsMap Try.prog 3 (plainElem Try.prog 3) Bm ks.length D ∧ MapOf D L ks ∧ Below w2.heap.size w2 w

set_option maxHeartbeats 4000000 in
set_option maxRecDepth 100000 in
theorem orderEach_walk (w : World) (v : Value) (ls : List (List Int)) (hr : RowsAt w v ls) (hs : ls.length ≤ 140737488351232) (hl : ∀ l ∈ ls, l.length ≤ 140737488351232) :
    Calls Try.prog 4 #[v] w fun e w' => e = .returned (.bool true) ∧ Below w.heap.size w w' := by
  obtain ⟨p0, c0, rfl⟩ := hr.len
  have HR := Lib.hid hr; have HL := Lib.hid hl
  clear hr hl
  have hmm := @run_makeMap Try.prog
  go_enter Try.func4, Try.ntmps4
  go_wp2_with fail
  refine (lives_any _).mono ?_
  rintro e w1 ⟨rfl, hb1⟩
  have HB1 := Lib.hid hb1; clear hb1
  go_wp2_with fail
  refine (small_any _ ls _ (HR.out.below HB1.out) hs HL.out).mono ?_
  rintro e w1' ⟨rfl, rfl⟩
  cases hsm : smallB ls with
  | false =>
    go_wp2_with fail
    refine (lives_any _).mono ?_
    rintro e w2 ⟨rfl, hb2⟩
    have HB2 := Lib.hid (HB1.out.trans (hb2.mono HB1.out.size)); clear hb2
    go_wp2_with fail
    go_ret
    exact ⟨rfl, HB2.out⟩
  | true =>
    obtain ⟨hn40, hs400⟩ := small_yes hsm
    clear hsm
    go_wp2_with fail
    refine (Groups_any _ ls _ (HR.out.below HB1.out) (by omega) (by omega)).mono ?_
    rintro e w2 (⟨_, rfl, hb2⟩ | ⟨hall, L, lv, rfl, hgr, hrow, hLl, hb2⟩)
    · have HB2 := Lib.hid (HB1.out.trans (hb2.mono HB1.out.size)); clear hb2
      go_wp2_with fail
      go_ret
      exact ⟨rfl, HB2.out⟩
    · have HB2 := Lib.hid (HB1.out.trans (hb2.mono HB1.out.size))
      have HGOOD := Lib.hid (good_natG hall)
      have HGR := Lib.hid hgr; have HROW := Lib.hid hrow
      have HINT := Lib.hid (ints_natG hall)
      have hnl := natG_len ls
      have HNL := Lib.hid hnl
      have hrow0 := hrow
      obtain ⟨p1, c1, rfl⟩ := hrow.len
      rw [ints_len]
      have hLi : (L.length : Int) ≤ 40 := by omega
      have hnode := (hgr.1.nodup (good_natG hall) L.length (Nat.le_refl _))
      rw [List.take_length] at hnode
      have HNODE := Lib.hid hnode
      have hlt := fun x (h : x ∈ L.flatten) => hgr.1.lt h
      have HLT := Lib.hid hlt
      clear hgr hrow hrow0 hb2 hall hnl hnode hlt
      have HM0 : Hid (MapAt L w2 w2.heap.size ((L.take 0).flatten ++ ([] : List Nat).take 0) (w2.alloc (.map #[] 0))) := Lib.hid ⟨.map [], World.ownsMap_made _ _ _ _, MapOf.nil L, (Below.refl _ _).alloc (Nat.le_refl _) _⟩
      go_wp2_with fail
      go_loopw [41] (fun i wr => ∃ k : Nat, i = .int .i64 k ∧ k ≤ L.length ∧ Hid (MapAt L w2 w2.heap.size ((L.take k).flatten) wr)) (fun i _ => L.length - (intOf i).toNat)
      case atStart => exact ⟨0, rfl, Nat.zero_le _, by simpa using HM0⟩
      case round =>
        clear HM0 hmm
        obtain ⟨k, rfl, hk, HM⟩ := hrel
        by_cases hkl : k < L.length
        · obtain ⟨l, hlk⟩ : ∃ l, L[k]? = some l := ⟨_, List.getElem?_eq_getElem hkl⟩
          obtain ⟨b, o, q, d, hpe, hcm, hnl, hnc, hcell, hints⟩ := HROW.out.at (ints_at hlk)
          rw [nums_len] at hcell hints
          subst hpe
          obtain ⟨D0, _, _, hbe0⟩ := HM.out
          replace hcell := cell_up hbe0 hcell
          have HLK := Lib.hid hlk; have HI := Lib.hid hints
          have hll : (l.length : Int) ≤ 9223372036854775807 := by
            have h1 := sum_ge (ls := L) (l := l) (List.mem_of_getElem? hlk)
            have h2 : l.length ≤ ls.length := by
              have h3 := Gr.nodup_le ls.length l (HNODE.out.sublist (List.sublist_flatten_of_mem (List.mem_of_getElem? hlk))) (fun x hx => by rw [← HNL.out]; exact HLT.out x (List.mem_flatten.2 ⟨l, List.mem_of_getElem? hlk, hx⟩))
              exact h3
            omega
          clear hints hlk hbe0 hnl
          go_wp2_with fail
          go_loopw [48] (fun i wr => ∃ e : Nat, i = .int .i64 e ∧ e ≤ l.length ∧ Hid (MapAt L w2 w2.heap.size ((L.take k).flatten ++ l.take e) wr)) (fun i _ => l.length - (intOf i).toNat)
          case atStart => exact ⟨0, rfl, Nat.zero_le _, by simpa using HM⟩
          case round =>
            clear HM hcell
            obtain ⟨e, rfl, he, HM⟩ := hrel
            by_cases hel : e < l.length
            · obtain ⟨x, hx⟩ : ∃ x, l[e]? = some x := ⟨_, List.getElem?_eq_getElem hel⟩
              obtain ⟨D, hown, hmo, hbe⟩ := HM.out
              obtain ⟨b3, o3, hp3, _, hzz, _, hcell3⟩ := (HI.out.below hbe).at (nums_at hx)
              subst hp3
              have hxF : x ∈ L.flatten := List.mem_flatten.2 ⟨l, List.mem_of_getElem? HLK.out, List.mem_of_getElem? hx⟩
              have hxn : x < ls.length := by have := HLT.out x hxF; rw [HNL.out] at this; exact this
              have hxnot : x ∉ (L.take k).flatten ++ l.take e := by
                have h1 := HNODE.out
                rw [← List.take_append_drop k L, List.flatten_append, List.drop_eq_getElem_cons hkl] at h1
                have e1 : L[k] = l := by have := HLK.out; rw [List.getElem?_eq_getElem hkl] at this; exact Option.some.inj this
                rw [e1, List.flatten_cons, ← List.append_assoc] at h1
                have h2 := (List.nodup_append.1 h1).1
                rw [← List.take_append_drop e l, List.drop_eq_getElem_cons hel] at h2
                have e2 : l[e] = x := by rw [List.getElem?_eq_getElem hel] at hx; exact Option.some.inj hx
                rw [e2, ← List.append_assoc] at h2
                intro hc
                exact (List.nodup_append.1 h2).2.2 x hc x (by simp) rfl
              have hhas : Maps.has D (.int .i64 (x : Int)) = false := by rw [hmo.has x]; simp [hxnot]
              have hput := hmo.put (p := k) hxnot HLK.out (List.mem_of_getElem? hx)
              have hst : (L.take k).flatten ++ l.take e ++ [x] = (L.take k).flatten ++ l.take (e + 1) := by
                have e2 : l[e] = x := by rw [List.getElem?_eq_getElem hel] at hx; exact Option.some.inj hx
                rw [List.take_succ_eq_append_getElem hel, e2, List.append_assoc]
              rw [hst] at hput
              have hcnt : ((L.take k).flatten ++ l.take (e + 1)).length = ((L.take k).flatten ++ l.take e).length + 1 := by rw [← hst, List.length_append]; rfl
              have hcb : ((L.take k).flatten ++ l.take e).length < 1000 := by
                have h1 := hmo.size
                have h2 : ((L.take k).flatten ++ l.take e).length ≤ L.flatten.length := by
                  have e1 : L[k] = l := by have := HLK.out; rw [List.getElem?_eq_getElem hkl] at this; exact Option.some.inj this
                  conv => rhs; rw [← List.take_append_drop k L, List.flatten_append, List.drop_eq_getElem_cons hkl, e1, List.flatten_cons]
                  simp only [List.length_append, List.length_take]; omega
                have h3 := Gr.nodup_le ls.length L.flatten HNODE.out (fun y hy => by rw [← HNL.out]; exact HLT.out y hy)
                omega
              have hkey : keyOf Try.prog 3 (.int .i64 (x : Int)) = some (.int .i64 (x : Int)) := Maps.keyOf_int_mk Try.underlying3 (int_wf (by omega) (by omega))
              have HOWN := Lib.hid hown; have HPUT := Lib.hid hput; have HBE := Lib.hid hbe; have HCNT := Lib.hid hcnt; have HKEY := Lib.hid hkey
              have hx0 : ¬ ((x : Int) < 0) := by omega
              have hxl : ¬ ((ls.length : Int) ≤ (x : Int)) := by omega
              generalize hKS : ((L.take k).flatten ++ l.take e).length = cnt at *
              clear hown hput hbe hcnt hkey hst hxnot hmo hx hxF HM hzz hKS
              go_wp2_with (first
                | (at_lookup; (refine wpList_lookup_own_ok_int _ rfl _ _ 31 rfl 3 3 .i64 lawInt Try.underlying31 Try.underlying3 (zeroInt _) w2.heap.size cnt D rfl HOWN.out _ _ rfl HKEY.out ?_); intro c hat hwc; clear hat hwc)
                | (at_mapUpdate; (refine wpList_mapUpdate_own _ rfl _ _ _ 31 rfl 3 3 lawInt Try.underlying31 _ w2.heap.size cnt D rfl HOWN.out (by unfold maxLen; omega) _ _ _ rfl rfl HKEY.out _ [] (plainElem_int Try.underlying3 (int_wf (by omega) (by omega))) ?_); intro w5 hown5 hgr5))
              have HN : Hid (MapAt L w2 w2.heap.size ((L.take k).flatten ++ l.take (e + 1)) w5) := Lib.hid ⟨_, by rw [HCNT.out]; exact hown5, HPUT.out, HBE.out.grown hgr5 (by have := HBE.out.size; omega) (fun kk hkk => by cases hkk; exact Nat.le_refl _)⟩
              clear hown5 hgr5
              go_wp2
              go_roundw
              case rel => exact ⟨e + 1, by go_num, by omega, HN⟩
              case measure => simp [intOf]; omega
            · have hee : e = l.length := by omega
              have hst : (L.take k).flatten ++ l.take e = (L.take (k + 1)).flatten := by
                have e1 : L[k] = l := by have := HLK.out; rw [List.getElem?_eq_getElem hkl] at this; exact Option.some.inj this
                rw [hee, List.take_length, List.take_succ_eq_append_getElem hkl, e1, List.flatten_append]; simp
              have hm := HM.out
              rw [hst] at hm
              have HN := Lib.hid hm
              clear hm hst hee HM
              go_wp2
              go_roundw
              case rel => exact ⟨k + 1, by go_num, by omega, HN⟩
              case measure => simp [intOf]; omega
        · have hkk : k = L.length := by omega
          have hm := HM.out
          rw [hkk, List.take_length] at hm
          have HMM := Lib.hid hm
          clear hm hkk HM
          obtain ⟨D, hown, hmo, hbe⟩ := HMM.out
          have HOWN := Lib.hid hown; have HMO := Lib.hid hmo; have HBE := Lib.hid hbe
          have hg2 : RowsAt w (.slice p0 ls.length c0) (ints (natG ls)) := by rw [HINT.out]; exact HR.out
          have HG2 := Lib.hid hg2
          have hbw : Below w.heap.size w wr := HB2.out.trans (hbe.mono HB2.out.size)
          have HBW := Lib.hid hbw
          have hszL : (Maps.size D : Int) = (ls.length : Int) := by
            rw [hmo.size, HGR.out.total HGOOD.out, HNL.out]
          have HSZ := Lib.hid hszL
          clear hown hmo hbe hg2 hbw hszL HMM
          go_wp2_with fail
          go_loop [76] (fun i => ∃ k : Nat, i = .int .i64 k ∧ k ≤ ls.length) (fun i => ls.length - (intOf i).toNat)
          case atStart => exact ⟨0, rfl, Nat.zero_le _⟩
          case round =>
            obtain ⟨k, rfl, hk⟩ := hrel
            by_cases hkn : k < ls.length
            · obtain ⟨l, hlk⟩ : ∃ l, (natG ls)[k]? = some l := ⟨_, List.getElem?_eq_getElem (by rw [HNL.out]; exact hkn)⟩
              obtain ⟨b, o, q, d, hpe, hcm, hnl2, hnc, hcell, hints⟩ := (HG2.out.below HBW.out).at (ints_at hlk)
              rw [nums_len] at hcell hints
              subst hpe
              have HLK := Lib.hid hlk; have HI := Lib.hid hints
              have hll : (l.length : Int) ≤ 9223372036854775807 := by
                have h1 := sum_ge (List.mem_of_getElem? hlk)
                rw [sum_natG] at h1
                omega
              clear hints hlk hnl2
              go_wp2_with fail
              go_loop [83] (fun i => ∃ e : Nat, i = .int .i64 e ∧ e ≤ l.length) (fun i => l.length - (intOf i).toNat)
              case atStart => exact ⟨0, rfl, Nat.zero_le _⟩
              case round =>
                clear hcell
                obtain ⟨e, rfl, he⟩ := hrel
                by_cases hel : e < l.length
                · obtain ⟨y, hy⟩ : ∃ y, l[e]? = some y := ⟨_, List.getElem?_eq_getElem hel⟩
                  obtain ⟨b3, o3, hp3, _, hzz, _, hcell3⟩ := HI.out.at (nums_at hy)
                  subst hp3
                  have hhang : Gr.Hang (natG ls) k y := ⟨l, HLK.out, List.mem_of_getElem? hy⟩
                  have hyn : y < (natG ls).length := (HGOOD.out.hang hhang).2
                  obtain ⟨q1, m1, hq1, hm1, ha1⟩ := HMO.out.at' y (HGR.out.2 y hyn)
                  obtain ⟨q2, m2, hq2, hm2, ha2⟩ := HMO.out.at' k (HGR.out.2 k (by rw [HNL.out]; exact hkn))
                  have hle := HGR.out.1.ahead HGOOD.out hq2 hq1 hm2 hm1 hhang
                  have hgt : ¬ ((q2 : Int) < (q1 : Int)) := by omega
                  have HA1 := Lib.hid ha1; have HA2 := Lib.hid ha2
                  rw [HNL.out] at hyn
                  have HK1 : Hid (keyOf Try.prog 3 (.int .i64 (y : Int)) = some (.int .i64 (y : Int))) := Lib.hid (Maps.keyOf_int_mk Try.underlying3 (int_wf (by omega) (by omega)))
                  have HK2 : Hid (keyOf Try.prog 3 (.int .i64 (k : Int)) = some (.int .i64 (k : Int))) := Lib.hid (Maps.keyOf_int_mk Try.underlying3 (int_wf (by omega) (by omega)))
                  clear hzz hy hhang hq1 hm1 ha1 hq2 hm2 ha2 hle
                  go_wp2_with (first
                    | (at_lookup; (refine wpList_lookup_own_int _ rfl (.tmp 87) (.tmp 88) 31 rfl 3 3 .i64 lawInt Try.underlying31 Try.underlying3 (zeroInt _) w2.heap.size _ D rfl HOWN.out _ _ rfl HK1.out ?_); intro d1 hat1 hwc1; have hc1 := hat1.symm.trans HA1.out; injection hc1 with hc1; injection hc1 with _ hc1; subst hc1; clear hat1 hwc1)
                    | (at_lookup; (refine wpList_lookup_own_int _ rfl (.tmp 90) (.tmp 91) 31 rfl 3 3 .i64 lawInt Try.underlying31 Try.underlying3 (zeroInt _) w2.heap.size _ D rfl HOWN.out _ _ rfl HK2.out ?_); intro d2 hat2 hwc2; have hc2 := hat2.symm.trans HA2.out; injection hc2 with hc2; injection hc2 with _ hc2; subst hc2; clear hat2 hwc2))
                  go_round
                  case rel => exact ⟨e + 1, by go_num, by omega⟩
                  case measure => simp [intOf]; omega
                · go_wp2
                  go_round
                  case rel => exact ⟨k + 1, by go_num, by omega⟩
                  case measure => simp [intOf]; omega
            · have hszL := HSZ.out
              go_wp2_with (at_len; refine wpList_len_own _ rfl _ 31 rfl 3 3 Try.underlying31 _ w2.heap.size _ D rfl HOWN.out ?_)
              go_ret
              exact ⟨ret_bool (by simp), HBW.out⟩
end Go.Proofs.Ytjefnmcalmcciaa
