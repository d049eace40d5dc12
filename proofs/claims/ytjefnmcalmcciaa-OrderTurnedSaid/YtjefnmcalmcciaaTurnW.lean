/-
  OrderTurned: its walk.
-/
import Derived.Test.YtjefnmcalmcciaaTurnC
namespace Go.Proofs.Ytjefnmcalmcciaa
open Go Go.RowKit
set_option linter.unusedVariables false
set_option linter.unusedSimpArgs false

def BackRel (g : List (List Nat)) (B : Nat) (w2 : World) (i e : Nat) (w : World) : Prop := ∃ v x, BackAt (w2.heap.size + 1) B g.length w v x ∧ Bk g x i e ∧ Below w2.heap.size w2 w ∧ w2.heap.size + 1 ≤ w.heap.size

set_option maxHeartbeats 4000000 in
set_option maxRecDepth 100000 in
theorem orderTurned_walk (w : World) (v : Value) (ls : List (List Int)) (hr : RowsAt w v ls) (hs : ls.length ≤ 140737488351232) (hl : ∀ l ∈ ls, l.length ≤ 140737488351232) :
    Calls Try.prog 5 #[v] w fun e w' => e = .returned (.bool true) ∧ Below w.heap.size w w' := by
  obtain ⟨p0, c0, rfl⟩ := hr.len
  have HR := Lib.hid hr; have HL := Lib.hid hl
  clear hr hl
  go_enter Try.func5, Try.ntmps5
  go_wp2_with fail
  refine (lives_any _).mono ?_
  rintro e w1 ⟨rfl, hb1⟩
  have HB1 := Lib.hid hb1; clear hb1
  go_wp2_with fail
  refine (small_any _ ls _ (HR.out.below HB1.out) hs HL.out).mono ?_
  rintro e w1' ⟨rfl, rfl⟩
  cases hsm : smallB ls with
  | false =>
    go_wp2_with fail
    refine (lives_any _).mono ?_
    rintro e w2 ⟨rfl, hb2⟩
    have HB2 := Lib.hid (HB1.out.trans (hb2.mono HB1.out.size)); clear hb2
    go_wp2_with fail
    go_ret
    exact ⟨rfl, HB2.out⟩
  | true =>
    obtain ⟨hn40, hs400⟩ := small_yes hsm
    clear hsm
    go_wp2_with fail
    refine (Groups_any _ ls _ (HR.out.below HB1.out) (by omega) (by omega)).mono ?_
    rintro e w2 (⟨_, rfl, hb2⟩ | ⟨hall, L, lv, rfl, hgr, hrow, hLl, hb2⟩)
    · have HB2 := Lib.hid (HB1.out.trans (hb2.mono HB1.out.size)); clear hb2
      go_wp2_with fail
      go_ret
      exact ⟨rfl, HB2.out⟩
    · have HB2 := Lib.hid (HB1.out.trans (hb2.mono HB1.out.size))
      have HGOOD := Lib.hid (good_natG hall); have HGR := Lib.hid hgr; have HROW := Lib.hid hrow
      have hnl : ls.length = (natG ls).length := (natG_len ls).symm
      have hg : RowsAt w (.slice p0 (natG ls).length c0) (ints (natG ls)) := by rw [natG_len, ints_natG hall]; exact HR.out
      have HG := Lib.hid (hg.below HB2.out)
      have hsum : Gr.sumN ((natG ls).map List.length) ≤ 400 := by rw [sum_natG]; exact hs400
      obtain ⟨p1, c1, rfl⟩ := hrow.len
      rw [ints_len]
      rw [hnl] at hn40 hLl ⊢
      have HSUM := Lib.hid hsum
      clear hgr hrow hb2 hall hnl hg hsum hs400 HR HL HB1 hs
      generalize natG ls = g at *
      have hmk := makeRows g.length (by omega)
      have hn40i : (g.length : Int) ≤ 40 := by omega
      have HRR : Hid (BackRel g w2.heap.size w2 0 0 (w2.alloc (.cells (madeCells #[(.slice none 0 0 : Value)] g.length) 30))) := Lib.hid ⟨fun _ => .slice none 0 0, fun _ => [], ⟨by rw [ent_new, madeRows], ⟨fun i hi => World.ownsRow_nil _ _ _ _, fun i j _ _ _ b hb => by cases hb⟩, Nat.lt_succ_self _⟩, Bk.nil g, (Below.refl _ _).alloc (Nat.le_refl _) _, by simp⟩
      go_wp2_with fail
      clear hmk
      go_loopw [36] (fun i wr => ∃ k : Nat, i = .int .i64 k ∧ k ≤ g.length ∧ Hid (BackRel g w2.heap.size w2 k 0 wr)) (fun i _ => g.length - (intOf i).toNat)
      case atStart => exact ⟨0, rfl, Nat.zero_le _, HRR⟩
      case round =>
        clear HRR
        obtain ⟨k, rfl, hk, HRR⟩ := hrel
        by_cases hkn : k < g.length
        · obtain ⟨l, hlk⟩ : ∃ l, g[k]? = some l := ⟨_, List.getElem?_eq_getElem hkn⟩
          obtain ⟨b, o, q, d, hpe, hcm, hzz, hnc, hcell, hints⟩ := HG.out.at (ints_at hlk)
          rw [nums_len] at hcell hints
          subst hpe
          obtain ⟨v0, x0, hba0, hbk0, hbe0, hsz0⟩ := HRR.out
          replace hcell := cell_up hbe0 hcell
          have HLK := Lib.hid hlk; have HI := Lib.hid hints
          have hll : (l.length : Int) ≤ 400 := by
            have h1 := sum_ge (List.mem_of_getElem? hlk)
            have := HSUM.out; omega
          clear hints hlk hzz hba0 hbk0 hbe0 hsz0
          go_wp2_with fail
          go_loopw [43] (fun i wr => ∃ e : Nat, i = .int .i64 e ∧ e ≤ l.length ∧ Hid (BackRel g w2.heap.size w2 k e wr)) (fun i _ => l.length - (intOf i).toNat)
          case atStart => exact ⟨0, rfl, Nat.zero_le _, HRR⟩
          case round =>
            clear HRR hcell
            obtain ⟨e, rfl, he, HRR⟩ := hrel
            by_cases hel : e < l.length
            · obtain ⟨y, hy⟩ : ∃ y, l[e]? = some y := ⟨_, List.getElem?_eq_getElem hel⟩
              obtain ⟨v1, x1, hba, hbk, hbe, hsz⟩ := HRR.out
              obtain ⟨b3, o3, hp3, _, hzz, _, hcell3⟩ := (HI.out.below hbe).at (nums_at hy)
              subst hp3
              have hyn : y < g.length := (HGOOD.out.hang ⟨l, HLK.out, List.mem_of_getElem? hy⟩).2
              have hyi : (y : Int) < g.length := by omega
              obtain ⟨p3, c3, hv3⟩ := hba.form hyn
              have fB := hba.cell hyn
              have hown := hba.fam.own y hyn
              rw [hv3] at fB hown
              have zf := ent_free hba.ent y
              have HBA := Lib.hid hba; have HBK := Lib.hid hbk; have HBE := Lib.hid hbe; have HSZ := Lib.hid hsz; have HY := Lib.hid hy; have HV3 := Lib.hid hv3
              have e9 : ivs (x1 y) = zvs (nums (x1 y)) := by simp [ivs, zvs, nums, iv]
              rw [e9] at hown
              have HOWN := Lib.hid (hown.alloc (.cells #[.int .i64 (k : Int)] 3))
              have HINO := Lib.hid (show IntsAt (wr.alloc (.cells #[.int .i64 (k : Int)] 3)) (.slice (some ⟨wr.heap.size, 0, none⟩) 1 1) [(k : Int)] from ints_one (ent_new wr _ _))
              have HBS := Lib.hid (show w2.heap.size + 1 ≤ (wr.alloc (.cells #[.int .i64 (k : Int)] 3)).heap.size by simp; omega)
              have HLN := Lib.hid (show (nums (x1 y)).length + [(k : Int)].length ≤ 1000000000 by
                have h1 := hbk.len y
                have h2 : Gr.sumN ((g.take k).map List.length) ≤ 400 := by
                  have h3 := HSUM.out
                  rw [← List.take_append_drop k g, List.map_append, Gr.sumN_append] at h3
                  omega
                rw [nums_len]; simp; omega)
              have HNL : Hid ((x1 y).length = (nums (x1 y)).length) := Lib.hid (nums_len _).symm
              generalize hxl : (x1 y).length = xl at *
              have HXL := Lib.hid hxl
              clear hba hbk hbe hsz hy hv3 hzz hown e9 HRR hxl
              have fB2 := cell_alloc fB (.cells #[.int .i64 (k : Int)] 3)
              go_wp2_with (at_builtin; go_loud (refine wpList_append_ints _ rfl (.tmp 52) (.tmp 54) rfl (w2.heap.size + 1) _ xl (nums (x1 y)) [(k : Int)] rfl HNL.out HOWN.out _ rfl HINO.out HLN.out HBS.out ?_))
              intro v5 w5 hown5 hgr5 hlo5
              clear fB2 fB zf
              have hv := HV3.out
              have hlt := (HBA.out.fam.own y hyn).lt
              have hB5 : w5.heap[w2.heap.size]? = wr.heap[w2.heap.size]? := (hgr5.block _ (by have := HSZ.out; simp; omega) (fun e => by have := (hlt _ (by rw [hv]; exact e.symm)).1; omega)).trans (Below.heap_alloc wr _ _ (by have := HSZ.out; omega))
              have hent := hB5.trans HBA.out.ent
              have fB := (ent_cell hent y (v1 y) (by simp [hyn])).trans (congrArg some hv)
              have zf := ent_free hent y
              have hown6 : w5.ownsRow (w2.heap.size + 1) 3 1 v5 (x1 y ++ [k]).length (ivs (x1 y ++ [k])) := by
                have e1 : (x1 y ++ [k]).length = (nums (x1 y)).length + 1 := by simp [nums]
                have e2 : ivs (x1 y ++ [k]) = zvs (nums (x1 y) ++ [(k : Int)]) := by simp [ivs, zvs, nums, iv]
                rw [e1, e2]; exact hown5
              obtain ⟨NN, hNN⟩ : ∃ NN, NN = (x1 y ++ [k]).length := ⟨_, rfl⟩
              obtain ⟨p5, c5, rfl⟩ : ∃ p c, v5 = .slice p NN c := by rw [hNN]; exact own_form hown6
              have hpush := HBA.out.push hyn (by have := HSZ.out; omega) hown6 (by rw [hv]; exact hgr5) (fun b hb => by
                rw [hv]
                exact (hlo5 b hb).imp id (fun h => by omega))
              have hb5 : Below w2.heap.size w2 w5 := (HBE.out.alloc HBE.out.size _).grown hgr5 (by have := HSZ.out; simp; omega) (fun kk hkk => by have := (hlt kk (by rw [hv]; exact hkk)).1; omega)
              have HN : Hid (BackRel g w2.heap.size w2 k (e + 1) (w5.setCell ⟨w2.heap.size, y, none⟩ (.slice p5 NN c5))) := Lib.hid ⟨_, _, hpush, HBK.out.step HLK.out HY.out, hb5.setCell (p := ⟨w2.heap.size, y, none⟩) (Nat.le_refl _) _, by have h1 := hgr5.size; have := HSZ.out; simp at h1 ⊢; omega⟩
              clear hown5 hown6 hgr5 hlo5 hNN hpush hb5 hent hB5 hlt hv HBA HBK HBE HSZ HINO HBS HLN HV3 HOWN HNL HXL
              go_wp2
              go_roundw
              case rel => exact ⟨e + 1, by go_num, by omega, HN⟩
              case measure => simp [intOf]; omega
            · have hee : e = l.length := by omega
              obtain ⟨v1, x1, hba, hbk, hbe, hsz⟩ := HRR.out
              rw [hee] at hbk
              have HN : Hid (BackRel g w2.heap.size w2 (k + 1) 0 wr) := Lib.hid ⟨v1, x1, hba, hbk.next HLK.out, hbe, hsz⟩
              clear hba hbk hbe hsz hee HRR
              go_wp2
              go_roundw
              case rel => exact ⟨k + 1, by go_num, by omega, HN⟩
              case measure => simp [intOf]; omega
        · have hkk : k = g.length := by omega
          obtain ⟨v1, x1, hba, hbk, hbe, hsz⟩ := HRR.out
          rw [hkk] at hbk
          obtain ⟨hgd, hhang⟩ := hbk.done HGOOD.out
          have hxl : ∀ b, (x1 b).length ≤ 400 := fun b => by
            have h1 := hbk.len b
            have h2 := HSUM.out
            rw [List.take_length] at h1
            omega
          have HROWB := Lib.hid (hba.rows (by omega)); have HGD := Lib.hid hgd; have HHG := Lib.hid hhang; have HBE := Lib.hid hbe
          have hgl : ((List.range g.length).map x1).length = g.length := by simp
          have HL1 : Hid ((ints ((List.range g.length).map x1)).length ≤ 100000000) := Lib.hid (by rw [ints_len, hgl]; omega)
          have HS1 : Hid (Gr.sumN ((ints ((List.range g.length).map x1)).map List.length) ≤ 100000000) := Lib.hid (by
            have h1 := sum_bound (ls := ints ((List.range g.length).map x1)) (M := 400) (fun l hl => by
              obtain ⟨l0, hl0, rfl⟩ := List.mem_map.1 hl
              obtain ⟨b, _, rfl⟩ := List.mem_map.1 hl0
              have := hxl b; simpa using this) _ (Nat.le_refl _)
            rw [List.take_length, ints_len, hgl] at h1
            have : g.length * 400 ≤ 40 * 400 := Nat.mul_le_mul_right _ hn40
            omega)
          have HGL := Lib.hid hgl
          generalize hgb : (List.range g.length).map x1 = gb at *
          clear hba hbk hbe hsz hgd hhang hxl hgl hkk HRR hgb
          go_wp2_with fail
          refine (Groups_any _ (ints gb) _ HROWB.out HL1.out HS1.out).mono ?_
          intro e w7 hp7
          obtain ⟨q7, d7, L2, rfl, hgr7, hrow7, hlen7, hb7⟩ : ∃ q d L2, e = .returned (.tuple #[.slice q L.length d, .int .i64 0]) ∧ Gr.IsGroups gb L2 ∧ RowsAt w7 (.slice q L.length d) (ints L2) ∧ L2.length = L.length ∧ Below wr.heap.size wr w7 := by
            rcases hp7 with ⟨h1, _⟩ | ⟨h1, L2, lv, rfl, h2, h3, h4, h5⟩
            · rw [allB_ints HGD.out] at h1; cases h1
            · rw [natG_ints] at h2
              have h6 := (Gr.turned_groups HGOOD.out HGD.out HGL.out.symm HHG.out HGR.out h2).1
              obtain ⟨q, d, rfl⟩ := h3.len
              rw [ints_len, ← h6] at h3 ⊢
              exact ⟨q, d, L2, rfl, h2, h3, h6.symm, h5⟩
          have HLB0 : Hid (∀ l ∈ L2, l.length ≤ 1000000000) := Lib.hid (fun l hl => by
            obtain ⟨pp, hpp⟩ := List.mem_iff_getElem?.1 hl
            obtain ⟨i, _, rfl⟩ := hgr7.1 pp l hpp
            have h1 := Gr.nodup_le gb.length _ (Gr.grp_nodup gb i) (fun x hx => (Gr.mem_grp.1 hx).1)
            have h2 := HGL.out
            omega)
          have HSUB := Lib.hid (Gr.turned_groups HGOOD.out HGD.out HGL.out.symm HHG.out HGR.out hgr7).2
          have HROW7 := Lib.hid hrow7; have HL7 := Lib.hid hlen7
          have HBW := Lib.hid (HB2.out.trans ((HBE.out.trans (hb7.mono HBE.out.size)).mono HB2.out.size))
          have HROWA := Lib.hid ((HROW.out.below HBE.out).below hb7)
          clear hp7 hgr7 hrow7 hlen7 hb7 HROW HROWB HL1 HS1 HGL HHG HGD HBE HB2 HG
          go_wp2_with fail
          have HLB : Hid (∀ m ∈ ints L2, m.length ≤ 1000000000) := Lib.hid (fun m hm => by
            obtain ⟨l0, hl0, rfl⟩ := List.mem_map.1 hm
            have := HLB0.out l0 hl0
            simpa using this)
          have HLA : Hid (∀ l ∈ L, l.length ≤ 1000000000) := Lib.hid (fun l hl => by
            have := HLB0.out l (HSUB.out l hl); exact this)
          have HL9 : Hid ((ints L2).length ≤ 1000000000) := Lib.hid (by rw [ints_len, HL7.out]; omega)
          have HE0 : Hid (Below w7.heap.size w7 w7) := Lib.hid (Below.refl _ _)
          go_wp2_with fail
          go_loopw [75] (fun i wx => ∃ j : Nat, i = .int .i64 j ∧ j ≤ L.length ∧ Hid (Below w7.heap.size w7 wx)) (fun i _ => L.length - (intOf i).toNat)
          case atStart => exact ⟨0, rfl, Nat.zero_le _, HE0⟩
          case round =>
            clear HE0
            obtain ⟨j, rfl, hj, HE⟩ := hrel
            by_cases hjl : j < L.length
            · obtain ⟨l, hlj⟩ : ∃ l, L[j]? = some l := ⟨_, List.getElem?_eq_getElem hjl⟩
              obtain ⟨ba, oa, qa, da, ea, hca, hza, hda, fa, ia⟩ := HROWA.out.at (ints_at hlj)
              subst ea
              rw [nums_len] at fa ia
              replace fa := cell_up HE.out fa
              have IA := Lib.hid ia; have HMEM : Hid (nums l ∈ ints L2) := Lib.hid (List.mem_map.2 ⟨l, HSUB.out l (List.mem_of_getElem? hlj), rfl⟩)
              have hll : (nums l).length ≤ 1000000000 := by rw [nums_len]; exact HLA.out l (List.mem_of_getElem? hlj)
              have HLL := Lib.hid hll
              have hji : (j : Int) < L.length := by omega
              clear ia hlj hza hll
              go_wp2_with fail
              refine (contains_any wr.heap.size _ _ (nums l) (ints L2) _ (ent_cell (ent_new wr _ _) 0 _ rfl) (IA.out.below (HE.out.alloc HE.out.size _)) (HROW7.out.below (HE.out.alloc HE.out.size _)) HLL.out HL9.out HLB.out HMEM.out).mono ?_
              rintro e w11 ⟨rfl, hq⟩
              have HN : Hid (Below w7.heap.size w7 w11) := Lib.hid (by obtain ⟨nq, rfl⟩ := hq; exact below_drewN (HE.out.alloc HE.out.size _) _)
              clear hq fa
              go_wp2_with fail
              go_roundw
              case rel => exact ⟨j + 1, by go_num, by omega, HN⟩
              case measure => simp [intOf]; omega
            · go_wp2
              go_ret
              exact ⟨rfl, HBW.out.trans (HE.out.mono HBW.out.size)⟩
end Go.Proofs.Ytjefnmcalmcciaa
